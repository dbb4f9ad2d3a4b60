"""Texts: how logs, bases and rules are written, and what is so written."""

from moredone.bases import does
from moredone.errors import BadText
from moredone.rules import BOTH, EITHER, STRENGTHS, THEN, TIMES, never, nothing, seen
from moredone.words import is_name

# The only symbol, but for NAMEs and numbers, that begins with each of these characters.
SIGNS = {">": ">>", "|": "|", "&": "&", "*": "*", "(": "(", ")": ")"}

# What may stand at a place of the text of a rule.
A_RULE = "rule"
A_SIGN = "sign"
A_NUMBER = "number"


def log_text(log):
    """How the log is written."""
    return " ".join(log) if log else "-"


def base_text(base):
    """How the base is written."""
    return " | ".join([log_text(word) for word in base]) if base else "0"


def log_in(text):
    """The log that is so written; raises BadText."""
    log = _log_or_none(text)
    if log is None:
        raise BadText(0)
    return log


def _log_or_none(text):
    """The log that is so written; None if there is none."""
    if text == "-":
        return ()
    log = tuple(text.split(" "))
    return log if all([is_name(event) for event in log]) else None


def base_in(text):
    """The base that is so written; raises BadText with the number of the first piece that is wrong."""
    if text == "0":
        return ()
    words = ()
    for number, piece in enumerate(text.split(" | ")):
        word = _log_or_none(piece)
        if word is None or does(words, word) or not _is_behind(word, words[-1:]):
            raise BadText(number)
        words = words + (word,)
    return words


def _is_behind(word, ahead):
    """Whether the word stands behind all of these in the order of logs."""
    return all([(len(log), log) < (len(word), word) for log in ahead])


def is_numeral(text):
    """Whether the text is a number in decimal digits, without a 0 in front of others."""
    return text != "" and all([_is_digit(character) for character in text]) and (text == "0" or text[0] != "0")


def _is_digit(character):
    """Whether this is a decimal digit."""
    return "0" <= character <= "9"


def _is_letter(character):
    """Whether this is a letter of which NAMEs are made."""
    return "a" <= character <= "z"


def rule_in(text):
    """The rule that is so written; raises BadText with the first place from which on it cannot be one."""
    # Rules that are not joined yet, and the signs and open brackets that stand between them.
    rules, signs = [], []
    wanted = A_RULE
    at = 0
    while at < len(text):
        if text[at] == " ":
            at += 1
        else:
            symbol = _symbol(text, at)
            wanted = _read(symbol, wanted, rules, signs)
            if wanted is None:
                raise BadText(at)
            at += len(symbol)
    if wanted != A_SIGN or "(" in signs:
        raise BadText(len(text))
    _join(rules, signs, 0)
    return rules[0]


def _symbol(text, place):
    """The symbol that begins at this place of the text; None if none does."""
    sign = SIGNS.get(text[place], "")
    if sign:
        return sign if text[place:place + len(sign)] == sign else None
    letters, digits = _run(text, place, _is_letter), _run(text, place, _is_digit)
    if is_name(letters):
        return letters
    return digits if is_numeral(digits) else None


def _run(text, place, is_kind):
    """The longest piece of the text from this place on of which each character is of a kind."""
    end = place
    while end < len(text) and is_kind(text[end]):
        end += 1
    return text[place:end]


def _read(symbol, wanted, rules, signs):
    """What may stand behind this symbol; None if it cannot stand where this is wanted, or if it is none."""
    if symbol is None:
        return None
    if wanted == A_RULE:
        return _read_rule(symbol, rules, signs)
    if wanted == A_NUMBER:
        return _read_number(symbol, rules)
    return _read_sign(symbol, rules, signs)


def _read_rule(symbol, rules, signs):
    """What may stand behind this symbol, with which a rule begins; None if none does."""
    if symbol == "(":
        signs.append(symbol)
        return A_RULE
    if symbol == "1":
        rules.append(nothing())
    elif symbol == "0":
        rules.append(never())
    elif is_name(symbol):
        rules.append(seen(symbol))
    else:
        return None
    return A_SIGN


def _read_number(symbol, rules):
    """What may stand behind this number, so many times the last rule; None if it is none from 0 to 8."""
    if not is_numeral(symbol) or len(symbol) > 1 or symbol > "8":
        return None
    rules.append(rules.pop() * int(symbol))
    return A_SIGN


def _read_sign(symbol, rules, signs):
    """What may stand behind this sign or closing bracket; None if it is none."""
    if symbol == TIMES:
        return A_NUMBER
    if symbol == ")":
        _join(rules, signs, 0)
        if not signs:
            return None
        signs.pop()
        return A_SIGN
    if symbol not in (THEN, EITHER, BOTH):
        return None
    _join(rules, signs, STRENGTHS[symbol])
    signs.append(symbol)
    return A_RULE


def _join(rules, signs, strength):
    """Joins the last rules by the last signs that bind so strongly, or more, as far as to an open bracket."""
    while signs and signs[-1] != "(" and STRENGTHS[signs[-1]] >= strength:
        other, one = rules.pop(), rules.pop()
        rules.append(_joined(signs.pop(), one, other))


def _joined(sign, one, other):
    """The two rules joined by the sign."""
    if sign == THEN:
        return one >> other
    return one & other if sign == BOTH else one | other
