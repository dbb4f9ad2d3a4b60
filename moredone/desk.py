"""A desk: the commands of a sheet, line by line, and what a board answers to each."""

from moredone.bases import does
from moredone.board import Board
from moredone.errors import BadLine, BadText, NoPerson, NoPlace, NoRule, NothingDone, Taken
from moredone.losses import fewest_losses, idle, needed
from moredone.rules import base
from moredone.standings import further, standing
from moredone.texts import base_text, is_numeral, log_text, rule_in
from moredone.words import is_name


# The actions of the commands. Sets are written as logs are.
def _join(board, person):
    board.join(person)
    return "done"


def _leave(board, person):
    return log_text(board.leave(person))


def _log(board, person):
    return log_text(board[person])


def _event(board, person, name):
    return log_text(board.event(person, name))


def _late(board, person, place, name):
    return log_text(board.late(person, int(place), name))


def _lose(board, person, place):
    return log_text(board.lose(person, int(place)))


def _rule(board, rule, formula):
    gained, lost = board.rule(rule, base(rule_in(formula)))
    return f"{log_text(gained)} / {log_text(lost)}"


def _drop(board, rule):
    return log_text(board.drop(rule))


def _who(board, rule):
    return log_text(board.who(rule))


def _back(board):
    board.back()
    return "done"


def _people(board):
    return log_text(board.people())


def _rules(board):
    return log_text([rule for rule, words in board.book()])


def _base(board, rule):
    return base_text(_words_of_rule(board, rule))


def _words_of_rule(board, rule):
    """The base of the rule; raises NoRule if there is none."""
    for name, words in board.book():
        if name == rule:
            return words
    raise NoRule(rule)


def _done(board, person):
    return log_text(board.done(person))


def _helps(board, person, name):
    return log_text(board.helped(person, name))


def _wanted(board, person, rule):
    log = board[person]
    words = _words_of_rule(board, rule)
    if does(words, log):
        return "done"
    more = further(words, log)
    return "never" if more is None else log_text(more)


def _standing(board, person, rule):
    log = board[person]
    return base_text(standing(_words_of_rule(board, rule), log))


def _needed(board, person, rule):
    log = board[person]
    return _places_text(needed(_words_of_rule(board, rule), log))


def _idle(board, person, rule):
    log = board[person]
    return _places_text(idle(_words_of_rule(board, rule), log))


def _places_text(places):
    """How a set of places is written."""
    return log_text([str(place) for place in places])


def _losses(board, person, rule):
    log = board[person]
    places = fewest_losses(_words_of_rule(board, rule), log)
    return "always" if places is None else str(len(places))


def _sure(board, person, other):
    if person == other and person in board:
        return "same"
    return log_text(board.sure(person, other))


def _possible(board, person, other):
    if person == other and person in board:
        return "same"
    return log_text(board.possible(person, other))


ACTIONS = {
    "join": _join, "leave": _leave, "log": _log, "event": _event, "late": _late, "lose": _lose, "rule": _rule,
    "drop": _drop, "who": _who, "back": _back, "people": _people, "rules": _rules, "base": _base, "done": _done,
    "helps": _helps, "wanted": _wanted, "standing": _standing, "needed": _needed, "idle": _idle, "losses": _losses,
    "sure": _sure, "possible": _possible,
}

# What stands behind the first word of each command: NAMEs, a place, or a formula, which goes on to the end of the line.
KINDS = {
    "join": ("name",), "leave": ("name",), "log": ("name",), "event": ("name", "name"),
    "late": ("name", "place", "name"), "lose": ("name", "place"), "rule": ("name", "formula"), "drop": ("name",),
    "who": ("name",), "back": (), "people": (), "rules": (), "base": ("name",), "done": ("name",),
    "helps": ("name", "name"), "wanted": ("name", "name"), "standing": ("name", "name"), "needed": ("name", "name"),
    "idle": ("name", "name"), "losses": ("name", "name"), "sure": ("name", "name"), "possible": ("name", "name"),
}


def answers(sheet):
    """The list of the answers to the lines of the sheet; raises BadLine for the first one that is no command."""
    lines = sheet.split("\n")
    for number, line in enumerate(lines):
        if not is_command(line):
            raise BadLine(number)
    board = Board(())
    found = []
    for line in lines:
        found.append(_answer(board, _words(line)))
    return found


def is_command(line):
    """Whether the line is a command."""
    words = _words(line)
    kinds = KINDS.get(words[0])
    if kinds is None or len(words) - 1 != len(kinds):
        return False
    return all([_is_of_kind(word, kind) for word, kind in zip(words[1:], kinds)])


def _words(line):
    """The list of the words of the line, of which a formula is one."""
    return line.split(" ", 2) if line.startswith("rule ") else line.split(" ")


def _is_of_kind(word, kind):
    """Whether the word is a NAME, a place or a formula, as its kind tells."""
    if kind == "name":
        return is_name(word)
    if kind == "place":
        return is_numeral(word)
    try:
        rule_in(word)
    except BadText:
        return False
    return True


def _answer(board, words):
    """What is answered to a command that is told by its words."""
    action = ACTIONS[words[0]]
    handed = words[1:]
    try:
        return action(board, *handed)
    except NoPerson:
        return "no person"
    except NoRule:
        return "no rule"
    except NoPlace:
        return "no place"
    except Taken:
        return "taken"
    except NothingDone:
        return "nothing done"
