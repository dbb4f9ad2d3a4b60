import itertools
import random
import unittest

from moredone.rules import base, never, nothing, rule_of, seen
from moredone.texts import base_in, base_text, log_in, log_text, rule_in
from tests.helpers import Parts, all_logs, caught, key

PARTS = Parts()
NEVER, ALWAYS = (), ((),)
MIDDLE = PARTS.bases("ab", 3)
THREE = PARTS.bases("abc", 2)
WRONG_LOGS = ("", " ", "a ", " a", "a  b", "A", "a1", "abcdefghi", "a b abcdefghi", "- a", "a -", "--", "0", "a,b", "a\n",
              "a\tb", "1", "a | b", "\u00e4", "-\n", " -", "- ")


class Logs(unittest.TestCase):
    def test_there_and_back(self):
        for log in all_logs(("a", "bc", "zzzzzzzz"), 4):
            text = log_text(log)
            self.assertEqual(text, " ".join(log) or "-")
            self.assertEqual(log_in(text), log)
            self.assertEqual(log_text(list(log)), text)

    def test_all_short_texts(self):
        right = {log_text(log): log for log in all_logs(("a", "b", "ab", "ba", "aa", "bb", "aab"), 3)}
        for length in range(5):
            for text in map("".join, itertools.product("ab -", repeat=length)):
                if text in right:
                    self.assertEqual(log_in(text), right[text])
                elif all(1 <= len(piece) and piece.isalpha() for piece in text.split(" ")):
                    self.assertEqual(log_in(text), tuple(text.split(" ")))
                else:
                    self.assertEqual(caught(lambda: log_in(text)), ("BadText", 0), text)

    def test_wrong_texts(self):
        for text in WRONG_LOGS:
            self.assertEqual(caught(lambda: log_in(text)), ("BadText", 0), text)
        self.assertEqual([log_in("-"), log_in("a"), log_in("abcdefgh a")], [(), ("a",), ("abcdefgh", "a")])


class Bases(unittest.TestCase):
    def test_there_and_back(self):
        for words in MIDDLE + THREE:
            text = base_text(words)
            self.assertEqual(text, " | ".join(log_text(word) for word in words) or "0")
            self.assertEqual(base_in(text), words)
            self.assertEqual(base_text([list(word) for word in words]), text)
        self.assertEqual([base_text(NEVER), base_text(ALWAYS), base_in("0"), base_in("-")], ["0", "-", NEVER, ALWAYS])

    def told(self, pieces):
        """The number of the first piece that is wrong; None if there is none."""
        ahead = []
        for number, piece in enumerate(pieces):
            word = () if piece == "-" else tuple(piece.split(" "))
            if piece in WRONG_LOGS or any(PARTS.is_part(other, word) for other in ahead):
                return number
            if ahead and key(word) < key(ahead[-1]):
                return number
            ahead.append(word)
        return None

    def test_rows_of_pieces(self):
        pieces = ("a", "b", "a a", "a b", "b a", "a b a", "b b a", "-", "0", "a ", "", "A", "a -")
        right = 0
        for many in range(1, 5):
            for row in itertools.product(pieces, repeat=many):
                text = " | ".join(row)
                # Of blanks at a cut others come about.
                if " " not in (text[:1], text[-1:]) and "  " not in text and text != "0":
                    wrong = self.told(row)
                    if wrong is None:
                        right += 1
                        self.assertEqual(base_text(base_in(text)), text)
                    else:
                        self.assertEqual(caught(lambda: base_in(text)), ("BadText", wrong), text)
        self.assertGreater(right, 15)

    def test_wrong_texts(self):
        for text, place in (("", 0), (" ", 0), ("a|b", 0), ("a |b", 0), ("a | ", 1), (" | a", 0), ("a |  | b", 1),
                            ("a | | b", 1), ("a | 0", 1), ("0 | a", 0), ("- | a", 1), ("a | -", 1), ("- | -", 1), ("00", 0),
                            ("b | a", 1), ("a | a", 1), ("b | a b", 1), ("a a | b", 1), ("a | b | c c | b c", 3),
                            ("a | b | c c | c d", None), ("a b | B | a", 1), ("a | b | ", 2), ("a\n", 0), ("a | b\n", 1)):
            self.assertEqual(caught(lambda: base_in(text)), None if place is None else ("BadText", place), text)


def rules_of(depth, choose):
    """A rule that is built somehow, with so many signs within one another, and how it is written."""
    if depth == 0 or choose.random() < 0.15:
        return choose.choice(((seen("a"), "a", 5), (seen("bc"), "bc", 5), (nothing(), "1", 5), (never(), "0", 5)))
    sign = choose.choice((">>", "|", "&", "*"))
    one, text, strength = rules_of(depth - 1, choose)
    if sign == "*":
        number = choose.randint(0, 8)
        return choose.choice((one * number, number * one)), f"{text if strength > 3 else '(' + text + ')'} * {number}", 4
    other, end, second = rules_of(depth - 1, choose)
    mine = {">>": 3, "&": 2, "|": 1}[sign]
    joined = {">>": lambda: one >> other, "&": lambda: one & other, "|": lambda: one | other}[sign]()
    return joined, f"{text if strength >= mine else '(' + text + ')'} {sign} {end if second > mine else '(' + end + ')'}", mine


class Reader:
    """Reads the text of a rule as the document tells, from the left, without building it: what is wrong, and where."""

    def __init__(self, text):
        self.text = text
        self.at = 0

    def symbol(self):
        """The next symbol and its place; raises its place if none begins there."""
        while self.text[self.at:self.at + 1] == " ":
            self.at += 1
        rest = self.text[self.at:]
        if not rest:
            return "", len(self.text)
        for length in range(len(rest), 0, -1):
            piece = rest[:length]
            longer = rest[length:length + 1]
            if piece in (">>", "|", "&", "*", "(", ")") or self.is_run(piece, longer):
                return piece, self.at
        raise Wrong(self.at)

    def is_run(self, piece, longer):
        if all(each in "abcdefghijklmnopqrstuvwxyz" for each in piece):
            return len(piece) <= 8 and not ("a" <= longer <= "z")
        if all(each in "0123456789" for each in piece):
            return (piece == "0" or piece[0] != "0") and not ("0" <= longer <= "9")
        return False

    def take(self):
        symbol, place = self.symbol()
        self.at = place + len(symbol)

    def either(self, least):
        """A rule whose signs bind so much, or more: 1 for |, 2 for &, 3 for >>, 4 for *."""
        if least == 5:
            return self.single()
        self.either(least + 1)
        while self.symbol()[0] == {1: "|", 2: "&", 3: ">>", 4: "*"}[least]:
            self.take()
            if least == 4:
                self.expect([str(number) for number in range(9)])
            else:
                self.either(least + 1)

    def single(self):
        symbol, place = self.symbol()
        if symbol == "(":
            self.take()
            self.either(1)
            self.expect(")")
        elif symbol in ("0", "1") or symbol.isalpha():
            self.take()
        else:
            raise Wrong(place)

    def expect(self, symbols):
        symbol, place = self.symbol()
        if not symbol or symbol not in symbols:
            raise Wrong(place)
        self.take()

    def wrong(self):
        try:
            self.either(1)
            symbol, place = self.symbol()
            return place if symbol else None
        except Wrong as error:
            return error.place


class Wrong(Exception):
    def __init__(self, place):
        self.place = place


class Rules(unittest.TestCase):
    def test_there_and_back(self):
        choose = random.Random(81)
        for _ in range(1500):
            rule, text, _ = rules_of(choose.randint(0, 4), choose)
            self.assertEqual(rule.text, text)
            self.assertEqual(rule_in(text).text, text)

    def test_bases(self):
        choose = random.Random(82)
        for _ in range(300):
            rule, text, _ = rules_of(2, choose)
            if text.count("*") < 2:
                self.assertEqual(base(rule_in(text)), base(rule), text)
        for words in MIDDLE[::10] + THREE[::20]:
            self.assertEqual(base(rule_in(rule_of(words).text)), words)

    def test_blanks_and_brackets_more(self):
        choose = random.Random(83)
        for _ in range(500):
            rule, text, _ = rules_of(3, choose)
            symbols = text.replace("(", " ( ").replace(")", " ) ").split()
            wide = "".join(" " * choose.randint(0, 3) + symbol for symbol in symbols) + " " * choose.randint(0, 2)
            self.assertEqual(rule_in(wide).text, text)
            self.assertEqual(rule_in(text.replace(" ", "")).text, text)
            self.assertEqual(rule_in("(" * 3 + text + ") ) )").text, text)
            bracketed = [f"( ({symbol}))" if symbol.isalpha() else symbol for symbol in symbols]
            self.assertEqual(rule_in(" ".join(bracketed)).text, text)

    def test_what_binds_more(self):
        for text, built in (("a | b & c >> d * 2", "a | b & c >> d * 2"), ("a*2>>b&c|d", "a * 2 >> b & c | d"),
                            ("(a | b) & c", "(a | b) & c"), ("(a & b) >> c", "(a & b) >> c"), ("(a >> b) * 2", "(a >> b) * 2"),
                            ("a >> (b >> c)", "a >> (b >> c)"), ("(a >> b) >> c", "a >> b >> c"), ("a & (b & c)", "a & (b & c)"),
                            ("(a & b) & c", "a & b & c"), ("a | (b | c)", "a | (b | c)"), ("(a | b) | c", "a | b | c"),
                            ("(a & b) | (c & d)", "a & b | c & d"), ("(a >> b) & (c >> d)", "a >> b & c >> d"),
                            ("(a * 2) * 3", "a * 2 * 3"), ("a * 2 * 3", "a * 2 * 3"), ("(a * 2) >> (b * 0)", "a * 2 >> b * 0"),
                            ("1*1", "1 * 1"), ("0|1", "0 | 1"), ("(0)", "0")):
            self.assertEqual(rule_in(text).text, built)

    def test_all_short_texts(self):
        right = 0
        for length in range(6):
            for text in map("".join, itertools.product("a19>|*( )", repeat=length)):
                wrong = Reader(text).wrong()
                if wrong is None:
                    right += 1
                    self.assertEqual(Reader(rule_in(text).text).wrong(), None)
                else:
                    self.assertEqual(caught(lambda: rule_in(text)), ("BadText", wrong), text)
        self.assertGreater(right, 200)

    def test_the_first_place_that_cannot_be_gone_on_from(self):
        # Whatever stands behind the place, it is no rule; and if something else stands there, it can be one.
        for text in map("".join, itertools.product("a1>*()", repeat=4)):
            told = caught(lambda: rule_in(text))
            if told and told[1] < len(text):
                ahead, wrong = text[:told[1]], text[told[1]:]
                for end in ("", "a", ")", ">>a", "*1", "a)", "1)", "&a", "|(a)"):
                    self.assertIsNotNone(caught(lambda: rule_in(f"{ahead}{wrong} {end}")), text)
                self.assertTrue(any(caught(lambda: rule_in(ahead + end)) is None
                                    for end in ("", "a", ")", "1", "a)", "1)", ">>a", "))", "a))", "a)))", ")))", "1))", "))))",
                                                "a))))")), text)

    def test_changed_texts(self):
        choose = random.Random(84)
        for _ in range(1500):
            _, text, _ = rules_of(3, choose)
            at = choose.randrange(len(text))
            for changed in (text[:at], text[:at] + text[at + 1:], text[:at] + choose.choice("a09>|&*() $Az8") + text[at:]):
                wrong = Reader(changed).wrong()
                self.assertEqual(caught(lambda: rule_in(changed)), None if wrong is None else ("BadText", wrong), changed)

    def test_wrong_texts(self):
        for text, place in (("", 0), ("   ", 3), ("a >> ", 5), ("a * 9 )", 4), ("a * 10", 4), ("a * 08", 4), ("a * 8", None),
                            ("08", 0), ("00", 0), ("2", 0), ("10", 0), ("a b", 2), ("a)", 1), ("(a", 2), (")", 0), ("()", 1),
                            ("a >", 2), ("a > > b", 2), ("a >>> b", 4), ("a >>>> b", 4), ("a $ )", 2), ("a ) $", 2),
                            ("abcdefghi", 0), ("a >> abcdefghi", 5), ("abcdefgh", None), ("A", 0), ("a\n", 1), ("\ta", 0),
                            ("a1", 1), ("1a", 1), ("a * a", 4), ("2 * a", 0), ("0 * a", 4), ("a * * 2", 4), ("a * 2 3", 6),
                            ("a | | b", 4), ("a &", 3), ("((a)", 4), ("(a))", 3), ("a * -1", 4), ("a*(2)", 2), ("a\u00e4", 1),
                            ("a * \u0663", 4), ("a >> (b | ", 10), ("a * 8888888888888888888888", 4), ("~", 0), ("_", 0)):
            self.assertEqual(caught(lambda: rule_in(text)), None if place is None else ("BadText", place), text)

    def test_many_brackets_and_signs(self):
        for many in (1, 30, 95):
            self.assertEqual(rule_in("(" * many + "a" + ")" * many).text, "a")
            self.assertEqual(caught(lambda: rule_in("(" * many + "a" + ")" * (many - 1))), ("BadText", 2 * many))
            self.assertEqual(caught(lambda: rule_in("(" * many)), ("BadText", many))
            self.assertEqual(caught(lambda: rule_in("(" * many + ")" * many)), ("BadText", many))
            for sign in ("|", "&", ">>"):
                text = f" {sign} ".join(["a"] * (many // 2 + 1))
                self.assertEqual(rule_in(text).text, text)
            self.assertEqual(rule_in("a" + "*1" * many).text, "a" + " * 1" * many)


if __name__ == "__main__":
    unittest.main()
