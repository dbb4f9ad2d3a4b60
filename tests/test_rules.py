import itertools
import random
import re
import unittest

from moredone.bases import is_base
from moredone.errors import NoName
from moredone.rules import alike, base, goes_with, never, nothing, parting, rule_of, seen, turned
from tests.helpers import Parts, all_logs, done_then, done_times, key

PARTS = Parts()
LOGS = all_logs("ab", 4)
WRONG = ("", "A", "B", "aB", "abcdefghi", "a b", "a1", "1", "0", "-", " ", "\u00e4", "a\n", "a >> b", "(a)")


class Tree:
    """How a rule was built, for the tests: a sign and what stands on both sides of it."""

    def __init__(self, sign, one=None, other=None):
        self.sign, self.one, self.other = sign, one, other

    def __rshift__(self, other):
        return Tree(">>", self, other)

    def __or__(self, other):
        return Tree("|", self, other)

    def __and__(self, other):
        return Tree("&", self, other)

    def __mul__(self, number):
        return Tree("*", self, number)

    def shape(self):
        """As a value that can be compared, with a bracket around everything."""
        if self.sign == "*":
            return ("*", self.one.shape(), self.other)
        if self.one is None:
            return self.sign
        return (self.sign, self.one.shape(), self.other.shape())

    def rule(self):
        if self.one is None:
            return {"1": nothing, "0": never}.get(self.sign, lambda: seen(self.sign))()
        one = self.one.rule()
        if self.sign == "*":
            return one * self.other
        other = self.other.rule()
        return {">>": lambda: one >> other, "|": lambda: one | other, "&": lambda: one & other}[self.sign]()

    def done(self, log):
        """Whether a log does it, as the document says it: by trying all ways to cut the log."""
        if self.one is None:
            return self.sign == "1" or self.sign in log
        if self.sign == "*":
            return done_times(self.one.done, self.other, log)
        if self.sign == ">>":
            return done_then(self.one.done, self.other.done, log)
        both = self.one.done(log), self.other.done(log)
        return any(both) if self.sign == "|" else all(both)

    def turned(self):
        if self.one is None:
            return self
        if self.sign == "*":
            return Tree("*", self.one.turned(), self.other)
        if self.sign == ">>":
            return Tree(">>", self.other.turned(), self.one.turned())
        return Tree(self.sign, self.one.turned(), self.other.turned())


def read(text):
    """The Tree that is written so; Python's own signs bind one another as those of rules do."""
    text = re.sub(r"(?<!\* )\b([a-z]+|[01])\b", r"Tree('\1')", text)
    return eval(text)


LEAVES = [Tree("a"), Tree("b"), Tree("1"), Tree("0")]


def joined(ones, others, numbers):
    trees = [Tree(sign, one, other) for sign in (">>", "|", "&") for one in ones for other in others]
    return trees + [Tree("*", one, number) for one in ones for number in numbers]


ONCE = joined(LEAVES, LEAVES, (0, 1, 2))
SOME = random.Random(3)
TWICE = SOME.sample(joined(LEAVES + ONCE, LEAVES + ONCE, (0, 1, 2, 3)), 900)
THRICE = [SOME.choice(joined([one], [other], (0, 1, 2)))
          for one, other in zip(SOME.sample(TWICE, 250), SOME.sample(TWICE, 250))]
TREES = LEAVES + ONCE + TWICE


class Leaves(unittest.TestCase):
    def test_seen(self):
        for log in all_logs(("a", "ab", "b"), 3):
            for name in ("a", "ab", "b", "c"):
                self.assertIs(log in seen(name), name in log)
        self.assertEqual(base(seen("ship")), (("ship",),))
        self.assertEqual(seen("ship").text, "ship")

    def test_seen_of_no_name(self):
        for value in WRONG:
            with self.assertRaises(NoName) as caught:
                seen(value)
            self.assertEqual(caught.exception.value, value)
        self.assertEqual(seen("abcdefgh").text, "abcdefgh")

    def test_nothing_and_never(self):
        for log in LOGS:
            self.assertIs(log in nothing(), True)
            self.assertIs(log in never(), False)
        self.assertEqual([base(nothing()), base(never())], [((),), ()])
        self.assertEqual([nothing().text, never().text], ["1", "0"])


class Membership(unittest.TestCase):
    def check(self, tree, logs):
        rule = tree.rule()
        for log in logs:
            self.assertIs(log in rule, tree.done(log), (tree.shape(), log))

    def test_all_short_logs(self):
        for tree in TREES:
            self.check(tree, LOGS)

    def test_three_operators_one_within_another(self):
        for tree in THRICE:
            self.check(tree, all_logs("ab", 3) + [tuple("abbaab"), tuple("bababb")])

    def test_lists_and_not_in(self):
        rule = seen("a") >> "b"
        self.assertIs(["a", "b"] in rule, True)
        self.assertIs(["b", "a"] in rule, False)
        self.assertIs(["b", "a"] not in rule, True)
        self.assertIs([] in nothing(), True)

    def test_more_events_never_undo(self):
        for tree in THRICE:
            rule = tree.rule()
            for log in all_logs("ab", 2):
                if log in rule:
                    for other in LOGS:
                        if PARTS.is_part(log, other):
                            self.assertIn(other, rule)


class Bases(unittest.TestCase):
    def test_base_against_logs(self):
        for tree in TREES + THRICE:
            rule = tree.rule()
            words = base(rule)
            self.assertIs(is_base(words), True)
            for log in LOGS:
                self.assertIs(log in rule, PARTS.done(words, log), (tree.shape(), log))

    def test_base_is_of_the_least_logs(self):
        for tree in ONCE:
            self.assertEqual(base(tree.rule()), PARTS.base(LOGS, tree.done))

    def test_each_word_is_needed(self):
        for tree in THRICE:
            rule = tree.rule()
            for word in base(rule):
                self.assertIn(word, rule)
                for at in range(len(word)):
                    self.assertNotIn(word[:at] + word[at + 1:], rule)

    def test_alike_exactly_if_the_bases_are_equal(self):
        trees = LEAVES + ONCE
        told = {tree: [tree.done(log) for log in LOGS] for tree in trees}
        for one, other in itertools.product(trees, repeat=2):
            same = told[one] == told[other]
            self.assertEqual(base(one.rule()) == base(other.rule()), same)
            self.assertIs(alike(one.rule(), other.rule()), same)

    def test_edges(self):
        self.assertEqual(base(seen("a") & never()), ())
        self.assertEqual(base(never() | never()), ())
        self.assertEqual(base(never() * 0), ((),))
        self.assertEqual(base(never() * 2), ())
        self.assertEqual(base(nothing() * 8), ((),))
        self.assertEqual(base(nothing() | "a"), ((),))
        self.assertEqual(base(nothing() & "a"), (("a",),))
        self.assertEqual(base(nothing() >> "a" >> nothing()), (("a",),))
        self.assertEqual(base(seen("a") * 8), (("a",) * 8,))


class Signs(unittest.TestCase):
    def check(self, rule, text, words):
        self.assertEqual(rule.text, text)
        self.assertEqual(base(rule), words)

    def test_strings_on_either_side(self):
        first, both = (("a", "b"),), (("a", "b"), ("b", "a"))
        for one, other in ((seen("a"), seen("b")), ("a", seen("b")), (seen("a"), "b")):
            self.check(one >> other, "a >> b", first)
            self.check(one | other, "a | b", (("a",), ("b",)))
            self.check(one & other, "a & b", both)

    def test_numbers_on_either_side(self):
        for number in range(9):
            for rule in (seen("a") * number, number * seen("a")):
                self.check(rule, f"a * {number}", (("a",) * number,))
        self.check(2 * (seen("a") | "b"), "(a | b) * 2", (("a", "a"), ("a", "b"), ("b", "a"), ("b", "b")))

    def test_no_names(self):
        rule = seen("a")
        joins = (lambda value: rule >> value, lambda value: value >> rule, lambda value: rule | value,
                 lambda value: value | rule, lambda value: rule & value, lambda value: value & rule)
        for value in WRONG:
            for join in joins:
                with self.assertRaises(NoName) as caught:
                    join(value)
                self.assertEqual(caught.exception.value, value)
        self.check(rule, "a", (("a",),))

    def test_other_kinds_are_not_joined(self):
        rule = seen("a")
        joins = (lambda value: rule >> value, lambda value: value >> rule, lambda value: rule | value,
                 lambda value: value | rule, lambda value: rule & value, lambda value: value & rule)
        for join, value in itertools.product(joins, (1, None, ("a",), ["a"])):
            with self.assertRaises(TypeError):
                join(value)
        for value in ("a", None, ("a",), rule):
            with self.assertRaises(TypeError):
                rule * value
            with self.assertRaises(TypeError):
                value * rule

    def test_in_the_place_of_a_new_one(self):
        rule = old = seen("a")
        rule >>= "b"
        rule |= "c"
        rule &= "d"
        rule *= 2
        self.assertEqual(rule.text, "((a >> b | c) & d) * 2")
        self.check(old, "a", (("a",),))

    def test_parts_do_not_change(self):
        one, other = seen("a") | "b", seen("c")
        made = [one >> other, one | other, one & other, one * 3, 3 * one, turned(one), base(one)]
        self.assertEqual(len(made), 7)
        self.check(one, "a | b", (("a",), ("b",)))
        self.check(other, "c", (("c",),))

    def test_no_iteration(self):
        for rule in (seen("a"), nothing(), never(), seen("a") >> "b", seen("a") * 2):
            for take in (iter, list, tuple, set, sorted, lambda rule: [*rule], lambda rule: [x for x in rule]):
                with self.assertRaises(TypeError):
                    take(rule)

    def test_no_equality(self):
        rule = seen("a")
        self.assertTrue(rule == rule)
        self.assertFalse(rule == seen("a"))
        self.assertTrue(rule != seen("a"))
        self.assertEqual({rule: 1}[rule], 1)

    def test_text_is_a_property(self):
        self.assertIsInstance(type(seen("a")).text, property)
        with self.assertRaises(AttributeError):
            seen("a").text = "b"


class Texts(unittest.TestCase):
    def test_text_tells_how_the_rule_was_built(self):
        for tree in TREES + THRICE:
            text = tree.rule().text
            self.assertEqual(read(text).shape(), tree.shape(), text)

    def test_brackets_stand_only_where_they_are_needed(self):
        for tree in TREES + THRICE:
            text = tree.rule().text
            left = []
            for at, letter in enumerate(text):
                if letter == "(":
                    left.append(at)
                if letter == ")":
                    start = left.pop()
                    less = text[:start] + text[start + 1:at] + text[at + 1:]
                    try:
                        shape = read(less).shape()
                    except TypeError:
                        continue
                    self.assertNotEqual(shape, tree.shape(), text)
            self.assertEqual(left, [])

    def test_blanks(self):
        for tree in TREES + THRICE:
            text = tree.rule().text
            self.assertEqual(text, re.sub(r" *(>>|[|&*]) *", r" \1 ", text.replace(" ", "")))

    def test_each_bracket_that_the_document_tells(self):
        a, then, either, both, times = seen("a"), seen("b") >> "c", seen("b") | "c", seen("b") & "c", seen("b") * 2
        texts = {
            "(b >> c) * 2": then * 2, "(b | c) * 2": either * 2, "(b & c) * 2": both * 2, "b * 2 * 2": times * 2,
            "1 * 2": nothing() * 2, "0 * 0": 0 * never(),
            "b >> c >> a": then >> a, "a >> (b >> c)": a >> then, "(b | c) >> a": either >> a,
            "a >> (b | c)": a >> either, "(b & c) >> a": both >> a, "a >> (b & c)": a >> both,
            "b * 2 >> a": times >> a, "a >> b * 2": a >> times,
            "b >> c & a": then & a, "a & b >> c": a & then, "(b | c) & a": either & a, "a & (b | c)": a & either,
            "b & c & a": both & a, "a & (b & c)": a & both, "b * 2 & a": times & a, "a & b * 2": a & times,
            "b >> c | a": then | a, "a | b >> c": a | then, "b | c | a": either | a, "a | (b | c)": a | either,
            "b & c | a": both | a, "a | b & c": a | both, "b * 2 | a": times | a, "a | b * 2": a | times,
        }
        self.assertEqual(len(texts), 30)
        for text, rule in texts.items():
            self.assertEqual(rule.text, text)


class RuleOf(unittest.TestCase):
    def test_all_short_bases(self):
        for words in PARTS.bases("ab", 3):
            rule = rule_of(words)
            self.assertEqual(base(rule), words)
            parts = [" >> ".join(word) if word else "1" for word in words]
            self.assertEqual(rule.text, " | ".join(parts) if parts else "0")

    def test_edges(self):
        self.assertEqual([rule_of(()).text, rule_of(((),)).text], ["0", "1"])
        self.assertEqual(rule_of((("ab",), ("a", "b", "a"))).text, "ab | a >> b >> a")

    def test_it_keeps_nothing_of_what_it_is_given(self):
        words = [["a"], ["b", "b"]]
        rule = rule_of(words)
        words[0].append("c")
        words[1][0] = "c"
        words.append(["d"])
        self.assertEqual([rule.text, base(rule)], ["a | b >> b", (("a",), ("b", "b"))])


class Compared(unittest.TestCase):
    TREES = LEAVES + ONCE + TWICE[:60]

    def test_all_pairs(self):
        logs = all_logs("ab", 6)
        rules = [(tree.rule(), [PARTS.done(base(tree.rule()), log) for log in logs]) for tree in self.TREES]
        for (one, told), (other, known) in itertools.product(rules, repeat=2):
            unlike = [log for log, first, second in zip(logs, told, known) if first != second]
            self.assertIs(alike(one, other), not unlike)
            self.assertEqual(parting(one, other), unlike[0] if unlike else None)
            goes = all(first or not second for first, second in zip(told, known))
            self.assertIs(goes_with(one, other), goes, (one.text, other.text))

    def test_parting_is_the_least_of_all(self):
        # The least log may do the one or the other one.
        one, other = seen("b") | seen("a") * 2, seen("a") * 3 | seen("b") * 2
        self.assertEqual([parting(one, other), parting(other, one)], [("b",), ("b",)])
        one, other = seen("b") | seen("c") * 2, seen("a") | seen("c") * 2
        self.assertEqual([parting(one, other), parting(other, one)], [("a",), ("a",)])
        self.assertIsNone(parting(seen("a") & "b", "b" & seen("a")))
        self.assertEqual(parting(never(), nothing()), ())

    def test_goes_with_asks_for_each_log_that_does_other(self):
        narrow, wide = seen("a") >> "b", seen("a") & "b"
        self.assertEqual([goes_with(wide, narrow), goes_with(narrow, wide)], [True, False])
        self.assertEqual([goes_with(nothing(), never()), goes_with(never(), nothing())], [True, False])
        self.assertEqual([goes_with(never(), never()), goes_with(nothing(), nothing())], [True, True])


class Turned(unittest.TestCase):
    def test_logs_read_from_their_end(self):
        for tree in TREES + THRICE:
            rule = tree.rule()
            other = turned(rule)
            for log in all_logs("ab", 3):
                self.assertIs(log in other, log[::-1] in rule, (rule.text, log))

    def test_how_it_is_built(self):
        for tree in TREES + THRICE:
            self.assertEqual(read(turned(tree.rule()).text).shape(), tree.turned().shape())
            self.assertEqual(turned(turned(tree.rule())).text, tree.rule().text)

    def test_base(self):
        for tree in THRICE:
            words = tuple(sorted((word[::-1] for word in base(tree.rule())), key=key))
            self.assertEqual(base(turned(tree.rule())), words)

    def test_edges(self):
        self.assertEqual(turned((seen("a") >> "b" >> "c") * 2 | "d").text, "(c >> (b >> a)) * 2 | d")
        self.assertEqual([turned(nothing()).text, turned(never()).text, turned(seen("a")).text], ["1", "0", "a"])
        self.assertEqual([turned(seen("a") & "b").text, turned(seen("a") | "b").text], ["a & b", "a | b"])


if __name__ == "__main__":
    unittest.main()
