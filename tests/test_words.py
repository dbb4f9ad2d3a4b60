import itertools
import unittest

from moredone.words import common_parts, front, is_log, is_part, least_both, places, rest, ways
from tests.helpers import KINDS, Parts, all_logs, choices, key

PARTS = Parts()
SHORT = all_logs("ab", 4)
PAIRS = list(itertools.product(SHORT, all_logs("ab", 5))) + list(itertools.product(all_logs("abc", 3), repeat=2))


def at(chosen, log):
    return tuple(log[place] for place in chosen)


class IsLog(unittest.TestCase):
    def test_logs(self):
        for thing in ((), ("a",), ("z",), ("abcdefgh",), ("a", "a"), ("pay", "ship", "pay"), ("a",) * 1000):
            self.assertIs(is_log(thing), True, thing)

    def test_what_is_no_name(self):
        wrong = ("", "abcdefghi", "A", "aB", "a b", " a", "a ", "a1", "1", "a-b", "-", "a_b", "_", "a\n", "\n", "\u00e4",
                 "a\u00e4", "\u03b1", "`", "{", "\u00aa", "\uff41", "a\x00", "*", "a.b", "ABC", "aBc")
        for value in wrong:
            self.assertIs(is_log((value,)), False, value)
            self.assertIs(is_log(("a", value)), False, value)
            self.assertIs(is_log((value, "a")), False, value)

    def test_each_letter(self):
        for letter in "abcdefghijklmnopqrstuvwxyz":
            self.assertIs(is_log((letter,)), True)
            self.assertIs(is_log((letter.upper(),)), False)

    def test_lengths_of_names(self):
        for length in range(12):
            self.assertIs(is_log(("x" * length,)), 1 <= length <= 8)

    def test_kinds(self):
        logs = [thing for thing in KINDS if is_log(thing) is True]
        self.assertEqual(logs, [(), ("a",), ("a", "b")])
        for thing in KINDS:
            self.assertIn(is_log(thing), (True, False))
            self.assertIs(type(is_log(thing)), bool)


class IsPart(unittest.TestCase):
    def test_all_short_logs(self):
        for word, log in PAIRS:
            self.assertIs(is_part(word, log), PARTS.is_part(word, log), (word, log))

    def test_names_are_told_apart_as_a_whole(self):
        self.assertIs(is_part(("ab",), ("a", "b")), False)
        self.assertIs(is_part(("a", "b"), ("ab",)), False)
        self.assertIs(is_part(("pay",), ("pays",)), False)
        self.assertIs(is_part(("ab", "a"), ("a", "ab", "b", "a")), True)


class Places(unittest.TestCase):
    def test_all_short_logs(self):
        for word, log in PAIRS:
            found = [chosen for chosen in choices(len(log), len(word)) if at(chosen, log) == word]
            # Each as early as it can be: the least of all choices.
            self.assertEqual(places(word, log), found[0] if found else None, (word, log))

    def test_edges(self):
        self.assertEqual(places((), ()), ())
        self.assertEqual(places((), ("a",)), ())
        self.assertIsNone(places(("a",), ()))
        self.assertEqual(places(("ab", "a"), ("a", "ab", "b", "a", "a")), (1, 3))


class Ways(unittest.TestCase):
    def test_all_short_logs(self):
        for word, log in PAIRS:
            count = sum(at(chosen, log) == word for chosen in choices(len(log), len(word)))
            self.assertEqual(ways(word, log), count, (word, log))

    def test_edges(self):
        self.assertEqual(ways((), ()), 1)
        self.assertEqual(ways((), ("a",) * 40), 1)
        self.assertEqual(ways(("a",), ()), 0)
        self.assertEqual(ways(("a",) * 40, ("a",) * 40), 1)
        self.assertEqual(ways(("a",) * 20, ("a",) * 40), 137846528820)


class RestAndFront(unittest.TestCase):
    def test_all_short_logs(self):
        for word, log in PAIRS:
            cut = max(many for many in range(len(word) + 1) if PARTS.is_part(word[:many], log))
            self.assertEqual(rest(word, log), word[cut:], (word, log))
            cut = max(many for many in range(len(word) + 1) if PARTS.is_part(word[len(word) - many:], log))
            self.assertEqual(front(word, log), word[:len(word) - cut], (word, log))

    def test_what_stands_in_brackets(self):
        # word is a part of log with more behind it exactly if the rest is a part of that; likewise ahead.
        for word, log, more in itertools.product(all_logs("ab", 3), repeat=3):
            self.assertEqual(PARTS.is_part(word, log + more), PARTS.is_part(rest(word, log), more))
            self.assertEqual(PARTS.is_part(word, more + log), PARTS.is_part(front(word, log), more))

    def test_edges(self):
        for function in (rest, front):
            self.assertEqual(function((), ()), ())
            self.assertEqual(function((), ("a",)), ())
            self.assertEqual(function(("a",), ()), ("a",))
            self.assertEqual(function(("a",), ("a",)), ())
            self.assertEqual(function(["a", "b"], []), ("a", "b"))


class LeastBoth(unittest.TestCase):
    def check_among(self, ones, names):
        logs = {most: all_logs(names, most) for most in range(8)}
        for one, other in itertools.product(ones, repeat=2):
            both = [log for log in logs[len(one) + len(other)]
                    if PARTS.is_part(one, log) and PARTS.is_part(other, log)]
            self.assertEqual(least_both(one, other), PARTS.least(both), (one, other))

    def test_all_short_logs(self):
        self.check_among(all_logs("ab", 3), "ab")
        self.check_among(all_logs("abc", 2), "abc")

    def test_two_of_four_events(self):
        logs = all_logs("ab", 8)
        for one, other in ((("a", "b", "b", "a"), ("b", "a", "b", "a")), (("a", "a", "a", "b"), ("b", "b", "a", "b")),
                           (("a", "b", "a", "b"), ("b", "a", "a", "b"))):
            both = [log for log in logs if PARTS.is_part(one, log) and PARTS.is_part(other, log)]
            self.assertEqual(least_both(one, other), PARTS.least(both))

    def test_one_is_a_part_of_the_other(self):
        for one, other in PAIRS[:300]:
            if PARTS.is_part(one, other):
                self.assertEqual(least_both(one, other), (other,))
                self.assertEqual(least_both(other, one), (other,))

    def test_weavings_of_unlike_names(self):
        found = least_both(("a", "b", "c", "d", "e"), ("v", "w", "x", "y", "z"))
        self.assertEqual(len(found), 252)
        self.assertEqual(found, tuple(sorted(set(found), key=key)))
        self.assertTrue(all(len(log) == 10 for log in found))
        self.assertEqual(least_both(("ab",), ("a",)), (("a", "ab"), ("ab", "a")))


class CommonParts(unittest.TestCase):
    def test_all_short_logs(self):
        for one, other in itertools.product(SHORT, repeat=2):
            self.check_pair(one, other)
        for one, other in itertools.product(all_logs("abc", 3), repeat=2):
            self.check_pair(one, other)

    def check_pair(self, one, other):
        expected = PARTS.greatest(PARTS.of(one) & PARTS.of(other))
        self.assertEqual(common_parts(one, other), expected, (one, other))

    def test_five_events(self):
        logs = [tuple(word) for word in ("abcab", "bacba", "ccabb", "abbac", "babab", "cbacb", "abcba", "aabbc")]
        for one, other in itertools.product(logs, repeat=2):
            self.check_pair(one, other)

    def test_edges(self):
        self.assertEqual(common_parts((), ()), ((),))
        self.assertEqual(common_parts((), ("a",)), ((),))
        self.assertEqual(common_parts(("ab",), ("a",)), ((),))
        self.assertEqual(common_parts(("a", "b"), ("a", "b")), (("a", "b"),))


if __name__ == "__main__":
    unittest.main()
