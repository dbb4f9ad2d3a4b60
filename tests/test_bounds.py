"""Calls at the bounds of the document give their answers."""

import itertools
import random
import unittest

from moredone.bases import (base_of, both, common, does, either, is_base, is_checklist, is_inside, missing, names_in,
                            outside, stages, then, times)
from moredone.rules import alike, base, goes_with, never, nothing, parting, rule_of, seen, turned
from moredone.words import common_parts, front, is_log, is_part, least_both, places, rest, ways
from tests.helpers import Parts, key

PARTS = Parts()
NAMES = ("abcdefgh", "b", "c", "d", "e", "f")
LONG = tuple(NAMES[(at * at + at // 3) % 6] for at in range(40))


def words_of(length, many, names, seed):
    """An ascending tuple of so many unlike words of one length: a base."""
    choose = random.Random(seed)
    found = set()
    while len(found) < many:
        found.add(tuple(choose.choice(names) for _ in range(length)))
    return tuple(sorted(found))


GREAT, OTHER = words_of(8, 24, NAMES, 1), words_of(8, 24, NAMES, 2)


class Words(unittest.TestCase):
    def test_logs_of_forty_events(self):
        self.assertIs(is_log(LONG), True)
        for cut in (0, 1, 20, 39, 40):
            self.assertIs(is_part(LONG[:cut], LONG), True)
            self.assertEqual(places(LONG[:cut], LONG), tuple(range(cut)))
            self.assertEqual(rest(LONG, LONG[:cut]), LONG[cut:])
            self.assertEqual(front(LONG, LONG[cut:]), LONG[:cut])
        self.assertIs(is_part(LONG, LONG[1:]), False)
        self.assertEqual(ways(("x", "y") * 20, ("x", "y") * 20), 1)
        self.assertEqual(ways(("x",) * 8, ("x", "y") * 20), 125970)
        self.assertEqual(places(("y",) * 8, ("x", "y") * 20), tuple(range(1, 16, 2)))
        self.assertEqual(rest(("y",) * 40, ("x", "y") * 20), ("y",) * 20)

    def test_least_both_and_common_parts_of_five_events(self):
        choose = random.Random(4)
        for names in ("ab", "abc", "abcde"):
            for _ in range(20):
                one, other = (tuple(choose.choice(names) for _ in range(5)) for _ in range(2))
                found = least_both(one, other)
                self.assertEqual(found, PARTS.least(found))
                for log in found:
                    self.assertTrue(PARTS.is_part(one, log) and PARTS.is_part(other, log))
                    for at in range(len(log)):
                        less = log[:at] + log[at + 1:]
                        self.assertFalse(PARTS.is_part(one, less) and PARTS.is_part(other, less))
                # Each way to weave both has one of them as a part.
                for chosen in itertools.combinations(range(10), 5):
                    log = [""] * 10
                    left = iter(other)
                    for place, event in zip(chosen, one):
                        log[place] = event
                    log = tuple(event or next(left) for event in log)
                    self.assertTrue(any(is_part(word, log) for word in found))
                shared = PARTS.greatest(PARTS.of(one) & PARTS.of(other))
                self.assertEqual(common_parts(one, other), shared)


class Bases(unittest.TestCase):
    def test_bases_of_24_words_of_8_events(self):
        self.assertIs(is_base(GREAT), True)
        self.assertEqual(base_of(GREAT[::-1]), GREAT)
        self.assertEqual(either(GREAT, OTHER), tuple(sorted(set(GREAT + OTHER))))
        self.assertEqual(names_in(GREAT), tuple(sorted(NAMES)))
        self.assertIs(is_inside(GREAT, GREAT), True)
        self.assertEqual(outside(GREAT, OTHER), GREAT[0])
        self.assertEqual(missing(GREAT, OTHER), OTHER)
        self.assertIs(does(GREAT, LONG), any(is_part(word, LONG) for word in GREAT))
        self.assertIs(does(GREAT, GREAT[23] * 5), True)
        self.assertEqual([times(GREAT, 0), times(GREAT, 1)], [((),), GREAT])
        self.assertEqual(len(then(GREAT, OTHER[:4])), 96)

    def test_base_of_many_long_logs(self):
        logs = words_of(40, 24, NAMES, 3)
        self.assertEqual(base_of(logs), logs)
        self.assertEqual(base_of(logs + tuple((event,) for event in NAMES)), tuple((name,) for name in sorted(NAMES)))

    def test_both_of_six_words_of_five_events(self):
        found = both(words_of(5, 6, "abc", 5), words_of(5, 6, "def", 6))
        self.assertEqual(len(found), 36 * 252)
        self.assertEqual(found, tuple(sorted(found)))
        for names in ("ab", "abc", "abcdef"):
            one, other = words_of(5, 6, names, 7), words_of(5, 6, names, 8)
            found = both(one, other)
            self.assertEqual(found, tuple(sorted(found, key=key)))
            self.assertEqual(found, both(other, one))
            for log in found[::10]:
                self.assertTrue(does(one, log) and does(other, log))
                for at in range(len(log)):
                    less = log[:at] + log[at + 1:]
                    self.assertFalse(does(one, less) and does(other, less))
            for word, end in itertools.product(one, other):
                self.assertTrue(does(found, word + end) and does(found, end + word))

    def test_times_eight(self):
        self.assertEqual(times((("a", "b"),), 8), (("a", "b") * 8,))
        self.assertEqual(len(times((("a",), ("b",)), 6)), 64)

    def test_common_and_is_checklist_of_twelve_words_of_five_events(self):
        for names in ("ab", "abc", "abcdef"):
            words = words_of(5, 12, names, 9)
            shared = set.intersection(*[set(PARTS.of(word)) for word in words])
            self.assertEqual(common(words), PARTS.greatest(shared))
            self.assertIs(is_checklist(words), False)
        orders = tuple(itertools.permutations("abcde"))
        self.assertEqual(common(orders[:6] + orders[-6:]), tuple((name,) for name in "abcde"))
        self.assertIs(is_checklist(orders[:6] + orders[-6:]), False)
        # All ways to put c and d anywhere into a b.
        list_of_three = both(both((("a", "b"),), (("c",),)), (("d",),))
        self.assertEqual(len(list_of_three), 12)
        self.assertIs(is_checklist(list_of_three), True)
        self.assertIs(is_checklist(list_of_three[:11]), False)

    def test_stages_of_sixty_words(self):
        one, two, three = words_of(3, 5, "abc", 10), words_of(2, 4, "abcd", 11), words_of(3, 3, "ef", 12)
        joined = then(then(one, two), three)
        self.assertEqual(len(joined), 60)
        self.assertEqual(stages(joined), stages(one) + stages(two) + stages(three))
        words = words_of(8, 60, NAMES, 13)
        self.assertEqual(stages(words), (words,))
        self.assertEqual(stages((LONG[:8],)), tuple(((event,),) for event in LONG[:8]))


class Rules(unittest.TestCase):
    def test_rule_of_24_words(self):
        rule, other = rule_of(GREAT), rule_of(OTHER)
        self.assertEqual(base(rule), GREAT)
        self.assertEqual(rule.text, " | ".join(" >> ".join(word) for word in GREAT))
        self.assertIs(LONG in rule, does(GREAT, LONG))
        self.assertIs(GREAT[23] * 5 in rule, True)
        self.assertEqual([alike(rule, rule), alike(rule, other), goes_with(rule, other)], [True, False, False])
        self.assertEqual([parting(rule, other), parting(rule, rule)], [min(GREAT[0], OTHER[0]), None])
        self.assertEqual(base(turned(rule)), tuple(sorted(word[::-1] for word in GREAT)))

    def test_twelve_seen_and_four_operators_one_within_another(self):
        rule = ((seen("a") | "b") & (seen("c") | "d")) >> ((seen("e") | "f") >> (seen("a") | "b")) \
            >> ((seen("c") >> "d") * 1 & (seen("e") | "e"))
        self.assertEqual(rule.text, "((a | b) & (c | d)) >> ((e | f) >> (a | b)) >> ((c >> d) * 1 & (e | e))")
        self.assertEqual(len(base(rule)), 8 * 4 * 3)
        self.assertEqual(base_of(base(rule)), base(rule))
        self.assertTrue(all(word in rule for word in base(rule)))
        self.assertIn(tuple("xcaefbcexd"), rule)
        self.assertNotIn(tuple("xcaefbcxd"), rule)

    def test_a_base_of_a_hundred_words_of_eight_events(self):
        rule = (seen("a") >> "b" >> "c" >> (seen("d") | "e")) & "f"
        self.assertEqual(len(base(rule)), 10)
        double = rule_of(base(rule)[:10]) >> rule_of(words_of(3, 10, "abc", 14))
        self.assertEqual(len(base(double)), 100)
        self.assertTrue(all(len(word) == 8 for word in base(double)))
        self.assertTrue(all(word in double for word in base(double)))
        self.assertTrue(all(word[1:] not in double for word in base(double)))

    def test_both_sides_of_six_words_of_five_events(self):
        one, other = words_of(5, 6, "abc", 15), words_of(5, 6, "abc", 16)
        rule = rule_of(one) & rule_of(other)
        self.assertEqual(base(rule), both(one, other))
        self.assertTrue(all(log in rule for log in base(rule)))

    def test_factors_of_eight(self):
        self.assertEqual(base(seen("a") * 8), (("a",) * 8,))
        self.assertEqual(base((seen("a") & "a") * 8), (("a",) * 8,))
        rule = ((nothing() * 8 | "a") * 8 & never() * 0) * 8 * 8
        self.assertEqual(base(rule), ((),))
        self.assertIn((), rule)
        rule = 8 * seen("a") * 5
        self.assertIn(("a",) * 40, rule)
        self.assertNotIn(("a",) * 39, rule)


if __name__ == "__main__":
    unittest.main()
