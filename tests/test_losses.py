import itertools
import random
import unittest

from moredone.bases import is_base, is_inside
from moredone.losses import fewest_losses, hardened, idle, kernel, needed, setback, withstands, without
from moredone.standings import standing
from moredone.weaves import most_apart
from tests.helpers import Parts, all_logs, at_places, choices, subsets, without_places

PARTS = Parts()
NEVER, ALWAYS = (), ((),)
SMALL = PARTS.bases("ab", 2)
MIDDLE = PARTS.bases("ab", 3)
THREE = PARTS.bases("abc", 2)
SOME = random.Random(3).sample(MIDDLE, 40)
SOME_OF_THREE = random.Random(4).sample(THREE, 25)
# Bases and the logs that are tried with each.
TRIED = [(base, all_logs("abz", 4)) for base in SMALL] + [(base, all_logs("ab", 5)) for base in SOME]
TRIED += [(base, all_logs("abc", 4)) for base in SOME_OF_THREE]
TRIED += [(base, random.Random(5).sample(all_logs("abc", 7), 25)) for base in SMALL + SOME + SOME_OF_THREE]
GIFT = (("gift", "ship"), ("ask", "pay", "ship"))


def longest(base):
    return max((len(word) for word in base), default=0)


def fewest(log, is_enough):
    """All sets of places of the log that are enough, of those with as few places as can be."""
    for many in range(len(log) + 1):
        found = [places for places in choices(len(log), many) if is_enough(places)]
        if found:
            return found
    return []


def done_after(base, many, log):
    """Whether the log does base whichever so many of its events, or fewer, are lost."""
    return all(PARTS.done(base, without_places(log, places))
               for lost in range(min(many, len(log)) + 1) for places in choices(len(log), lost))


class Without(unittest.TestCase):
    def test_all_short_logs(self):
        for log in all_logs("ab", 5):
            for places in subsets(range(len(log))):
                self.assertEqual(without(log, places), without_places(log, places))

    def test_numbers_that_are_no_places(self):
        log = ("a", "b", "c")
        for places in ((-1,), (3,), (-3, -2), (10 ** 30,), (-10 ** 30,), (), (-1, 3, 4)):
            self.assertEqual(without(log, places), log)
        self.assertEqual(without(log, (-1, 1, 7)), ("a", "c"))
        self.assertEqual(without((), (0, 1, -1)), ())

    def test_in_any_order_and_again(self):
        log = ("a", "b", "c", "d")
        self.assertEqual(without(log, (3, 0, 3, 3)), ("b", "c"))
        self.assertEqual(without(log, [2, 1, 0, 3]), ())


class NeededAndIdle(unittest.TestCase):
    def test_needed(self):
        for base, logs in TRIED:
            for log in logs:
                places = tuple(at for at in range(len(log))
                               if PARTS.done(base, log) and not PARTS.done(base, without_places(log, (at,))))
                self.assertEqual(needed(base, log), places, (base, log))

    def test_idle(self):
        for base, logs in TRIED:
            for log in logs:
                used = {at for word in base for places in choices(len(log), len(word))
                        if at_places(log, places) == word for at in places}
                places = tuple(at for at in range(len(log)) if at not in used)
                if not PARTS.done(base, log):
                    self.assertEqual(places, tuple(range(len(log))))
                self.assertEqual(idle(base, log), places, (base, log))

    def test_idle_ones_can_be_lost_at_once(self):
        for base, logs in TRIED:
            for log in logs:
                self.assertIs(PARTS.done(base, without_places(log, idle(base, log))), PARTS.done(base, log))

    def test_needed_ones_are_not_idle(self):
        for base, logs in TRIED:
            for log in logs:
                self.assertFalse(set(needed(base, log)) & set(idle(base, log)))

    def test_edges(self):
        for log in all_logs("ab", 3):
            self.assertEqual([needed(NEVER, log), needed(ALWAYS, log)], [(), ()])
            self.assertEqual([idle(NEVER, log), idle(ALWAYS, log)], [tuple(range(len(log)))] * 2)
        for base in SMALL:
            self.assertEqual([needed(base, ()), idle(base, ())], [(), ()])
        self.assertEqual(needed((("a", "b"),), ("a", "a", "b")), (2,))
        self.assertEqual(idle((("a", "b"),), ("b", "a", "a", "b", "a")), (0, 4))
        # The b between stands for the first b of the word, and for the second one, but not with another b beside it.
        self.assertEqual(idle((("b", "b"),), ("a", "b", "c")), (0, 1, 2))
        self.assertEqual(idle((("a", "b", "a"),), ("b", "a", "b", "b", "a", "b")), (0, 5))


class FewestLosses(unittest.TestCase):
    def test_all_sets_of_places(self):
        for base, logs in TRIED:
            for log in logs:
                places = fewest_losses(base, log)
                expected = fewest(log, lambda lost: not PARTS.done(base, without_places(log, lost)))
                if base == ALWAYS:
                    self.assertEqual(expected, [])
                    self.assertIsNone(places)
                else:
                    self.assertIn(places, expected, (base, log))

    def test_withstands(self):
        for base, logs in TRIED:
            for log in logs:
                if len(log) <= 5:
                    for many in range(len(log) + 2):
                        self.assertIs(withstands(base, log, many), done_after(base, many, log), (base, log, many))

    def test_withstands_many(self):
        for log in all_logs("ab", 3):
            for many in (0, 1, 40, 10 ** 30):
                self.assertIs(withstands(ALWAYS, log, many), True)
                self.assertIs(withstands(NEVER, log, many), False)
            for base in SMALL:
                if base != ALWAYS:
                    self.assertIs(withstands(base, log, 10 ** 30), False)
                self.assertIs(withstands(base, log, 0), PARTS.done(base, log))

    def test_of_a_word_with_no_name_twice(self):
        # As many places as there are choices of places of the word of which no two have a place in common.
        for word in (("a",), ("a", "b"), ("b", "a"), ("a", "b", "c"), ("c", "a", "b")):
            for log in random.Random(6).sample(all_logs("abc", 8), 150):
                self.assertEqual(len(fewest_losses((word,), log)), most_apart(word, log))

    def test_edges(self):
        for log in all_logs("ab", 3):
            self.assertEqual(fewest_losses(NEVER, log), ())
            self.assertIsNone(fewest_losses(ALWAYS, log))
        self.assertEqual(fewest_losses((("a", "b"),), ("b", "a", "a")), ())
        self.assertEqual(fewest_losses((("a", "b"),), ("a", "b", "b")), (0,))
        self.assertEqual(fewest_losses((("a",),), ("a", "b", "a")), (0, 2))
        # Of three, two have to go, though no two choices of places are apart.
        self.assertEqual(len(fewest_losses((("a", "a"),), ("a", "a", "a"))), 2)


class Hardened(unittest.TestCase):
    def check(self, base, many, names, most):
        found = hardened(base, many)
        self.assertEqual(found, PARTS.base(all_logs(names, most), lambda log: done_after(base, many, log)), (base, many))
        self.assertIs(is_base(found), True)

    def test_all_short_logs(self):
        for base in SMALL:
            for many in range(3):
                # Least logs with more events than twice or three times those of a word would show as a difference.
                self.check(base, many, "ab", longest(base) * (many + 1) + 1)
        for base in SOME[:12]:
            self.check(base, 1, "ab", 7)
        for base in SOME_OF_THREE:
            self.check(base, 1, "abc", 5)

    def test_many(self):
        for many in range(12):
            self.assertEqual(hardened((("a",),), many), (("a",) * (many + 1),))
            self.assertEqual([hardened(NEVER, many), hardened(ALWAYS, many)], [NEVER, ALWAYS])
        self.check((("a",), ("b",)), 5, "ab", 7)
        self.check((("a", "a"),), 5, "ab", 7)

    def test_step_by_step(self):
        for base in SMALL + SOME + SOME_OF_THREE:
            self.assertEqual(hardened(base, 0), base)
            once = hardened(base, 1)
            self.assertIs(is_inside(once, base), True)
            self.assertEqual(hardened(once, 1), hardened(base, 2))

    def test_withstands_is_to_do_it(self):
        for base, logs in TRIED[::3]:
            for many in range(3):
                hard = hardened(base, many)
                for log in logs[::2]:
                    self.assertIs(PARTS.done(hard, log), withstands(base, log, many))


class KernelAndSetback(unittest.TestCase):
    def told(self, base, log):
        return tuple(PARTS.done(base, log + end) for end in all_logs("abc", longest(base)))

    def test_all_sets_of_places(self):
        for base, logs in TRIED[::2]:
            for log in logs[::3]:
                told = self.told(base, log)
                alike = fewest(log, lambda places: self.told(base, at_places(log, places)) == told)
                self.assertIn(kernel(base, log), alike, (base, log))
                unlike = fewest(log, lambda places: self.told(base, without_places(log, places)) != told)
                found = setback(base, log)
                self.assertIn(found, unlike if unlike else [None], (base, log))

    def test_they_have_the_standing_that_they_should(self):
        for base, logs in TRIED:
            for log in logs:
                whole = standing(base, log)
                self.assertEqual(standing(base, at_places(log, kernel(base, log))), whole)
                lost = setback(base, log)
                if lost is None:
                    self.assertEqual(whole, base)
                else:
                    self.assertNotEqual(standing(base, without_places(log, lost)), whole)

    def test_edges(self):
        for log in all_logs("ab", 3):
            for base in (NEVER, ALWAYS):
                self.assertEqual(kernel(base, log), ())
                self.assertIsNone(setback(base, log))
        for base in SMALL:
            self.assertEqual(kernel(base, ()), ())
            self.assertIsNone(setback(base, ()))
        self.assertEqual(kernel((("a",), ("b", "c")), ("b", "c", "a")), (2,))
        self.assertEqual(setback((("a", "b"),), ("b", "a", "a")), (1, 2))
        self.assertEqual(setback((("a",),), ("a", "b")), (0,))
        self.assertIsNone(setback((("a", "b"),), ("b", "b", "c")))
        # Every loss that undoes the base sets it back, not the other way about.
        self.assertEqual(len(setback((("a",), ("b", "c")), ("b", "a", "b"))), 1)


class Sets(unittest.TestCase):
    def test_they_are_ascending_and_told_again(self):
        for base, logs in TRIED[::4]:
            for log in logs[::3]:
                for function in (needed, idle, fewest_losses, kernel, setback):
                    found = function(base, log)
                    self.assertEqual(function(base, log), found)
                    self.assertEqual(function([list(word) for word in base], list(log)), found)
                    if found is not None:
                        self.assertIs(type(found), tuple)
                        self.assertEqual(found, tuple(sorted(set(found))))
                        self.assertTrue(all(0 <= at < len(log) for at in found))


if __name__ == "__main__":
    unittest.main()
