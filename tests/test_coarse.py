import itertools
import random
import unittest

from moredone.bases import both, does, either, is_base, is_inside, then
from moredone.coarse import (certain, coarse_log, coarsest, doubtful, is_classes, is_finer, is_told, joined, lifted,
                             possible, shared)
from tests.helpers import KINDS, Parts, all_classes, all_logs, caught, coarse_of, finer_of

PARTS = Parts()
NEVER, ALWAYS = (), ((),)
SMALL = PARTS.bases("ab", 2)
MIDDLE = PARTS.bases("ab", 3)
THREE = PARTS.bases("abc", 2)
PAIR, TRIPLE = (("a", "b"),), (("a", "b", "c"),)
OF_THREE = all_classes("abc")
OF_FOUR = all_classes("abcd")
CHOOSE = random.Random(11)
# Bases with classes of their names, some of them with names that no word has.
TRIED = [(base, classes) for base in SMALL for classes in (*OF_THREE, (("a", "z"),), (("a", "b"), ("y", "z")))]
TRIED += [(base, PAIR) for base in CHOOSE.sample(MIDDLE, 100)]
TRIED += [(base, CHOOSE.choice(OF_THREE)) for base in CHOOSE.sample(THREE, 200)]
TRIED += [(tuple(sorted(base)), CHOOSE.choice(OF_FOUR)) for base in
          (CHOOSE.sample(all_logs("abcd", 2)[5:], 4) for _ in range(150))]


def names_of(base):
    return sorted({name for word in base for name in word})


def coarse_names(base, classes):
    return sorted(set(coarse_of(names_of(base), classes)))


class IsClasses(unittest.TestCase):
    def test_all_short_ones(self):
        for names in ("", "a", "abc", "abcd"):
            for classes in all_classes(names):
                self.assertIs(is_classes(classes), True)
        self.assertEqual(len(OF_FOUR), 15)

    def test_rows_of_sets_of_all_kinds(self):
        rows = [(), ("a",), ("a", "b"), ("b", "a"), ("a", "a"), ("a", "c"), ("b", "c", "d"), ("c", "d"), ("B", "a"),
                ["a", "b"], ("a", 1), ("a", None), (1, 2), "ab", None, True, ("", "a"), ("a", "abcdefghi")]
        right = [(("a", "b"),), (("a", "c"),), (("b", "c", "d"),), (("c", "d"),), (("a", "b"), ("c", "d"))]
        for many in range(4):
            for thing in itertools.product(rows, repeat=many):
                self.assertIs(is_classes(thing), not thing or thing in right, thing)

    def test_things_of_all_kinds(self):
        for thing in KINDS:
            self.assertIs(is_classes(thing), thing in ((), (("a", "b"),)) and isinstance(thing, tuple), thing)
        for thing in ([], [("a", "b")], (["a", "b"],), ("ab", "cd"), ("a", "b"), ((("a",), ("b",)),), "", 0, False):
            self.assertIs(is_classes(thing), False, thing)

    def test_whatever_the_bounds(self):
        names = [first + second + third for first in "abcdefghij" for second in "abcdefghij" for third in "abcdefghij"]
        great = tuple(zip(names[::2], names[1::2]))
        self.assertIs(is_classes(great), True)
        self.assertIs(is_classes((tuple(names),)), True)
        self.assertIs(is_classes(great[::-1]), False)
        self.assertIs(is_classes(great + ((names[0], "zz"),)), False)


class CoarseLog(unittest.TestCase):
    def test_all_short_logs(self):
        for classes in OF_FOUR:
            for log in all_logs("abcd", 3):
                self.assertEqual(coarse_log(log, classes), coarse_of(log, classes))
                self.assertEqual(coarse_log(coarse_log(log, classes), classes), coarse_log(log, classes))

    def test_edges(self):
        self.assertEqual(coarse_log((), PAIR), ())
        self.assertEqual(coarse_log(("b", "z", "a"), ()), ("b", "z", "a"))
        self.assertEqual(coarse_log(("z", "zz", "b"), (("b", "z"), ("y", "zz"))), ("b", "y", "b"))


class Lifted(unittest.TestCase):
    def test_against_all_logs(self):
        for base, classes in TRIED:
            coarse = possible(base, classes)
            found = lifted(coarse, classes)
            self.assertIs(is_base(found), True)
            names = sorted({*names_of(coarse), *(name for each in classes for name in each)})
            for log in all_logs(names, 3):
                self.assertIs(does(found, log), PARTS.done(coarse, coarse_of(log, classes)), (coarse, classes, log))

    def test_its_words_are_all_logs_with_words_as_coarse_logs(self):
        for base, classes in TRIED:
            coarse = possible(base, classes)
            words = [log for word in coarse for log in finer_of(word, classes)]
            self.assertEqual(sorted(lifted(coarse, classes)), sorted(words))

    def test_it_keeps_either_both_and_then(self):
        for one, other in itertools.product([base for base in PARTS.bases("ac", 2)][::2], repeat=2):
            for sign in (either, both, then):
                self.assertEqual(lifted(sign(one, other), PAIR), sign(lifted(one, PAIR), lifted(other, PAIR)))

    def test_not_coarse(self):
        for base, classes in TRIED:
            wrong = [name for name in names_of(base) if coarse_of((name,), classes) != (name,)]
            self.assertEqual(caught(lambda: lifted(base, classes)), ("NotCoarse", wrong[0]) if wrong else None)
        # The least one of all words, wherever it stands.
        self.assertEqual(caught(lambda: lifted((("e",), ("a", "c", "d")), (("a", "e"), ("b", "d")))), ("NotCoarse", "d"))

    def test_edges(self):
        for base in SMALL:
            self.assertEqual(lifted(base, ()), base)
        for classes in OF_FOUR:
            self.assertEqual([lifted(NEVER, classes), lifted(ALWAYS, classes)], [NEVER, ALWAYS])


class PossibleAndCertain(unittest.TestCase):
    def test_against_all_finer_logs(self):
        for base, classes in TRIED:
            some, every = possible(base, classes), certain(base, classes)
            for found in (some, every):
                self.assertIs(is_base(found), True)
                self.assertEqual(set(names_of(found)) - set(coarse_names(base, classes)), set())
            for log in all_logs(coarse_names(base, classes), 5):
                finer = [PARTS.done(base, each) for each in finer_of(log, classes)]
                self.assertEqual([does(some, log), does(every, log)], [any(finer), all(finer)], (base, classes, log))

    def test_long_words_are_certain_and_least(self):
        longest = 0
        for base, classes in TRIED + [((("a",) * 4, ("b",) * 4), PAIR), ((("a",) * 3, ("b",) * 4, ("c",) * 2), TRIPLE)]:
            for word in certain(base, classes):
                longest = max(longest, len(word))
                self.assertTrue(all(does(base, log) for log in finer_of(word, classes)))
                for at in range(len(word)):
                    less = word[:at] + word[at + 1:]
                    self.assertFalse(all(does(base, log) for log in finer_of(less, classes)))
        self.assertEqual(longest, 7)

    def test_all_events_of_one_name(self):
        for one, other in itertools.product(range(1, 5), repeat=2):
            base = tuple(sorted([("a",) * one, ("b",) * other], key=lambda word: (len(word), word)))
            self.assertEqual(certain(base, PAIR), (("a",) * (one + other - 1),))
            self.assertEqual(certain(((("b",) * other),), PAIR), NEVER)

    def test_they_lie_as_close_as_can_be(self):
        coarse = PARTS.bases("ac", 2)
        for base in THREE[::25]:
            some, every = possible(base, PAIR), certain(base, PAIR)
            self.assertTrue(is_inside(lifted(every, PAIR), base) and is_inside(base, lifted(some, PAIR)))
            for other in coarse:
                if is_inside(lifted(other, PAIR), base):
                    self.assertTrue(is_inside(lifted(other, PAIR), lifted(every, PAIR)))
                if is_inside(base, lifted(other, PAIR)):
                    self.assertTrue(is_inside(lifted(some, PAIR), lifted(other, PAIR)))

    def test_what_they_keep(self):
        for one, other in itertools.product(THREE[::60] + SMALL[::6], repeat=2):
            for sign in (either, then):
                self.assertEqual(possible(sign(one, other), PAIR), sign(possible(one, PAIR), possible(other, PAIR)))
            for sign in (both, then):
                self.assertEqual(certain(sign(one, other), PAIR), sign(certain(one, PAIR), certain(other, PAIR)))

    def test_classes_in_any_order_of_being_made_one(self):
        for base in random.Random(12).sample(PARTS.bases("ab", 2), 10) + [(("a", "c"), ("b", "c"), ("a", "d"), ("b", "d"))]:
            for classes in OF_FOUR:
                one_by_one = base
                for names in classes:
                    one_by_one = certain(one_by_one, (names,))
                self.assertEqual(certain(base, classes), one_by_one)

    def test_edges(self):
        for classes in OF_FOUR:
            for base in (NEVER, ALWAYS):
                self.assertEqual([possible(base, classes), certain(base, classes)], [base, base])
        for base in SMALL:
            self.assertEqual([possible(base, ()), certain(base, ())], [base, base])
            # Names that no word has.
            self.assertEqual([possible(base, (("y", "z"),)), certain(base, (("y", "z"),))], [base, base])
        # The other name of the set is of no use to any word.
        self.assertEqual([possible((("b",),), (("a", "b"),)), certain((("b",),), (("b", "x"),))], [(("a",),), NEVER])


class Told(unittest.TestCase):
    def test_no_two_logs_with_the_same_coarse_log(self):
        told = 0
        for base, classes in TRIED:
            names = sorted({*names_of(base), *(name for each in classes for name in each)})
            found = {}
            # A word and what other names make of it have as many events.
            for log in all_logs(names, max((len(word) for word in base), default=0)):
                found.setdefault(coarse_of(log, classes), set()).add(PARTS.done(base, log))
            expected = all(len(each) == 1 for each in found.values())
            self.assertIs(is_told(base, classes), expected, (base, classes))
            told += expected
        self.assertGreater(told, 50)

    def test_in_other_words(self):
        for base, classes in TRIED:
            others = {name: each for each in classes for name in each}
            kept = all(word[:at] + (name,) + word[at + 1:] in base for word in base for at in range(len(word))
                       for name in others.get(word[at], (word[at],)))
            self.assertIs(is_told(base, classes), kept)
            self.assertIs(is_told(base, classes), doubtful(base, classes) is None)
            self.assertIs(is_told(base, classes), possible(base, classes) == certain(base, classes))
            self.assertIs(is_told(lifted(possible(base, classes), classes), classes), True)

    def test_doubtful(self):
        for base, classes in TRIED:
            expected = None
            for log in all_logs(coarse_names(base, classes), 3):
                finer = finer_of(log, classes)
                done = [each for each in finer if PARTS.done(base, each)]
                undone = [each for each in finer if each not in done]
                if done and undone:
                    expected = done[0], undone[0]
                    break
            self.assertEqual(doubtful(base, classes), expected, (base, classes))

    def test_edges(self):
        for classes in OF_FOUR:
            for base in (NEVER, ALWAYS):
                self.assertIs(is_told(base, classes), True)
                self.assertIsNone(doubtful(base, classes))
        for base in SMALL:
            self.assertIs(is_told(base, ()), True)
            self.assertIsNone(doubtful(base, ()))
        self.assertEqual(doubtful((("b",),), (("b", "c"),)), (("b",), ("c",)))
        self.assertEqual(doubtful((("c",),), (("b", "c"),)), (("c",), ("b",)))


class Classes(unittest.TestCase):
    def test_is_finer(self):
        for one, other in itertools.product(OF_FOUR, repeat=2):
            expected = all(any(set(names) <= set(each) for each in other) for names in one)
            self.assertIs(is_finer(one, other), expected, (one, other))

    def test_joined_and_shared(self):
        for one, other in itertools.product(OF_FOUR, repeat=2):
            above = [each for each in OF_FOUR if is_finer(one, each) and is_finer(other, each)]
            below = [each for each in OF_FOUR if is_finer(each, one) and is_finer(each, other)]
            finest, widest = joined(one, other), shared(one, other)
            self.assertIs(is_classes(finest) and is_classes(widest), True)
            self.assertTrue(finest in above and all(is_finer(finest, each) for each in above), (one, other))
            self.assertTrue(widest in below and all(is_finer(each, widest) for each in below), (one, other))

    def test_edges(self):
        for classes in OF_FOUR:
            self.assertEqual([joined(classes, ()), joined((), classes), shared(classes, ()), shared((), classes)],
                             [classes, classes, (), ()])
            self.assertEqual([joined(classes, classes), shared(classes, classes)], [classes, classes])
            self.assertEqual([is_finer((), classes), is_finer(classes, ()), is_finer(classes, classes)],
                             [True, classes == (), True])
        chain = (("a", "b"), ("c", "d"), ("e", "f"))
        self.assertEqual(joined(chain, (("b", "c"), ("d", "e"))), (("a", "b", "c", "d", "e", "f"),))
        self.assertEqual(joined((("c", "z"),), (("a", "d"), ("b", "z"))), (("a", "d"), ("b", "c", "z")))
        self.assertEqual(shared((("a", "f", "g"), ("b", "c")), (("a", "b", "c"), ("f", "g"))), (("b", "c"), ("f", "g")))
        self.assertEqual(shared((("a", "c", "e"), ("b", "d")), (("a", "b", "c", "d"),)), (("a", "c"), ("b", "d")))


class Coarsest(unittest.TestCase):
    def test_of_all_classes_with_which_the_base_is_told(self):
        bases = SMALL + THREE[::4] + [lifted(base, classes) for base in PARTS.bases("ac", 2)[::2]
                                      for classes in ((("a", "b"),), (("a", "b"), ("c", "d")), (("a", "d"),))]
        some = 0
        for base in bases:
            told = [classes for classes in all_classes(tuple(names_of(base))) if is_told(base, classes)]
            found = coarsest(base)
            self.assertIn(found, told, base)
            self.assertTrue(all(is_finer(classes, found) for classes in told), base)
            some += bool(found)
        self.assertGreater(some, 20)

    def test_edges(self):
        self.assertEqual([coarsest(NEVER), coarsest(ALWAYS), coarsest((("a",),))], [(), (), ()])
        self.assertEqual(coarsest((("a",), ("b",), ("c",))), (("a", "b", "c"),))
        self.assertEqual(coarsest((("d", "e"), ("d", "g"), ("f", "e"), ("f", "g"))), (("d", "f"), ("e", "g")))
        # In the first place they may stand for each other, not in the second one.
        self.assertEqual(coarsest((("a", "a"), ("b", "a"))), ())


if __name__ == "__main__":
    unittest.main()
