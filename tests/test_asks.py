import itertools
import random
import unittest

from moredone.asks import Finder, paper, shows
from moredone.bases import is_base, is_inside
from tests.helpers import Parts, all_logs, caught, key, subsets

PARTS = Parts()
NEVER, ALWAYS = (), ((),)
# Names, how many events words have at most, and all bases of that kind.
SPACES = [((), 0), ((), 3), (("a",), 0), (("a",), 1), (("a",), 4), (("a", "b"), 0), (("a", "b"), 1), (("a", "b"), 2),
          (("a", "b", "c"), 1), (("b", "d"), 2), (("a", "b", "c", "d"), 1)]
BASES = {space: PARTS.bases(*space) for space in SPACES}
MIDDLE, THREE = PARTS.bases("ab", 3), PARTS.bases("abc", 2)


class Known:
    """What answers tell, by trying all bases."""

    def __init__(self, bases):
        self.fitting = list(bases)

    def after(self, log, done):
        return [base for base in self.fitting if PARTS.done(base, log) == done]

    def greatest(self):
        return [base for base in self.fitting if all(is_inside(other, base) for other in self.fitting)]

    def forced(self, greatest):
        return tuple(word for word in greatest if all(PARTS.done(base, word) for base in self.fitting))

    def sure(self, log):
        told = {PARTS.done(base, log) for base in self.fitting}
        return told.pop() if len(told) == 1 else None


def rounds(many):
    """Rows of asks with answers, most of them those of some base, in each space."""
    choose = random.Random(21)
    for space, bases in list(BASES.items()) + [((("a", "b"), 3), MIDDLE), ((("a", "b", "c"), 2), THREE)]:
        for _ in range(many):
            hidden = choose.choice(bases)
            logs = choose.sample(all_logs(space[0], 4 if len(space[0]) < 3 else 3), min(8, 4 ** len(space[0])))
            yield space, bases, [(log, PARTS.done(hidden, log) != (choose.random() < 0.1)) for log in logs]


class Answers(unittest.TestCase):
    def test_against_all_bases_that_fit(self):
        gainsaid = found = 0
        for (names, most), bases, asks in rounds(25):
            finder, known = Finder(names, most), Known(bases)
            for log, done in asks:
                self.check(finder, known, names, most)
                left = known.after(log, done)
                before = finder.asks()
                if left:
                    self.assertIsNone(finder.answered(log, done))
                    known.fitting = left
                    self.assertEqual(finder.asks(), before + [(log, done)] * ((log, done) not in before))
                else:
                    gainsaid += 1
                    self.assertEqual(caught(lambda: finder.answered(log, done)), ("Gainsaid", log))
                    self.assertEqual(finder.asks(), before)
            self.check(finder, known, names, most)
            found += finder.found() is not None
        self.assertGreater(gainsaid, 20)
        self.assertGreater(found, 40)

    def check(self, finder, known, names, most):
        greatest = finder.greatest()
        self.assertEqual([greatest], known.greatest())
        self.assertEqual(finder.forced(), known.forced(greatest))
        only = len(known.fitting) == 1
        self.assertEqual(finder.found(), known.fitting[0] if only else None)
        another = finder.another()
        if only:
            self.assertIsNone(another)
        else:
            self.assertIn(another, known.fitting)
            self.assertNotEqual(another, greatest)
        logs = all_logs(names, min(most + 1, 4))
        for log in logs:
            self.assertIs(finder.sure(log), known.sure(log))
        # No log with more events is the least one.
        self.assertEqual(finder.next_ask(), next((log for log in logs if known.sure(log) is None), None))

    def test_who_asks_on_finds_the_base(self):
        for (names, most), bases, step in [(*each, 1) for each in BASES.items()] + [((("a", "b"), 3), MIDDLE, 9)]:
            for hidden in bases[::step]:
                finder = Finder(names, most)
                last = len(bases) + 1
                while finder.found() is None:
                    log = finder.next_ask()
                    self.assertLessEqual(len(log), most)
                    finder.answered(log, PARTS.done(hidden, log))
                    left = sum(all(PARTS.done(base, log) == done for log, done in finder.asks()) for base in bases)
                    self.assertLess(left, last)
                    last = left
                self.assertEqual(finder.found(), hidden)
                self.assertIsNone(finder.next_ask())
                self.assertLessEqual(len(finder), len(all_logs(names, most)))

    def test_longer_asks_and_other_words(self):
        finder = Finder(("a", "b"), 2)
        finder.answered(("a",) * 40, False)
        self.assertEqual(finder.greatest(), (("b",),))
        finder.answered(("a", "b") * 20, True)
        self.assertEqual([finder.forced(), finder.found()], [(), None])
        self.assertIs(finder.sure(("b",) * 40), None)
        self.assertIs(finder.sure(("a",) * 40), False)
        # It may have the word a b alone, or b a, or b b: so it is done by a log that has all of these as parts.
        for log, sure in (("ba", None), ("aab", None), ("bba", None), ("abba", True), ("bab", True)):
            self.assertIs(finder.sure(tuple(log)), sure, log)

    def test_edges(self):
        finder = Finder((), 4)
        self.assertEqual([finder.greatest(), finder.forced(), finder.found(), finder.another(), finder.sure(()),
                          finder.next_ask()], [ALWAYS, (), None, NEVER, None, ()])
        finder.answered((), False)
        self.assertEqual([finder.greatest(), finder.forced(), finder.found(), finder.another(), finder.sure(()),
                          finder.next_ask()], [NEVER, (), NEVER, None, False, None])
        finder = Finder(("a", "b"), 0)
        finder.answered(("a", "b"), True)
        self.assertEqual([finder.greatest(), finder.forced(), finder.found()], [ALWAYS] * 3)
        self.assertEqual([finder.sure(()), finder.sure(("b",)), finder.next_ask()], [True, True, None])


class Wrong(unittest.TestCase):
    def test_names(self):
        finder = Finder(("a", "b"), 2)
        finder.answered(("a",), False)
        for log, name in ((("c",), "c"), (("a", "z", "c"), "z"), (("B",), "B"), (("ab", "a"), "ab"), (("a", ""), "")):
            for done in (True, False):
                self.assertEqual(caught(lambda: finder.answered(log, done)), ("NoName", name))
            self.assertEqual(caught(lambda: finder.sure(log)), ("NoName", name))
        self.assertEqual(finder.asks(), [(("a",), False)])
        self.assertEqual(caught(lambda: Finder((), 0).answered(["a"], True)), ("NoName", "a"))
        self.assertEqual(caught(lambda: Finder((), 0).sure(["a"])), ("NoName", "a"))

    def test_names_are_tried_ahead_of_what_fits(self):
        finder = Finder(("a",), 1)
        finder.answered((), True)
        self.assertEqual(caught(lambda: finder.answered(("a", "b"), False)), ("NoName", "b"))
        self.assertEqual(caught(lambda: finder.answered(("a", "a"), False)), ("Gainsaid", ("a", "a")))

    def test_gainsaid(self):
        finder = Finder(("a", "b"), 1)
        finder.answered(("a",), True)
        for log, done in ((("a",), False), (("a", "b"), False), (["a", "a"], False)):
            self.assertEqual(caught(lambda: finder.answered(log, done)), ("Gainsaid", tuple(log)))
        finder.answered((), False)
        # The other way about: a word with one event is not enough for what is done by no log with one.
        finder.back()
        finder.back()
        finder.answered(("a",), False)
        finder.answered(("b",), False)
        self.assertEqual(caught(lambda: finder.answered(("a", "b"), True)), ("Gainsaid", ("a", "b")))
        self.assertEqual(finder.asks(), [(("a",), False), (("b",), False)])
        self.assertEqual(caught(lambda: Finder(("a",), 0).answered(("a",), True)), None)

    def test_back(self):
        finder = Finder(("a", "b"), 2)
        self.assertEqual(caught(finder.back), ("NothingDone",))
        finder.answered(("a",), False)
        self.assertIsNone(finder.back())
        self.assertEqual(caught(finder.back), ("NothingDone",))
        self.assertEqual([finder.asks(), len(finder), finder.greatest()], [[], 0, ALWAYS])


class Asks(unittest.TestCase):
    def test_in_the_order_in_which_they_came(self):
        rows = [(("b",), False), (("a", "a"), True), ((), False), (("a",), False)]
        finder = Finder(("a", "b"), 2)
        for at, (log, done) in enumerate(rows):
            self.assertEqual([finder.asks(), len(finder)], [rows[:at], at])
            finder.answered(log, done)
        for log, done in rows + rows[::-1]:
            self.assertIsNone(finder.answered(log, done))
            self.assertEqual([finder.asks(), len(finder)], [rows, 4])
        for at in range(3, -1, -1):
            self.assertIsNone(finder.back())
            self.assertEqual([finder.asks(), len(finder)], [rows[:at], at])

    def test_back_leads_to_what_was(self):
        for (names, most), _, asks in rounds(6):
            finder = Finder(names, most)
            states = []
            for log, done in asks:
                state = (finder.asks(), finder.greatest(), finder.forced(), finder.next_ask(), finder.another())
                if caught(lambda: finder.answered(log, done)) is None:
                    states.append(state)
            while states:
                finder.back()
                self.assertEqual((finder.asks(), finder.greatest(), finder.forced(), finder.next_ask(),
                                  finder.another()), states.pop())

    def test_lists_are_new_and_nothing_is_shared(self):
        names, log = ["a", "b"], ["a"]
        finder = Finder(names, 2)
        finder.answered(log, False)
        names.append("c")
        log.append("b")
        self.assertEqual(finder.asks(), [(("a",), False)])
        self.assertEqual(caught(lambda: finder.sure(("c",))), ("NoName", "c"))
        finder.asks().append("more")
        self.assertEqual([finder.asks(), len(finder)], [[(("a",), False)], 1])
        self.assertIsNot(finder.asks(), finder.asks())

    def test_questions_change_nothing(self):
        finder = Finder(("a", "b"), 2)
        finder.answered(("a",), False)
        told = []
        for _ in range(3):
            told.append((finder.greatest(), finder.forced(), finder.found(), finder.another(), finder.sure(("b",)),
                         finder.next_ask(), finder.asks(), len(finder)))
        self.assertEqual(told, [told[0]] * 3)


class Equal(unittest.TestCase):
    def test_in_whatever_order_they_came(self):
        rows = [(("b",), False), (("a", "a"), True), ((), False)]
        finders = []
        for chosen in itertools.permutations(rows):
            finder = Finder(("a", "b"), 2)
            for log, done in chosen:
                finder.answered(log, done)
            finders.append(finder)
        for one, other in itertools.product(finders, repeat=2):
            self.assertTrue(one == other)
            self.assertFalse(one != other)

    def test_others(self):
        def made(names, most, *asks):
            finder = Finder(names, most)
            for log, done in asks:
                finder.answered(log, done)
            return finder

        finders = [made(("a", "b"), 2), made(("a", "b"), 3), made(("a",), 2), made(("a", "c"), 2), made((), 2),
                   made(("a", "b"), 2, (("a",), True)), made(("a", "b"), 2, (("a",), False)),
                   made(("a", "b"), 2, (("b",), True)), made(("a", "b"), 2, (("a",), True), ((), False))]
        for at, one in enumerate(finders):
            for place, other in enumerate(finders):
                self.assertIs(one == other, at == place)
                self.assertIs(one != other, at != place)
        for thing in (None, True, 0, (), [], "a", ("a", "b"), {}, object(), Finder):
            self.assertIs(finders[0] == thing, False)
            self.assertIs(finders[0] != thing, True)
            self.assertIs(thing == finders[0], False)
        self.assertTrue(made(["a", "b"], 2, (["a"], True)) == finders[5])


class Shows(unittest.TestCase):
    def test_whether_another_base_gives_the_same_answers(self):
        choose = random.Random(22)
        shown = 0
        for (names, most), bases in BASES.items():
            logs = all_logs(names, 4 if len(names) < 3 else 2)
            for base in bases:
                for many in (0, 1, 2, 4, 7):
                    asks = tuple(choose.choice(logs) for _ in range(many))
                    expected = not any(base != other and all(PARTS.done(base, log) == PARTS.done(other, log)
                                                             for log in asks) for other in bases)
                    self.assertIs(shows(names, most, base, asks), expected, (base, asks))
                    shown += expected
                self.assertIs(shows(names, most, base, all_logs(names, most)), True)
        self.assertGreater(shown, 30)

    def test_edges(self):
        self.assertIs(shows((), 0, ALWAYS, ()), False)
        self.assertIs(shows((), 0, ALWAYS, ((),)), True)
        self.assertIs(shows((), 2, NEVER, ((), ())), True)
        self.assertIs(shows(("a",), 1, (("a",),), ((), ("a",))), True)


class Paper(unittest.TestCase):
    def fewest(self, base, bases, logs):
        """How few of the logs show the base: of those that part it from the same bases one is enough."""
        parted = {frozenset(other for other in bases if PARTS.done(base, log) != PARTS.done(other, log))
                  for log in logs}
        others = set(bases) - {base}
        for chosen in subsets(sorted(parted, key=sorted)):
            if set().union(*chosen) == others:
                return len(chosen)

    def check(self, names, most, base):
        asks = paper(names, most, base)
        self.assertIs(type(asks), tuple)
        self.assertIs(shows(names, most, base, asks), True)
        self.assertEqual(sorted((log for log in asks if PARTS.done(base, log)), key=key), list(base))
        return len(asks)

    def test_as_few_as_can_be(self):
        for (names, most), bases in BASES.items():
            logs = all_logs(names, 5 if len(names) < 3 else 4)
            for base in bases:
                self.assertEqual(self.check(names, most, base), self.fewest(base, bases, logs), (base, names, most))

    def test_each_of_them_matters(self):
        for names, most, bases in (("ab", 3, MIDDLE[::7]), ("abc", 2, THREE[::11])):
            for base in bases:
                asks = paper(tuple(names), most, base)
                self.check(tuple(names), most, base)
                for at in range(len(asks)):
                    self.assertIs(shows(tuple(names), most, base, asks[:at] + asks[at + 1:]), False)

    def test_logs_that_do_not_do_it_and_are_no_parts_together(self):
        # Each two of these have no log in common that does not do the base.
        base = (("a", "a", "b"), ("a", "b", "a"), ("a", "b", "b"), ("b", "a", "a"), ("b", "a", "b"), ("b", "b", "a"))
        self.assertTrue(is_base(base))
        self.assertEqual(self.check(("a", "b"), 3, base), 6 + 4)
        self.assertEqual(self.check(("a", "b"), 3, (("a", "b"), ("b", "a"))), 2 + 2)
        self.assertEqual(self.check(("a", "b"), 3, (("a",),)), 1 + 1)

    def test_edges(self):
        self.assertEqual([paper((), 0, NEVER), paper((), 4, ALWAYS), paper(("a", "b"), 3, ALWAYS)], [((),)] * 3)
        self.assertEqual(len(paper(("a", "b"), 3, NEVER)), 1)
        self.assertEqual(len(paper(("a", "b", "c", "d"), 1, (("a",), ("b",)))), 3)


if __name__ == "__main__":
    unittest.main()
