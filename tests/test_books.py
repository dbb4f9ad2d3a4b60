import itertools
import random
import unittest

from moredone.bases import both, either, is_inside
from moredone.books import (brings, gained, gained_at, gained_in_row, gains, is_book, just, made_of, makes, tellers,
                            tells, unclear)
from tests.helpers import KINDS, Parts, all_logs, as_lists, caught, key, subsets

PARTS = Parts()
NEVER, ALWAYS = (), ((),)
SMALL = PARTS.bases("ab", 2)
THREE = PARTS.bases("abc", 2)
CHOOSE = random.Random(61)
BADGES = ("best", "first", "mid", "order", "zeal", "zest")
BOOK = (("any", (("a",), ("b",))), ("each", (("a", "b"), ("b", "a"))), ("first", (("a",),)), ("order", (("a", "b"),)))
MORE = (("four", (("x",),)), ("one", (("x",), ("y",))), ("three", (("x", "y"), ("y", "x"))), ("two", (("y",),)))


def book_of(*bases):
    return tuple(zip(BADGES, bases))


def longest(base):
    return max((len(word) for word in base), default=0)


class Told:
    """What all logs that are long enough gain of a book."""

    def __init__(self, book):
        self.book = book
        names = sorted({name for _, base in book for word in base for name in word})
        self.logs = all_logs(names, sum(longest(base) for _, base in book))
        # The logs are in order: so the first one that gains a set is the least one.
        self.least = {}
        for log in self.logs:
            self.least.setdefault(self.gained(log), log)
        self.sets = sorted(self.least, key=key)

    def gained(self, log):
        return tuple(badge for badge, base in self.book if PARTS.done(base, log))


BOOKS = [(), *[book_of(base) for base in SMALL], *[book_of(*bases) for bases in itertools.product(SMALL[::2], repeat=2)]]
BOOKS += [book_of(*(CHOOSE.choice(SMALL) for _ in range(3))) for _ in range(150)]
BOOKS += [book_of(*(CHOOSE.choice(THREE) for _ in range(2))) for _ in range(60)]
BOOKS += [BOOK, MORE, book_of(NEVER, ALWAYS, SMALL[5], SMALL[5])]
TOLD = [Told(book) for book in BOOKS]


def among(badges, others):
    return tuple(badge for badge in badges if badge in others)


class IsBook(unittest.TestCase):
    def test_right_ones(self):
        for book in BOOKS:
            self.assertIs(is_book(book), True)
            self.assertIs(is_book(book[::-1]), len(book) < 2)
            self.assertIs(is_book(as_lists(book)), False)

    def test_rows_of_entries_of_all_kinds(self):
        entries = [("a", NEVER), ("b", ALWAYS), ("b", (("a",),)), ("ab", NEVER), ("a", (("b",), ("a", "b"))), ("B", NEVER),
                   ("a",), ("a", NEVER, NEVER), ["a", NEVER], ("a", []), ("a", "b"), (1, NEVER), ("a", None), "ab", None,
                   (("a",), NEVER), (NEVER, "a"), ("a", (("a",), ("a",))), ("", NEVER)]
        right = [("a", NEVER), ("ab", NEVER), ("b", ALWAYS), ("b", (("a",),))]
        for many in range(4):
            for thing in itertools.product(entries if many < 3 else entries[:8], repeat=many):
                names = [entry[0] for entry in thing if entry in right]
                told = len(names) == many and names == sorted(set(names))
                self.assertIs(is_book(thing), told, thing)

    def test_things_of_all_kinds(self):
        for thing in KINDS:
            self.assertIs(is_book(thing), thing == () and isinstance(thing, tuple), thing)
        for thing in (BOOK, (("a", ()),)):
            for kind in KINDS:
                self.assertIs(is_book(thing + (kind,)), False)
                self.assertIs(is_book((("zz", kind),)), kind in ((), ((),), (("a",),)) and isinstance(kind, tuple)
                              and not any(isinstance(each, list) for each in kind), kind)

    def test_whatever_the_bounds(self):
        names = [first + second for first in "abcdefghij" for second in "abcdefghij"]
        great = tuple((name, tuple((other,) for other in names)) for name in names)
        self.assertIs(is_book(great), True)
        self.assertIs(is_book(great + great[:1]), False)


class Gained(unittest.TestCase):
    def test_against_all_logs(self):
        for told in TOLD:
            for log in told.logs[:200]:
                self.assertEqual(gained(told.book, log), told.gained(log))
                at = tuple((badge, min(many for many in range(len(log) + 1) if PARTS.done(base, log[:many])))
                           for badge, base in told.book if PARTS.done(base, log))
                self.assertEqual(gained_at(told.book, log), at)

    def test_edges(self):
        self.assertEqual([gained((), ("a",)), gained_at((), ("a",)), gained(BOOK, ()), gained_at(BOOK, ())], [()] * 4)
        book = book_of(ALWAYS, NEVER)
        for log in all_logs("ab", 2):
            self.assertEqual([gained(book, log), gained_at(book, log)], [("best",), (("best", 0),)])
        self.assertEqual(gained_at(BOOK, ("b", "a", "a", "b", "b")), (("any", 1), ("each", 2), ("first", 2), ("order", 4)))


class Brings(unittest.TestCase):
    def test_against_all_logs(self):
        for told in TOLD:
            for badge, _ in told.book:
                expected = tuple(other for other, _ in told.book
                                 if all(other in badges for badges in told.sets if badge in badges))
                self.assertEqual(brings(told.book, badge), expected, told.book)

    def test_edges(self):
        book = book_of(ALWAYS, NEVER, SMALL[4])
        self.assertEqual([brings(book, badge) for badge in BADGES[:3]], [("best",), BADGES[:3], ("best", "mid")])


class Gains(unittest.TestCase):
    def test_against_all_logs(self):
        for told in TOLD:
            found = gains(told.book)
            self.assertIs(type(found), list)
            self.assertEqual(found, told.sets, told.book)

    def test_just(self):
        for told in TOLD:
            bases = dict(told.book)
            for badges in subsets([badge for badge, _ in told.book]):
                found = just(told.book, badges)
                self.assertEqual(found, told.least.get(badges), (told.book, badges))
                if found is not None:
                    every = ALWAYS
                    for badge in badges:
                        every = both(every, bases[badge])
                    self.assertIn(found, every)

    def test_edges(self):
        self.assertEqual([gains(()), just((), ())], [[()], ()])
        self.assertEqual(gains(book_of(ALWAYS)), [("best",)])
        self.assertEqual(gains(book_of(NEVER)), [()])
        self.assertIsNone(just(book_of(ALWAYS), ()))
        self.assertIsNone(just(book_of(NEVER), ("best",)))
        gains(BOOK).clear()
        self.assertEqual(len(gains(BOOK)), 5)


class GainedInRow(unittest.TestCase):
    def test_against_all_logs(self):
        some = 0
        for told in TOLD:
            badges = [badge for badge, _ in told.book]
            for many in range(len(badges) + 1):
                for row in itertools.permutations(badges, many):
                    expected = next((log for log in told.logs if self.is_in_row(told.book, row, log)), None)
                    self.assertEqual(gained_in_row(told.book, row), expected, (told.book, row))
                    some += many > 1 and expected is not None
        self.assertGreater(some, 200)

    def is_in_row(self, book, row, log):
        bases = dict(book)
        if not all(PARTS.done(bases[badge], log) for badge in row):
            return False
        at = [min(many for many in range(len(log) + 1) if PARTS.done(bases[badge], log[:many])) for badge in row]
        return at == sorted(set(at))

    def test_edges(self):
        self.assertEqual([gained_in_row((), ()), gained_in_row(BOOK, ())], [(), ()])
        book = book_of(ALWAYS, (("a",),), ALWAYS, NEVER)
        self.assertEqual(gained_in_row(book, ("best", "first")), ("a",))
        self.assertEqual(gained_in_row(book, ("best",)), ())
        for row in (("first", "best"), ("best", "mid"), ("order",), ("best", "order"), ("best", "mid", "first")):
            self.assertIsNone(gained_in_row(book, row))
        # What is gained at once is gained by no fewer events.
        self.assertIsNone(gained_in_row(book_of((("a",),), (("a",),)), ("best", "first")))


class Tells(unittest.TestCase):
    def test_against_all_logs(self):
        for told in TOLD:
            badges = [badge for badge, _ in told.book]
            for others, badge in itertools.product(subsets(badges), badges):
                having = {among(each, others) for each in told.sets if badge in each}
                lacking = {among(each, others) for each in told.sets if badge not in each}
                self.assertIs(tells(told.book, others, badge), not having & lacking, (told.book, others, badge))
                found = unclear(told.book, others, badge)
                if not having & lacking:
                    self.assertIsNone(found)
                else:
                    one, other = (told.gained(log) for log in found)
                    self.assertEqual([badge in one, badge in other], [True, False])
                    self.assertEqual(among(one, others), among(other, others))
                    self.assertIs(type(found), tuple)

    def test_tellers(self):
        for told in TOLD:
            badges = [badge for badge, _ in told.book]
            telling = [others for others in subsets(badges) if all(tells(told.book, others, badge) for badge in badges)]
            self.assertEqual(tellers(told.book), min(telling, key=key), told.book)

    def test_edges(self):
        self.assertEqual([tellers(()), tellers(book_of(ALWAYS, NEVER)), tellers(book_of((("a",),), (("a",),)))],
                         [(), (), ("best",)])
        self.assertEqual([tells(BOOK, ("any",), "any"), tells(BOOK, (), "any"), tells(book_of(ALWAYS), (), "best")],
                         [True, False, True])


class Makes(unittest.TestCase):
    def test_against_all_logs(self):
        made = 0
        for told in TOLD:
            bases = dict(told.book)
            for others, badge in itertools.product(subsets(list(bases)), bases):
                having = [set(each) & set(others) for each in told.sets if badge in each]
                lacking = [set(each) & set(others) for each in told.sets if badge not in each]
                expected = not any(one <= other for one in having for other in lacking)
                self.assertIs(makes(told.book, others, badge), expected, (told.book, others, badge))
                self.assertIs(self.makes_in_other_words(bases, others, badge), expected)
                if expected:
                    made += bool(others)
                    self.assertIs(tells(told.book, others, badge), True)
                    self.check(bases, others, badge, made_of(told.book, others, badge))
                else:
                    self.assertIsNone(made_of(told.book, others, badge))
        self.assertGreater(made, 500)

    def makes_in_other_words(self, bases, others, badge):
        return all(is_inside(self.all_of(bases, [other for other in others if PARTS.done(bases[other], word)]),
                             bases[badge]) for word in bases[badge])

    def all_of(self, bases, badges):
        every = ALWAYS
        for badge in badges:
            every = both(every, bases[badge])
        return every

    def some_of(self, bases, rows):
        some = NEVER
        for badges in rows:
            some = either(some, self.all_of(bases, badges))
        return some

    def check(self, bases, others, badge, found):
        self.assertEqual(found, tuple(sorted(set(found))))
        self.assertTrue(all(set(chosen) <= set(others) and list(chosen) == sorted(chosen) for chosen in found))
        self.assertEqual(self.some_of(bases, found), bases[badge])
        if len(others) < 4:
            for many in range(len(found)):
                for rows in itertools.combinations(subsets(others), many):
                    self.assertNotEqual(self.some_of(bases, rows), bases[badge])

    def test_as_few_as_can_be(self):
        # Four pairs, none of which can be left out.
        single = [(("a",),), (("b",),), (("c",),), (("d",),)]
        whole = NEVER
        for one, other in ((0, 1), (0, 2), (1, 3), (2, 3)):
            whole = either(whole, both(single[one], single[other]))
        book = book_of(*single, whole)
        found = made_of(book, BADGES[:4], "zeal")
        self.assertEqual(found, (("best", "first"), ("best", "mid"), ("first", "order"), ("mid", "order")))
        # Ascending by comparison: the longer subset stands first.
        book = book_of(*single[:3], either(both(single[0], single[1]), single[2]))
        self.assertEqual(made_of(book, BADGES[:3], "order"), (("best", "first"), ("mid",)))
        pairs = (("best", (("a", "b"), ("b", "a"))), ("each", (("a",), ("b",))), ("mid", (("a",),)), ("zest", (("b",),)))
        self.assertEqual(made_of(pairs, ("each", "mid", "zest"), "best"), (("mid", "zest"),))
        self.assertEqual(made_of(pairs, ("best", "mid", "zest"), "each"), (("mid",), ("zest",)))

    def test_edges(self):
        book = book_of(ALWAYS, NEVER, (("a",),))
        self.assertEqual([made_of(book, (), "best"), made_of(book, (), "first"), made_of(book, (), "mid")],
                         [((),), (), None])
        self.assertEqual([made_of(book, ("mid",), "best"), made_of(book, ("mid",), "first")], [((),), ()])
        self.assertEqual(made_of(book, ("mid",), "mid"), (("mid",),))
        self.assertEqual([makes(book, (), "best"), makes(book, (), "first"), makes(book, ("first",), "mid")],
                         [True, True, False])


class Wrong(unittest.TestCase):
    def test_no_badge(self):
        for book in ((), BOOK, as_lists(BOOK)):
            self.assertEqual(caught(lambda: brings(book, "more")), ("NoBadge", "more"))
            for function in (just, gained_in_row):
                self.assertEqual(caught(lambda: function(book, ("n", "o"))), ("NoBadge", "n"))
            for function in (tells, unclear, makes, made_of):
                self.assertEqual(caught(lambda: function(book, (), "more")), ("NoBadge", "more"))
                # A badge alone is told ahead of those of a set, that stand ahead of it.
                self.assertEqual(caught(lambda: function(book, ("ahead", "more"), "none")), ("NoBadge", "none"))
        for function in (just, gained_in_row):
            self.assertEqual(caught(lambda: function(BOOK, ("any", "z", "zz"))), ("NoBadge", "z"))
            self.assertEqual(caught(lambda: function(BOOK, ["any", "z", "zz"])), ("NoBadge", "z"))
        self.assertEqual(caught(lambda: gained_in_row(BOOK, ("order", "z", "b"))), ("NoBadge", "z"))
        for function in (tells, unclear, makes, made_of):
            self.assertEqual(caught(lambda: function(BOOK, ("any", "b", "c"), "each")), ("NoBadge", "b"))
            self.assertEqual(caught(lambda: function(BOOK, ["any", "b", "c"], "each")), ("NoBadge", "b"))
            self.assertIsNone(caught(lambda: function(BOOK, ("any", "each"), "each")))


if __name__ == "__main__":
    unittest.main()
