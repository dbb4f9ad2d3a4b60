import itertools
import math
import random
import unittest
from fractions import Fraction

from moredone.numbers import (chance, expected, first_sure, growth, how_many, how_many_with, longest_without, nth,
                              number_of)
from moredone.standings import standing
from tests.helpers import Parts, all_logs, as_lists, caught, logs_of_length

PARTS = Parts()
NEVER, ALWAYS = (), ((),)
SMALL = PARTS.bases("ab", 2)
MIDDLE = PARTS.bases("ab", 3)
THREE = PARTS.bases("abc", 2)
CHOOSE = random.Random(31)
SETS = ((), ("a",), ("b",), ("a", "b"), ("a", "b", "c"), ("a", "z"), ("y", "z"))
# Bases with sets of names: names that no word has, and words with names that do not count.
TRIED = [(base, names) for base in SMALL for names in SETS]
TRIED += [(base, ("a", "b")) for base in CHOOSE.sample(MIDDLE, 60)]
TRIED += [(base, CHOOSE.choice(SETS)) for base in CHOOSE.sample(THREE, 80)]
MIXED = ((("a", "b"), ("b", "c", "a"), ("c", "c", "c")), ("a", "b", "c"))
EVEN = (("a", (1, 2)), ("b", (1, 2)))
SHARES = (EVEN, (("a", (1, 1)),), (("b", (1, 1)),), (("a", (1, 3)), ("b", (2, 3))), (("z", (1, 1)),),
          (("a", (2, 5)), ("b", (1, 2)), ("z", (1, 10))), (("a", (1, 7)), ("b", (1, 6)), ("c", (29, 42))))


def done_logs(base, names, length):
    """All logs of so many events of these names that do the base, the least first."""
    return [log for log in logs_of_length(names, length) if PARTS.done(base, log)]


def size(base):
    return sum(len(word) for word in base)


def undone_counts(base, names, length):
    """How many logs of 0, 1, .. events of these names do not do the base, by how far each word has come."""
    found = {(0,) * len(base): 1}
    counts = []
    for _ in range(length + 1):
        found = {key: many for key, many in found.items()
                 if not any(at == len(word) for at, word in zip(key, base))}
        counts.append(sum(found.values()))
        longer = {}
        for key, many in found.items():
            for name in names:
                then = tuple(at + (word[at] == name) for at, word in zip(key, base))
                longer[then] = longer.get(then, 0) + many
        found = longer
    return counts


class HowMany(unittest.TestCase):
    def test_against_all_logs(self):
        for base, names in TRIED:
            for length in range(5):
                self.assertEqual(how_many(base, names, length), len(done_logs(base, names, length)), (base, names))

    def test_long_ones(self):
        for base, names in TRIED[::5] + [MIXED]:
            counts = undone_counts(base, names, 40)
            for length in (7, 20, 40):
                self.assertEqual(how_many(base, names, length), len(names) ** length - counts[length])

    def test_edges(self):
        for names in SETS:
            for length in (0, 1, 5, 200):
                self.assertEqual(how_many(ALWAYS, names, length), len(names) ** length)
                self.assertEqual(how_many(NEVER, names, length), 0)
            for base in SMALL:
                self.assertEqual(how_many(base, names, 0), int(base == ALWAYS))
        # Words with names that do not count are of no use.
        self.assertEqual(how_many((("b",), ("a", "c")), ("a", "c"), 2), 1)


class Nth(unittest.TestCase):
    def test_against_all_logs(self):
        for base, names in TRIED + [MIXED]:
            for length in range(4):
                logs = done_logs(base, names, length)
                self.assertEqual([nth(base, names, length, number) for number in range(len(logs))], logs)
                self.assertEqual([number_of(base, names, log) for log in logs], list(range(len(logs))))

    def test_wrong_numbers(self):
        for base, names in TRIED[::3]:
            for length in range(4):
                many = len(done_logs(base, names, length))
                for number in (-1, many, many + 1, -many - 1, 10 ** 30, -10 ** 30):
                    self.assertEqual(caught(lambda: nth(base, names, length, number)), ("NoLog", number))

    def test_there_and_back(self):
        base, names = MIXED
        for length in (10, 40, 200):
            many = how_many(base, names, length)
            rows = [nth(base, names, length, number) for number in (0, 1, many // 3, many - 1)]
            self.assertEqual(rows, sorted(rows))
            self.assertTrue(all(len(log) == length for log in rows))
            self.assertEqual([number_of(base, names, log) for log in rows], [0, 1, many // 3, many - 1])
            self.assertEqual(caught(lambda: nth(base, names, length, many)), ("NoLog", many))

    def test_edges(self):
        for names in SETS:
            self.assertEqual(nth(ALWAYS, names, 0, 0), ())
            self.assertEqual(number_of(ALWAYS, names, ()), 0)
            self.assertEqual(caught(lambda: nth(ALWAYS, names, 0, 1)), ("NoLog", 1))
            self.assertEqual(caught(lambda: nth(NEVER, names, 3, 0)), ("NoLog", 0))
        self.assertEqual(caught(lambda: nth(ALWAYS, (), 1, 0)), ("NoLog", 0))


class NumberOf(unittest.TestCase):
    def test_wrong_names_are_told_ahead_of_what_is_not_done(self):
        base = (("a", "b"),)
        for log, told in ((("c",), ("NoName", "c")), (("a", "z", "c"), ("NoName", "z")), (("b", "a"), ("NotDone",)),
                          ((), ("NotDone",)), (("a", "b", "x"), ("NoName", "x")), (("a", "B"), ("NoName", "B")),
                          (("b", "a", "d"), ("NoName", "d"))):
            self.assertEqual(caught(lambda: number_of(base, ("a", "b"), log)), told)
            self.assertEqual(caught(lambda: number_of(as_lists(base), ["a", "b"], list(log))), told)
        self.assertEqual(caught(lambda: number_of(ALWAYS, (), ("a",))), ("NoName", "a"))
        # A name of a word does not count if it is none of names.
        self.assertEqual(caught(lambda: number_of(base, ("a",), ("a", "b"))), ("NoName", "b"))

    def test_not_done(self):
        for base, names in TRIED:
            for log in all_logs(names, 3):
                told = None if PARTS.done(base, log) else ("NotDone",)
                self.assertEqual(caught(lambda: number_of(base, names, log)), told)


class HowManyWith(unittest.TestCase):
    def test_against_all_logs(self):
        rows = [(), (("a", 1),), (("a", 3),), (("b", 2),), (("a", 1), ("b", 1)), (("a", 2), ("b", 3)), (("z", 2),),
                (("a", 2), ("b", 1), ("c", 1)), (("a", 1), ("b", 2), ("z", 2)), (("c", 1), ("y", 1), ("z", 1))]
        for base, _ in TRIED[::4] + [MIXED]:
            for counts in rows:
                events = [name for name, number in counts for _ in range(number)]
                logs = set(itertools.permutations(events))
                self.assertEqual(how_many_with(base, counts), sum(PARTS.done(base, log) for log in logs), (base, counts))

    def test_edges(self):
        self.assertEqual([how_many_with(ALWAYS, ()), how_many_with(NEVER, ()), how_many_with((("a",),), ())], [1, 0, 0])
        self.assertEqual(how_many_with(ALWAYS, (("a", 4), ("b", 3))), math.comb(7, 3))
        self.assertEqual(how_many_with(NEVER, (("a", 4),)), 0)


class Sure(unittest.TestCase):
    def test_against_all_logs(self):
        endless = 0
        for base, names in TRIED + [MIXED, ((("a", "a"), ("b", "b", "b"), ("c", "c"), ("a", "b", "c")), ("a", "b", "c"))]:
            lacking = [name for name in names if not any(set(word) <= {name} for word in base)]
            if lacking:
                endless += 1
                self.assertIsNone(first_sure(base, names))
                self.assertEqual(caught(lambda: longest_without(base, names)), ("Endless", lacking[0]))
            else:
                # Longer ones all do it, by what the document says of the words of one name alone.
                undone = [log for log in all_logs(names, 7) if not PARTS.done(base, log)]
                length = max((len(log) for log in undone), default=-1)
                self.assertLess(length, 7)
                self.assertEqual(first_sure(base, names), length + 1, (base, names))
                least = min((log for log in undone if len(log) == length), default=None)
                self.assertEqual(longest_without(base, names), least, (base, names))
        self.assertGreater(endless, 100)

    def test_bound_by_the_words_of_one_name(self):
        for one, two, three in itertools.product(range(1, 5), repeat=3):
            base = tuple(sorted([("a",) * one, ("b",) * two, ("c",) * three], key=lambda word: (len(word), word)))
            most = (one - 1) + (two - 1) + (three - 1)
            self.assertEqual(first_sure(base, ("a", "b", "c")), most + 1)
            self.assertEqual(longest_without(base, ("a", "b", "c")),
                             ("a",) * (one - 1) + ("b",) * (two - 1) + ("c",) * (three - 1))

    def test_edges(self):
        for names in SETS:
            self.assertEqual(first_sure(ALWAYS, names), 0)
            self.assertIsNone(longest_without(ALWAYS, names))
        for base in SMALL:
            if base != ALWAYS:
                self.assertEqual([first_sure(base, ()), longest_without(base, ())], [1, ()])
        self.assertEqual(caught(lambda: longest_without(NEVER, ("b", "c"))), ("Endless", "b"))
        self.assertEqual(caught(lambda: longest_without((("b",), ("d", "e")), ("b", "c", "d"))), ("Endless", "c"))
        # Words with other names are of no use.
        self.assertEqual(first_sure((("a", "a"), ("b", "z")), ("a",)), 2)


class Growth(unittest.TestCase):
    def test_against_the_numbers(self):
        told = set()
        for base, names in TRIED + [MIXED, ((("a", "b", "c", "a", "b"),), ("a", "b", "c")),
                                    ((("a", "b", "a", "b"), ("c", "c")), ("a", "b", "c", "d"))]:
            many, power = growth(base, names)
            counts = undone_counts(base, names, 400)
            told.add((many, power))
            if many == 0:
                self.assertEqual((power, counts[-1]), (0, 0), (base, names))
            else:
                # With another power it would be twice or half as much, with another number far more or less.
                one, other = (Fraction(counts[n], n ** power * many ** n) for n in (200, 400))
                self.assertTrue(Fraction(3, 4) < other / one < Fraction(4, 3), (base, names, many, power))
        self.assertGreater(len(told), 7)

    def test_in_the_words_of_the_document(self):
        for base, names in TRIED:
            base = tuple(word for word in base if set(word) <= set(names))
            idle = {}

            def rows(left):
                """The rows of standings that come one behind another, from this one on."""
                idle[left] = sum(standing(left, (name,)) == left for name in names)
                later = {standing(left, (name,)) for name in names} - {left, ALWAYS}
                return [(left,)] + [(left,) + row for each in later for row in rows(each)]

            found = rows(base) if base != ALWAYS else []
            many = max(idle.values(), default=0)
            power = max((sum(idle[left] == many for left in row) for row in found), default=1) - 1
            self.assertEqual(growth(base, names), (many, power if many else 0), (base, names))

    def test_edges(self):
        for names in SETS:
            self.assertEqual(growth(ALWAYS, names), (0, 0))
            self.assertEqual(growth(NEVER, names), (len(names), 0))
        for base in SMALL:
            self.assertEqual(growth(base, ()), (0, 0))
        self.assertEqual(growth((("a",) * 12,), ("a", "b")), (1, 11))
        self.assertEqual(growth((("a", "z"), ("b", "b")), ("a", "b")), (1, 1))


class Chance(unittest.TestCase):
    def weight(self, log, shares):
        parts = {name: Fraction(*share) for name, share in shares}
        return math.prod([parts[event] for event in log], start=Fraction(1))

    def test_against_all_logs(self):
        for base in SMALL + [base for base, _ in TRIED[-120::6]] + [MIXED[0]]:
            for shares in SHARES:
                names = [name for name, _ in shares]
                for length in range(4):
                    told = sum((self.weight(log, shares) for log in done_logs(base, names, length)), Fraction(0))
                    self.assertEqual(chance(base, shares, length), (told.numerator, told.denominator))

    def test_of_even_shares(self):
        for base, names in TRIED + [MIXED]:
            if names:
                shares = tuple((name, (1, len(names))) for name in names)
                for length in (0, 3, 40):
                    told = Fraction(how_many(base, names, length), len(names) ** length)
                    self.assertEqual(chance(base, shares, length), (told.numerator, told.denominator))

    def test_edges(self):
        for shares in SHARES:
            for length in (0, 1, 40):
                self.assertEqual([chance(ALWAYS, shares, length), chance(NEVER, shares, length)], [(1, 1), (0, 1)])
            self.assertEqual(chance((("x",),), shares, 5), (0, 1))
        self.assertEqual(chance((("a",),), SHARES[1], 1), (1, 1))
        self.assertEqual(chance((("a",),), EVEN, 0), (0, 1))


class Expected(unittest.TestCase):
    def test_against_what_is_not_done_yet_added_up(self):
        for base in SMALL + [base for base, _ in TRIED[-120::6]] + [MIXED[0]]:
            for shares in SHARES:
                names = {name for name, _ in shares}
                found = expected(base, shares)
                if not any(set(word) <= names for word in base):
                    self.assertIsNone(found)
                else:
                    self.assertEqual(math.gcd(*found), 1)
                    self.assertGreater(found[1], 0)
                    added = self.added(base, shares)
                    self.assertLess(abs(found[0] / found[1] - added), 1e-6 * (1 + added), (base, shares))

    def added(self, base, shares):
        """The chances that 0, 1, 2, .. events do not do the base, added up for many events."""
        likely = {(0,) * len(base): 1.0}
        total = 0.0
        for _ in range(400):
            likely = {key: part for key, part in likely.items()
                      if not any(at == len(word) for at, word in zip(key, base))}
            total += sum(likely.values())
            longer = {}
            for key, part in likely.items():
                for name, (top, bottom) in shares:
                    then = tuple(at + (word[at] == name) for at, word in zip(key, base))
                    longer[then] = longer.get(then, 0.0) + part * top / bottom
            likely = longer
        return total

    def test_of_one_word(self):
        # Each event of it takes as many as its share goes into one.
        for word in all_logs("abc", 4):
            shares = (("a", (1, 2)), ("b", (1, 3)), ("c", (1, 6)))
            told = sum({"a": 2, "b": 3, "c": 6}[event] for event in word)
            self.assertEqual(expected((word,), shares), (told, 1))

    def test_edges(self):
        for shares in SHARES:
            self.assertEqual(expected(ALWAYS, shares), (0, 1))
            self.assertIsNone(expected(NEVER, shares))
            self.assertIsNone(expected((("x",), ("a", "x")), shares))
        self.assertEqual(expected((("a",), ("b",)), EVEN), (1, 1))
        self.assertEqual(expected((("a", "x"), ("b", "b")), EVEN), (4, 1))
        self.assertEqual(expected((("a",),), (("a", (1, 1000)), ("b", (999, 1000)))), (1000, 1))


if __name__ == "__main__":
    unittest.main()
