"""Calls of coarse, asks, numbers and costs at the bounds of the document give their answers."""

import itertools
import math
import random
import unittest
from fractions import Fraction

from moredone.asks import Finder, paper, shows
from moredone.bases import base_of, does, is_base, is_inside
from moredone.coarse import certain, coarse_log, coarsest, doubtful, is_finer, is_told, joined, lifted, possible, shared
from moredone.costs import are_notes, cheapest, cheapest_put, cheapest_undoing, lines, notes
from moredone.numbers import (chance, expected, first_sure, growth, how_many, how_many_with, longest_without, nth,
                              number_of)
from moredone.standings import standing
from tests.helpers import all_logs, coarse_of, finer_of, has_part
from tests.test_bounds import GREAT, LONG, NAMES
from tests.test_bounds_behind import LOGS_OF_24, TWELVE, base, done

SETS = (("a", "b", "c"), ("d", "e", "f"))
PAIRS = (("a", "b"), ("c", "d"), ("e", "f"))
FOUR = (("a", "g", "h"), ("b", "i", "j"), ("c", "k", "l"), ("d", "e", "f"))
# Bases of six words of four events, the classes, and how many words are certain.
SIX = [("aaaa bbbb cccc dddd eeee ffff", SETS, 2), ("aaab bddb ccfd dcfb ebba fffc", SETS, 0),
       ("aaab cdca dddf eeee fbac fccf", PAIRS, 199), ("eee aaad cccc dbba eaec fddf", PAIRS, 57),
       ("aaa aeae bbfb cccc deee ffff", PAIRS, 3571), ("aada bebb cfcc eeaa eeee ffff", PAIRS, 920),
       ("abcd bcde cdef defa efab fabc", SETS, 0), ("dddd eeee ffff defd edfe feed", FOUR, 1),
       ("aaaf bbbb cfcc dddd eeee ffff", SETS, 727), ("eeee aeae abab bcbc cdcd dede", FOUR, 0)]


class Coarse(unittest.TestCase):
    def test_six_words_of_four_events(self):
        for text, classes, many in SIX:
            words = base(text)
            some, every = possible(words, classes), certain(words, classes)
            self.assertEqual(len(every), many, text)
            self.assertTrue(is_base(some) and is_base(every))
            self.assertIs(is_inside(every, some), True)
            self.assertEqual([coarse_log(word, classes) for word in every], list(every))
            self.assertIs(is_told(words, classes), False)
            with_it, without_it = doubtful(words, classes)
            self.assertEqual(coarse_log(with_it, classes), coarse_log(without_it, classes))
            self.assertEqual([does(words, with_it), does(words, without_it)], [True, False])
            above = lifted(some, classes)
            self.assertTrue(is_inside(words, above) and is_told(above, classes))
            choose = random.Random(51)
            for word in every[::97]:
                for _ in range(30):
                    log = tuple(choose.choice(next((each for each in classes if event in each), (event,)))
                                for event in word)
                    self.assertIs(done(words, log), True)

    def test_lifted(self):
        # Six words of four events, each one of three names.
        words = base("aaaa aaad aada adaa daaa dddd")
        found = lifted(words, SETS)
        self.assertEqual(len(found), 6 * 81)
        self.assertEqual(coarsest(found), SETS)
        self.assertEqual(certain(base("aaaa bbbb cccc"), (SETS[0],)), (("a",) * 10,))

    def test_classes_of_four_sets_of_three(self):
        other = (("a", "b", "z"), ("d", "y", "l"))
        self.assertEqual(joined(FOUR, other), (("a", "b", "g", "h", "i", "j", "z"), ("c", "d", "e", "f", "k", "l", "y")))
        self.assertEqual([shared(FOUR, other), shared(FOUR, FOUR), joined(FOUR, FOUR)], [(), FOUR, FOUR])
        self.assertIs(is_finer(FOUR, joined(FOUR, other)), True)
        self.assertEqual(coarse_log(LONG, FOUR), coarse_of(LONG, FOUR))


class Asks(unittest.TestCase):
    def finder_of(self, names, most, hidden, seed):
        """A finder after sixty asks of forty events and of fewer."""
        choose = random.Random(seed)
        finder = Finder(names, most)
        asks = [tuple(choose.choice(names) for _ in range(length)) for length in [40] * 10 + [12] * 10 + [3, 4] * 20]
        for log in asks:
            finder.answered(log, done(hidden, log))
        return finder

    def test_a_hundred_and_thirty_logs_and_sixty_asks(self):
        for names, most, text in (("abc", 4, "abca bcbb cc aba"), ("abcd", 3, "abc dd bca ada cbd"), ("ab", 4, "abab bb"),
                                  ("a", 4, "aaaa"), ("abcd", 3, "a b c d"), ("abc", 4, "aaaa bbbb cccc")):
            hidden = base(text)
            finder = self.finder_of(tuple(names), most, hidden, 52)
            self.assertLessEqual(len(all_logs(names, most)), 130)
            greatest, forced = finder.greatest(), finder.forced()
            self.assertIs(is_inside(hidden, greatest), True)
            self.assertTrue(all(does(hidden, word) for word in forced))
            another = finder.another()
            if finder.found() is None:
                self.assertTrue(is_inside(another, greatest) and another != greatest)
                for log, answer in finder.asks():
                    self.assertIs(does(another, log), answer)
            log = finder.next_ask()
            if log is not None:
                self.assertIsNone(finder.sure(log))
            for log in (("a",) * 40, tuple(names) * 10, hidden[0]):
                self.assertIn(finder.sure(log), (None, done(hidden, log)))
            shown = shows(tuple(names), most, hidden, [log for log, _ in finder.asks()])
            self.assertIs(shown, finder.found() is not None)

    def test_asking_on(self):
        for names, most, text in (("abc", 4, "abca bcbb cc"), ("abcd", 3, "abc dd bca"), ("ab", 4, "abba baab")):
            hidden = base(text)
            finder = Finder(tuple(names), most)
            while finder.found() is None:
                log = finder.next_ask()
                finder.answered(log, done(hidden, log))
            self.assertEqual(finder.found(), hidden)
            self.assertLessEqual(len(finder), 130)

    def test_paper(self):
        for names, most, text in (("ab", 3, "aab abb bab"), ("ab", 3, "aba bab"), ("abc", 2, "ab ba ca"), ("a", 4, "aaa"),
                                  ("abc", 2, "aa bb cc"), ("abcd", 1, "b d"), ("abc", 2, "ab bc ca"), ("abc", 2, "ac")):
            hidden = base(text)
            asks = paper(tuple(names), most, hidden)
            self.assertIs(shows(tuple(names), most, hidden, asks), True)
            for at in range(len(asks)):
                self.assertIs(shows(tuple(names), most, hidden, asks[:at] + asks[at + 1:]), False)


class Numbers(unittest.TestCase):
    def test_two_hundred_events_of_six_names(self):
        names = tuple("abcdef")
        for words in TWELVE:
            many = how_many(words, names, 200)
            self.assertTrue(0 < many <= 6 ** 200)
            for number in (0, many // 2, many - 1):
                log = nth(words, names, 200, number)
                self.assertEqual(number_of(words, names, log), number)
                self.assertIs(done(words, log), True)
            self.assertEqual(many, 6 * how_many(words, names, 199) + self.newly_done(words, names, 200))
            power, rows = growth(words, names)
            self.assertTrue(0 <= power <= 6 and 0 <= rows <= 12)

    def newly_done(self, words, names, length):
        """How many logs of so many events do it, but not without their last event: by what is left at the end."""
        ahead = {words: 1}
        for _ in range(length - 1):
            longer = {}
            for left, many in ahead.items():
                for name in names:
                    later = standing(left, (name,))
                    longer[later] = longer.get(later, 0) + many
            ahead = longer
        return sum(many * sum((name,) in left for name in names) for left, many in ahead.items())

    def test_how_many_with(self):
        rows = [tuple((name, 1) for name in "abcdefghijkl"), tuple((name, 3) for name in "abcdef"),
                (("a", 63), ("b", 63)), (("a", 15), ("b", 15), ("c", 15)), (("a", 4095),), tuple((name, 7) for name in "abcd")]
        for counts in rows:
            self.assertLessEqual(math.prod(number + 1 for _, number in counts), 4096)
            every = math.factorial(sum(number for _, number in counts))
            for _, number in counts:
                every //= math.factorial(number)
            for words in TWELVE[:1] + TWELVE[2:6]:
                if counts[0][1] < 4095:
                    self.assertTrue(0 <= how_many_with(words, counts) <= every)
            self.assertEqual(how_many_with((("a",),), counts), every)
        self.assertEqual(how_many_with(base("ab"), rows[2]), math.comb(126, 63) - 1)
        self.assertEqual(how_many_with(base("abcdefghijkl"[:8]), rows[0]), math.factorial(12) // math.factorial(8))

    def test_first_sure(self):
        self.assertEqual(first_sure(base("aa bb cc dd ee ff"), tuple("abcdef")), 7)
        self.assertEqual(longest_without(base("aa bb cc dd ee ff"), tuple("abcdef")), tuple("abcdef"))
        self.assertEqual(first_sure(base("aaaaaa bbbbbb"), ("a", "b")), 11)
        self.assertEqual(first_sure(base("a bcdefbcdefb"), ("a",)), 1)
        self.assertEqual(growth((tuple("abcdefabcdef"),), tuple("abcdef")), (5, 11))

    def test_chance_and_expected(self):
        shares = [("a", (1, 997)), ("b", (1, 991)), ("c", (1, 983)), ("d", (1, 977)), ("e", (1, 971))]
        left = 1 - sum(Fraction(*share) for _, share in shares)
        even = tuple((name, (1, 6)) for name in "abcdef")
        for words in TWELVE:
            for each in (even, (*shares, ("f", (left.numerator, left.denominator)))):
                found = expected(words, each)
                self.assertEqual(math.gcd(*found), 1)
                # As many as the shortest word has, or more, and no more than the word that comes soonest alone.
                parts = {name: Fraction(*share) for name, share in each}
                alone = [sum(1 / parts[event] for event in word) for word in words]
                self.assertTrue(min(len(word) for word in words) <= Fraction(*found) <= min(alone))
                row = [Fraction(*chance(words, each, length)) for length in (0, 1, 20, 40)]
                self.assertEqual(row, sorted(row))
            self.assertEqual(Fraction(*chance(words, even, 40)), Fraction(how_many(words, tuple("abcdef"), 40), 6 ** 40))


class Costs(unittest.TestCase):
    COSTS = (("a", 10 ** 12), ("b", 10 ** 12 - 1), ("c", 7), ("d", 0), ("e", 123456789), ("f", 1))
    ALONE = (("a", 5), ("c", 1), ("d", 2))

    def test_24_words_and_40_events(self):
        costs = tuple(sorted((name, 10 ** 12 - len(name) * 7 + at) for at, name in enumerate(NAMES)))
        for cut in (0, 1, 3, 40):
            log = LONG[:cut]
            found = cheapest(GREAT, log, costs)
            told = dict(costs)
            rows = [(sum(told[event] for event in word), len(word), word) for word in standing(GREAT, log)]
            self.assertEqual(found, min((price, word) for price, length, word in rows if (price, length) == min(rows)[:2]))
            for name in NAMES:
                lowest = lines(GREAT, log, costs, name)
                self.assertEqual([times for _, _, times in lowest],
                                 sorted({times for _, _, times in lowest}, reverse=True))
                at = max(place for place, (start, _, _) in enumerate(lowest) if Fraction(*start) <= told[name])
                self.assertEqual(lowest[at][1] + lowest[at][2] * told[name], found[0])

    def test_size_twelve_and_24_events(self):
        for words, log, costs in itertools.product(TWELVE, LOGS_OF_24, (self.COSTS, self.ALONE)):
            told = dict(costs)
            for each in (log, log[:5], ()):
                put = cheapest_put(words, each, costs)
                if done(words, each):
                    self.assertEqual(put, (0, each))
                elif put is not None:
                    self.assertTrue(done(words, put[1]) and has_part(each, put[1]))
                    self.assertLessEqual(len(put[1]), len(each) + 12)
            way = cheapest_undoing(words, log, costs)
            if way is None:
                # What cannot be lost does it alone.
                self.assertIs(done(words, tuple(event for event in log if event not in told)), True)
                continue
            price, left = way
            self.assertTrue(has_part(left, log) and not done(words, left))
            self.assertEqual(price, sum(told.get(event, 0) for event in log) - sum(told.get(event, 0) for event in left))
            found = notes(words, log, costs)
            self.assertIs(are_notes(words, log, costs, price, found), True)
            self.assertIs(are_notes(words, log, costs, price + 1, found), False)


if __name__ == "__main__":
    unittest.main()
