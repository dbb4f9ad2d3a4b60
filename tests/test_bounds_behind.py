"""Calls of standings, losses, weaves and leads at the bounds of the document give their answers."""

import itertools
import math
import random
import unittest

from moredone.bases import base_of, both, does, is_base, is_inside, names_in, outside, then, times
from moredone.leads import amid, is_split, lead, pairs, rest_of, splits
from moredone.losses import fewest_losses, hardened, idle, kernel, needed, setback, withstands, without
from moredone.standings import (further, helped, helpful, is_ahead, longest_helping, moves, parting_end, same, standing,
                                standings)
from moredone.weaves import (apart, apart_times, beside, how_many_orders, in_every, in_some, is_order, is_taken,
                             is_weaving, latest, most_apart, order_with, order_without, soonest, taken, woven)
from tests.helpers import at_places, has_part, key, without_places
from tests.test_bounds import GREAT, LONG, NAMES, words_of

ALWAYS = ((),)
CHOOSE = random.Random(20)


def base(text):
    """The base of the words of single letters that are written so."""
    return base_of([tuple(word) for word in text.split()])


# Bases of size 12, with few names and with six.
TWELVE = [base(text) for text in (
    "ab cd ef ba dc fe", "abc def bca efd", "abcd cdef efab", "abcdef fedcba", "abcdefabcdef", "aabbab bbaaba",
    "a bcdefbcdefb", "a b c d e ffffff", "abab baba cccc", "abca bcab cabc", "aaaaaaaaaaaa", "ab ba cc dd ef fe",
    "abc acb bac bca", "aab bba ccd ddc")]
LOGS_OF_24 = [tuple(CHOOSE.choice("abcdef") for _ in range(24)) for _ in range(3)]
LOGS_OF_24 += [tuple("abcdef" * 4), tuple("fedcba" * 4), ("a",) * 24, tuple("ab" * 12)]


def done(words, log):
    return any(has_part(word, log) for word in words)


class Standings(unittest.TestCase):
    def test_bases_of_24_words_and_logs_of_40_events(self):
        other = LONG[::-1]
        for cut in (0, 3, 10, 40):
            one, two = LONG[:cut], other[:cut]
            left = standing(GREAT, one)
            self.assertIs(is_base(left), True)
            self.assertIs(does(left, GREAT[5]), True)
            self.assertEqual(helpful(GREAT, one), tuple(sorted({word[0] for word in left if word})))
            self.assertEqual(further(GREAT, one), left[0])
            places = helped(GREAT, one)
            self.assertEqual(standing(GREAT, at_places(one, places)), left)
            self.assertIs(is_ahead(GREAT, (), one), True)
            self.assertIs(is_ahead(GREAT, one, two), is_inside(left, standing(GREAT, two)))
            self.assertIs(same(GREAT, one, two), left == standing(GREAT, two))
            end = parting_end(GREAT, one, two)
            if end is not None:
                self.assertNotEqual(does(GREAT, one + end), does(GREAT, two + end))

    def test_size_twelve(self):
        for words in TWELVE:
            found = standings(words)
            self.assertEqual(found, sorted(set(found)))
            self.assertIn(words, found)
            self.assertIn(ALWAYS, found)
            for begun, name, later in moves(words):
                self.assertEqual(standing(begun, (name,)), later)
                self.assertNotEqual(begun, later)
            log = longest_helping(words)
            self.assertEqual(helped(words, log), tuple(range(len(log))))
            self.assertEqual(found, sorted(self.told_standings(words)))
        self.assertEqual(len(standings(base("ab cd ef ba dc fe"))), 28)
        self.assertEqual([len(longest_helping(words)) for words in TWELVE[4:8]], [12, 8, 11, 6])
        self.assertEqual(len(standings(base("aaaaaaaaaaaa"))), 13)

    def told_standings(self, words):
        """By how far each of the words can be: rests of which another one is a part are left out."""
        reached, left = set(), [(0,) * len(words)]
        while left:
            places = left.pop()
            if places not in reached:
                reached.add(places)
                left += [tuple(at + (word[at:at + 1] == (name,)) for word, at in zip(words, places)) for name in "abcdef"]
        rests = [{word[at:] for word, at in zip(words, places)} for places in reached]
        return {tuple(sorted((log for log in logs if not any(each != log and has_part(each, log) for each in logs)),
                             key=key)) for logs in rests}


class Losses(unittest.TestCase):
    def test_needed_and_idle_of_24_words_and_40_events(self):
        for words in (GREAT, GREAT[:1], words_of(8, 24, "ab", 21)):
            for log in (LONG, LONG[:20], ("a", "b") * 20, words[0] + ("z",) * 32):
                places = tuple(at for at in range(len(log)) if done(words, log) and not done(words, log[:at] + log[at + 1:]))
                self.assertEqual(needed(words, log), places)
                left = idle(words, log)
                self.assertIs(done(words, without_places(log, left)), done(words, log))
                self.assertFalse(set(left) & set(places))
                self.assertEqual(without(log, left), without_places(log, left))
        log = GREAT[0] + ("z",) * 32
        self.assertEqual((needed(GREAT, log), idle(GREAT, log)), (tuple(range(8)), tuple(range(8, 40))))
        self.assertEqual(without(LONG, range(-5, 60, 2)), LONG[::2])

    def test_size_twelve_and_logs_of_24(self):
        for words, log in itertools.product(TWELVE, LOGS_OF_24):
            lost = fewest_losses(words, log)
            self.assertIs(done(words, without_places(log, lost)), False)
            # Each of them matters, and fewer are not enough: what is left is done without any one of them lost.
            for at in lost:
                self.assertIs(done(words, without_places(log, [each for each in lost if each != at])), True)
            for many in (0, 1, len(lost), 24, 10 ** 30):
                self.assertIs(withstands(words, log, many), many < len(lost))
            kept = kernel(words, log)
            self.assertEqual(standing(words, at_places(log, kept)), standing(words, log))
            self.assertLessEqual(len(kept), len(helped(words, log)))
            back = setback(words, log)
            if back is None:
                self.assertEqual(standing(words, log), words)
            else:
                self.assertNotEqual(standing(words, without_places(log, back)), standing(words, log))
                self.assertLessEqual(len(back), len(lost) or 24)

    def test_numbers_of_losses(self):
        log = tuple("abcdef" * 4)
        self.assertEqual(len(fewest_losses(base("abcdef fedcba"), log)), 4)
        self.assertEqual(len(fewest_losses(base("aaaaaaaaaaaa"), ("a",) * 24)), 13)
        self.assertEqual(len(fewest_losses(base("a b c d e ffffff"), log)), 20)
        self.assertEqual(len(kernel(base("aaaaaaaaaaaa"), ("a",) * 24)), 12)
        self.assertEqual(len(kernel(base("abcdefabcdef"), log)), 12)
        self.assertEqual(len(setback(base("aaaaaaaaaaaa"), ("a",) * 24)), 13)

    def test_hardened(self):
        for text, many, count in (("abcdef", 1, 132), ("ab cd ef", 1, 24), ("abcd", 2, 462), ("abc", 3, 462),
                                  ("ab", 5, 132), ("a", 11, 1), ("a b", 5, 64), ("a b c d e f", 1, 36)):
            words = base(text)
            found = hardened(words, many)
            self.assertEqual(len(found), count, text)
            self.assertIs(is_base(found), True)
            for log in found[::5]:
                self.assertIs(withstands(words, log, many), True)
                for at in range(len(log)):
                    self.assertIs(withstands(words, log[:at] + log[at + 1:], many), False)
        for text, many in (("abc def", 1), ("aba bab", 1), ("ab bc ca", 1), ("ab cd", 2), ("ab c", 3), ("abab", 2)):
            words = base(text)
            found = hardened(words, many)
            self.assertEqual(hardened(hardened(words, 1), many - 1), found)
            for log in LOGS_OF_24 + [log[:10] for log in LOGS_OF_24]:
                self.assertIs(does(found, log), withstands(words, log, many))
        self.assertEqual([hardened((), 11), hardened(ALWAYS, 11)], [(), ALWAYS])


class Weaves(unittest.TestCase):
    SIX = (tuple("abcdef"), tuple("fedcba"), tuple("aabbcc"))

    def test_three_sources_of_six_events(self):
        every = math.factorial(18) // math.factorial(6) ** 3
        sources = [self.SIX, tuple(log[:6] for log in LOGS_OF_24[:3]), (("a",) * 6,) * 3, (LONG[:18],),
                   (LONG[:9], LONG[9:18]), (tuple("abcdef" * 2), tuple("ab"), tuple("fedc"))]
        for words, logs in itertools.product(TWELVE, sources):
            with_it, without_it = order_with(words, logs), order_without(words, logs)
            many, whole = how_many_orders(words, logs)
            if [len(log) for log in logs] == [6, 6, 6]:
                self.assertEqual(whole, every)
            self.assertEqual([in_some(words, logs), in_every(words, logs)], [many > 0, many == whole])
            self.assertEqual([with_it is None, without_it is None], [many == 0, many == whole])
            for order, is_done in ((with_it, True), (without_it, False)):
                if order is not None:
                    self.assertIs(is_order(logs, (), order), True)
                    self.assertIs(done(words, woven(logs, order)), is_done)
                    self.assertIs(is_weaving(logs, woven(logs, order)), True)
            first, last = soonest(words, logs), latest(words, logs)
            self.assertEqual([first is None, last is None], [many == 0, many < whole])
            if first is not None:
                self.assertGreaterEqual(first, min(len(word) for word in words))
                self.assertLessEqual(first, last or 18)

    def test_known(self):
        # Each event of the first source right ahead of the one of the second, and this ahead of one of the third.
        known = tuple(((source, at), (source + 1, at)) for at in range(6) for source in range(2))
        # Standard tableaux of 3 rows and 6 columns.
        self.assertEqual(how_many_orders(ALWAYS, self.SIX, known), (87516, 87516))
        row = [((source, at), ((source + 1) % 3, at + source // 2)) for at in range(6) for source in range(3)][:-1]
        self.assertEqual(how_many_orders(base("af"), self.SIX, row), (1, 1))
        order = (0, 1, 2) * 6
        self.assertEqual(order_with(base("af"), self.SIX, row), order)
        self.assertIs(is_order(self.SIX, row, order), True)
        self.assertIs(is_weaving(self.SIX, woven(self.SIX, order), row), True)
        self.assertIs(is_weaving(self.SIX, woven(self.SIX, order[::-1]), row), False)

    def test_logs_of_forty_events(self):
        self.assertIs(is_weaving(self.SIX, LONG), False)
        self.assertEqual(woven((LONG[:20], LONG[20:]), (0,) * 20 + (1,) * 20), LONG)

    def test_apart(self):
        for one, other in (("abcde fabcd ef", "fedcb acebd fb"), ("abc def bca efd", "abc cab dbe fad"),
                           ("ab cd ef ba dc fe", "ac bd ce fa eb fc"), ("ababa babab aa", "abbab baaba bb")):
            found = apart(base(one), base(other))
            self.assertIs(is_base(found), True)
            self.assertEqual(found, apart(base(other), base(one)))
            for word, end in itertools.product(base(one), base(other)):
                self.assertIs(does(found, word + end) and does(found, end + word), True)
        self.assertEqual(len(apart(base("abcde"), base("vwxyz"))), 252)

    def test_apart_times(self):
        for text, number, count in (("abc def", 2, 30), ("ab cd", 3, 70), ("a b", 6, 64), ("abcdef fedcba", 1, 2)):
            found = apart_times(base(text), number)
            self.assertEqual(len(found), count)
            self.assertIs(is_base(found), True)
        self.assertEqual(len(apart_times(base("ab"), 3)), 5)
        self.assertEqual([apart_times(ALWAYS, 10 ** 30), apart_times((), 10 ** 30)], [ALWAYS, ()])

    def test_beside(self):
        for text in ("ab cd ef", "abcdef", "abc def", "a b c d e f", "aba bab", "aabb ab", "ab ba cc", "aaa bbb"):
            for other in ("ab ba", "cd ef", "aa bb", "fe a", "ab"):
                words, second = base(text), base(other)
                found = beside(words, second)
                self.assertIs(is_inside(apart(found, second), words), True)
                self.assertIs(is_inside(words, found), True)
                for log in found:
                    for at in range(len(log)):
                        self.assertIs(is_inside(apart((log[:at] + log[at + 1:],), second), words), False)

    def test_most_apart_and_taken(self):
        for word in (tuple("abcd"), tuple("aaaa"), tuple("abab"), tuple("aaab"), tuple("abba"), tuple("abca")):
            for log in LOGS_OF_24 + [tuple("aab" * 8), tuple("abba" * 6), tuple("abca" * 6)]:
                found = taken(word, log)
                self.assertEqual(most_apart(word, log), len(found))
                self.assertIs(is_taken(word, log, found), True)
                # No fewer losses than that are enough.
                self.assertGreaterEqual(len(fewest_losses((word,), log)), len(found))
        self.assertEqual([most_apart(tuple("aaaa"), ("a",) * 24), most_apart(tuple("abab"), tuple("ab" * 12)),
                          most_apart(tuple("abcd"), tuple("abcdef" * 4)), most_apart(("a",), ("a",) * 24)], [6, 6, 4, 24])


class Leads(unittest.TestCase):
    def test_size_nine_and_four_words_of_five_events(self):
        for text in ("abc def bcd", "ab cd ef ba c", "abcd bcdef", "abc bca cab", "ababababa", "aab bba bab"):
            words = base(text)
            for seed in range(3):
                one, other = words_of(5, 4, "abcdef", seed), words_of(5, 4, "abc", seed + 30)
                for first, second in ((one, other), (other, one), (base("ab cd ef ba"), base("a c e bb"))):
                    found, left, between = lead(words, second), rest_of(words, first), amid(words, first, second)
                    for made, whole in ((found, lambda x: then(x, second)), (left, lambda x: then(first, x)),
                                        (between, lambda x: then(then(first, x), second))):
                        self.assertIs(is_base(made), True)
                        self.assertIs(is_inside(whole(made), words), True)
                        for log in made[:10]:
                            for at in range(len(log)):
                                less = (log[:at] + log[at + 1:],)
                                self.assertIs(is_inside(whole(less), words), False)

    def test_pairs_of_size_six(self):
        for text, count in (("abcdef", 7), ("ab cd ef", 20), ("a b c d e f", 2), ("abc def", None), ("ab ba cc", None),
                            ("abcd ef", None)):
            words = base(text)
            found = pairs(words)
            self.assertEqual(len(found), count or len(found))
            for one, other in found:
                self.assertEqual((lead(words, other), rest_of(words, one)), (one, other))
            self.assertEqual([pair for pair in found if is_split(words, pair)], splits(words))

    def test_pairs_of_nine_standings(self):
        eight = tuple((letter,) for letter in "abcdefgh"[:6])
        for words, cuts in ((times(base("a b"), 4), 3), (base("abcdabcd"), 7), (then(base("ab ba"), base("cdefc")), 5),
                            (then(both(base("ab"), base("c")), eight), 1)):
            self.assertLessEqual(len(standings(words)), 9)
            found = splits(words)
            self.assertEqual(len(found), cuts)
            for one, other in found:
                self.assertEqual(then(one, other), words)
            self.assertLessEqual(set(found), set(pairs(words)))
            self.assertEqual(names_in(words), names_in(then(*found[0])))
            self.assertIsNone(outside(then(*found[0]), words))

    def test_in_order(self):
        for one, other in pairs(base("ab cd ef")):
            self.assertEqual([one, other], [tuple(sorted(one, key=key)), tuple(sorted(other, key=key))])


if __name__ == "__main__":
    unittest.main()
