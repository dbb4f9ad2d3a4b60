import itertools
import random
import unittest

from moredone.bases import is_base, is_inside, stages, then
from moredone.leads import amid, is_split, lead, pairs, rest_of, splits
from tests.helpers import KINDS, Parts, all_logs, as_lists, has_part, key

PARTS = Parts()
NEVER, ALWAYS = (), ((),)
SMALL = PARTS.bases("ab", 2)
MIDDLE = PARTS.bases("ab", 3)
THREE = PARTS.bases("abc", 2)
OTHERS = SMALL[::3] + MIDDLE[17::70] + [(("b",), ("a", "a")), (("a",), ("b",))]


def size(base):
    return sum(len(word) for word in base)


def longest(base):
    return max((len(word) for word in base), default=0)


def names_of(base):
    return sorted({name for word in base for name in word})


def enough(base, one, other, names, most, more):
    """By trying all logs: those that do base with each log ahead that does one and each one behind that does other.

    The logs ahead and behind have at most so many (more) events; the words of one and other have no more.
    """
    aheads = [log for log in all_logs(names, more) if PARTS.done(one, log)]
    behinds = [log for log in all_logs(names, more) if PARTS.done(other, log)]
    return PARTS.base(all_logs(names, most), lambda log: all(
        PARTS.done(base, ahead + log + behind) for ahead in aheads for behind in behinds))


class Leads(unittest.TestCase):
    def test_lead_and_rest_of(self):
        for base, other in itertools.product(SMALL + MIDDLE[3::40], OTHERS):
            more = max(1, longest(other))
            self.assertEqual(lead(base, other), enough(base, ALWAYS, other, "ab", 4, more), (base, other))
            self.assertEqual(rest_of(base, other), enough(base, other, ALWAYS, "ab", 4, more), (base, other))
            self.assertIs(is_base(lead(base, other)) and is_base(rest_of(base, other)), True)

    def test_three_names(self):
        for base in THREE[5::60]:
            for other in THREE[8::110]:
                self.assertEqual(lead(base, other), enough(base, ALWAYS, other, "abc", 4, 2), (base, other))
                self.assertEqual(rest_of(base, other), enough(base, other, ALWAYS, "abc", 4, 2), (base, other))

    def test_amid(self):
        for base in SMALL[::2] + MIDDLE[6::60]:
            for one, other in itertools.product(SMALL[1::3], SMALL[1::4]):
                self.assertEqual(amid(base, one, other), enough(base, one, other, "ab", 4, 2), (base, one, other))

    def test_what_they_say_of_then(self):
        """They are the greatest: each base that leads into base likewise is inside of them."""
        for base, other in itertools.product(SMALL + MIDDLE[4::50], SMALL):
            for third in SMALL:
                self.assertIs(is_inside(third, lead(base, other)), is_inside(then(third, other), base))
                self.assertIs(is_inside(third, rest_of(base, other)), is_inside(then(other, third), base))

    def test_what_amid_says_of_then(self):
        for base, one, other, third in itertools.product(SMALL[::2], SMALL[::3], SMALL[::3], SMALL[::2]):
            self.assertIs(is_inside(third, amid(base, one, other)), is_inside(then(then(one, third), other), base))

    def test_amid_is_both(self):
        for base, one, other in itertools.product(MIDDLE[::30], OTHERS, OTHERS):
            self.assertEqual(amid(base, one, other), lead(rest_of(base, one), other))
            self.assertEqual(amid(base, one, other), rest_of(lead(base, other), one))
            self.assertEqual([amid(base, one, ALWAYS), amid(base, ALWAYS, other)],
                             [rest_of(base, one), lead(base, other)])

    def test_turned(self):
        def flipped(base):
            return tuple(sorted((word[::-1] for word in base), key=key))

        for base, other in itertools.product(MIDDLE[::20] + THREE[::50], OTHERS):
            self.assertEqual(lead(flipped(base), flipped(other)), flipped(rest_of(base, other)))

    def test_edges(self):
        for base in MIDDLE[::3]:
            self.assertEqual([lead(base, NEVER), rest_of(base, NEVER), lead(base, ALWAYS), rest_of(base, ALWAYS)],
                             [ALWAYS, ALWAYS, base, base])
            self.assertEqual([lead(base, base), rest_of(base, base)], [ALWAYS, ALWAYS])
            self.assertEqual([lead(ALWAYS, base), rest_of(ALWAYS, base)], [ALWAYS, ALWAYS])
            for one in (NEVER, ALWAYS, base):
                self.assertEqual([amid(base, NEVER, one), amid(base, one, NEVER)], [ALWAYS, ALWAYS])
            self.assertEqual([lead(base, (("z",),)), rest_of(base, (("z",),)), amid(base, (("z",),), (("z",),))],
                             [base] * 3)
            if base:
                self.assertEqual([lead(NEVER, base), rest_of(NEVER, base), amid(NEVER, base, base)], [NEVER] * 3)

    def test_all_words_of_the_other_count(self):
        base = (("a", "b"), ("a", "c"))
        self.assertEqual(lead(base, (("b",), ("c",))), (("a",),))
        self.assertEqual(lead(base, (("b",), ("d",))), base)
        self.assertEqual(lead((("a", "b"), ("c", "d")), (("b",), ("d",))), (("a", "b"), ("a", "c"), ("c", "a"), ("c", "d")))
        self.assertEqual(rest_of((("a", "b"), ("c", "d")), (("a",), ("c",))), (("a", "b"), ("b", "d"), ("c", "d"),
                                                                             ("d", "b")))


class Pairs(unittest.TestCase):
    def told_pairs(self, base):
        """By trying all logs: each Y is what some logs ahead, or none, leave to be done; X is what is enough ahead."""
        # Least logs of what is done behind several logs have no more events than the words have together.
        logs = all_logs(names_of(base), size(base))
        done = {log: tuple(any(has_part(word, log + end) for word in base) for end in logs) for log in logs}
        ends = {(True,) * len(logs)}
        for row in set(done.values()):
            ends |= {tuple(a and b for a, b in zip(row, end)) for end in ends}
        found = []
        for end in ends:
            begins = [log for log in logs if all(enough for enough, wanted in zip(done[log], end) if wanted)]
            found.append((PARTS.least(begins), PARTS.least(log for log, wanted in zip(logs, end) if wanted)))
        return sorted(found)

    def test_all_logs(self):
        for base in SMALL + MIDDLE[::5]:
            if size(base) <= 6:
                self.assertEqual(pairs(base), self.told_pairs(base), base)
        for base in THREE[::4]:
            if size(base) <= 4:
                self.assertEqual(pairs(base), self.told_pairs(base), base)

    def test_four_names(self):
        for base in ((("a", "b"), ("c", "d")), (("a", "b", "c", "d"),), (("a", "b", "a"), ("c",))):
            self.assertEqual(pairs(base), self.told_pairs(base), base)

    def test_each_is_a_greatest_pair(self):
        for base in MIDDLE[::12] + THREE[::30]:
            if size(base) <= 6:
                found = pairs(base)
                self.assertIs(type(found), list)
                self.assertEqual(found, sorted(set(found)))
                for one, other in found:
                    self.assertIs(is_base(one) and is_base(other), True)
                    self.assertEqual((lead(base, other), rest_of(base, one)), (one, other))
                    self.assertIs(is_inside(then(one, other), base), True)

    def test_each_pair_that_leads_into_it_has_a_greater_one(self):
        for base in SMALL + MIDDLE[::40]:
            if size(base) <= 6:
                found = pairs(base)
                for one, other in itertools.product(SMALL, repeat=2):
                    if is_inside(then(one, other), base):
                        self.assertTrue(any(is_inside(one, first) and is_inside(other, second)
                                            for first, second in found), (base, one, other))

    def test_edges(self):
        self.assertEqual(pairs(NEVER), [(NEVER, ALWAYS), (ALWAYS, NEVER)])
        self.assertEqual(pairs(ALWAYS), [(ALWAYS, ALWAYS)])
        one = (("a",),)
        self.assertEqual(pairs(one), [(ALWAYS, one), (one, ALWAYS)])
        # What does behind a and behind c alike is none of the standings.
        self.assertIn(((("a",), ("c",)), (("a", "b"), ("b", "d"), ("c", "d"), ("d", "b"))),
                      pairs((("a", "b"), ("c", "d"))))

    def test_lists_are_new(self):
        for function in (pairs, splits):
            function((("a", "b"),)).clear()
            self.assertEqual(len(function((("a", "b"),))), 3 if function is pairs else 1)


class Splits(unittest.TestCase):
    def test_all_short_bases(self):
        for base in SMALL + MIDDLE[::5] + THREE[::20]:
            if size(base) <= 6:
                expected = [pair for pair in pairs(base) if ALWAYS not in pair and then(*pair) == base]
                self.assertEqual(splits(base), expected)
                self.assertIs(type(splits(base)), list)

    def test_what_is_joined_is_split_where_it_was(self):
        for one, other in itertools.product(SMALL[2:], repeat=2):
            base = then(one, other)
            if size(base) <= 6:
                found = splits(base)
                self.assertIn((one, other), found)
                self.assertTrue(all(is_split(base, pair) for pair in found))

    def test_they_stand_where_the_stages_meet(self):
        for base in SMALL[1:] + MIDDLE[1::6] + [(("a", "b", "c", "a"),)]:
            if size(base) <= 6:
                row = stages(base)
                cuts = []
                for cut in range(1, len(row)):
                    one = other = ALWAYS
                    for stage in row[:cut]:
                        one = then(one, stage)
                    for stage in row[cut:]:
                        other = then(other, stage)
                    cuts.append((one, other))
                self.assertEqual(splits(base), sorted(cuts), base)

    def test_edges(self):
        self.assertEqual([splits(NEVER), splits(ALWAYS), splits((("a",),))], [[], [], []])
        self.assertEqual(splits((("a", "b", "c"),)), [((("a",),), (("b", "c"),)), ((("a", "b"),), (("c",),))])
        self.assertEqual(splits((("a", "b"), ("b", "a"))), [])


class IsSplit(unittest.TestCase):
    def test_all_pairs_of_short_bases(self):
        bases = [then(one, other) for one, other in itertools.product(SMALL[::3], repeat=2)] + SMALL
        for base in bases[::2]:
            for one, other in itertools.product(SMALL, repeat=2):
                right = then(one, other) == base and one != ALWAYS and other != ALWAYS
                self.assertIs(is_split(base, (one, other)), right, (base, one, other))
                self.assertIs(is_split(as_lists(base), (one, other)), right)

    def test_of_never(self):
        for base in SMALL:
            self.assertIs(is_split(NEVER, (NEVER, base)), base != ALWAYS)
            self.assertIs(is_split(NEVER, (base, NEVER)), base != ALWAYS)
        self.assertIs(is_split(NEVER, ((("a",),), (("a",),))), False)
        self.assertIs(is_split(ALWAYS, (ALWAYS, ALWAYS)), False)

    def test_things_of_all_kinds(self):
        base = (("a", "b"),)
        self.assertIs(is_split(base, ((("a",),), (("b",),))), True)
        for thing in KINDS:
            for base in (NEVER, ALWAYS, (("a",),), (("a", "b"),)):
                self.assertIs(is_split(base, thing), base == NEVER and thing == ((), ()) and isinstance(thing, tuple),
                              (base, thing))
        one, other = (("a",),), (("b",),)
        for thing in ([one, other], (list(one), other), (one, list(other)), ((["a"],), other), (one, (["b"],)),
                      (one,), (one, other, ALWAYS), (one, other, other), (other, one), (one, (("b",), ("b",))),
                      (one, (("b",), ("c", "b"))), (one, ("b",)), ("a", "b"), (("a",), ("b",)), one, other, None, True,
                      0, "ab", "", (one, None), (True, other), (one, (("B",),)), (one, ((1,),)), (ALWAYS, base),
                      (base, ALWAYS), (((),), (("a", "b"),))):
            self.assertIs(is_split(base, thing), False, thing)

    def test_whatever_the_bounds(self):
        great = tuple((first + second + third,) for first in "abcdefghij" for second in "abcdefghij"
                      for third in "abcdefghij")
        self.assertIs(is_split((("a", "b"),), (great, great)), False)
        self.assertIs(is_split(tuple(("a",) + word for word in great), ((("a",),), great)), True)
        self.assertIs(is_split((("a",) * 40,), ((("a",) * 39,), (("a",),))), True)


if __name__ == "__main__":
    unittest.main()
