import itertools
import random
import unittest

from moredone.bases import (base_of, both, common, does, either, is_base, is_checklist, is_inside, missing, names_in,
                            outside, stages, then, times)
from moredone.words import common_parts
from tests.helpers import KINDS, Parts, all_logs, done_then, done_times, key

PARTS = Parts()
NEVER, ALWAYS = (), ((),)
SMALL = PARTS.bases("ab", 2)
MIDDLE = PARTS.bases("ab", 3)
THREE = PARTS.bases("abc", 2)
PROPER = [base for base in SMALL if base not in (NEVER, ALWAYS)]
LOGS = {names: {most: all_logs(names, most) for most in range(8)} for names in ("ab", "abc")}


def some(rows, many, seed):
    return random.Random(seed).sample(rows, many)


def pairs(seed):
    """Pairs of bases with the names of both: all of the small ones, some of the greater ones."""
    found = [(one, other, "ab") for one, other in itertools.product(SMALL, repeat=2)]
    found += [(one, other, "ab") for one, other in zip(some(MIDDLE, 120, seed), some(MIDDLE, 120, seed + 1))]
    return found + [(one, other, "abc") for one, other in zip(some(THREE, 120, seed), some(THREE, 120, seed + 1))]


def longest(base):
    return max((len(word) for word in base), default=0)


# What is then of two bases with words of at most two events.
JOINED = {tuple(sorted((word + end for word in one for end in other), key=key)) for one in PROPER for other in PROPER}


class IsBase(unittest.TestCase):
    def test_all_tuples_of_short_logs(self):
        logs = all_logs("ab", 2)
        bases = set(SMALL)
        for many in range(4):
            for thing in itertools.product(logs, repeat=many):
                self.assertIs(is_base(thing), thing in bases, thing)

    def test_each_base_and_none_in_another_order(self):
        for base in MIDDLE + THREE:
            self.assertIs(is_base(base), True)
            if len(base) > 1:
                self.assertIs(is_base(base[::-1]), False)
                self.assertIs(is_base(base + base[-1:]), False)
                self.assertIs(is_base(base[:1] + base), False)

    def test_order_is_by_number_of_events_first(self):
        self.assertIs(is_base((("b",), ("a", "a"))), True)
        self.assertIs(is_base((("a", "a"), ("b",))), False)
        self.assertIs(is_base((("aa",), ("b",))), True)
        self.assertIs(is_base((("b",), ("aa",))), False)

    def test_words_within_one_another(self):
        self.assertIs(is_base(((), ("a",))), False)
        self.assertIs(is_base((("a",), ("b", "a", "b"))), False)
        self.assertIs(is_base((("a", "b"), ("a", "c", "b"))), False)
        self.assertIs(is_base((("a",), ("ab",))), True)

    def test_kinds(self):
        found = [thing for thing in KINDS if is_base(thing) is True]
        self.assertEqual(found, [(), ((),), (("a",),)])
        for thing in KINDS:
            self.assertIs(type(is_base(thing)), bool)

    def test_lists_are_no_tuples_at_any_depth(self):
        for thing in ([], [()], ([],), (["a"],), [("a",)], (("a",), ["b"]), (["a"], ("b",))):
            self.assertIs(is_base(thing), False, thing)

    def test_whatever_the_bounds(self):
        words = tuple((first + second,) for first in "abcdefghij" for second in "abcdefghij")
        self.assertIs(is_base(words), True)
        self.assertIs(is_base((("a",) * 60,)), True)

    def test_wrong_names(self):
        for value in ("A", "", "abcdefghi", "a b", 1, None, True):
            self.assertIs(is_base(((value,),)), False)


class BaseOf(unittest.TestCase):
    def test_all_choices_of_short_logs(self):
        logs = all_logs("ab", 2)
        for many in range(len(logs) + 1):
            for chosen in itertools.combinations(logs, many):
                self.assertEqual(base_of(chosen), PARTS.least(chosen), chosen)
                self.assertEqual(base_of(chosen[::-1]), PARTS.least(chosen), chosen)

    def test_some_choices_with_repetitions_in_any_order(self):
        choose = random.Random(5)
        for names, most in (("ab", 5), ("abc", 3)):
            logs = all_logs(names, most)
            for _ in range(150):
                chosen = tuple(choose.choice(logs) for _ in range(choose.randint(1, 14)))
                self.assertEqual(base_of(chosen), PARTS.least(chosen), chosen)

    def test_edges(self):
        self.assertEqual(base_of(()), NEVER)
        self.assertEqual(base_of(((),)), ALWAYS)
        self.assertEqual(base_of((("a",), (), ("b",))), ALWAYS)
        self.assertEqual(base_of((("b",), ("a",), ("b",))), (("a",), ("b",)))
        self.assertEqual(base_of((("b",), ("aa",))), (("aa",), ("b",)))


class Does(unittest.TestCase):
    def test_all_short_logs(self):
        for base in SMALL + MIDDLE:
            for log in LOGS["ab"][4]:
                self.assertIs(does(base, log), PARTS.done(base, log), (base, log))
        for base in THREE:
            for log in LOGS["abc"][3]:
                self.assertIs(does(base, log), PARTS.done(base, log), (base, log))

    def test_edges(self):
        for log in LOGS["ab"][3]:
            self.assertIs(does(NEVER, log), False)
            self.assertIs(does(ALWAYS, log), True)
        self.assertIs(does((("ab",),), ("a", "b")), False)

    def test_more_events_never_undo(self):
        for base in some(MIDDLE, 60, 1):
            for log, other in itertools.product(LOGS["ab"][3], repeat=2):
                if does(base, log) and PARTS.is_part(log, other):
                    self.assertIs(does(base, other), True)

    def test_unlike_bases_are_told_apart_by_some_log(self):
        done = {}
        for base in MIDDLE:
            told = tuple(does(base, log) for log in LOGS["ab"][3])
            self.assertNotIn(told, done)
            done[told] = base

    def test_each_judgement_that_more_events_do_not_undo_is_a_base(self):
        # Of the logs of at most two events: each set of them to which all with more of these events belong.
        logs = LOGS["ab"][2]
        closed = [chosen for many in range(len(logs) + 1) for chosen in itertools.combinations(logs, many)
                  if all(other in chosen for log in chosen for other in logs if PARTS.is_part(log, other))]
        self.assertEqual(sorted(base_of(chosen) for chosen in closed), sorted(SMALL))


class NamesIn(unittest.TestCase):
    def test_all_bases(self):
        for base in MIDDLE + THREE:
            self.assertEqual(names_in(base), tuple(name for name in "abc" if any(name in word for word in base)))

    def test_edges(self):
        self.assertEqual(names_in(NEVER), ())
        self.assertEqual(names_in(ALWAYS), ())
        self.assertEqual(names_in((("ship", "pay", "ship"), ("ask", "pay", "ask"))), ("ask", "pay", "ship"))


class Joined(unittest.TestCase):
    """either, both, then and times, against what they say of all logs that are long enough to tell."""

    def check(self, made, names, most, is_done):
        logs = LOGS[names][most]
        self.assertEqual(made, PARTS.base(logs, is_done))
        self.assertIs(is_base(made), True)

    def test_either(self):
        for one, other, names in pairs(10):
            self.check(either(one, other), names, max(longest(one), longest(other)),
                       lambda log: PARTS.done(one, log) or PARTS.done(other, log))

    def test_both(self):
        for one, other, names in pairs(20):
            self.check(both(one, other), names, longest(one) + longest(other),
                       lambda log: PARTS.done(one, log) and PARTS.done(other, log))

    def test_then(self):
        for one, other, names in pairs(30):
            self.check(then(one, other), names, longest(one) + longest(other), lambda log: done_then(
                lambda ahead: PARTS.done(one, ahead), lambda behind: PARTS.done(other, behind), log))

    def test_times(self):
        for base in SMALL:
            for number in range(4):
                self.check(times(base, number), "ab", number * longest(base), lambda log: done_times(
                    lambda piece: PARTS.done(base, piece), number, log))

    def test_edges(self):
        for base in MIDDLE + THREE:
            for function in (either, both, then):
                self.assertIs(is_base(function(base, base[:1])), True)
            self.assertEqual([either(base, NEVER), either(NEVER, base), either(base, ALWAYS), either(ALWAYS, base)],
                             [base, base, ALWAYS, ALWAYS])
            self.assertEqual([both(base, NEVER), both(NEVER, base), both(base, ALWAYS), both(ALWAYS, base)],
                             [NEVER, NEVER, base, base])
            self.assertEqual([then(base, NEVER), then(NEVER, base), then(base, ALWAYS), then(ALWAYS, base)],
                             [NEVER, NEVER, base, base])
            self.assertEqual([times(base, 0), times(base, 1)], [ALWAYS, base])
            self.assertEqual([either(base, base), both(base, base)], [base, base])
        self.assertEqual([times(NEVER, 0), times(NEVER, 3), times(ALWAYS, 8)], [ALWAYS, NEVER, ALWAYS])

    def test_words_of_then(self):
        for one, other, _ in pairs(40):
            words = [word + end for word in one for end in other]
            self.assertEqual(then(one, other), tuple(sorted(words, key=key)))
            self.assertEqual(len(words), len(set(words)))

    def test_then_can_be_cancelled(self):
        for one, other, third in itertools.product(SMALL, repeat=3):
            self.assertEqual(then(one, other) == then(one, third), other == third or one == NEVER)
            self.assertEqual(then(other, one) == then(third, one), other == third or one == NEVER)

    def test_multiplied_out(self):
        for join in (either, both):
            for one, other, third in zip(some(MIDDLE, 80, 2), some(MIDDLE, 80, 3), some(MIDDLE, 80, 4)):
                self.assertEqual(then(one, join(other, third)), join(then(one, other), then(one, third)))
                self.assertEqual(then(join(one, other), third), join(then(one, third), then(other, third)))

    def test_times_is_a_row_of_then(self):
        for base in SMALL:
            joined = ALWAYS
            for number in range(5):
                self.assertEqual(times(base, number), joined)
                joined = then(base, joined)


class Compared(unittest.TestCase):
    def test_all_pairs(self):
        for one, other, names in pairs(50):
            logs = LOGS[names][3]
            apart = [log for log in logs if PARTS.done(one, log) and not PARTS.done(other, log)]
            self.assertIs(is_inside(one, other), not apart, (one, other))
            self.assertEqual(outside(one, other), apart[0] if apart else None, (one, other))
            left = tuple(word for word in other if not PARTS.done(one, word))
            self.assertEqual(missing(one, other), left, (one, other))

    def test_edges(self):
        for base in MIDDLE:
            self.assertEqual([is_inside(NEVER, base), is_inside(base, ALWAYS), is_inside(base, base)], [True] * 3)
            self.assertIs(is_inside(base, NEVER), base == NEVER)
            self.assertIs(is_inside(ALWAYS, base), base == ALWAYS)
            self.assertIsNone(outside(base, base))
            self.assertEqual(outside(base, NEVER), base[0] if base else None)
            self.assertEqual([missing(base, base), missing(NEVER, base), missing(ALWAYS, base)],
                             [NEVER, base, NEVER])
            self.assertEqual(missing(base, ALWAYS), NEVER if base == ALWAYS else ALWAYS)

    def test_outside_is_the_first_word_that_differs(self):
        self.assertEqual(outside((("b",), ("a", "a")), (("a",),)), ("b",))
        self.assertEqual(outside((("b",), ("a", "a"), ("a", "c")), (("b",),)), ("a", "a"))

    def test_missing_is_the_weakest_that_is_missing(self):
        for base, other in itertools.product(SMALL, repeat=2):
            left = missing(base, other)
            whole = either(base, other)
            self.assertEqual(either(base, left), whole)
            for third in SMALL:
                if either(base, third) == whole:
                    self.assertIs(is_inside(left, third), True)


class Common(unittest.TestCase):
    def check(self, base, logs):
        done = [log for log in logs if PARTS.done(base, log)]
        shared = set.intersection(*[set(PARTS.of(log)) for log in done])
        self.assertEqual(common(base), PARTS.greatest(shared), base)

    def test_all_short_bases(self):
        for base in MIDDLE:
            if base != NEVER:
                self.check(base, LOGS["ab"][4])
        for base in THREE:
            if base != NEVER:
                self.check(base, LOGS["abc"][3])

    def test_edges(self):
        self.assertIsNone(common(NEVER))
        self.assertEqual(common(ALWAYS), ((),))
        self.assertEqual(common((("a", "b", "a"),)), (("a", "b", "a"),))
        self.assertEqual(common((("b",), ("a", "a"))), ((),))

    def test_of_two_words_it_is_common_parts(self):
        for base in MIDDLE:
            if len(base) == 2:
                self.assertEqual(common(base), common_parts(*base))


class IsChecklist(unittest.TestCase):
    def check(self, base, logs):
        """By trying all choices of logs that are parts of all words (others a log that does base may lack)."""
        shared = set.intersection(*[set(PARTS.of(word)) for word in base])
        told = [PARTS.done(base, log) for log in logs]
        having = {part: [PARTS.is_part(part, log) for log in logs] for part in shared}
        found = any(told == [all(row) for row in zip(*[having[part] for part in chosen], [True] * len(logs))]
                    for many in range(len(shared) + 1) for chosen in itertools.combinations(sorted(shared), many))
        self.assertIs(is_checklist(base), found, base)

    def test_all_short_bases(self):
        for base in MIDDLE:
            if base != NEVER:
                self.check(base, LOGS["ab"][6])

    def test_three_names(self):
        for base in THREE:
            if base != NEVER:
                self.check(base, LOGS["abc"][4])

    def test_what_is_put_together_of_logs_is_one(self):
        for one, other, third in itertools.product(all_logs("ab", 2), repeat=3):
            self.assertIs(is_checklist(both(both((one,), (other,)), (third,))), True)
        # Without one of its words it is one only if what is left is one.
        whole = both(both((("a",),), (("b",),)), (("c",),))
        for at in range(len(whole)):
            self.assertIs(is_checklist(whole[:at] + whole[at + 1:]), False)

    def test_edges(self):
        self.assertIs(is_checklist(NEVER), False)
        self.assertIs(is_checklist(ALWAYS), True)
        self.assertIs(is_checklist((("a", "b", "c", "a"),)), True)
        self.assertIs(is_checklist((("a",), ("b",))), False)

    def test_the_common_ones_are_the_list(self):
        for base in MIDDLE:
            if base != NEVER:
                joined = ALWAYS
                for log in common(base):
                    joined = both(joined, (log,))
                self.assertIs(is_checklist(base), joined == base)


class Stages(unittest.TestCase):
    def test_all_short_bases(self):
        # A base with words of at most three events is then only of bases with words of at most two.
        for base in MIDDLE:
            if base == NEVER:
                continue
            row = stages(base)
            joined = ALWAYS
            for stage in row:
                self.assertNotIn(stage, JOINED)
                self.assertNotIn(stage, (NEVER, ALWAYS))
                self.assertIs(is_base(stage), True)
                joined = then(joined, stage)
            self.assertEqual(joined, base)
            self.assertEqual(len(row) == 1, base != ALWAYS and base not in JOINED)

    def test_what_is_joined_has_both_rows(self):
        for one, other in itertools.product(SMALL[1:], repeat=2):
            self.assertEqual(stages(then(one, other)), stages(one) + stages(other))
        for one, other in zip(some(MIDDLE[1:], 150, 7), some(MIDDLE[1:], 150, 8)):
            self.assertEqual(stages(then(one, other)), stages(one) + stages(other))

    def test_there_is_just_one_row(self):
        rows = {}
        single = [base for base in PROPER if base not in JOINED]
        for many in range(4):
            for row in itertools.product(single, repeat=many):
                joined = ALWAYS
                for stage in row:
                    joined = then(joined, stage)
                self.assertNotIn(joined, rows)
                rows[joined] = row
                self.assertEqual(stages(joined), row)

    def test_edges(self):
        self.assertIsNone(stages(NEVER))
        self.assertEqual(stages(ALWAYS), ())
        self.assertEqual(stages((("a",),)), ((("a",),),))
        self.assertEqual(stages((("a", "b", "a"),)), ((("a",),), (("b",),), (("a",),)))
        self.assertEqual(stages((("ab", "a"),)), ((("ab",),), (("a",),)))

    def test_words_of_unlike_lengths(self):
        one, other = (("c",), ("a", "b")), (("b",), ("a", "a", "c"))
        self.assertEqual(stages(then(one, other)), (one, other))
        self.assertEqual(stages(then(other, one)), (other, one))
        self.assertEqual(stages(one), (one,))
        # Without one of the words of what is joined there is nothing to be cut.
        self.assertEqual(stages(then(one, other)[1:]), (then(one, other)[1:],))


if __name__ == "__main__":
    unittest.main()
