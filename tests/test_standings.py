import itertools
import random
import unittest

from moredone.bases import does, is_base, is_inside
from moredone.standings import (further, helped, helpful, is_ahead, longest_helping, moves, parting_end, same, standing,
                                standings)
from tests.helpers import Parts, all_logs, at_places, subsets

PARTS = Parts()
NEVER, ALWAYS = (), ((),)
SMALL = PARTS.bases("ab", 2)
MIDDLE = PARTS.bases("ab", 3)
THREE = PARTS.bases("abc", 2)
BASES = SMALL + random.Random(1).sample(MIDDLE, 60) + random.Random(2).sample(THREE, 60)
GIFT = (("gift", "ship"), ("ask", "pay", "ship"))


def longest(base):
    return max((len(word) for word in base), default=0)


def size(base):
    return sum(len(word) for word in base)


def names_of(base):
    return sorted({name for word in base for name in word})


class Told:
    """What logs that come behind make of a base, by trying all that are long enough to tell logs apart."""

    def __init__(self, base):
        self.base = base
        # Of names that no word has one stands for all.
        self.names = names_of(base) + ["z"]
        self.ends = all_logs(names_of(base), longest(base))
        self.kept = {}

    def row(self, log):
        if log not in self.kept:
            self.kept[log] = tuple(PARTS.done(self.base, log + end) for end in self.ends)
        return self.kept[log]

    def standing(self, log):
        row = self.row(log)
        return PARTS.least(end for end, done in zip(self.ends, row) if done)


def tried(most, bases=None):
    """Bases, what is told of each, and the logs up to so many events of its names and one more."""
    for base in BASES if bases is None else bases:
        told = Told(base)
        yield base, told, all_logs(told.names, most if len(told.names) < 4 else most - 1)


class Standing(unittest.TestCase):
    def test_all_short_logs(self):
        for base, told, logs in tried(4):
            for log in logs:
                self.assertEqual(standing(base, log), told.standing(log), (base, log))
                self.assertIs(is_base(standing(base, log)), True)

    def test_for_all_logs_later(self):
        for base in SMALL + MIDDLE[::20]:
            for log, later in itertools.product(all_logs("ab", 3), repeat=2):
                self.assertIs(does(standing(base, log), later), PARTS.done(base, log + later))

    def test_always_exactly_if_it_is_done(self):
        for base, _, logs in tried(3):
            for log in logs:
                self.assertIs(standing(base, log) == ALWAYS, PARTS.done(base, log))

    def test_behind_more_events_by_the_same_logs_or_further_ones(self):
        for base, told, logs in tried(3):
            for log in logs:
                for name in told.names:
                    self.assertIs(is_inside(standing(base, log), standing(base, log + (name,))), True)
                    self.assertEqual(standing(standing(base, log), (name,)), standing(base, log + (name,)))

    def test_edges(self):
        for base in MIDDLE:
            self.assertEqual([standing(base, ()), standing(base, ("z", "ab"))], [base, base])
        for log in all_logs("ab", 3):
            self.assertEqual([standing(NEVER, log), standing(ALWAYS, log)], [NEVER, ALWAYS])

    def test_a_rest_that_has_another_one_as_a_part_is_left_out(self):
        self.assertEqual(standing((("b", "c"), ("a", "c", "c")), ("b",)), (("c",),))
        self.assertEqual(standing((("b", "c"), ("a", "c", "c")), ("a", "c")), (("c",),))
        # They may stand in another order than the words that they are left of.
        self.assertEqual(standing((("b", "c"), ("a", "a", "a")), ("a", "a")), (("a",), ("b", "c")))


class Helpful(unittest.TestCase):
    def test_all_short_logs(self):
        for base, told, logs in tried(3):
            for log in logs:
                names = tuple(name for name in told.names if told.row(log + (name,)) != told.row(log))
                self.assertEqual(helpful(base, log), names, (base, log))
                self.assertEqual(names, tuple(sorted({word[0] for word in standing(base, log) if word})))

    def test_edges(self):
        for log in all_logs("ab", 2):
            self.assertEqual([helpful(NEVER, log), helpful(ALWAYS, log)], [(), ()])
        self.assertEqual(helpful((("b",), ("ab", "a"), ("ab", "c")), ()), ("ab", "b"))
        self.assertEqual(helpful((("b",), ("ab", "a"), ("ab", "c")), ("b",)), ())


class Further(unittest.TestCase):
    def test_all_short_logs(self):
        for base, told, logs in tried(3):
            for log in logs:
                ends = [end for end, done in zip(told.ends, told.row(log)) if done]
                self.assertEqual(further(base, log), ends[0] if ends else None, (base, log))

    def test_edges(self):
        for log in all_logs("ab", 2):
            self.assertIsNone(further(NEVER, log))
            self.assertEqual(further(ALWAYS, log), ())
        self.assertEqual(further((("b",), ("a", "a")), ()), ("b",))
        self.assertEqual(further((("c", "a"), ("b", "b", "b")), ("b",)), ("b", "b"))
        self.assertEqual(further((("c", "a"), ("b", "b", "b")), ("b", "b")), ("b",))
        self.assertEqual(further((("b",), ("a", "a")), ("c", "b")), ())


class Helped(unittest.TestCase):
    def test_all_short_logs(self):
        for base, told, logs in tried(4):
            for log in logs:
                places = tuple(at for at in range(len(log)) if told.row(log[:at + 1]) != told.row(log[:at]))
                self.assertEqual(helped(base, log), places, (base, log))

    def test_the_events_there_alone_have_the_same_standing(self):
        for base, told, logs in tried(4):
            for log in logs:
                alone = at_places(log, helped(base, log))
                self.assertEqual(told.row(alone), told.row(log))

    def test_edges(self):
        for log in all_logs("ab", 2):
            self.assertEqual([helped(NEVER, log), helped(ALWAYS, log)], [(), ()])
        self.assertEqual(helped((("a",),), ()), ())
        self.assertEqual(helped((("a",),), ("b", "a", "a")), (1,))
        self.assertEqual(helped((("a", "a"),), ("b", "a", "b", "a", "a")), (1, 3))


class Compared(unittest.TestCase):
    def test_all_pairs_of_short_logs(self):
        for base, told, logs in tried(3, SMALL + MIDDLE[::30] + THREE[::60]):
            logs = logs if len(told.names) < 4 else all_logs(told.names, 2)
            for one, other in itertools.product(logs, repeat=2):
                rows = list(zip(told.ends, told.row(one), told.row(other)))
                self.assertIs(is_ahead(base, one, other), all(second for _, first, second in rows if first))
                self.assertIs(same(base, one, other), told.row(one) == told.row(other))
                parted = [end for end, first, second in rows if first != second]
                self.assertEqual(parting_end(base, one, other), parted[0] if parted else None, (base, one, other))

    def test_edges(self):
        for base in SMALL:
            for log in all_logs("ab", 2):
                self.assertEqual([is_ahead(base, log, log), same(base, log, log), parting_end(base, log, log)],
                                 [True, True, None])
                self.assertIs(is_ahead(base, (), log), True)
        for one, other in itertools.product(all_logs("ab", 2), repeat=2):
            for base in (NEVER, ALWAYS):
                self.assertEqual([is_ahead(base, one, other), same(base, one, other), parting_end(base, one, other)],
                                 [True, True, None])
        self.assertEqual(parting_end((("a", "b"), ("c", "d", "d")), ("a",), ("c",)), ("b",))
        self.assertEqual(parting_end((("a", "b"), ("c", "d")), ("c",), ("a",)), ("b",))
        self.assertEqual(parting_end((("b",),), ("b",), ("a",)), ())
        self.assertIs(is_ahead((("b",),), ("a",), ("b",)), True)
        self.assertIs(is_ahead((("b",),), ("b",), ("a",)), False)


class All(unittest.TestCase):
    """standings, moves and longest_helping, against all logs that are long enough: each helping event is of a word."""

    def bases(self):
        return [base for base in SMALL + MIDDLE + THREE if size(base) <= 5][::3] + [NEVER, ALWAYS]

    def test_standings_and_moves(self):
        for base in self.bases():
            told = Told(base)
            logs = all_logs(names_of(base), size(base))
            found = {told.row(log): told.standing(log) for log in logs}
            self.assertEqual(standings(base), sorted(set(found.values())), base)
            self.assertEqual(len(found), len(standings(base)))
            triples = {(found[told.row(log)], name, told.standing(log + (name,)))
                       for log in logs for name in names_of(base) if len(log) < size(base)}
            self.assertEqual(moves(base), sorted(each for each in triples if each[0] != each[2]), base)

    def test_longest_helping(self):
        for base in self.bases():
            told = Told(base)
            most = max(len(log) for log in all_logs(names_of(base), size(base))
                       if all(told.row(log[:at + 1]) != told.row(log[:at]) for at in range(len(log))))
            log = longest_helping(base)
            self.assertIs(type(log), tuple)
            self.assertEqual(len(log), most, base)
            self.assertEqual(helped(base, log), tuple(range(len(log))))
            self.assertLessEqual(len(log), size(base))

    def test_they_go_together(self):
        for base in MIDDLE[::4] + THREE[::4]:
            found = standings(base)
            self.assertEqual(found, sorted(set(found)))
            self.assertIn(base, found)
            triples = moves(base)
            self.assertEqual(triples, sorted(set(triples)))
            self.assertEqual(set(found), {base} | {later for _, _, later in triples})
            for begun in found:
                row = [(name, standing(begun, (name,))) for name in helpful(begun, ())]
                self.assertEqual([(name, later) for first, name, later in triples if first == begun], row)
            self.assertEqual(helped(base, longest_helping(base)), tuple(range(len(longest_helping(base)))))

    def test_edges(self):
        self.assertEqual([standings(NEVER), moves(NEVER), longest_helping(NEVER)], [[NEVER], [], ()])
        self.assertEqual([standings(ALWAYS), moves(ALWAYS), longest_helping(ALWAYS)], [[ALWAYS], [], ()])
        one = (("a",),)
        self.assertEqual([standings(one), moves(one), longest_helping(one)], [[ALWAYS, one], [(one, "a", ALWAYS)], ("a",)])
        # By comparison the shorter log does not stand first, as it does in a base.
        base = (("c",), ("a", "b"))
        self.assertEqual(standings(base), [ALWAYS, (("b",), ("c",)), base])
        self.assertEqual(moves(base), [((("b",), ("c",)), "b", ALWAYS), ((("b",), ("c",)), "c", ALWAYS),
                                       (base, "a", (("b",), ("c",))), (base, "c", ALWAYS)])

    def test_a_longest_one_does_not_stop_at_the_shortest_word(self):
        self.assertEqual(len(longest_helping((("a",), ("b", "c", "d")))), 3)
        self.assertEqual(len(longest_helping((("a", "b"), ("c", "d", "e", "f")))), 5)
        self.assertEqual(len(longest_helping(GIFT)), 3)

    def test_lists_are_new(self):
        for function in (standings, moves):
            function(GIFT).clear()
            self.assertGreater(len(function(GIFT)), 3)


class WhatIsSaidInBrackets(unittest.TestCase):
    def test_sets_of_rests_are_all_there_is(self):
        # Each standing is what remains of some choice of ends of the words.
        for base in SMALL:
            ends = {PARTS.least(chosen) for chosen in itertools.product(*[[word[at:] for at in range(len(word) + 1)]
                                                                          for word in base])}
            self.assertLessEqual(set(standings(base)), ends)

    def test_as_few_places_as_help(self):
        for base, told, logs in tried(3, SMALL):
            for log in logs:
                alike = [places for places in subsets(range(len(log)))
                         if told.row(at_places(log, places)) == told.row(log)]
                self.assertIn(helped(base, log), alike)


if __name__ == "__main__":
    unittest.main()
