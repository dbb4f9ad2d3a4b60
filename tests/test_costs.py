import itertools
import random
import unittest
from fractions import Fraction

from moredone.costs import are_notes, cheapest, cheapest_put, cheapest_undoing, lines, notes
from moredone.standings import standing
from tests.helpers import KINDS, Parts, all_logs, as_lists, caught, has_part, subsets, without_places

PARTS = Parts()
NEVER, ALWAYS = (), ((),)
SMALL = PARTS.bases("ab", 2)
MIDDLE = PARTS.bases("ab", 3)
THREE = PARTS.bases("abc", 2)
CHOOSE = random.Random(41)
GOAL = (("c",), ("a", "b"))
ALL_COSTS = ((), (("a", 0),), (("a", 0), ("b", 0)), (("a", 3), ("b", 1)), (("a", 1), ("b", 1), ("c", 2)), (("b", 2),),
             (("a", 0), ("b", 5), ("z", 1)), (("a", 10 ** 12), ("b", 10 ** 12 - 1), ("c", 1)), (("a", 2), ("c", 3)))


def tried(bases, names, most, many):
    """Some bases with some logs and costs."""
    logs = all_logs(names, most)
    return [(base, CHOOSE.choice(logs), CHOOSE.choice(ALL_COSTS)) for base in bases for _ in range(many)]


TRIED = [(base, log, costs) for base in SMALL for log in all_logs("ab", 2) for costs in ALL_COSTS]
TRIED += tried(SMALL, "abz", 4, 20) + tried(CHOOSE.sample(MIDDLE, 100), "ab", 4, 4) + tried(THREE[::4], "abc", 3, 4)


def price(log, costs):
    """The price of these events; None if one of them has no cost."""
    told = dict(costs)
    return sum(told[event] for event in log) if all(event in told for event in log) else None


def more_in(longer, log):
    """The events that one log has more than another one, name by name."""
    return [name for name in sorted(set(longer)) for _ in range(longer.count(name) - log.count(name))]


def key(way):
    told, log = way
    return told, len(log), log


class Cheapest(unittest.TestCase):
    def test_against_all_logs(self):
        for base, log, costs in TRIED:
            names = sorted({name for word in base for name in word})
            ways = [(price(further, costs), further) for further in all_logs(names, 3)
                    if price(further, costs) is not None and PARTS.done(base, log + further)]
            self.assertEqual(cheapest(base, log, costs), min(ways, key=key, default=None), (base, log, costs))

    def test_of_several_the_least(self):
        base = (("d",), ("b", "a"), ("b", "c"), ("a", "a", "a"))
        self.assertEqual(cheapest(base, (), (("a", 1), ("b", 2), ("d", 3))), (3, ("d",)))
        self.assertEqual(cheapest(base, (), (("a", 1), ("b", 2))), (3, ("b", "a")))
        self.assertEqual(cheapest(base, (), (("a", 0), ("b", 0), ("c", 0))), (0, ("b", "a")))
        self.assertEqual(cheapest(base, ("b",), (("a", 1), ("c", 1))), (1, ("a",)))

    def test_edges(self):
        for costs in ALL_COSTS:
            for log in all_logs("ab", 2):
                self.assertEqual(cheapest(ALWAYS, log, costs), (0, ()))
                self.assertIsNone(cheapest(NEVER, log, costs))
            self.assertEqual(cheapest(GOAL, ("b", "c"), costs), (0, ()))
        for base in SMALL[2:]:
            self.assertIsNone(cheapest(base, (), ()))


class CheapestPut(unittest.TestCase):
    def test_against_all_logs(self):
        for base, log, costs in TRIED[::3]:
            # No event that is put in stands for none of a word, so there are no more than a word has.
            most = len(log) + max((len(word) for word in base), default=0)
            if most <= 6:
                names = sorted({name for word in (*base, log) for name in word})
                ways = []
                for longer in all_logs(names, most):
                    told = price(more_in(longer, log), costs)
                    if told is not None and PARTS.is_part(log, longer) and PARTS.done(base, longer):
                        ways.append((told, longer))
                self.assertEqual(cheapest_put(base, log, costs), min(ways, key=key, default=None), (base, log, costs))

    def test_never_dearer_than_behind(self):
        for base, log, costs in TRIED:
            put, behind = cheapest_put(base, log, costs), cheapest(base, log, costs)
            if behind is not None:
                self.assertLessEqual(put[0], behind[0])
            if put is not None:
                self.assertTrue(has_part(log, put[1]))
                self.assertTrue(any(has_part(word, put[1]) for word in base))
                self.assertEqual(price(more_in(put[1], log), costs), put[0])

    def test_edges(self):
        for costs in ALL_COSTS:
            for log in all_logs("ab", 3):
                self.assertEqual(cheapest_put(ALWAYS, log, costs), (0, log))
                self.assertIsNone(cheapest_put(NEVER, log, costs))
                self.assertEqual(cheapest_put((log,), log, costs), (0, log))
        # With cost 0, too, no event is put in that is not wanted.
        self.assertEqual(cheapest_put((("a", "b"),), ("b", "b"), (("a", 0), ("b", 0))), (0, ("a", "b", "b")))
        # The event is put in where the log that comes about is the least one.
        self.assertEqual(cheapest_put((("b",),), ("a", "c"), (("b", 1),)), (1, ("a", "b", "c")))
        self.assertEqual(cheapest_put((("b",), ("d", "c")), ("c", "c"), (("b", 1), ("d", 1))), (1, ("b", "c", "c")))


class CheapestUndoing(unittest.TestCase):
    def test_against_all_sets_of_places(self):
        for base, log, costs in TRIED:
            ways = []
            for places in subsets(range(len(log))):
                told = price([log[at] for at in places], costs)
                left = without_places(log, places)
                if told is not None and not PARTS.done(base, left):
                    ways.append((told, len(places), left))
            least = min(ways, default=None)
            expected = None if least is None else (least[0], least[2])
            self.assertEqual(cheapest_undoing(base, log, costs), expected, (base, log, costs))

    def test_of_several_the_one_with_the_most_events_and_of_these_the_least(self):
        base = (("a", "b"),)
        self.assertEqual(cheapest_undoing(base, ("a", "a", "b"), (("a", 1), ("b", 2))), (2, ("a", "a")))
        self.assertEqual(cheapest_undoing(base, ("a", "b", "a", "b"), (("a", 1), ("b", 1))), (2, ("a", "a")))
        self.assertEqual(cheapest_undoing(base, ("a", "b", "a", "b"), (("a", 1), ("b", 2))), (2, ("b", "b")))
        self.assertEqual(cheapest_undoing(base, ("a", "b", "c"), (("a", 0), ("b", 0), ("c", 0))), (0, ("a", "c")))

    def test_edges(self):
        for costs in ALL_COSTS:
            for log in all_logs("ab", 3):
                self.assertIsNone(cheapest_undoing(ALWAYS, log, costs))
                self.assertEqual(cheapest_undoing(NEVER, log, costs), (0, log))
        self.assertEqual(cheapest_undoing(GOAL, (), ()), (0, ()))
        self.assertEqual(cheapest_undoing(GOAL, ("a", "b"), (("b", 7),)), (7, ("a",)))
        self.assertIsNone(cheapest_undoing(GOAL, ("a", "b", "c"), (("b", 7),)))


def are_right(base, log, costs, lowest, thing):
    """The same as are_notes for tuples of triples of a place, a base and a mark, in the words of the document."""
    told = dict(costs)
    marks = {}
    for place, left, mark in thing:
        if not 0 <= place < len(log) or left == ALWAYS or mark < 1 or (place, left) in marks:
            return False
        marks[place, left] = mark
    for place, left, mark in thing:
        behind = standing(left, (log[place],))
        if behind != ALWAYS and mark > marks.get((place + 1, behind), 0):
            return False
        if log[place] in told and mark > told[log[place]] + marks.get((place + 1, left), 0):
            return False
    return list(thing) == sorted(thing) and marks.get((0, base), 0) >= lowest


class Notes(unittest.TestCase):
    def test_they_are_right_and_tell_the_price(self):
        ways = 0
        for base, log, costs in TRIED:
            way = cheapest_undoing(base, log, costs)
            if way is None:
                self.assertEqual(caught(lambda: notes(base, log, costs)), ("NoWay",))
                continue
            found = notes(base, log, costs)
            marks = {(place, left): mark for place, left, mark in found}
            self.assertEqual(marks.get((0, base), 0), way[0])
            self.assertTrue(are_right(base, log, costs, way[0], found), (base, log, costs, found))
            for lowest, told in ((way[0], True), (way[0] + 1, False), (0, True), (-5, True), (-10 ** 30, True),
                                 (10 ** 30, False)):
                self.assertIs(are_notes(base, log, costs, lowest, found), told)
            ways += way[0] > 0
        self.assertGreater(ways, 300)

    def test_changed_ones(self):
        right = wrong = 0
        for base, log, costs in TRIED[::2]:
            if cheapest_undoing(base, log, costs) is None:
                continue
            found = notes(base, log, costs)
            changed = [found[:at] + found[at + 1:] for at in range(len(found))]
            for at, (place, left, mark) in enumerate(found):
                for other in ((place, left, mark + 1), (place, left, mark - 1), (place + 1, left, mark),
                              (place - 1, left, mark), (place, NEVER, mark), (place, ALWAYS, mark),
                              (place, (("a", "a"),), mark)):
                    changed += [found[:at] + (other,) + found[at + 1:], tuple(sorted(found + (other,)))]
            for thing in changed + [found[::-1], found * 2]:
                for lowest in (0, 1, 2):
                    told = are_right(base, log, costs, lowest, thing)
                    self.assertIs(are_notes(base, log, costs, lowest, thing), told, (base, log, costs, lowest, thing))
                    right += told
                    wrong += not told
        self.assertGreater(min(right, wrong), 1000)

    def test_no_undoing_has_a_lesser_price_than_right_notes_tell(self):
        bases = [(("a", "b"),), (("b",),), (("a",),)]
        costs = (("a", 2), ("b", 1))
        for log in all_logs("ab", 2):
            rows = list(itertools.product(range(len(log)), bases, (1, 2, 3)))
            for chosen in subsets(rows[:9]):
                for base in bases:
                    way = cheapest_undoing(base, log, costs)
                    self.assertIs(are_notes(base, log, costs, way[0] + 1, tuple(sorted(chosen))), False)

    def test_things_of_all_kinds(self):
        base, log, costs = (("a", "b"),), ("a", "b"), (("a", 3), ("b", 1))
        right = ((0, base, 1), (1, (("b",),), 1))
        self.assertIs(are_notes(base, log, costs, 1, right), True)
        for thing in (*KINDS, *right, list(right), (list(right[0]), right[1]), right[:1], right[1:], right[::-1],
                      ((0, as_lists(base), 1), right[1]), ((0, [("a", "b")], 1), right[1]),
                      ((False, base, 1), right[1]), ((0, base, True), (1, (("b",),), True)), (right[0], (True, *right[1][1:])),
                      ((0, base, 1, 1), right[1]), ((0, base), right[1]), ((0, base, "1"), right[1]),
                      (("0", base, 1), right[1]), ((None, base, 1), right[1]), ((0, base, None), right[1]),
                      ((0, "ab", 1), right[1]), ((0, (("a", "b"), ("b",)), 1), right[1]), (right[0], right[1], (2, base, 1)),
                      ((-1, base, 1), *right), ((0, base, 0), right[1]), ((0, base, -1), *right), (*right, *right),
                      ((0, ALWAYS, 1), *right), ((0, base, 1), (0, base, 2), right[1])):
            self.assertIs(are_notes(base, log, costs, 1, thing), False, thing)
        for thing in KINDS:
            # No notes at all tell that the price is 0 or more.
            for lowest in (0, -1):
                self.assertIs(are_notes(base, log, costs, lowest, thing), thing == () and isinstance(thing, tuple), thing)

    def test_marks_as_high_as_they_can_be(self):
        # If nothing can be lost, and the base is done, any mark is right.
        base, log = (("a", "b"),), ("a", "b")
        for mark in (1, 7, 10 ** 30, 10 ** 40):
            thing = ((0, base, mark), (1, (("b",),), mark))
            self.assertIs(are_notes(base, log, (), mark, thing), True)
            self.assertIs(are_notes(base, log, (), mark + 1, thing), False)
            self.assertIs(are_notes(base, log, (("b", mark - 1),), 1, thing), False)
            self.assertIs(are_notes(base, log, (("b", mark),), mark, thing), True)
        # Standings that lead nowhere count, too.
        self.assertIs(are_notes(base, ("a",), (), 0, ((0, (("a",),), 5),)), True)
        self.assertIs(are_notes(base, ("a",), (), 0, ((0, (("b",),), 5),)), False)

    def test_edges(self):
        for costs in ALL_COSTS:
            for log in all_logs("ab", 3):
                self.assertEqual(notes(NEVER, log, costs), ())
                self.assertEqual(caught(lambda: notes(ALWAYS, log, costs)), ("NoWay",))
                self.assertIs(are_notes(ALWAYS, log, costs, 0, ()), True)
                self.assertIs(are_notes(ALWAYS, log, costs, 1, ()), False)
            self.assertEqual(notes(GOAL, (), costs), ())
        self.assertEqual(caught(lambda: notes(GOAL, ["c", "a"], [["a", 4]])), ("NoWay",))


class Lines(unittest.TestCase):
    def price_at(self, base, log, costs, name, top, bottom):
        """What cheapest tells if the cost of the name is top / bottom, all costs taken so many times."""
        scaled = {other: cost * bottom for other, cost in costs}
        scaled[name] = top
        way = cheapest(base, log, tuple(sorted(scaled.items())))
        return None if way is None else Fraction(way[0], bottom)

    def test_against_cheapest(self):
        many = 0
        for base, log, costs in TRIED:
            for name in ("a", "b", "z"):
                found = lines(base, log, costs, name)
                self.assertIs(type(found), tuple)
                if self.price_at(base, log, costs, name, 1, 1) is None:
                    self.assertEqual(found, ())
                    continue
                starts = [Fraction(*start) for start, _, _ in found]
                self.check_form(found, starts)
                tops = [(start.numerator * 2 + step, start.denominator * 2) for start in starts for step in (-1, 0, 1)]
                for top, bottom in [*tops, (0, 1), (1, 3), (7, 2), (10 ** 13, 1)]:
                    if top >= 0:
                        at = max(place for place, start in enumerate(starts) if start <= Fraction(top, bottom))
                        _, fixed, times = found[at]
                        self.assertEqual(fixed + times * Fraction(top, bottom),
                                         self.price_at(base, log, costs, name, top, bottom), (base, log, costs, name))
                many += len(found) > 1
        self.assertGreater(many, 50)

    def check_form(self, found, starts):
        self.assertEqual(found[0][0], (0, 1))
        self.assertEqual([start for start, _, _ in found], [(each.numerator, each.denominator) for each in starts])
        self.assertEqual(starts, sorted(set(starts)))
        times = [each for _, _, each in found]
        self.assertEqual(times, sorted(set(times), reverse=True))

    def test_many_lines(self):
        words = [("b",) * 7, ("a",) + ("b",) * 4, ("a", "a", "b", "b"), ("a",) * 5 + ("b",), ("a",) * 8]
        base = tuple(sorted(words, key=lambda word: (len(word), word)))
        # At 18 three of them meet, and the one between them is never the cheapest one alone.
        self.assertEqual(lines(base, (), (("a", 6),), "b"),
                         (((0, 1), 0, 7), ((2, 1), 6, 4), ((3, 1), 12, 2), ((18, 1), 48, 0)))

    def test_whatever_the_cost_of_the_name_is(self):
        for base, log, costs in TRIED[::7]:
            others = tuple((name, cost) for name, cost in costs if name != "a")
            told = lines(base, log, others, "a")
            for cost in (0, 5, 10 ** 12):
                self.assertEqual(lines(base, log, (("a", cost), *others), "a"), told)

    def test_edges(self):
        for costs in ALL_COSTS:
            for name in ("a", "z"):
                self.assertEqual(lines(ALWAYS, ("a",), costs, name), (((0, 1), 0, 0),))
                self.assertEqual(lines(NEVER, ("a",), costs, name), ())
        self.assertEqual(lines((("a", "b"),), (), (), "a"), ())
        self.assertEqual(lines((("a", "a"),), ("a",), (), "a"), (((0, 1), 0, 1),))
        # At 1 / 2 both cost the same: from there on it is the one that costs no more than that.
        self.assertEqual(lines((("b",), ("a", "a")), (), (("b", 1),), "a"), (((0, 1), 0, 2), ((1, 2), 1, 0)))
        # Three lines that meet at one place: the one between them is never the only one.
        self.assertEqual(lines((("c",), ("a", "b"), ("a", "a", "a")), (), (("b", 2), ("c", 3)), "a"),
                         (((0, 1), 0, 3), ((1, 1), 3, 0)))


if __name__ == "__main__":
    unittest.main()
