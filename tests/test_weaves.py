import inspect
import itertools
import random
import unittest

from moredone.bases import is_base, is_inside, then
from moredone.errors import RuleError, Tangled
from moredone.weaves import (apart, apart_times, beside, how_many_orders, in_every, in_some, is_order, is_taken,
                             is_weaving, latest, most_apart, order_with, order_without, soonest, taken, woven)
from tests.helpers import (KINDS, Parts, all_logs, as_lists, at_places, choices, keeps, orders_of, subsets, weave,
                           weavings, without_places)

PARTS = Parts()
NEVER, ALWAYS = (), ((),)
SMALL = PARTS.bases("ab", 2)
MIDDLE = PARTS.bases("ab", 3)
THREE = PARTS.bases("abc", 2)
# LOGS of no source, of one, two and three, some of them without events.
SOURCES = [(), ((),), ((), ()), (("a", "b", "a"),), ((), ("a",)), (("a",), ("a",)), (("a",), ("b",)),
           (("a", "b"), ("b", "a")), (("a", "a", "b"), ("b",)), (("b", "a"), (), ("a", "b")),
           (("a",), ("b",), ("c",)), (("a", "c"), ("b",), ("b", "a")), (("a", "b"), ("b", "a"), ("c", "a"))]
WITH_KNOWN = (is_weaving, in_some, in_every, order_with, order_without, how_many_orders, soonest, latest)
SINGLE_EVENTS = (((0, 0), (0, 1)), ((0, 1), (0, 0)), ((0, 0), (0, 0)))


def events_of(logs):
    return [(source, place) for source, log in enumerate(logs) for place in range(len(log))]


def knowns(logs, seed):
    """No known pair, each single one, and some rows of them."""
    pairs = list(itertools.product(events_of(logs), repeat=2))
    choose = random.Random(seed)
    found = [()] + [(pair,) for pair in pairs if len(pairs) < 20 or choose.random() < 0.4]
    if pairs:
        found += [tuple(choose.choice(pairs) for _ in range(choose.randint(2, 4))) for _ in range(15)]
    return found


# All LOGS with what may be known of them, and the orders that keep it.
CASES = [(logs, known, [order for order in orders_of(logs) if keeps(order, known)])
         for logs in SOURCES for known in knowns(logs, 7)]


class Orders(unittest.TestCase):
    def test_there_are_cases_of_both_kinds(self):
        self.assertGreater(sum(not orders for _, _, orders in CASES), 20)
        self.assertGreater(sum(bool(orders) and bool(known) for _, known, orders in CASES), 60)

    def test_woven(self):
        for logs in SOURCES:
            for order in orders_of(logs):
                self.assertEqual(woven(logs, order), weave(logs, order))
        self.assertEqual(woven((), ()), ())
        self.assertEqual(woven([["ab", "a"], ["b"]], [0, 1, 0]), ("ab", "b", "a"))

    def test_is_order(self):
        for logs, known, orders in CASES:
            kept = set(orders)
            for length in range(sum(len(log) for log in logs) + 2):
                if length <= 5:
                    for thing in itertools.product(range(-1, len(logs) + 1), repeat=length):
                        self.assertIs(is_order(logs, known, thing), thing in kept)
            for thing in orders_of(logs):
                self.assertIs(is_order(logs, known, thing), thing in kept, (logs, known, thing))

    def test_is_order_of_things_of_all_kinds(self):
        for logs in ((), ((),), (("a",),), (("a",), ("b",)), (("a", "b"),)):
            for thing in KINDS:
                found = is_order(logs, (), thing)
                self.assertIs(found, isinstance(thing, tuple) and thing in orders_of(logs), (logs, thing))
        two = (("a",), ("b",))
        for thing in ((0, True), (False, 1), (True, False), ("0", "1"), (0, None), (0, (1,)), ((0, 1),), [0, 1],
                      (0, 1, 10 ** 30), (0, -1), (1, -2), (-2, -1), "01", (0, [1]), (0, "b"), ("a", "b"), 0, None):
            self.assertIs(is_order(two, (), thing), False, thing)
        self.assertIs(is_order(two, (), (0, 1)), True)

    def test_is_order_raises_nothing(self):
        for known in SINGLE_EVENTS[1:]:
            self.assertIs(is_order((("a", "b"),), (known,), (0, 0)), False)
            self.assertIs(is_order((("a", "b"),), (known,), ()), False)
            self.assertIs(is_order((("a", "b"),), (known,), None), False)

    def test_is_weaving(self):
        for logs, known, orders in CASES:
            if orders:
                found = {weave(logs, order) for order in orders}
                many = sum(len(log) for log in logs)
                tried = itertools.chain(*[itertools.product("abc", repeat=length) for length in (many - 1, many, many + 1)
                                          if 0 <= length <= 4])
                for log in itertools.chain(tried, {weave(logs, order) for order in orders_of(logs)}):
                    self.assertIs(is_weaving(logs, log, known), log in found, (logs, known, log))

    def test_edges_of_is_weaving(self):
        self.assertIs(is_weaving((), ()), True)
        self.assertIs(is_weaving(((), ()), ()), True)
        self.assertIs(is_weaving((), ("a",)), False)
        self.assertIs(is_weaving((("a",),), ()), False)
        self.assertIs(is_weaving((("a", "b"), ("a",)), ("a", "a", "b")), True)
        self.assertIs(is_weaving((("a", "b"), ("a",)), ("a", "a", "b", "b")), False)
        self.assertIs(is_weaving((("a", "b"),), ("b", "a")), False)


class AllOrders(unittest.TestCase):
    BASES = [NEVER, ALWAYS] + SMALL[2::5] + MIDDLE[5::70] + THREE[7::130] + [(("a", "b", "a", "b"),), (("a", "b"),)]

    def check(self, base, logs, known, orders):
        done = [order for order in orders if PARTS.done(base, weave(logs, order))]
        undone = [order for order in orders if order not in done]
        self.assertIs(in_some(base, logs, known), bool(done))
        self.assertIs(in_every(base, logs, known), not undone)
        self.assertEqual(how_many_orders(base, logs, known), (len(done), len(orders)))
        self.assertIn(order_with(base, logs, known), done or [None])
        self.assertIn(order_without(base, logs, known), undone or [None])
        # For each order the least beginning that does it; None if not all of it does.
        ends = [min((many for many in range(len(order) + 1) if PARTS.done(base, weave(logs, order)[:many])),
                    default=None) for order in orders]
        self.assertEqual(soonest(base, logs, known), min((end for end in ends if end is not None), default=None))
        self.assertEqual(latest(base, logs, known), None if None in ends else max(ends), (base, logs, known))

    def test_against_all_orders(self):
        for logs, known, orders in CASES:
            if orders:
                for base in self.BASES:
                    self.check(base, logs, known, orders)

    def test_nothing_known_if_it_is_left_out(self):
        for logs in SOURCES:
            for base in self.BASES:
                for function in WITH_KNOWN[1:]:
                    self.assertEqual(function(base, logs), function(base, logs, ()))
                    self.assertEqual(function(base, logs), function(base, logs, known=[]))
            log = tuple(event for each in logs for event in each)
            self.assertIs(is_weaving(logs, log), True)
        for function in WITH_KNOWN:
            self.assertEqual(inspect.signature(function).parameters["known"].default, ())

    def test_tangled(self):
        for logs, known, orders in CASES:
            log = tuple(event for each in logs for event in each)
            for function in WITH_KNOWN:
                given = (logs, log, known) if function is is_weaving else ((("a",),), logs, known)
                if orders:
                    function(*given)
                else:
                    self.check_tangled(function, given)
                    self.check_tangled(function, as_lists(given))
                    # Whatever is asked: also of what no weaving does, or all do.
                    for first in (NEVER, ALWAYS):
                        self.check_tangled(function, (logs, first and (), known) if function is is_weaving
                                           else (first, logs, known))

    def check_tangled(self, function, given):
        with self.assertRaises(Tangled) as caught:
            function(*given)
        self.assertIs(type(caught.exception), Tangled)
        self.assertIsInstance(caught.exception, RuleError)

    def test_tangled_in_each_way(self):
        two = (("a", "b"), ("c", "d"))
        for known in ((((0, 1), (0, 0)),), (((0, 0), (0, 0)),), (((0, 0), (1, 0)), ((1, 0), (0, 0))),
                      (((0, 1), (1, 0)), ((1, 1), (0, 0))), (((0, 0), (1, 1)), ((1, 1), (0, 1)), ((0, 1), (1, 0)))):
            for function in WITH_KNOWN:
                given = (two, (), known) if function is is_weaving else (ALWAYS, two, known)
                self.check_tangled(function, given)
        self.assertEqual(how_many_orders(ALWAYS, two, (((0, 0), (1, 1)), ((1, 0), (0, 1)))), (4, 4))

    def test_what_is_known_twice_or_anyway(self):
        logs, known = (("a", "b"), ("b",)), (((0, 0), (0, 1)), ((0, 0), (1, 0)), ((0, 0), (1, 0)))
        self.assertEqual(how_many_orders((("a", "b"),), logs, known), (2, 2))
        self.assertEqual(order_with((("a", "b", "b"),), logs, known)[0], 0)
        self.assertIs(in_every((("a", "b", "b"),), logs, known), True)
        self.assertIs(in_every((("a", "b", "b"),), logs), False)

    def test_edges(self):
        self.assertEqual([in_some(ALWAYS, ()), in_every(ALWAYS, ()), in_some(NEVER, ()), in_every(NEVER, ())],
                         [True, True, False, False])
        self.assertEqual([order_with(ALWAYS, ()), order_without(ALWAYS, ()), order_with(NEVER, ()),
                          order_without(NEVER, ())], [(), None, None, ()])
        self.assertEqual([how_many_orders(ALWAYS, ()), how_many_orders(NEVER, ())], [(1, 1), (0, 1)])
        self.assertEqual([soonest(ALWAYS, ()), latest(ALWAYS, ()), soonest(NEVER, ()), latest(NEVER, ())],
                         [0, 0, None, None])
        for logs in SOURCES:
            self.assertEqual([soonest(ALWAYS, logs), latest(ALWAYS, logs), soonest(NEVER, logs), latest(NEVER, logs)],
                             [0, 0, None, None])
        # Orders that have the same weaving are counted one by one.
        self.assertEqual(how_many_orders((("a", "a"),), (("a",), ("a",))), (2, 2))
        self.assertEqual(latest((("a",),), (("a", "b"), ("a",))), 1)
        self.assertEqual(latest((("b",),), (("a", "b"), ("a",))), 3)
        self.assertEqual(soonest((("b",),), (("a", "b"), ("a",))), 2)

    def test_told_again(self):
        for logs, known, orders in CASES[::5]:
            if orders:
                for base in self.BASES:
                    for function in (order_with, order_without):
                        found = function(base, logs, known)
                        self.assertEqual(function(base, logs, known), found)
                        self.assertEqual(function(*as_lists((base, logs, known))), found)
                        self.assertTrue(found is None or is_order(logs, known, found))


def hands(log, many):
    """All ways to deal the events of a log to so many hands: for each the tuple of what the hands have."""
    for deal in itertools.product(range(many), repeat=len(log)):
        yield tuple(tuple(event for event, hand in zip(log, deal) if hand == each) for each in range(many))


def longest(base):
    return max((len(word) for word in base), default=0)


class Apart(unittest.TestCase):
    ONES = SMALL[::3] + MIDDLE[40::120]

    def test_all_deals(self):
        for one, other in itertools.product(self.ONES, repeat=2):
            most = longest(one) + longest(other)
            if most <= 5:
                found = PARTS.base(all_logs("ab", most + 1), lambda log: any(
                    PARTS.done(one, first) and PARTS.done(other, second) for first, second in hands(log, 2)))
                self.assertEqual(apart(one, other), found, (one, other))
                self.assertIs(is_base(apart(one, other)), True)

    def test_the_logs_that_do_it_are_the_weavings(self):
        for one, other in itertools.product(SMALL[::4], repeat=2):
            done = {log for first in all_logs("ab", 3) if PARTS.done(one, first) for second in all_logs("ab", 3)
                    if PARTS.done(other, second) for log in weavings(first, second) if len(log) <= 3}
            self.assertEqual(done, {log for log in all_logs("ab", 3) if PARTS.done(apart(one, other), log)})

    def test_words(self):
        for one, other in itertools.product(self.ONES, repeat=2):
            every = {log for first in one for second in other for log in weavings(first, second)}
            self.assertEqual(apart(one, other), PARTS.least(every))
            self.assertEqual(apart(other, one), apart(one, other))

    def test_edges_of_apart(self):
        for base in SMALL + MIDDLE[::20]:
            self.assertEqual([apart(base, NEVER), apart(NEVER, base)], [NEVER, NEVER])
            self.assertEqual([apart(base, ALWAYS), apart(ALWAYS, base)], [base, base])
        self.assertEqual(apart((("a",),), (("a",),)), (("a", "a"),))
        self.assertEqual(apart((("a",), ("b", "b")), (("a",),)), (("a", "a"), ("a", "b", "b"), ("b", "a", "b"),
                                                                  ("b", "b", "a")))

    def test_apart_times(self):
        for base in SMALL:
            for number in range(4):
                most = longest(base) * number
                if most <= 6 and len(base) <= 2:
                    logs = all_logs("ab", most)
                    found = PARTS.base(logs, lambda log: any(
                        all(PARTS.done(base, hand) for hand in dealt) for dealt in hands(log, number))
                        if number else True)
                    self.assertEqual(apart_times(base, number), found, (base, number))

    def test_apart_times_is_a_row_of_apart(self):
        for base in SMALL:
            dealt = ALWAYS
            for number in range(4):
                self.assertEqual(apart_times(base, number), dealt)
                dealt = apart(base, dealt)

    def test_edges_of_apart_times(self):
        for base in MIDDLE:
            self.assertEqual([apart_times(base, 0), apart_times(base, 1)], [ALWAYS, base])
        for number in (1, 2, 7, 10 ** 6, 10 ** 30):
            self.assertEqual(apart_times(ALWAYS, number), ALWAYS)
            self.assertEqual(apart_times(NEVER, number), NEVER)
        self.assertEqual(apart_times((("a",),), 6), (("a",) * 6,))


class Beside(unittest.TestCase):
    def greatest(self, base, other, names, most):
        """By trying all logs: those each of whose weavings with each short log that does other does base."""
        ends = [log for log in all_logs(names, max(2, longest(other))) if PARTS.done(other, log)]
        return PARTS.base(all_logs(names, most), lambda log: all(
            PARTS.done(base, each) for end in ends for each in weavings(log, end)))

    def test_all_short_logs(self):
        for base in SMALL + MIDDLE[9::40]:
            for other in SMALL[::4] + [(("a", "b"), ("b", "a")), (("a",),), (("b",), ("a", "a")), NEVER, ALWAYS]:
                self.assertEqual(beside(base, other), self.greatest(base, other, "ab", 4), (base, other))

    def test_three_names(self):
        for base in THREE[11::60]:
            for other in ((("a",),), (("c",), ("b", "a")), (("a", "c"),), (("a", "b"), ("b", "c"))):
                self.assertEqual(beside(base, other), self.greatest(base, other, "abc", 3), (base, other))

    def test_it_goes_with_apart(self):
        for base, one, other in itertools.product(SMALL, SMALL[::2], SMALL[::3]):
            self.assertIs(is_inside(apart(one, other), base), is_inside(one, beside(base, other)), (base, one, other))

    def test_edges(self):
        for base in MIDDLE:
            self.assertEqual([beside(base, NEVER), beside(base, ALWAYS), beside(ALWAYS, base)],
                             [ALWAYS, base, ALWAYS])
            self.assertEqual(beside(base, (("z",),)), base)
            self.assertIs(is_base(beside(base, (("a",), ("b",)))), True)
            self.assertEqual(beside(NEVER, base), ALWAYS if base == NEVER else NEVER)

    def test_single_ones(self):
        self.assertEqual(beside((("a", "b"),), (("b",),)), (("a", "b"),))
        self.assertEqual(beside((("a", "b", "a"), ("b", "b")), (("b",),)), (("b",),))
        self.assertEqual(beside((("a", "c"), ("c", "a")), (("a", "c"),)), ALWAYS)


class MostApart(unittest.TestCase):
    WORDS = [("a",), ("a", "b"), ("a", "a"), ("a", "b", "a"), ("a", "a", "b"), ("b", "a", "a"), ("a", "b", "b", "a"),
             ("a", "b", "a", "b"), ("a", "a", "a"), ("b", "a", "b", "b")]

    def most(self, word, log):
        """By trying all choices: how many choices of places of the word can stand beside one another."""
        found = [places for places in choices(len(log), len(word)) if at_places(log, places) == word]

        def beside_one_another(left):
            if not left:
                return 0
            first, rest = left[0], left[1:]
            free = [places for places in rest if not set(places) & set(first)]
            return max(beside_one_another(rest), 1 + beside_one_another(free))

        return beside_one_another(found) if len(found) < 15 else self.most_by_losing(word, log)

    def most_by_losing(self, word, log):
        """The same for many choices: by the first event that one of them takes."""
        if not PARTS.is_part(word, log):
            return 0
        found = [places for places in choices(len(log), len(word)) if at_places(log, places) == word]
        with_first = [1 + self.most_by_losing(word, without_places(log, places))
                      for places in found if places[0] == found[0][0]]
        return max(with_first + [self.most_by_losing(word, log[found[0][0] + 1:])])

    def test_all_choices(self):
        for word in self.WORDS:
            for log in all_logs("ab", 6) + random.Random(8).sample(all_logs("ab", 8), 60):
                most = self.most(word, log)
                self.assertEqual(most_apart(word, log), most, (word, log))
                found = taken(word, log)
                self.assertEqual(len(found), most)
                self.check_taken(word, log, found)

    def check_taken(self, word, log, found):
        self.assertIs(type(found), tuple)
        self.assertEqual(found, tuple(sorted(found)))
        every = [place for places in found for place in places]
        self.assertEqual(len(every), len(set(every)))
        for places in found:
            self.assertIs(type(places), tuple)
            self.assertEqual(places, tuple(sorted(places)))
            self.assertEqual(at_places(log, places), word)
        self.assertIs(is_taken(word, log, found), True)

    def test_three_names(self):
        for word in (("a", "b", "c"), ("a", "c", "a"), ("c", "a", "b", "c")):
            for log in random.Random(9).sample(all_logs("abc", 8), 80):
                self.assertEqual(most_apart(word, log), self.most(word, log), (word, log))
                self.check_taken(word, log, taken(word, log))

    def test_to_take_what_comes_first_is_not_enough(self):
        # The second a has to open another hand, or to end the first one, as what comes later asks for it.
        self.assertEqual(most_apart(("a", "b", "a"), ("a", "b", "a", "b", "a", "a")), 2)
        self.assertEqual(most_apart(("a", "b", "a"), ("a", "a", "b", "a", "b", "a")), 2)
        self.assertEqual(most_apart(("a", "b", "a"), ("a", "b", "a", "a", "b", "a")), 2)
        self.assertEqual(most_apart(("a", "b", "a"), ("a", "b", "a", "b", "a")), 1)
        self.assertEqual(most_apart(("a", "a", "b"), ("a", "a", "b", "a", "a", "b")), 2)

    def test_edges(self):
        for word in self.WORDS:
            self.assertEqual([most_apart(word, ()), taken(word, ())], [0, ()])
            self.assertEqual([most_apart(word, ("z",)), taken(word, ("z",))], [0, ()])
            self.assertEqual([most_apart(word, word), taken(word, word)], [1, (tuple(range(len(word))),)])
            self.assertEqual(most_apart(word, word * 3), 3)
        self.assertEqual(taken(("a",), ("a", "b", "a")), ((0,), (2,)))
        self.assertEqual(taken(["a", "a"], ["a", "a", "a"]), taken(("a", "a"), ("a", "a", "a")))


class IsTaken(unittest.TestCase):
    def test_all_choices(self):
        for word in (("a",), ("a", "b"), ("a", "a")):
            for log in all_logs("ab", 4):
                found = [places for places in choices(len(log), len(word)) if at_places(log, places) == word]
                right = {chosen for chosen in subsets(found)
                         if len({place for places in chosen for place in places}) == len(chosen) * len(word)}
                tuples = list(itertools.product(range(len(log) + 1), repeat=len(word)))[:40]
                for many in range(3):
                    for thing in itertools.product(tuples, repeat=many):
                        self.assertIs(is_taken(word, log, thing), thing in right, (word, log, thing))
                for thing in right:
                    self.assertIs(is_taken(word, log, thing), True)
                    self.assertIs(is_taken(word, log, thing[::-1]), len(thing) < 2)

    def test_things_of_all_kinds(self):
        for thing in KINDS:
            self.assertIs(is_taken(("a",), ("a", "a"), thing), thing == () and isinstance(thing, tuple), thing)
        word, log = ("a", "b"), ("a", "b", "a", "b")
        self.assertIs(is_taken(word, log, ((0, 1), (2, 3))), True)
        for thing in (((2, 3), (0, 1)), [(0, 1)], ([0, 1],), ((0, 1), [2, 3]), ((0, True),), ((False, 1),), ((0, None),),
                      (0, 1), ((0, 1), 2), ((0, "1"),), ((1, 0),), ((0, 0),), ((0, 1, 2),), ((0,),), ((),), ((0, 1), ()),
                      ((0, 4),), ((-4, 1),), ((0, -1),), ((0, -3),), ((0, 10 ** 30),), ((-10 ** 30, 1),), ((0, 1), (0, 1)),
                      ((0, 1), (0, 3)), ((0, 3), (2, 3)), ((0, 2),), ((1, 3),), (((0, 1),),), ((0, 1), ((2, 3),)), None,
                      True, 0, "ab"):
            self.assertIs(is_taken(word, log, thing), False, thing)

    def test_numbers_below_zero_are_no_places(self):
        for thing in (((-1,),), ((-2,),), ((-1,), (0,)), ((-2,), (1,))):
            self.assertIs(is_taken(("a",), ("a", "a"), thing), False, thing)
        for thing in (((-1, 0),), ((-3, 0),), ((-1, 2),)):
            self.assertIs(is_taken(("b", "a"), ("a", "b", "a", "b"), thing), False, thing)

    def test_lists_for_the_others(self):
        self.assertIs(is_taken(["a", "b"], ["a", "b"], ((0, 1),)), True)
        self.assertIs(is_taken(["a", "b"], ["a", "b"], [(0, 1)]), False)

    def test_fewer_than_most_are_enough(self):
        log = ("a", "a", "b", "b")
        for thing in ((), ((0, 2),), ((0, 3),), ((1, 2),), ((0, 2), (1, 3)), ((0, 3), (1, 2))):
            self.assertIs(is_taken(("a", "b"), log, thing), True)

    def test_places_may_cross(self):
        self.assertIs(is_taken(("a", "b"), ("a", "a", "b", "b"), ((0, 3), (1, 2))), True)
        self.assertIs(is_taken(("a", "b"), ("a", "a", "b", "b"), ((1, 2), (0, 3))), False)


class WithThen(unittest.TestCase):
    def test_one_behind_the_other_is_apart(self):
        for one, other in itertools.product(SMALL, repeat=2):
            self.assertIs(is_inside(then(one, other), apart(one, other)), True)


if __name__ == "__main__":
    unittest.main()
