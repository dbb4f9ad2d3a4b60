"""What the document says of all functions: their names and arguments, and how they take and return values."""

import ast
import copy
import inspect
import itertools
import os
import unittest

from moredone import bases, errors, leads, losses, rules, standings, weaves, words
from tests.helpers import as_lists, has_list

ORDER, CALL = (("a", "b"), ("b", "a", "a")), (("c",), ("a", "a"))
BACK = (("a", "b", "a"), ("b", "a", "b"))
LOG = ("b", "a", "c", "b", "a")
A, B, AB, AA = (("a",),), (("b",),), (("a", "b"),), (("a", "a"),)
TWO = (("a", "b"), ("b", "a"))
GATES, KNOWN = (("a", "b"), ("b",)), (((0, 0), (1, 0)),)

# The functions of the interface with their arguments, and calls of them with what they return. (Where the document
# leaves open which one of several is told, these are calls for which there is just one.)
CALLS = {
    words.is_part: (("word", "log"), [(("a", "b"), LOG, True), (("c", "c"), LOG, False), ((), (), True)]),
    words.places: (("word", "log"), [(("a", "b"), LOG, (1, 3)), (("c", "c"), LOG, None), ((), LOG, ())]),
    words.ways: (("word", "log"), [(("b", "a"), LOG, 3), (("a", "a", "a"), LOG, 0), ((), LOG, 1)]),
    words.rest: (("word", "log"), [(("c", "a", "b"), LOG, ("b",)), (("d", "a"), LOG, ("d", "a")), ((), LOG, ())]),
    words.front: (("word", "log"), [(("b", "c", "b", "c"), LOG, ("b", "c")), (("a", "a"), LOG, ())]),
    words.least_both: (("one", "other"), [(("a", "b"), ("b", "a"), BACK), ((), ("a",), (("a",),))]),
    words.common_parts: (("one", "other"), [(("a", "b"), ("b", "a"), (("a",), ("b",))), (("a",), (), ((),))]),
    bases.base_of: (("logs",), [((("b", "a"), ("a",), ("b", "b")), (("a",), ("b", "b"))), ((), ()), (((),), ((),))]),
    bases.does: (("base", "log"), [(ORDER, ("b", "a", "b"), True), (ORDER, ("b", "a"), False), (((),), (), True)]),
    bases.names_in: (("base",), [(CALL, ("a", "c")), ((), ())]),
    bases.either: (("one", "other"), [(ORDER, CALL, (("c",), ("a", "a"), ("a", "b"))), ((), CALL, CALL)]),
    bases.both: (("one", "other"), [((("a",),), (("b",),), (("a", "b"), ("b", "a"))), (((),), CALL, CALL)]),
    bases.then: (("one", "other"), [(CALL, (("b",),), (("c", "b"), ("a", "a", "b"))), ((), CALL, ()),
                                    ((("b",),), CALL, (("b", "c"), ("b", "a", "a")))]),
    bases.times: (("base", "number"), [(CALL, 2, (("c", "c"), ("a", "a", "c"), ("c", "a", "a"), ("a",) * 4)),
                                       (CALL, 0, ((),)), ((), 2, ())]),
    bases.is_inside: (("one", "other"), [(CALL, ORDER, False), ((("a", "b", "a"),), ORDER, True)]),
    bases.outside: (("one", "other"), [(CALL, ORDER, ("c",)), (ORDER, CALL, ("a", "b")), (CALL, CALL, None)]),
    bases.missing: (("base", "other"), [(CALL, ORDER, (("a", "b"),)), (ORDER, CALL, CALL), (CALL, CALL, ())]),
    bases.common: (("base",), [(BACK, (("a", "b"), ("b", "a"))), (CALL, ((),)), ((), None),
                               ((("a", "c"),), (("a", "c"),))]),
    bases.is_checklist: (("base",), [(BACK, True), (CALL, False), ((), False)]),
    bases.stages: (("base",), [((("a", "b"), ("c", "b")), ((("a",), ("c",)), (("b",),))), (((),), ()), ((), None)]),
    standings.standing: (("base", "log"), [(ORDER, ("c", "b"), (("a", "a"), ("a", "b"))), (CALL, LOG, ((),)),
                                           ((), LOG, ()), (CALL, (), CALL)]),
    standings.helpful: (("base", "log"), [(CALL, ("a",), ("a", "c")), (CALL, LOG, ()), (AB, ("a",), ("b",))]),
    standings.further: (("base", "log"), [(CALL, ("a",), ("a",)), (CALL, LOG, ()), ((), LOG, None)]),
    standings.helped: (("base", "log"), [(CALL, LOG, (1, 2)), (AB, LOG, (1, 3)), ((), LOG, ())]),
    standings.is_ahead: (("base", "one", "other"), [(TWO, (), ("a",), True), (TWO, ("a",), ("b",), False),
                                                    (AB, ("b",), ("a",), True), (AB, ("a",), ("b",), False)]),
    standings.same: (("base", "one", "other"), [(CALL, ("b",), (), True), (CALL, ("a",), (), False)]),
    standings.parting_end: (("base", "one", "other"), [(AB, ("a",), (), ("b",)), (AB, ("b",), (), None),
                                                       (AB, ("a",), ("a", "b"), ())]),
    standings.standings: (("base",), [(AB, [((),), AB, B]), ((), [()])]),
    standings.moves: (("base",), [(AB, [(AB, "a", B), (B, "b", ((),))]), ((), [])]),
    standings.longest_helping: (("base",), [((("a", "b", "a"),), ("a", "b", "a")), (AA, ("a", "a")), ((), ())]),
    losses.without: (("log", "places"), [(LOG, (3, 0), ("a", "c", "a")), (LOG, (-1, 9), LOG), ((), (0,), ())]),
    losses.needed: (("base", "log"), [(AB, LOG, (1, 3)), (TWO, LOG, ()), ((), LOG, ())]),
    losses.idle: (("base", "log"), [(AB, LOG, (0, 2, 4)), (B, LOG, (1, 2, 4)), ((), LOG, (0, 1, 2, 3, 4))]),
    losses.fewest_losses: (("base", "log"), [(B, LOG, (0, 3)), (((),), LOG, None), ((("d",),), LOG, ())]),
    losses.withstands: (("base", "log", "many"), [(B, LOG, 1, True), (B, LOG, 2, False), (((),), LOG, 10 ** 30, True)]),
    losses.hardened: (("base", "many"), [(AB, 1, (("a", "a", "b", "b"), ("a", "b", "a", "b"))), (CALL, 0, CALL),
                                         (AA, 2, (("a",) * 4,)), ((), 3, ())]),
    losses.kernel: (("base", "log"), [(AB, LOG, (1, 3)), ((("c",), ("b", "b")), LOG, (2,)), ((), LOG, ())]),
    losses.setback: (("base", "log"), [(B, LOG, (0, 3)), ((("d",),), LOG, None), (((),), LOG, None)]),
    weaves.woven: (("logs", "order"), [(GATES, (1, 0, 0), ("b", "a", "b")), ((), (), ())]),
    weaves.is_weaving: (("logs", "log", "known"), [(GATES, ("b", "a", "b"), (), True), (GATES, ("b", "a", "b"), KNOWN,
                                                                                       False), ((), (), (), True)]),
    weaves.in_some: (("base", "logs", "known"), [(TWO, GATES, (), True), ((("b", "a"),), GATES, KNOWN, False)]),
    weaves.in_every: (("base", "logs", "known"), [(AB, GATES, (), True), ((("a", "b", "b"),), GATES, (), False),
                                                  ((("a", "b", "b"),), GATES, KNOWN, True)]),
    weaves.order_with: (("base", "logs", "known"), [((("b", "a"),), GATES, (), (1, 0, 0)), ((("c",),), GATES, (), None),
                                                    ((("b", "a"),), GATES, KNOWN, None)]),
    weaves.order_without: (("base", "logs", "known"), [((("a", "b", "b"),), GATES, (), (1, 0, 0)),
                                                       (AB, GATES, KNOWN, None), ((), ((), A[0]), (), (1,))]),
    weaves.how_many_orders: (("base", "logs", "known"), [((("b", "a"),), GATES, (), (1, 3)),
                                                         ((), GATES, KNOWN, (0, 2))]),
    weaves.soonest: (("base", "logs", "known"), [(B, GATES, (), 1), (B, GATES, KNOWN, 2), ((), GATES, (), None)]),
    weaves.latest: (("base", "logs", "known"), [(B, GATES, (), 2), (A, GATES, KNOWN, 1), (TWO, GATES, (), 2),
                                                ((("c",),), GATES, (), None)]),
    weaves.apart: (("one", "other"), [(AB, (("c",),), (("a", "b", "c"), ("a", "c", "b"), ("c", "a", "b"))),
                                      (CALL, (), ()), (A, TWO, (("a", "a", "b"), ("a", "b", "a"), ("b", "a", "a")))]),
    weaves.apart_times: (("base", "number"), [(A, 3, (("a",) * 3,)), (CALL, 0, ((),)), ((), 10 ** 30, ())]),
    weaves.beside: (("base", "other"), [(TWO, B, A), (AB, AB, ((),)), (AA, A, A), (CALL, (), ((),))]),
    weaves.most_apart: (("word", "log"), [(("b", "a"), LOG, 2), (("c", "c"), LOG, 0)]),
    weaves.taken: (("word", "log"), [(("b",), LOG, ((0,), (3,))), (("c", "a"), LOG, ((2, 4),)), (("c", "c"), LOG, ())]),
    leads.lead: (("base", "other"), [((("a", "b", "a"),), A, AB), (TWO, (), ((),)), (TWO, A, B)]),
    leads.rest_of: (("base", "other"), [((("a", "b", "a"),), A, (("b", "a"),)), (TWO, (), ((),)), (TWO, A, B)]),
    leads.amid: (("base", "one", "other"), [((("a", "b", "a"),), A, A, B), (CALL, (), A, ((),)), (AB, ((),), A, AB)]),
    leads.pairs: (("base",), [(AB, [(((),), AB), (A, B), (AB, ((),))]), ((), [((), ((),)), (((),), ())])]),
    leads.splits: (("base",), [(AB, [(A, B)]), (A, []), ((), [])]),
}
# The functions that take a thing, with their arguments, and calls of them with what they return: no list does for a
# tuple in the thing.
THINGS = {
    words.is_log: (("thing",), [(LOG, True), (("B",), False)]),
    bases.is_base: (("thing",), [(ORDER, True), (((), ("a",)), False)]),
    weaves.is_order: (("logs", "known", "thing"), [(GATES, (), (1, 0, 0), True), (GATES, KNOWN, (0, 1, 0), True),
                                                   (GATES, KNOWN, (1, 0, 0), False), (GATES, (), (0, 0), False)]),
    weaves.is_taken: (("word", "log", "thing"), [(("b", "a"), LOG, ((0, 1), (3, 4)), True),
                                                 (("b", "a"), LOG, ((0, 1), (0, 4)), False)]),
    leads.is_split: (("base", "thing"), [(AB, (A, B), True), (AB, (B, A), False)]),
}
OF_RULES = {
    rules.seen: ("name",), rules.nothing: (), rules.never: (), rules.base: ("rule",), rules.rule_of: ("words",),
    rules.alike: ("rule", "other"), rules.goes_with: ("rule", "other"), rules.parting: ("rule", "other"),
    rules.turned: ("rule",),
}
LISTED = {
    errors: """RuleError NoName BadText BadLine Tangled NoLog NoPlace NotDone Endless NoWay Twice NoPerson NoRule Taken
        Stopped NothingDone NotCoarse Gainsaid NoBadge""",
    words: "is_log is_part places ways rest front least_both common_parts",
    bases: """is_base base_of does names_in either both then times is_inside outside missing common is_checklist
        stages""",
    rules: "seen nothing never base rule_of alike goes_with parting turned",
    standings: """standing helpful further helped is_ahead same parting_end standings moves longest_helping""",
    losses: "without needed idle fewest_losses withstands hardened kernel setback",
    weaves: """woven is_order is_weaving in_some in_every order_with order_without how_many_orders soonest latest apart
        apart_times beside most_apart taken is_taken""",
    leads: "lead rest_of amid pairs splits is_split",
}


class Interface(unittest.TestCase):
    def test_each_name_is_defined_in_its_file(self):
        for module, names in LISTED.items():
            with open(module.__file__, encoding="ascii") as file:
                tree = ast.parse(file.read())
            defined = {node.name for node in tree.body if isinstance(node, (ast.FunctionDef, ast.ClassDef))}
            self.assertEqual(set(names.split()) - defined, set(), module.__name__)

    def test_each_function_is_tried_here(self):
        tried = {function.__name__ for function in [*CALLS, *THINGS, *OF_RULES]}
        listed = {name for module in LISTED if module is not errors for name in LISTED[module].split()}
        self.assertEqual(tried, listed)

    def test_names_of_arguments(self):
        named = {**{function: names for function, (names, _) in [*CALLS.items(), *THINGS.items()]}, **OF_RULES}
        for function, names in named.items():
            parameters = inspect.signature(function).parameters
            self.assertEqual(tuple(parameters), names, function.__name__)
            for each in parameters.values():
                left_out = () if each.name == "known" and function is not weaves.is_order else each.empty
                self.assertEqual((each.kind, each.default), (each.POSITIONAL_OR_KEYWORD, left_out))

    def test_methods_of_rules_stand_in_their_class(self):
        rule = type(rules.seen("a"))
        for name in "rshift rrshift or ror and rand mul rmul contains".split():
            self.assertIn(f"__{name}__", vars(rule))
        self.assertIn("text", vars(rule))
        self.assertIs(type(rules.never() | "a"), rule)

    def test_the_package_holds_nothing_but_its_files(self):
        folder = os.path.dirname(words.__file__)
        names = [name for name in os.listdir(folder) if name != "__pycache__"]
        self.assertTrue(all(name.endswith(".py") for name in names), names)


class Calls(unittest.TestCase):
    def calls(self):
        for function, (names, rows) in CALLS.items():
            for row in rows:
                yield function, names, row[:-1], row[-1]

    def test_by_place_and_by_name(self):
        for function, names, values, result in self.calls():
            for _ in range(2):
                self.check(function(*values), result, function)
                self.check(function(**dict(zip(names, values))), result, function)
                self.check(function(**dict(zip(names[::-1], values[::-1]))), result, function)
                self.check(function(values[0], **dict(zip(names[1:], values[1:]))), result, function)

    def check(self, found, result, function):
        self.assertEqual(found, result, function.__name__)
        self.assertIs(type(found), type(result), function.__name__)
        inner = found if isinstance(found, list) else [found]
        self.assertFalse(any(has_list(each) for each in inner), function.__name__)

    def test_lists_for_tuples(self):
        for function, names, values, result in self.calls():
            for lists in itertools.product((False, True), repeat=len(values)):
                given = [as_lists(value) if change else value for value, change in zip(values, lists)]
                before = copy.deepcopy(given)
                self.check(function(*given), result, function)
                self.check(function(**dict(zip(names, given))), result, function)
                self.assertEqual(given, before, function.__name__)

    def test_lists_within_tuples_and_tuples_within_lists(self):
        for function, names, values, result in self.calls():
            inner = [tuple(as_lists(each) for each in value) if isinstance(value, tuple) else value for value in values]
            outer = [list(value) if isinstance(value, tuple) else value for value in values]
            second = [tuple(list(each) if isinstance(each, tuple) else each for each in value)
                      if isinstance(value, tuple) else value for value in values]
            for given in (inner, outer, second):
                before = copy.deepcopy(given)
                self.check(function(*given), result, function)
                self.assertEqual(given, before, function.__name__)

    def test_returned_lists_are_new(self):
        for function, names, values, result in self.calls():
            if isinstance(result, list):
                found = function(*values)
                found.append("more")
                self.check(function(*values), result, function)
                self.assertIsNot(function(*values), function(*values))

    def test_what_is_returned_may_be_passed_in_again(self):
        self.assertEqual(bases.then(bases.both(ORDER, CALL), CALL), bases.both(bases.then(ORDER, CALL),
                                                                             bases.then(CALL, CALL)))
        self.assertEqual(bases.base_of(words.least_both(("a", "b"), ("b", "a"))), BACK)
        self.assertTrue(bases.does(bases.base_of([words.rest(("a", "d"), LOG)]), ("d",)))
        for begun in standings.standings(ORDER):
            self.assertIn(begun, standings.standings(begun))
        for one, other in leads.pairs(ORDER):
            self.assertEqual((leads.lead(ORDER, other), leads.rest_of(ORDER, one)), (one, other))
        for left in (losses.needed(AB, LOG), losses.kernel(AB, LOG)):
            self.assertEqual(losses.without(LOG, losses.idle(AB, LOG)), tuple(LOG[at] for at in left))
        order = weaves.order_with((("b", "a"),), GATES)
        self.assertTrue(weaves.is_weaving(GATES, weaves.woven(GATES, order)) and weaves.is_order(GATES, (), order))
        self.assertTrue(weaves.is_taken(("b",), LOG, weaves.taken(("b",), LOG)))

    def test_results_do_not_hang_on_what_was_handed_in(self):
        given = [["a", "b"], ["c"]]
        for function in (lambda: bases.base_of(given), lambda: bases.either(given, ()), lambda: bases.missing((), given),
                         lambda: bases.then(((),), given), lambda: bases.stages([given[0]]),
                         lambda: standings.standing(given, ()), lambda: standings.standings(given),
                         lambda: losses.hardened(given, 0), lambda: losses.without(given[0], ()),
                         lambda: weaves.apart(given, ((),)), lambda: weaves.beside(given, ((),)),
                         lambda: weaves.woven(given, (0, 1, 0)), lambda: leads.lead(given, ((),)),
                         lambda: leads.pairs([given[0]])):
            result = function()
            before = copy.deepcopy(result)
            given[0].append("z")
            self.assertEqual(result, before)
            given[0].pop()


class Things(unittest.TestCase):
    def calls(self):
        for function, (names, rows) in THINGS.items():
            for row in rows:
                yield function, names, row[:-1], row[-1]

    def test_by_place_and_by_name(self):
        for function, names, values, result in self.calls():
            for _ in range(2):
                self.assertIs(function(*values), result)
                self.assertIs(function(**dict(zip(names, values))), result)
                self.assertIs(function(**dict(zip(names[::-1], values[::-1]))), result)

    def test_lists_for_tuples_but_not_in_the_thing(self):
        for function, names, values, result in self.calls():
            for given in (as_lists(values[:-1]), [list(value) for value in values[:-1]],
                          [tuple(as_lists(each) for each in value) for value in values[:-1]]):
                before = copy.deepcopy(given)
                self.assertIs(function(*given, values[-1]), result)
                self.assertIs(function(**dict(zip(names, [*given, values[-1]]))), result)
                self.assertIs(function(*given, as_lists(values[-1])), False)
                self.assertIs(function(*given, list(values[-1])), False)
                self.assertEqual(given, before)

    def test_a_thing_is_not_changed(self):
        thing = [["b"], [["a"], 1, None]]
        before = copy.deepcopy(thing)
        for function, names, values, _ in self.calls():
            for given in (thing, (thing, thing), (thing,), ((0, 1), thing)):
                kept = copy.deepcopy(given)
                self.assertIs(function(*values[:-1], given), False)
                self.assertEqual(given, kept)
            self.assertEqual(thing, before)


class OfRules(unittest.TestCase):
    def test_by_place_and_by_name(self):
        one, other = rules.seen(name="a"), rules.seen("b") | rules.seen("a")
        for _ in range(2):
            self.assertEqual(one.text, "a")
            self.assertEqual([rules.base(rule=one), rules.base(one)], [(("a",),)] * 2)
            self.assertEqual([rules.alike(rule=one, other=other), rules.alike(other=one, rule=one)], [False, True])
            self.assertEqual([rules.goes_with(other=one, rule=other), rules.goes_with(one, other)], [True, False])
            self.assertEqual([rules.goes_with(rule=other, other=one), rules.goes_with(other, one)], [True, True])
            self.assertEqual([rules.parting(other=one, rule=other), rules.parting(one, other)], [("b",)] * 2)
            self.assertEqual([rules.turned(rule=other).text, rules.turned(other).text], ["b | a"] * 2)
            self.assertEqual([rules.rule_of(words=ORDER).text, rules.rule_of(ORDER).text],
                             ["a >> b | b >> a >> a"] * 2)

    def test_wrong_names_by_name(self):
        with self.assertRaises(errors.NoName) as caught:
            rules.seen(name="No")
        self.assertEqual(caught.exception.value, "No")

    def test_lists_for_tuples(self):
        for given in (as_lists(ORDER), list(ORDER), tuple(as_lists(ORDER))):
            before = copy.deepcopy(given)
            self.assertEqual(rules.rule_of(given).text, "a >> b | b >> a >> a")
            self.assertEqual(rules.rule_of(words=given).text, "a >> b | b >> a >> a")
            self.assertEqual(given, before)
        log = ["a", "b"]
        self.assertTrue(log in rules.rule_of(ORDER))
        self.assertEqual(log, ["a", "b"])

    def test_results_hold_no_lists(self):
        rule, other = rules.rule_of(as_lists(ORDER)), rules.rule_of(as_lists(CALL))
        for result in (rules.base(rule), rules.base(rule >> other & rule | other), rules.parting(rule, other)):
            self.assertIs(type(result), tuple)
            self.assertFalse(has_list(result))


if __name__ == "__main__":
    unittest.main()
