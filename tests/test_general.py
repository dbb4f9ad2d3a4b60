"""What the document says of all functions: their names and arguments, and how they take and return values."""

import ast
import copy
import inspect
import itertools
import os
import unittest

from moredone import bases, errors, rules, words
from tests.helpers import as_lists, has_list

ORDER, CALL = (("a", "b"), ("b", "a", "a")), (("c",), ("a", "a"))
BACK = (("a", "b", "a"), ("b", "a", "b"))
LOG = ("b", "a", "c", "b", "a")

# The functions of the interface with their arguments, and calls of them with what they return.
CALLS = {
    words.is_part: (("word", "log"), [(("a", "b"), LOG, True), (("c", "c"), LOG, False), ((), (), True)]),
    words.places: (("word", "log"), [(("a", "b"), LOG, (1, 3)), (("c", "c"), LOG, None), ((), LOG, ())]),
    words.ways: (("word", "log"), [(("b", "a"), LOG, 3), (("a", "a", "a"), LOG, 0), ((), LOG, 1)]),
    words.rest: (("word", "log"), [(("c", "a", "b"), LOG, ("b",)), (("d", "a"), LOG, ("d", "a")), ((), LOG, ())]),
    words.front: (("word", "log"), [(("b", "c", "b", "c"), LOG, ("b", "c")), (("a", "a"), LOG, ())]),
    words.least_both: (("one", "other"), [(("a", "b"), ("b", "a"), BACK), ((), ("a",), (("a",),))]),
    words.common_parts: (("one", "other"), [(("a", "b"), ("b", "a"), (("a",), ("b",))), (("a",), (), ((),))]),
    bases.base_of: (("logs",), [((("b", "a"), ("a",), ("b", "b")), (("a",), ("b", "b"))), ((), ()), (((),), ((),))]),
    bases.does: (("base", "log"), [(ORDER, ("b", "a", "b"), True), (ORDER, ("b", "a"), False), (((),), (), True)]),
    bases.names_in: (("base",), [(CALL, ("a", "c")), ((), ())]),
    bases.either: (("one", "other"), [(ORDER, CALL, (("c",), ("a", "a"), ("a", "b"))), ((), CALL, CALL)]),
    bases.both: (("one", "other"), [((("a",),), (("b",),), (("a", "b"), ("b", "a"))), (((),), CALL, CALL)]),
    bases.then: (("one", "other"), [(CALL, (("b",),), (("c", "b"), ("a", "a", "b"))), ((), CALL, ()),
                                    ((("b",),), CALL, (("b", "c"), ("b", "a", "a")))]),
    bases.times: (("base", "number"), [(CALL, 2, (("c", "c"), ("a", "a", "c"), ("c", "a", "a"), ("a",) * 4)),
                                       (CALL, 0, ((),)), ((), 2, ())]),
    bases.is_inside: (("one", "other"), [(CALL, ORDER, False), ((("a", "b", "a"),), ORDER, True)]),
    bases.outside: (("one", "other"), [(CALL, ORDER, ("c",)), (ORDER, CALL, ("a", "b")), (CALL, CALL, None)]),
    bases.missing: (("base", "other"), [(CALL, ORDER, (("a", "b"),)), (ORDER, CALL, CALL), (CALL, CALL, ())]),
    bases.common: (("base",), [(BACK, (("a", "b"), ("b", "a"))), (CALL, ((),)), ((), None),
                               ((("a", "c"),), (("a", "c"),))]),
    bases.is_checklist: (("base",), [(BACK, True), (CALL, False), ((), False)]),
    bases.stages: (("base",), [((("a", "b"), ("c", "b")), ((("a",), ("c",)), (("b",),))), (((),), ()), ((), None)]),
}
THINGS = {words.is_log: ("thing",), bases.is_base: ("thing",)}
OF_RULES = {
    rules.seen: ("name",), rules.nothing: (), rules.never: (), rules.base: ("rule",), rules.rule_of: ("words",),
    rules.alike: ("rule", "other"), rules.goes_with: ("rule", "other"), rules.parting: ("rule", "other"),
    rules.turned: ("rule",),
}
LISTED = {
    errors: """RuleError NoName BadText BadLine Tangled NoLog NoPlace NotDone Endless NoWay Twice NoPerson NoRule Taken
        Stopped NothingDone NotCoarse Gainsaid NoBadge""",
    words: "is_log is_part places ways rest front least_both common_parts",
    bases: """is_base base_of does names_in either both then times is_inside outside missing common is_checklist
        stages""",
    rules: "seen nothing never base rule_of alike goes_with parting turned",
}


class Interface(unittest.TestCase):
    def test_each_name_is_defined_in_its_file(self):
        for module, names in LISTED.items():
            with open(module.__file__, encoding="ascii") as file:
                tree = ast.parse(file.read())
            defined = {node.name for node in tree.body if isinstance(node, (ast.FunctionDef, ast.ClassDef))}
            self.assertEqual(set(names.split()) - defined, set(), module.__name__)

    def test_each_function_is_tried_here(self):
        tried = {function.__name__ for function in [*CALLS, *THINGS, *OF_RULES]}
        listed = {name for module in (words, bases, rules) for name in LISTED[module].split()}
        self.assertEqual(tried, listed)

    def test_names_of_arguments(self):
        named = {**{function: names for function, (names, _) in CALLS.items()}, **THINGS, **OF_RULES}
        for function, names in named.items():
            parameters = inspect.signature(function).parameters
            self.assertEqual(tuple(parameters), names, function.__name__)
            for each in parameters.values():
                self.assertEqual((each.kind, each.default), (each.POSITIONAL_OR_KEYWORD, each.empty))

    def test_methods_of_rules_stand_in_their_class(self):
        rule = type(rules.seen("a"))
        for name in "rshift rrshift or ror and rand mul rmul contains".split():
            self.assertIn(f"__{name}__", vars(rule))
        self.assertIn("text", vars(rule))
        self.assertIs(type(rules.never() | "a"), rule)

    def test_the_package_holds_nothing_but_its_files(self):
        folder = os.path.dirname(words.__file__)
        names = [name for name in os.listdir(folder) if name != "__pycache__"]
        self.assertTrue(all(name.endswith(".py") for name in names), names)


class Calls(unittest.TestCase):
    def calls(self):
        for function, (names, rows) in CALLS.items():
            for row in rows:
                yield function, names, row[:-1], row[-1]

    def test_by_place_and_by_name(self):
        for function, names, values, result in self.calls():
            for _ in range(2):
                self.check(function(*values), result, function)
                self.check(function(**dict(zip(names, values))), result, function)
                self.check(function(**dict(zip(names[::-1], values[::-1]))), result, function)
                self.check(function(values[0], **dict(zip(names[1:], values[1:]))), result, function)

    def check(self, found, result, function):
        self.assertEqual(found, result, function.__name__)
        self.assertIs(type(found), type(result), function.__name__)
        self.assertFalse(has_list(found), function.__name__)

    def test_lists_for_tuples(self):
        for function, names, values, result in self.calls():
            for lists in itertools.product((False, True), repeat=len(values)):
                given = [as_lists(value) if change else value for value, change in zip(values, lists)]
                before = copy.deepcopy(given)
                self.check(function(*given), result, function)
                self.check(function(**dict(zip(names, given))), result, function)
                self.assertEqual(given, before, function.__name__)

    def test_lists_within_tuples_and_tuples_within_lists(self):
        for function, names, values, result in self.calls():
            inner = [tuple(as_lists(each) for each in value) if isinstance(value, tuple) else value for value in values]
            outer = [list(value) if isinstance(value, tuple) else value for value in values]
            for given in (inner, outer):
                before = copy.deepcopy(given)
                self.check(function(*given), result, function)
                self.assertEqual(given, before, function.__name__)

    def test_what_is_returned_may_be_passed_in_again(self):
        self.assertEqual(bases.then(bases.both(ORDER, CALL), CALL), bases.both(bases.then(ORDER, CALL),
                                                                             bases.then(CALL, CALL)))
        self.assertEqual(bases.base_of(words.least_both(("a", "b"), ("b", "a"))), BACK)
        self.assertTrue(bases.does(bases.base_of([words.rest(("a", "d"), LOG)]), ("d",)))

    def test_results_do_not_hang_on_what_was_handed_in(self):
        given = [["a", "b"], ["c"]]
        for function in (lambda: bases.base_of(given), lambda: bases.either(given, ()), lambda: bases.missing((), given),
                         lambda: bases.then(((),), given), lambda: bases.stages([given[0]])):
            result = function()
            before = copy.deepcopy(result)
            given[0].append("z")
            self.assertEqual(result, before)
            given[0].pop()


class Things(unittest.TestCase):
    def test_by_place_and_by_name(self):
        for function, thing in ((words.is_log, LOG), (bases.is_base, ORDER)):
            for _ in range(2):
                self.assertIs(function(thing), True)
                self.assertIs(function(thing=thing), True)
                self.assertIs(function(as_lists(thing)), False)
                self.assertIs(function(thing=list(thing)), False)

    def test_a_thing_is_not_changed(self):
        thing = [["b"], [["a"], 1, None]]
        before = copy.deepcopy(thing)
        for function in THINGS:
            self.assertIs(function(thing), False)
            self.assertEqual(thing, before)


class OfRules(unittest.TestCase):
    def test_by_place_and_by_name(self):
        one, other = rules.seen(name="a"), rules.seen("b") | rules.seen("a")
        for _ in range(2):
            self.assertEqual(one.text, "a")
            self.assertEqual([rules.base(rule=one), rules.base(one)], [(("a",),)] * 2)
            self.assertEqual([rules.alike(rule=one, other=other), rules.alike(other=one, rule=one)], [False, True])
            self.assertEqual([rules.goes_with(other=one, rule=other), rules.goes_with(one, other)], [True, False])
            self.assertEqual([rules.goes_with(rule=other, other=one), rules.goes_with(other, one)], [True, True])
            self.assertEqual([rules.parting(other=one, rule=other), rules.parting(one, other)], [("b",)] * 2)
            self.assertEqual([rules.turned(rule=other).text, rules.turned(other).text], ["b | a"] * 2)
            self.assertEqual([rules.rule_of(words=ORDER).text, rules.rule_of(ORDER).text],
                             ["a >> b | b >> a >> a"] * 2)

    def test_wrong_names_by_name(self):
        with self.assertRaises(errors.NoName) as caught:
            rules.seen(name="No")
        self.assertEqual(caught.exception.value, "No")

    def test_lists_for_tuples(self):
        for given in (as_lists(ORDER), list(ORDER), tuple(as_lists(ORDER))):
            before = copy.deepcopy(given)
            self.assertEqual(rules.rule_of(given).text, "a >> b | b >> a >> a")
            self.assertEqual(rules.rule_of(words=given).text, "a >> b | b >> a >> a")
            self.assertEqual(given, before)
        log = ["a", "b"]
        self.assertTrue(log in rules.rule_of(ORDER))
        self.assertEqual(log, ["a", "b"])

    def test_results_hold_no_lists(self):
        rule, other = rules.rule_of(as_lists(ORDER)), rules.rule_of(as_lists(CALL))
        for result in (rules.base(rule), rules.base(rule >> other & rule | other), rules.parting(rule, other)):
            self.assertIs(type(result), tuple)
            self.assertFalse(has_list(result))


if __name__ == "__main__":
    unittest.main()
