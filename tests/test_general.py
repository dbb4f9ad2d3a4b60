"""What the document says of all functions: their names and arguments, and how they take and return values."""

import ast
import copy
import inspect
import itertools
import os
import unittest

from moredone import (asks, bases, board, books, coarse, costs, desk, errors, leads, losses, numbers, rules, standings,
                      texts, weaves, words)
from tests.calls import A, AB, BACK, BOOK, CALL, CALLS, GATES, GOAL, LOG, ORDER, PAID, PAIR, THINGS
from tests.helpers import as_lists, caught, has_list

OF_RULES = {
    rules.seen: ("name",), rules.nothing: (), rules.never: (), rules.base: ("rule",), rules.rule_of: ("words",),
    rules.alike: ("rule", "other"), rules.goes_with: ("rule", "other"), rules.parting: ("rule", "other"),
    rules.turned: ("rule",), texts.rule_in: ("text",),
}
LISTED = {
    errors: """RuleError NoName BadText BadLine Tangled NoLog NoPlace NotDone Endless NoWay Twice NoPerson NoRule Taken
        Stopped NothingDone NotCoarse Gainsaid NoBadge""",
    words: "is_log is_part places ways rest front least_both common_parts",
    bases: """is_base base_of does names_in either both then times is_inside outside missing common is_checklist
        stages""",
    rules: "seen nothing never base rule_of alike goes_with parting turned",
    standings: """standing helpful further helped is_ahead same parting_end standings moves longest_helping""",
    losses: "without needed idle fewest_losses withstands hardened kernel setback",
    weaves: """woven is_order is_weaving in_some in_every order_with order_without how_many_orders soonest latest apart
        apart_times beside most_apart taken is_taken""",
    leads: "lead rest_of amid pairs splits is_split",
    coarse: "is_classes coarse_log lifted possible certain is_told doubtful is_finer joined shared coarsest",
    asks: "Finder shows paper",
    numbers: "how_many nth number_of how_many_with first_sure longest_without growth chance expected",
    costs: "cheapest cheapest_put cheapest_undoing notes are_notes lines",
    books: "is_book gained gained_at brings gains just gained_in_row tells unclear makes made_of tellers",
    board: "Board",
    texts: "log_text base_text log_in base_in rule_in",
    desk: "answers is_command",
}
# The classes of the interface with the names of the arguments of their methods.
CLASSES = {
    asks.Finder: {"__init__": ("names", "most"), "answered": ("log", "done"), "greatest": (), "forced": (), "found": (),
                  "another": (), "sure": ("log",), "next_ask": (), "asks": (), "back": (), "__len__": (),
                  "__eq__": ("other",)},
    board.Board: {"__init__": ("book", "logs"), "people": (), "book": (), "done": ("person",), "who": ("rule",),
                  "wanted": ("person",), "helped": ("person", "name"), "sure": ("person", "other"),
                  "possible": ("person", "other"), "losers": ("book",), "threats": ("book",), "join": ("person",),
                  "leave": ("person",), "event": ("person", "name"), "late": ("person", "place", "name"),
                  "lose": ("person", "place"), "rule": ("name", "base"), "drop": ("name",), "attempt": ("deeds",),
                  "back": (), "twin": (), "__getitem__": ("at",), "__contains__": ("x",), "__len__": (),
                  "__eq__": ("other",)},
}


class Interface(unittest.TestCase):
    def test_each_name_is_defined_in_its_file(self):
        for module, names in LISTED.items():
            with open(module.__file__, encoding="ascii") as file:
                tree = ast.parse(file.read())
            defined = {node.name for node in tree.body if isinstance(node, (ast.FunctionDef, ast.ClassDef))}
            self.assertEqual(set(names.split()) - defined, set(), module.__name__)

    def test_each_function_is_tried_here(self):
        tried = {function.__name__ for function in [*CALLS, *THINGS, *OF_RULES]}
        listed = {name for module in LISTED if module is not errors for name in LISTED[module].split()}
        self.assertEqual(tried, listed - {each.__name__ for each in CLASSES})

    def test_names_of_arguments(self):
        named = {**{function: names for function, (names, _) in [*CALLS.items(), *THINGS.items()]}, **OF_RULES}
        for function, names in named.items():
            parameters = inspect.signature(function).parameters
            self.assertEqual(tuple(parameters), names, function.__name__)
            for each in parameters.values():
                left_out = () if each.name == "known" and function is not weaves.is_order else each.empty
                self.assertEqual((each.kind, each.default), (each.POSITIONAL_OR_KEYWORD, left_out))

    def test_methods_of_rules_stand_in_their_class(self):
        rule = type(rules.seen("a"))
        for name in "rshift rrshift or ror and rand mul rmul contains".split():
            self.assertIn(f"__{name}__", vars(rule))
        self.assertIn("text", vars(rule))
        self.assertIs(type(rules.never() | "a"), rule)

    def test_methods_of_classes_stand_in_them(self):
        for each, methods in CLASSES.items():
            for name, arguments in methods.items():
                self.assertIn(name, vars(each))
                parameters = list(inspect.signature(vars(each)[name]).parameters.values())
                self.assertEqual(tuple(parameter.name for parameter in parameters[1:]), arguments, name)
                for parameter in parameters:
                    left_out = () if parameter.name == "logs" else parameter.empty
                    self.assertEqual((parameter.kind, parameter.default), (parameter.POSITIONAL_OR_KEYWORD, left_out))

    def test_the_package_holds_nothing_but_its_files(self):
        folder = os.path.dirname(words.__file__)
        names = [name for name in os.listdir(folder) if name != "__pycache__"]
        self.assertTrue(all(name.endswith(".py") for name in names), names)


class Calls(unittest.TestCase):
    def calls(self):
        for function, (names, rows) in CALLS.items():
            for row in rows:
                yield function, names, row[:-1], row[-1]

    def test_by_place_and_by_name(self):
        for function, names, values, result in self.calls():
            for _ in range(2):
                self.check(function(*values), result, function)
                self.check(function(**dict(zip(names, values))), result, function)
                self.check(function(**dict(zip(names[::-1], values[::-1]))), result, function)
                self.check(function(values[0], **dict(zip(names[1:], values[1:]))), result, function)

    def check(self, found, result, function):
        self.assertEqual(found, result, function.__name__)
        self.assertIs(type(found), type(result), function.__name__)
        inner = found if isinstance(found, list) else [found]
        self.assertFalse(any(has_list(each) for each in inner), function.__name__)

    def test_lists_for_tuples(self):
        for function, names, values, result in self.calls():
            for lists in itertools.product((False, True), repeat=len(values)):
                given = [as_lists(value) if change else value for value, change in zip(values, lists)]
                before = copy.deepcopy(given)
                self.check(function(*given), result, function)
                self.check(function(**dict(zip(names, given))), result, function)
                self.assertEqual(given, before, function.__name__)

    def test_lists_within_tuples_and_tuples_within_lists(self):
        for function, names, values, result in self.calls():
            inner = [tuple(as_lists(each) for each in value) if isinstance(value, tuple) else value for value in values]
            outer = [list(value) if isinstance(value, tuple) else value for value in values]
            second = [tuple(list(each) if isinstance(each, tuple) else each for each in value)
                      if isinstance(value, tuple) else value for value in values]
            for given in (inner, outer, second):
                before = copy.deepcopy(given)
                self.check(function(*given), result, function)
                self.assertEqual(given, before, function.__name__)

    def test_returned_lists_are_new(self):
        for function, names, values, result in self.calls():
            if isinstance(result, list):
                found = function(*values)
                found.append("more")
                self.check(function(*values), result, function)
                self.assertIsNot(function(*values), function(*values))

    def test_what_is_returned_may_be_passed_in_again(self):
        self.assertEqual(bases.then(bases.both(ORDER, CALL), CALL), bases.both(bases.then(ORDER, CALL),
                                                                             bases.then(CALL, CALL)))
        self.assertEqual(bases.base_of(words.least_both(("a", "b"), ("b", "a"))), BACK)
        self.assertTrue(bases.does(bases.base_of([words.rest(("a", "d"), LOG)]), ("d",)))
        for begun in standings.standings(ORDER):
            self.assertIn(begun, standings.standings(begun))
        for one, other in leads.pairs(ORDER):
            self.assertEqual((leads.lead(ORDER, other), leads.rest_of(ORDER, one)), (one, other))
        for left in (losses.needed(AB, LOG), losses.kernel(AB, LOG)):
            self.assertEqual(losses.without(LOG, losses.idle(AB, LOG)), tuple(LOG[at] for at in left))
        order = weaves.order_with((("b", "a"),), GATES)
        self.assertTrue(weaves.is_weaving(GATES, weaves.woven(GATES, order)) and weaves.is_order(GATES, (), order))
        self.assertTrue(weaves.is_taken(("b",), LOG, weaves.taken(("b",), LOG)))
        self.assertEqual(coarse.lifted(coarse.certain((("a",), ("b",)), PAIR), PAIR), (("a",), ("b",)))
        self.assertTrue(coarse.is_classes(coarse.joined(PAIR, (("b", "c"),))))
        self.assertTrue(asks.shows(("a", "b"), 2, AB, asks.paper(("a", "b"), 2, AB)))
        self.assertEqual(numbers.number_of(AB, ("a", "b"), numbers.nth(AB, ("a", "b"), 4, 5)), 5)
        price, left = costs.cheapest_undoing(GOAL, ("a", "c", "b"), PAID)
        self.assertTrue(costs.are_notes(GOAL, ("a", "c", "b"), PAID, price, costs.notes(GOAL, ("a", "c", "b"), PAID)))
        self.assertEqual(costs.cheapest_undoing(GOAL, left, PAID), (0, left))
        for badges in books.gains(BOOK):
            self.assertEqual(books.gained(BOOK, books.just(BOOK, badges)), badges)
        self.assertEqual(texts.rule_in(texts.rule_in("a >> (b | c)").text).text, "a >> (b | c)")
        self.assertTrue(board.Board(board.Board(BOOK).book()) == board.Board(BOOK))

    def test_results_do_not_hang_on_what_was_handed_in(self):
        given = [["a", "b"], ["c"]]
        for function in (lambda: bases.base_of(given), lambda: bases.either(given, ()), lambda: bases.missing((), given),
                         lambda: bases.then(((),), given), lambda: bases.stages([given[0]]),
                         lambda: standings.standing(given, ()), lambda: standings.standings(given),
                         lambda: losses.hardened(given, 0), lambda: losses.without(given[0], ()),
                         lambda: weaves.apart(given, ((),)), lambda: weaves.beside(given, ((),)),
                         lambda: weaves.woven(given, (0, 1, 0)), lambda: leads.lead(given, ((),)),
                         lambda: leads.pairs([given[0]]), lambda: coarse.coarse_log(given[0], given),
                         lambda: coarse.lifted(given, ()), lambda: coarse.certain(given, ()),
                         lambda: coarse.joined(given, ()), lambda: coarse.shared(given, given),
                         lambda: asks.paper(("a", "b", "c"), 2, given), lambda: costs.cheapest_put(((),), given[0], ()),
                         lambda: costs.cheapest_undoing((), given[0], ()),
                         lambda: books.made_of([["r", given]], ["r"], "r"), lambda: books.just([["r", given]], ["r"]),
                         lambda: board.Board([["r", given]]).book(), lambda: board.Board((), [["ann", given[0]]])["ann"],
                         lambda: board.Board(()).threats([["r", given]])):
            result = function()
            before = copy.deepcopy(result)
            given[0].append("z")
            self.assertEqual(result, before)
            given[0].pop()


class Things(unittest.TestCase):
    def calls(self):
        for function, (names, rows) in THINGS.items():
            for row in rows:
                yield function, names, row[:-1], row[-1]

    def test_by_place_and_by_name(self):
        for function, names, values, result in self.calls():
            for _ in range(2):
                self.assertIs(function(*values), result)
                self.assertIs(function(**dict(zip(names, values))), result)
                self.assertIs(function(**dict(zip(names[::-1], values[::-1]))), result)

    def test_lists_for_tuples_but_not_in_the_thing(self):
        for function, names, values, result in self.calls():
            outer = [list(value) if isinstance(value, tuple) else value for value in values[:-1]]
            inner = [tuple(as_lists(each) for each in value) if isinstance(value, tuple) else value
                     for value in values[:-1]]
            for given in (as_lists(values[:-1]), outer, inner):
                before = copy.deepcopy(given)
                self.assertIs(function(*given, values[-1]), result)
                self.assertIs(function(**dict(zip(names, [*given, values[-1]]))), result)
                self.assertIs(function(*given, as_lists(values[-1])), False)
                self.assertIs(function(*given, list(values[-1])), False)
                self.assertEqual(given, before)

    def test_a_thing_is_not_changed(self):
        thing = [["b"], [["a"], 1, None]]
        before = copy.deepcopy(thing)
        for function, names, values, _ in self.calls():
            for given in (thing, (thing, thing), (thing,), ((0, 1), thing)):
                kept = copy.deepcopy(given)
                self.assertIs(function(*values[:-1], given), False)
                self.assertEqual(given, kept)
            self.assertEqual(thing, before)


class OfFinders(unittest.TestCase):
    def test_by_place_and_by_name(self):
        one, other = asks.Finder(("a", "b"), 2), asks.Finder(most=2, names=["a", "b"])
        self.assertIsNone(one.answered(("a", "b"), True))
        self.assertIsNone(other.answered(done=True, log=["a", "b"]))
        self.assertTrue(one == other)
        self.assertEqual(caught(lambda: one.answered(log=["a", "c"], done=True)), ("NoName", "c"))
        self.assertEqual(caught(lambda: one.answered(done=False, log=["a", "b", "b"])), ("Gainsaid", ("a", "b", "b")))
        self.assertEqual(caught(lambda: one.sure(log=["c"])), ("NoName", "c"))
        self.assertEqual([one.sure(log=["a", "b"]), one.sure(("a", "b")), one.sure(log=["b"])], [True, True, None])
        self.assertEqual([one.asks(), other.asks()], [[(("a", "b"), True)]] * 2)

    def test_lists_for_tuples(self):
        finder = asks.Finder(["a", "b"], 2)
        for log, done in ((["a"], False), (["b", "b", "a", "a"], False), (["a", "b"], True)):
            before = list(log)
            finder.answered(log, done)
            finder.sure(log)
            self.assertEqual(log, before)
        for result in (finder.greatest(), finder.forced(), finder.found()):
            self.assertEqual(result, (("a", "b"),))
        for result in finder.asks():
            self.assertIs(type(result), tuple)
            self.assertFalse(has_list(result))

    def test_where_one_of_several_is_told(self):
        for hidden in ((), (("a", "b"),), (("a", "a"), ("b", "b"))):
            given = asks.paper(("a", "b"), 2, hidden)
            self.assertEqual(asks.paper(names=["a", "b"], base=as_lists(hidden), most=2), given)
            self.assertIs(asks.shows(["a", "b"], 2, as_lists(hidden), as_lists(given)), True)
            self.assertIs(asks.shows(logs=given, base=hidden, most=2, names=("a", "b")), True)
        told = costs.notes(GOAL, ("a", "c", "b"), PAID)
        self.assertEqual(costs.notes(costs=as_lists(PAID), log=["a", "c", "b"], base=as_lists(GOAL)), told)
        self.assertFalse(has_list(told))
        finders = [asks.Finder(("a", "b"), 3), asks.Finder(["a", "b"], 3)]
        finders[0].answered(("a", "b", "a"), True)
        finders[1].answered(["a", "b", "a"], True)
        self.assertEqual(finders[0].another(), finders[1].another())


class OfRules(unittest.TestCase):
    def test_by_place_and_by_name(self):
        one, other = rules.seen(name="a"), rules.seen("b") | rules.seen("a")
        for _ in range(2):
            self.assertEqual(one.text, "a")
            self.assertEqual([rules.base(rule=one), rules.base(one)], [(("a",),)] * 2)
            self.assertEqual([rules.alike(rule=one, other=other), rules.alike(other=one, rule=one)], [False, True])
            self.assertEqual([rules.goes_with(other=one, rule=other), rules.goes_with(one, other)], [True, False])
            self.assertEqual([rules.goes_with(rule=other, other=one), rules.goes_with(other, one)], [True, True])
            self.assertEqual([rules.parting(other=one, rule=other), rules.parting(one, other)], [("b",)] * 2)
            self.assertEqual([rules.turned(rule=other).text, rules.turned(other).text], ["b | a"] * 2)
            self.assertEqual([texts.rule_in(text="b|a").text, texts.rule_in("b | a").text], ["b | a"] * 2)
            self.assertEqual([rules.rule_of(words=ORDER).text, rules.rule_of(ORDER).text],
                             ["a >> b | b >> a >> a"] * 2)

    def test_wrong_names_by_name(self):
        with self.assertRaises(errors.NoName) as caught:
            rules.seen(name="No")
        self.assertEqual(caught.exception.value, "No")

    def test_lists_for_tuples(self):
        for given in (as_lists(ORDER), list(ORDER), tuple(as_lists(ORDER))):
            before = copy.deepcopy(given)
            self.assertEqual(rules.rule_of(given).text, "a >> b | b >> a >> a")
            self.assertEqual(rules.rule_of(words=given).text, "a >> b | b >> a >> a")
            self.assertEqual(given, before)
        log = ["a", "b"]
        self.assertTrue(log in rules.rule_of(ORDER))
        self.assertEqual(log, ["a", "b"])

    def test_results_hold_no_lists(self):
        rule, other = rules.rule_of(as_lists(ORDER)), rules.rule_of(as_lists(CALL))
        for result in (rules.base(rule), rules.base(rule >> other & rule | other), rules.parting(rule, other)):
            self.assertIs(type(result), tuple)
            self.assertFalse(has_list(result))


if __name__ == "__main__":
    unittest.main()
