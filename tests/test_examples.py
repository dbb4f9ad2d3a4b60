"""The examples of the document, as they stand there."""

import doctest
import os
import unittest

from moredone.bases import (base_of, both, common, does, either, is_base, is_checklist, is_inside, missing, names_in,
                            outside, stages, then, times)
from moredone.errors import NoName
from moredone.rules import alike, base, goes_with, never, nothing, parting, rule_of, seen, turned
from moredone.words import common_parts, front, is_log, is_part, least_both, places, rest, ways


class Logs(unittest.TestCase):
    LOG = ("pay", "ship", "pay", "pack", "ship")

    def test_parts(self):
        log = self.LOG
        self.assertEqual((is_part(("pay", "pack"), log), is_part(("pack", "pay"), log), is_part((), log), is_log(log),
                          is_log(list(log)), is_log(("Pay",))), (True, False, True, True, False, False))

    def test_places_and_ways(self):
        log = self.LOG
        self.assertEqual((places(("pay", "ship"), log), places(("pack", "pay"), log), ways(("pay", "ship"), log),
                          ways((), log), ways(("ship", "pack", "pack"), log)), ((0, 1), None, 3, 1, 0))

    def test_rest_and_front(self):
        log = self.LOG
        self.assertEqual((rest(("pay", "pack", "ship", "mail"), log[:4]), front(("pay", "pack", "ship", "mail"), log[:4]),
                          front(("pay", "pack"), log)), (("ship", "mail"), ("pay", "pack", "ship", "mail"), ()))

    def test_least_both(self):
        self.assertEqual((least_both(("a", "b"), ("b", "a")), least_both(("a", "b"), ("b", "a", "b")),
                          least_both(("a",), ("b",)), least_both((), ("a",))),
                         ((("a", "b", "a"), ("b", "a", "b")), (("b", "a", "b"),), (("a", "b"), ("b", "a")), (("a",),)))

    def test_common_parts(self):
        self.assertEqual((common_parts(("a", "b", "c"), ("c", "a", "b")), common_parts(("a", "b"), ("b", "a")),
                          common_parts(("a",), ("b",))), ((("c",), ("a", "b")), (("a",), ("b",)), ((),)))


class Bases(unittest.TestCase):
    def setUp(self):
        self.paid = (("pay",),)
        self.sent = base_of((("pack", "ship"), ("mail",)))
        self.twice = base_of((("ask", "ask"), ("ask", "pay", "ask"), ("call",)))

    def test_base_of_and_is_base(self):
        sent = (("pack", "ship"), ("mail",))
        self.assertEqual((self.twice, sent == base_of(sent), base_of(sent), is_base(sent),
                          is_base((("mail",), ("pack", "ship"))), is_base((("a",), ("b", "a")))),
                         ((("call",), ("ask", "ask")), False, (("mail",), ("pack", "ship")), False, True, False))

    def test_does_and_names_in(self):
        sent = self.sent
        self.assertEqual((does(sent, ("pack", "pay", "ship")), does(sent, ("ship", "pack")), does((), ("pay",)),
                          does(((),), ()), names_in(sent)), (True, False, False, True, ("mail", "pack", "ship")))

    def test_joined(self):
        paid, sent = self.paid, self.sent
        self.assertEqual((either(paid, then(paid, sent)), both(paid, (("mail",),)), then(sent, paid), times(paid, 2),
                          times(sent, 0)),
                         ((("pay",),), (("mail", "pay"), ("pay", "mail")), (("mail", "pay"), ("pack", "ship", "pay")),
                          (("pay", "pay"),), ((),)))

    def test_inside_and_outside(self):
        paid, sent = self.paid, self.sent
        self.assertEqual((is_inside(then(paid, sent), both(paid, sent)), is_inside(both(paid, sent), then(paid, sent)),
                          outside(both(paid, sent), then(paid, sent)), outside((), paid)),
                         (True, False, ("mail", "pay"), None))

    def test_missing(self):
        paid, sent = self.paid, self.sent
        self.assertEqual((missing(paid, both(paid, sent)), missing(then(paid, sent), both(paid, (("mail",),))),
                          missing(sent, ((),))), ((), (("mail", "pay"),), ((),)))

    def test_common(self):
        self.assertEqual((common(both(self.paid, (("mail",),))), common(self.sent), common(((),)), common(()),
                          common((("a", "b", "a"), ("b", "a", "b")))),
                         ((("mail",), ("pay",)), ((),), ((),), None, (("a", "b"), ("b", "a"))))

    def test_is_checklist(self):
        self.assertEqual((is_checklist((("a", "b", "a"), ("b", "a", "b"))), is_checklist(self.sent), is_checklist(((),)),
                          is_checklist((("a", "b"),))), (True, False, True, True))

    def test_stages(self):
        twice = self.twice
        self.assertEqual((stages((("a", "b"), ("c", "b"))), stages(both((("a",),), (("b",),))),
                          stages(then(twice, twice)) == (twice, twice), stages(((),)), stages(())),
                         (((("a",), ("c",)), (("b",),)), ((("a", "b"), ("b", "a")),), True, (), None))


class Rules(unittest.TestCase):
    def setUp(self):
        self.rule = seen("plan") >> (seen("test") | "review") >> "ship"

    def test_in_and_base(self):
        rule = self.rule
        self.assertEqual((("plan", "test", "fix", "ship") in rule, ("plan", "ship", "test") in rule, base(rule)),
                         (True, False, (("plan", "review", "ship"), ("plan", "test", "ship"))))

    def test_bases(self):
        self.assertEqual((base(seen("a") & "b"), base((seen("a") | "b") * 2), base(nothing()),
                          base(seen("a") & never()), base("a" >> seen("a") | "a")),
                         ((("a", "b"), ("b", "a")), (("a", "a"), ("a", "b"), ("b", "a"), ("b", "b")), ((),), (),
                          (("a",),)))

    def test_compared(self):
        self.assertEqual((alike(seen("a") >> (seen("b") & "c"), (seen("a") >> "b") & (seen("a") >> "c")),
                          goes_with(seen("a"), self.rule), parting(seen("a") >> "b", seen("a") & "b")),
                         (True, False, ("b", "a")))

    def test_no_name(self):
        with self.assertRaises(NoName) as caught:
            seen("a") >> "B"
        self.assertIs(type(caught.exception), NoName)
        self.assertEqual(caught.exception.value, "B")

    def test_rule_of_and_turned(self):
        self.assertEqual((rule_of((("b",), ("a", "c"))).text, base(turned(self.rule))[0]),
                         ("b | a >> c", ("ship", "review", "plan")))

    def test_text(self):
        rule = seen("a") >> "b" | seen("c") * 2 >> (seen("d") | "e") & "f"
        self.assertEqual((rule.text, (seen("a") >> (seen("b") >> "c")).text, ((seen("a") >> "b") * 3).text,
                          (0 * seen("a")).text),
                         ("a >> b | c * 2 >> (d | e) & f", "a >> (b >> c)", "(a >> b) * 3", "a * 0"))


class Readme(unittest.TestCase):
    def test_its_examples(self):
        readme = os.path.join(os.path.dirname(os.path.dirname(os.path.abspath(__file__))), "README.md")
        failed, tried = doctest.testfile(readme, module_relative=False)
        self.assertEqual(failed, 0)
        self.assertGreater(tried, 4)


if __name__ == "__main__":
    unittest.main()
