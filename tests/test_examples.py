"""The examples of the document, as they stand there."""

import doctest
import os
import unittest

from moredone.bases import (base_of, both, common, does, either, is_base, is_checklist, is_inside, missing, names_in,
                            outside, stages, then, times)
from moredone.errors import NoName, Tangled
from moredone.leads import amid, is_split, lead, pairs, rest_of, splits
from moredone.losses import fewest_losses, hardened, idle, kernel, needed, setback, withstands, without
from moredone.rules import alike, base, goes_with, never, nothing, parting, rule_of, seen, turned
from moredone.standings import (further, helped, helpful, is_ahead, longest_helping, moves, parting_end, same, standing,
                                standings)
from moredone.weaves import (apart, apart_times, beside, how_many_orders, in_every, in_some, is_order, is_taken,
                             is_weaving, latest, most_apart, order_with, order_without, soonest, woven)
from moredone.words import common_parts, front, is_log, is_part, least_both, places, rest, ways


class Logs(unittest.TestCase):
    LOG = ("pay", "ship", "pay", "pack", "ship")

    def test_parts(self):
        log = self.LOG
        self.assertEqual((is_part(("pay", "pack"), log), is_part(("pack", "pay"), log), is_part((), log), is_log(log),
                          is_log(list(log)), is_log(("Pay",))), (True, False, True, True, False, False))

    def test_places_and_ways(self):
        log = self.LOG
        self.assertEqual((places(("pay", "ship"), log), places(("pack", "pay"), log), ways(("pay", "ship"), log),
                          ways((), log), ways(("ship", "pack", "pack"), log)), ((0, 1), None, 3, 1, 0))

    def test_rest_and_front(self):
        log = self.LOG
        self.assertEqual((rest(("pay", "pack", "ship", "mail"), log[:4]), front(("pay", "pack", "ship", "mail"), log[:4]),
                          front(("pay", "pack"), log)), (("ship", "mail"), ("pay", "pack", "ship", "mail"), ()))

    def test_least_both(self):
        self.assertEqual((least_both(("a", "b"), ("b", "a")), least_both(("a", "b"), ("b", "a", "b")),
                          least_both(("a",), ("b",)), least_both((), ("a",))),
                         ((("a", "b", "a"), ("b", "a", "b")), (("b", "a", "b"),), (("a", "b"), ("b", "a")), (("a",),)))

    def test_common_parts(self):
        self.assertEqual((common_parts(("a", "b", "c"), ("c", "a", "b")), common_parts(("a", "b"), ("b", "a")),
                          common_parts(("a",), ("b",))), ((("c",), ("a", "b")), (("a",), ("b",)), ((),)))


class Bases(unittest.TestCase):
    def setUp(self):
        self.paid = (("pay",),)
        self.sent = base_of((("pack", "ship"), ("mail",)))
        self.twice = base_of((("ask", "ask"), ("ask", "pay", "ask"), ("call",)))

    def test_base_of_and_is_base(self):
        sent = (("pack", "ship"), ("mail",))
        self.assertEqual((self.twice, sent == base_of(sent), base_of(sent), is_base(sent),
                          is_base((("mail",), ("pack", "ship"))), is_base((("a",), ("b", "a")))),
                         ((("call",), ("ask", "ask")), False, (("mail",), ("pack", "ship")), False, True, False))

    def test_does_and_names_in(self):
        sent = self.sent
        self.assertEqual((does(sent, ("pack", "pay", "ship")), does(sent, ("ship", "pack")), does((), ("pay",)),
                          does(((),), ()), names_in(sent)), (True, False, False, True, ("mail", "pack", "ship")))

    def test_joined(self):
        paid, sent = self.paid, self.sent
        self.assertEqual((either(paid, then(paid, sent)), both(paid, (("mail",),)), then(sent, paid), times(paid, 2),
                          times(sent, 0)),
                         ((("pay",),), (("mail", "pay"), ("pay", "mail")), (("mail", "pay"), ("pack", "ship", "pay")),
                          (("pay", "pay"),), ((),)))

    def test_inside_and_outside(self):
        paid, sent = self.paid, self.sent
        self.assertEqual((is_inside(then(paid, sent), both(paid, sent)), is_inside(both(paid, sent), then(paid, sent)),
                          outside(both(paid, sent), then(paid, sent)), outside((), paid)),
                         (True, False, ("mail", "pay"), None))

    def test_missing(self):
        paid, sent = self.paid, self.sent
        self.assertEqual((missing(paid, both(paid, sent)), missing(then(paid, sent), both(paid, (("mail",),))),
                          missing(sent, ((),))), ((), (("mail", "pay"),), ((),)))

    def test_common(self):
        self.assertEqual((common(both(self.paid, (("mail",),))), common(self.sent), common(((),)), common(()),
                          common((("a", "b", "a"), ("b", "a", "b")))),
                         ((("mail",), ("pay",)), ((),), ((),), None, (("a", "b"), ("b", "a"))))

    def test_is_checklist(self):
        self.assertEqual((is_checklist((("a", "b", "a"), ("b", "a", "b"))), is_checklist(self.sent), is_checklist(((),)),
                          is_checklist((("a", "b"),))), (True, False, True, True))

    def test_stages(self):
        twice = self.twice
        self.assertEqual((stages((("a", "b"), ("c", "b"))), stages(both((("a",),), (("b",),))),
                          stages(then(twice, twice)) == (twice, twice), stages(((),)), stages(())),
                         (((("a",), ("c",)), (("b",),)), ((("a", "b"), ("b", "a")),), True, (), None))


class Rules(unittest.TestCase):
    def setUp(self):
        self.rule = seen("plan") >> (seen("test") | "review") >> "ship"

    def test_in_and_base(self):
        rule = self.rule
        self.assertEqual((("plan", "test", "fix", "ship") in rule, ("plan", "ship", "test") in rule, base(rule)),
                         (True, False, (("plan", "review", "ship"), ("plan", "test", "ship"))))

    def test_bases(self):
        self.assertEqual((base(seen("a") & "b"), base((seen("a") | "b") * 2), base(nothing()),
                          base(seen("a") & never()), base("a" >> seen("a") | "a")),
                         ((("a", "b"), ("b", "a")), (("a", "a"), ("a", "b"), ("b", "a"), ("b", "b")), ((),), (),
                          (("a",),)))

    def test_compared(self):
        self.assertEqual((alike(seen("a") >> (seen("b") & "c"), (seen("a") >> "b") & (seen("a") >> "c")),
                          goes_with(seen("a"), self.rule), parting(seen("a") >> "b", seen("a") & "b")),
                         (True, False, ("b", "a")))

    def test_no_name(self):
        with self.assertRaises(NoName) as caught:
            seen("a") >> "B"
        self.assertIs(type(caught.exception), NoName)
        self.assertEqual(caught.exception.value, "B")

    def test_rule_of_and_turned(self):
        self.assertEqual((rule_of((("b",), ("a", "c"))).text, base(turned(self.rule))[0]),
                         ("b | a >> c", ("ship", "review", "plan")))

    def test_text(self):
        rule = seen("a") >> "b" | seen("c") * 2 >> (seen("d") | "e") & "f"
        self.assertEqual((rule.text, (seen("a") >> (seen("b") >> "c")).text, ((seen("a") >> "b") * 3).text,
                          (0 * seen("a")).text),
                         ("a >> b | c * 2 >> (d | e) & f", "a >> (b >> c)", "(a >> b) * 3", "a * 0"))


GIFT = (("gift", "ship"), ("ask", "pay", "ship"))


class Standings(unittest.TestCase):
    def test_standing(self):
        base = GIFT
        self.assertEqual((standing(base, ("ask",)), standing(base, ("ask", "ship", "gift")),
                          standing(base, ("gift", "ship")), standing((), ("ask",))),
                         ((("gift", "ship"), ("pay", "ship")), (("ship",),), ((),), ()))

    def test_helpful_and_further(self):
        base = GIFT
        self.assertEqual((helpful(base, ()), helpful(base, ("ask",)), helpful(base, ("gift", "ship")),
                          further(base, ("ask",)), further(base, ("gift", "ship")), further((), ())),
                         (("ask", "gift"), ("gift", "pay"), (), ("gift", "ship"), (), None))

    def test_helped_and_is_ahead(self):
        base = GIFT
        self.assertEqual((helped(base, ("ship", "ask", "ask", "gift", "pay", "ship")),
                          is_ahead(base, ("ask",), ("gift",)), is_ahead(base, ("gift",), ("ask",))),
                         ((1, 3, 5), True, False))

    def test_same_and_parting_end(self):
        base = GIFT
        self.assertEqual((same(base, ("ask", "pay"), ("gift",)), parting_end(base, ("ask",), ("gift",)),
                          parting_end(base, ("ask", "pay"), ("gift",))), (True, ("ship",), None))

    def test_all_of_them(self):
        base = GIFT
        self.assertEqual((standings(base), len(moves(base)), moves(base)[0], len(longest_helping(base))),
                         ([((),), (("gift", "ship"), ("ask", "pay", "ship")), (("gift", "ship"), ("pay", "ship")),
                           (("ship",),)], 5,
                          ((("gift", "ship"), ("ask", "pay", "ship")), "ask", (("gift", "ship"), ("pay", "ship"))), 3))


class Losses(unittest.TestCase):
    LOG = ("ask", "ship", "gift", "pay", "ship")

    def test_of_a_log(self):
        base, log = GIFT, self.LOG
        self.assertEqual((without(log, (0, 3)), needed(base, log), idle(base, log), fewest_losses(base, log),
                          withstands(base, log, 0), withstands(base, log, 1)),
                         (("ship", "gift", "ship"), (4,), (1,), (4,), True, False))

    def test_of_more(self):
        base, more = GIFT, self.LOG + ("gift", "ship")
        self.assertEqual((needed(base, more), idle(base, more), len(fewest_losses(base, more)),
                          withstands(base, more, 1), fewest_losses(base, ("ask",)), fewest_losses(((),), ("ask",))),
                         ((), (1,), 2, True, (), None))

    def test_hardened(self):
        self.assertEqual((hardened((("a", "b"),), 1), hardened((("a",), ("b",)), 1), hardened(((),), 2),
                          hardened((), 2)),
                         ((("a", "a", "b", "b"), ("a", "b", "a", "b")),
                          (("a", "a"), ("a", "b"), ("b", "a"), ("b", "b")), ((),), ()))

    def test_kernel_and_setback(self):
        base, log, more = GIFT, self.LOG, self.LOG + ("gift", "ship")
        self.assertEqual((len(kernel(base, log)), len(kernel(base, ("ship", "ask", "ask"))),
                          setback(base, ("ask", "ship")), setback(base, ("ship",)), len(setback(base, more))),
                         (2, 1, (0,), None, 2))


class Weaves(unittest.TestCase):
    GATE, DESK, RULE = ("ask", "open"), ("grant",), (("ask", "grant", "open"),)

    def test_orders(self):
        gate, desk, rule = self.GATE, self.DESK, self.RULE
        self.assertEqual((in_some(rule, (gate, desk)), in_every(rule, (gate, desk)), order_with(rule, (gate, desk)),
                          how_many_orders(rule, (gate, desk))), (True, False, (0, 1, 0), (1, 3)))
        self.assertEqual((woven((gate, desk), (1, 0, 0)), is_order((gate, desk), (), (0, 0)),
                          is_weaving((gate, desk), ("open", "ask", "grant"))), (("grant", "ask", "open"), False, False))

    def test_known(self):
        gate, desk, rule = self.GATE, self.DESK, self.RULE
        known = (((0, 0), (1, 0)), ((1, 0), (0, 1)))
        self.assertEqual((in_every(rule, (gate, desk), known), order_without(rule, (gate, desk), known),
                          how_many_orders(rule, (gate, desk), known)), (True, None, (1, 1)))

    def test_soonest_and_latest(self):
        gate, desk, rule = self.GATE, self.DESK, self.RULE
        self.assertEqual((soonest((("open",),), (gate, desk)), latest((("open",),), (gate, desk)),
                          latest(rule, (gate, desk)), in_every(((),), ())), (2, 3, None, True))

    def test_apart(self):
        self.assertEqual((apart((("a", "b"),), (("c",),)), apart((("a", "b"),), (("a", "b"),)),
                          apart_times((("a",), ("b",)), 2)),
                         ((("a", "b", "c"), ("a", "c", "b"), ("c", "a", "b")),
                          (("a", "a", "b", "b"), ("a", "b", "a", "b")),
                          (("a", "a"), ("a", "b"), ("b", "a"), ("b", "b"))))

    def test_beside(self):
        self.assertEqual((beside((("a", "b"), ("b", "a")), (("b",),)), beside((("a", "b"),), (("c",),)),
                          beside((("a", "b"),), (("a", "b"),)), beside((("a", "a"),), (("a",),))),
                         ((("a",),), (("a", "b"),), ((),), (("a",),)))

    def test_taken(self):
        self.assertEqual((most_apart(("a", "b", "a"), ("a", "b", "a", "b", "a", "a")),
                          is_taken(("a", "b"), ("a", "a", "b", "b"), ((0, 2), (1, 3))),
                          is_taken(("a", "b"), ("a", "b", "b"), ((0, 1), (0, 2)))), (2, True, False))

    def test_tangled(self):
        with self.assertRaises(Tangled) as caught:
            in_some(self.RULE, (self.GATE, self.DESK), (((0, 1), (0, 0)),))
        self.assertIs(type(caught.exception), Tangled)


class Leads(unittest.TestCase):
    def test_single_words(self):
        self.assertEqual((lead((("a", "b", "c"),), (("c",),)), rest_of((("a", "b", "c"),), (("a",),)),
                          amid((("a", "b", "c"),), (("a",),), (("c",),))),
                         ((("a", "b"),), (("b", "c"),), (("b",),)))

    def test_lead_and_rest_of(self):
        self.assertEqual((lead((("c",), ("a", "b")), (("b",), ("c",))), lead((("a",),), (("b",),)), lead((("a",),), ()),
                          rest_of((("a",),), (("b", "a"),))), ((("a",), ("c",)), (("a",),), ((),), ((),)))

    def test_pairs(self):
        self.assertEqual(pairs((("a", "b"),)),
                         [(((),), (("a", "b"),)), ((("a",),), (("b",),)), ((("a", "b"),), ((),))])

    def test_splits(self):
        self.assertEqual((splits((("a", "b"),)), splits((("a",),)), pairs(((),)), pairs(())),
                         ([((("a",),), (("b",),))], [], [(((),), ((),))], [((), ((),)), (((),), ())]))
        self.assertEqual((is_split((("a", "b", "c"),), ((("a",),), (("b", "c"),))),
                          is_split((("a", "b"),), (((),), (("a", "b"),)))), (True, False))


class Readme(unittest.TestCase):
    def test_its_examples(self):
        readme = os.path.join(os.path.dirname(os.path.dirname(os.path.abspath(__file__))), "README.md")
        failed, tried = doctest.testfile(readme, module_relative=False)
        self.assertEqual(failed, 0)
        self.assertGreater(tried, 4)


if __name__ == "__main__":
    unittest.main()
