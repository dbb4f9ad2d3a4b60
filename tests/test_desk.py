import itertools
import random
import unittest

from moredone import losses, standings
from moredone.board import Board
from moredone.desk import answers, is_command
from moredone.rules import base
from moredone.texts import base_text, log_text, rule_in
from tests.helpers import caught

# The words that stand behind each command.
FORMS = {
    "join": "N", "leave": "N", "log": "N", "event": "NN", "late": "NPN", "lose": "NP", "rule": "NF", "drop": "N", "who": "N",
    "back": "", "people": "", "rules": "", "base": "N", "done": "N", "helps": "NN", "wanted": "NN", "standing": "NN",
    "needed": "NN", "idle": "NN", "losses": "NN", "sure": "NN", "possible": "NN",
}
RIGHT = {"N": ("a", "ann", "abcdefgh", "rule", "back"), "P": ("0", "7", "10", "123456789012"),
         "F": ("a", "1", "(a >> b) | 0 * 2", " a", "a ", "  ( a )", "a|b")}
WRONG = {"N": ("", "A", "abcdefghi", "a1", "0", "-", "a|b"), "P": ("", "-1", "01", "00", "a", "1.0", "+1", "1a", "\u0661"),
         "F": ("", " ", "(a", "a b", "2", "A", "a >>", "-", "a\t")}


class IsCommand(unittest.TestCase):
    def test_each_command(self):
        for word, form in FORMS.items():
            for rest in itertools.product(*(RIGHT[kind] for kind in form)):
                self.assertIs(is_command(" ".join((word, *rest))), True, (word, rest))

    def test_one_wrong_word(self):
        for word, form in FORMS.items():
            for at, kind in enumerate(form):
                for wrong in WRONG[kind]:
                    rest = [RIGHT[each][0] for each in form]
                    rest[at] = wrong
                    # The formula goes on to the end of the line, so that blanks in it are no other words.
                    if not (word == "rule" and at == 0 and wrong == ""):
                        self.assertIs(is_command(" ".join((word, *rest))), False, (word, rest))

    def test_more_or_fewer_words_and_blanks(self):
        for word, form in FORMS.items():
            rest = [RIGHT[each][1] for each in form]
            line = " ".join((word, *rest))
            self.assertIs(is_command(line), True)
            for wrong in (" " + line, line.upper(), line.replace(" ", "  ", 1) if form else " ", "x" + line, line[1:],
                          line.replace(" ", "\t", 1) + "\t", " ".join((word, *rest[:-1])) if form else ""):
                self.assertIs(is_command(wrong), False, wrong)
            if word != "rule":
                for wrong in (line + " ", line + " a", line + " 0", line + "\n", line + "\n" + line):
                    self.assertIs(is_command(wrong), False, wrong)

    def test_other_lines(self):
        for line in ("", " ", "-", "a", "board", "rule", "rule r", "rule r ", "rule  r a", "Join ann", "joins ann", "join", "late a a a",
                     "lose a", "lose a b", "late a 1", "people ann", "back 1", "rules a", "answers", "twin", "attempt", "0"):
            self.assertIs(is_command(line), False, line)
        for line in ("rule r a b", "rule r a)", "rule r (a", "rule r a * 9", "rule R a", "rule r \u00e4"):
            self.assertIs(is_command(line), False, line)
        for line in ("rule r   a", "rule rule rule", "rule r a * 8", "join join", "sure a a", "rule r a >> b * 0 | (1 & 0)"):
            self.assertIs(is_command(line), True, line)


class Model:
    """What a desk answers, by the functions that each command names."""

    def __init__(self):
        self.board = Board(())

    def answer(self, line):
        word, *rest = line.split(" ", 2) if line.startswith("rule ") else line.split(" ")
        return getattr(self, "do_" + word)(*rest)

    def base(self, rule):
        return dict(self.board.book()).get(rule)

    def refused(self, person=None, rule=None, second=None):
        """What is answered where a person is not there, or else a rule."""
        if any(each is not None and each not in self.board for each in (person, second)):
            return "no person"
        return "no rule" if rule is not None and self.base(rule) is None else None

    def names(self, names):
        return " ".join(names) or "-"

    def do_join(self, person):
        if person in self.board:
            return "taken"
        self.board.join(person)
        return "done"

    def do_leave(self, person):
        return self.refused(person) or log_text(self.board.leave(person))

    def do_log(self, person):
        return self.refused(person) or log_text(self.board[person])

    def do_event(self, person, name):
        return self.refused(person) or self.names(self.board.event(person, name))

    def do_late(self, person, place, name):
        if not self.refused(person) and int(place) > len(self.board[person]):
            return "no place"
        return self.refused(person) or self.names(self.board.late(person, int(place), name))

    def do_lose(self, person, place):
        if not self.refused(person) and int(place) >= len(self.board[person]):
            return "no place"
        return self.refused(person) or self.names(self.board.lose(person, int(place)))

    def do_rule(self, rule, formula):
        gained, lost = self.board.rule(rule, base(rule_in(formula)))
        return self.names(gained) + " / " + self.names(lost)

    def do_drop(self, rule):
        return self.refused(rule=rule) or self.names(self.board.drop(rule))

    def do_who(self, rule):
        return self.refused(rule=rule) or self.names(self.board.who(rule))

    def do_back(self):
        return "nothing done" if caught(self.board.back) else "done"

    def do_people(self):
        return self.names(self.board.people())

    def do_rules(self):
        return self.names(sorted(dict(self.board.book())))

    def do_base(self, rule):
        return self.refused(rule=rule) or base_text(self.base(rule))

    def do_done(self, person):
        return self.refused(person) or self.names(self.board.done(person))

    def do_helps(self, person, name):
        return self.refused(person) or self.names(self.board.helped(person, name))

    def do_wanted(self, person, rule):
        if self.refused(person, rule):
            return self.refused(person, rule)
        further = standings.further(self.base(rule), self.board[person])
        return "never" if further is None else "done" if further == () else " ".join(further)

    def do_standing(self, person, rule):
        return self.refused(person, rule) or base_text(standings.standing(self.base(rule), self.board[person]))

    def places(self, places):
        return " ".join(str(place) for place in places) or "-"

    def do_needed(self, person, rule):
        return self.refused(person, rule) or self.places(losses.needed(self.base(rule), self.board[person]))

    def do_idle(self, person, rule):
        return self.refused(person, rule) or self.places(losses.idle(self.base(rule), self.board[person]))

    def do_losses(self, person, rule):
        if self.refused(person, rule):
            return self.refused(person, rule)
        places = losses.fewest_losses(self.base(rule), self.board[person])
        return "always" if places is None else str(len(places))

    def do_sure(self, one, other):
        return self.refused(one, second=other) or ("same" if one == other else self.names(self.board.sure(one, other)))

    def do_possible(self, one, other):
        return self.refused(one, second=other) or ("same" if one == other else self.names(self.board.possible(one, other)))


PERSONS, RULES, EVENTS = ("ann", "bob", "cleo", "r"), ("r", "order", "no"), ("a", "b", "c")
FORMULAS = ("a", "a >> b", "a & b | c * 2", " ( a|b )*2", "1", "0", "a >> (b | 0)  ", "(1)", "c * 0", "b >> b")


def some_line(choose):
    word = choose.choice([*FORMS, "event", "event", "event", "late", "join", "rule", "late"])
    rest = {"join": ((PERSONS,)), "leave": (PERSONS,), "log": (PERSONS,), "event": (PERSONS, EVENTS),
            "late": (PERSONS, "00012239", EVENTS), "lose": (PERSONS, "000129"), "rule": (RULES, FORMULAS), "drop": (RULES,),
            "who": (RULES,), "base": (RULES,), "done": (PERSONS,), "helps": (PERSONS, EVENTS), "sure": (PERSONS, PERSONS),
            "possible": (PERSONS, PERSONS)}.get(word, (PERSONS, RULES))
    if not FORMS[word]:
        return word
    rest = rest if isinstance(rest[0], tuple) else (rest,)
    return " ".join([word, *(choose.choice(each) for each in rest)])


class Answers(unittest.TestCase):
    def test_against_the_functions_that_the_commands_name(self):
        choose = random.Random(91)
        seen = set()
        for many in [1] * 40 + [5] * 40 + [60] * 100:
            lines = [some_line(choose) for _ in range(many)]
            if many == 60 and choose.random() < 0.8:
                lines = ["join ann", "join bob", "join cleo", "rule order a >> b", "rule r a & b | c * 2", *lines]
            model = Model()
            found = answers("\n".join(lines))
            self.assertIs(type(found), list)
            for line, answer, told in zip(lines, found, [model.answer(line) for line in lines]):
                self.assertEqual(answer, told, lines)
                seen.add((line.split(" ")[0], answer if answer.startswith("no ") else ""))
            self.assertEqual(len(found), len(lines))
            self.assertEqual(answers("\n".join(lines)), found)
        self.assertLessEqual({(word, "") for word in FORMS}, seen)
        self.assertLessEqual({(word, "no person") for word in FORMS if word not in "join rule drop who back people rules base"},
                             seen)
        self.assertLessEqual({(word, "no rule") for word in "drop who base wanted standing needed idle losses".split()}, seen)
        self.assertLessEqual({("late", "no place"), ("lose", "no place")}, seen)

    def check(self, sheet, *expected):
        self.assertEqual(answers(sheet), list(expected))

    def test_no_person_then_no_rule_then_no_place(self):
        for word in ("wanted", "standing", "needed", "idle", "losses"):
            self.check(f"{word} ann r\njoin ann\n{word} ann r\nrule r a\n{word} bob r", "no person", "done", "no rule", "- / -",
                       "no person")
        for line in ("late ann 5 a", "lose ann 5", "lose ann 0"):
            self.check(f"{line}\njoin ann\n{line}\nback\npeople", "no person", "done", "no place", "done", "-")
        for word in ("sure", "possible"):
            self.check(f"{word} ann ann\njoin ann\n{word} ann ann\n{word} ann bob\n{word} bob ann\n{word} bob bob",
                       "no person", "done", "same", "no person", "no person", "no person")
        self.check("who r\ndrop r\nbase r\nleave ann\nlog ann\nevent ann a\ndone ann\nhelps ann a\nback\npeople\nrules",
                   *["no rule"] * 3, *["no person"] * 5, "nothing done", "-", "-")

    def test_what_is_taken_back(self):
        self.check("join ann\nevent ann a\nlate ann 0 b\nlose ann 0\nrule r a\ndrop r\nleave ann\n" + "back\nlog ann\nwho r\n" * 7
                   + "back", "done", "-", "-", "-", "ann / -", "ann", "a", "done", "a", "no rule", "done", "a", "ann", "done",
                   "a", "no rule", "done", "b a", "no rule", "done", "a", "no rule", "done", "-", "no rule", "done",
                   "no person", "no rule", "nothing done")
        # What is only told, or refused, is none of the deeds.
        self.check("join ann\njoin ann\nlose ann 0\nlog ann\npeople\nrules\nback\nback", "done", "taken", "no place", "-", "ann",
                   "-", "done", "nothing done")
        # A rule that stays as it is is one of them.
        self.check("rule r a\nrule r a\nback\nback\nback", "- / -", "- / -", "done", "done", "nothing done")

    def test_how_it_is_told(self):
        self.check("join bob\njoin ann\njoin c\nevent ann a\nevent bob a\nrule z a\nrule b a | b\nrule z b\npeople\nrules\nwho b\n"
                   "done ann\nbase b\nrule z a & 0\nbase z\nrule z 1\nbase z\nlosses c z\nlosses c b\nwanted c z\nstanding c b",
                   "done", "done", "done", "-", "-", "ann bob / -", "ann bob / -", "- / ann bob", "ann bob c", "b z", "ann bob",
                   "b", "a | b", "- / -", "0", "ann bob c / -", "-", "always", "0", "done", "a | b")
        self.check("join a\n" + "event a x\n" * 12 + "rule r x * 2\nidle a r\nneeded a r\nlosses a r\nrule r x * 2 >> y\nidle a r\n"
                   "wanted a r\nstanding a r\nrule r 0\nwanted a r\nstanding a r\nneeded a r", "done", *["-"] * 12, "a / -", "-",
                   "-", "11", "- / a", "0 1 2 3 4 5 6 7 8 9 10 11", "y", "y", "- / -", "never", "0", "-")

    def test_bad_lines(self):
        right = ["join ann", "event ann a", "rule r  (a)", "people", "back"]
        for at in range(len(right) + 1):
            for wrong in ("", " ", "join", "join ann ", "rule r (a", "people\t", "Back", "late ann 01 a"):
                lines = right[:at] + [wrong] + right[at:]
                self.assertEqual(caught(lambda: answers("\n".join(lines))), ("BadLine", at), lines)
                # The first one of them is told.
                self.assertEqual(caught(lambda: answers("\n".join([*lines, "", "x"]))), ("BadLine", at))
        self.assertEqual(caught(lambda: answers("")), ("BadLine", 0))
        self.assertEqual(caught(lambda: answers("people\n")), ("BadLine", 1))
        self.assertEqual(caught(lambda: answers("\npeople")), ("BadLine", 0))
        self.assertEqual(caught(lambda: answers("people\r\npeople")), ("BadLine", 0))
        self.assertEqual(caught(lambda: answers(sheet="people\n\npeople")), ("BadLine", 1))

    def test_a_new_board_for_each_sheet(self):
        self.check("join ann\nrule r a\npeople", "done", "- / -", "ann")
        self.check("people\nrules\nback", "-", "-", "nothing done")
        answers("people").append("more")
        self.check("people", "-")


if __name__ == "__main__":
    unittest.main()
