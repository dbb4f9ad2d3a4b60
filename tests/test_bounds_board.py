"""Calls of books, board, texts and desk at the bounds of the document give their answers."""

import itertools
import random
import unittest

from moredone.bases import base_of, does, is_base
from moredone.board import Board
from moredone.books import (brings, gained, gained_at, gained_in_row, gains, is_book, just, made_of, makes, tellers,
                            tells, unclear)
from moredone.desk import answers, is_command
from moredone.rules import base, rule_of
from moredone.texts import base_in, base_text, log_in, log_text, rule_in
from tests.helpers import caught
from tests.test_bounds import GREAT, LONG, NAMES, words_of
from tests.test_bounds_behind import LOGS_OF_24, TWELVE, done
from tests.test_bounds_behind import base as words_in

BADGES = tuple("pqrstu")
# Books of six badges, and of fewer, whose words have twelve events together.
BOOKS = [tuple(zip(BADGES, map(words_in, rows))) for rows in (
    ("ab", "cd", "ef", "gh", "ij", "kl"), ("ab", "ba", "cd", "dc", "ef", "fe"), ("a b", "b c", "c d", "d e", "e f", "f a"),
    ("abcd", "badc", "cdba"), ("a", "b", "c", "d", "e", "fabcdef"), ("ab", "bc", "ca", "ac", "cb", "ba"),
    ("aa", "bb", "cc", "dd", "ee", "ff"), ("abcdefabcdef",), ("a b c", "ab bc", "abc", "a a", "c"), ("ab cd", "abcd", "a b", "c d"))]


class Books(unittest.TestCase):
    def test_six_badges_and_twelve_events(self):
        for book in BOOKS:
            badges = [badge for badge, _ in book]
            self.assertIs(is_book(book), True)
            found = gains(book)
            self.assertEqual(found, sorted(set(found), key=lambda each: (len(each), each)))
            for chosen in found:
                log = just(book, chosen)
                self.assertEqual(gained(book, log), chosen)
                self.assertTrue(all(gained(book, log[:at] + log[at + 1:]) != chosen for at in range(len(log))))
            missing = [chosen for many in range(len(badges)) for chosen in itertools.combinations(badges, many)
                       if chosen not in found]
            self.assertTrue(all(just(book, chosen) is None for chosen in missing))
            telling = tellers(book)
            for badge in badges:
                self.assertIn(badge, brings(book, badge))
                self.assertIs(tells(book, telling, badge), True)
                self.assertIsNone(unclear(book, telling, badge))
                others = tuple(each for each in badges if each != badge)
                self.assertIs(makes(book, others, badge), made_of(book, others, badge) is not None)
                pair = unclear(book, others, badge)
                if pair is not None:
                    one, other = (gained(book, log) for log in pair)
                    self.assertEqual([each for each in one if each != badge], list(other))
        self.assertEqual([len(gains(book)) for book in BOOKS[:2]], [64, 64])

    def test_in_row(self):
        for row in (BADGES, BADGES[::-1], ("r", "p", "u", "s", "q", "t")):
            log = gained_in_row(BOOKS[0], row)
            at = dict(gained_at(BOOKS[0], log))
            self.assertEqual([at[badge] for badge in row], sorted({at[badge] for badge in row}))
            self.assertEqual(len(log), 12)
        self.assertEqual(len(just(BOOKS[0], BADGES)), 12)
        self.assertEqual(len(gained_at(BOOKS[1], tuple("abcdef" * 6))), 6)

    def test_many_subsets(self):
        # Three pairs of single badges, each of which is enough.
        single = [words_in(name) for name in "abcde"]
        whole = words_in("ab ba bc cb cd dc")
        book = (*zip(BADGES, single), ("u", whole))
        self.assertEqual(made_of(book, BADGES[:5], "u"), (("p", "q"), ("q", "r"), ("r", "s")))


class Boards(unittest.TestCase):
    RULES = tuple(first + second for first in "abc" for second in "defg")
    PERSONS = tuple(first + second for first in "pqr" for second in "wxyz")

    def test_twelve_rules_and_persons_and_two_hundred_deeds(self):
        choose = random.Random(95)
        book = tuple((rule, words_of(8, 24, NAMES, seed)) for seed, rule in enumerate(self.RULES))
        logs = [(person, tuple(choose.choice(NAMES) for _ in range(39))) for person in self.PERSONS]
        board = Board(book, logs)
        start = board.twin()
        self.assertEqual([len(board), board.people(), board.book()], [12, self.PERSONS, book])
        for person, log in logs:
            self.assertEqual(board.done(person), tuple(rule for rule, words in book if done(words, log)))
            for rule, further in board.wanted(person):
                self.assertIs(does(dict(book)[rule], log + further), True)
            board.helped(person, NAMES[1])
        other = tuple((rule, words_of(8, 24, NAMES, seed + 3)) for seed, rule in enumerate(self.RULES))
        lost = {rule for _, rule in board.losers(other)}
        self.assertTrue(lost <= {rule for rule, _ in board.threats(other)})
        self.assertEqual([board.losers(book), board.threats(book)], [(), ()])
        for number in range(200):
            person = choose.choice(self.PERSONS)
            if number % 50 == 49:
                deeds = [("lose", person, 0), ("drop", "ad"), ("rule", "ad", words_of(8, 24, NAMES, number))] * 3
                self.assertEqual(len(board.attempt(deeds)), 9)
            elif len(board[person]) < 40:
                board.late(person, choose.randint(0, len(board[person])), choose.choice(NAMES))
            else:
                board.lose(person, choose.randrange(40))
        self.assertEqual(caught(lambda: board.attempt([("lose", self.PERSONS[0], 0)] * 60))[0], "Stopped")
        twin = board.twin()
        for _ in range(200):
            board.back()
            twin.back()
        self.assertTrue(board == start and twin == start)
        self.assertEqual(caught(board.back), ("NothingDone",))

    def test_sure_and_possible_of_eighteen_events(self):
        book = tuple(zip(self.RULES, TWELVE))
        for cut in (0, 6, 9):
            for log in LOGS_OF_24:
                board = Board(book, (("one", log[:cut]), ("two", log[cut:18])))
                sure, possible = board.sure("one", "two"), board.possible("two", "one")
                self.assertLessEqual(set(sure), set(possible))
                self.assertEqual([rule for rule in sure if rule not in gained(book, log[:18])], [])
                self.assertEqual([rule for rule in gained(book, log[cut:18] + log[:cut]) if rule not in possible], [])


class Texts(unittest.TestCase):
    def test_logs_and_bases(self):
        self.assertEqual(log_in(log_text(LONG)), LONG)
        for words in (GREAT, words_of(8, 24, "ab", 5), *TWELVE):
            self.assertEqual(base_in(base_text(words)), words)
        text = base_text(GREAT)
        self.assertEqual(caught(lambda: base_in(text + " | a")), ("BadText", 24))
        wrong = next(at for at, word in enumerate(GREAT) if "b" in word)
        self.assertEqual(caught(lambda: base_in("b | " + text)), ("BadText", wrong + 1))

    def test_rules_of_two_hundred_characters(self):
        text = " | ".join(["a >> (b & c) * 8"] * 10)
        self.assertEqual(rule_in(text).text, text)
        self.assertEqual(rule_in("(" * 99 + "a" + ")" * 99).text, "a")
        self.assertEqual(caught(lambda: rule_in("(" * 200)), ("BadText", 200))
        self.assertEqual(caught(lambda: rule_in("a" * 200)), ("BadText", 0))
        self.assertEqual(caught(lambda: rule_in("a *" + "8" * 197)), ("BadText", 3))
        self.assertEqual(rule_in("a" + ">>a" * 66).text, "a" + " >> a" * 66)
        for words in TWELVE:
            self.assertEqual(base(rule_in(rule_of(words).text)), words)

    def test_sheets_of_twenty_lines(self):
        formula = "(a | b) >> (c & d) | e * 8 | (a & b) >> c * 3"
        lines = ["rule r " + formula + " " * (200 - 7 - len(formula)), "join ann", *["event ann e"] * 8, "done ann", "losses ann r",
                 "idle ann r", "needed ann r", "standing ann r", "wanted ann r", "helps ann e", "back", "wanted ann r", "people"]
        self.assertEqual([len(lines), len(lines[0])], [20, 200])
        found = answers("\n".join(lines))
        self.assertEqual(found[:2] + found[9:14], ["- / -", "done", "r", "r", "1", "-", "0 1 2 3 4 5 6 7"])
        self.assertEqual(found[14:], ["-", "done", "-", "done", "e", "ann"])
        self.assertEqual(caught(lambda: answers("\n".join(lines[:-1] + ["people " * 28]))), ("BadLine", 19))
        self.assertIs(is_command("late ann " + "9" * 180 + " a"), True)
        self.assertEqual(answers("join ann\nlate ann " + "9" * 180 + " a\nlose ann " + "9" * 180), ["done", "no place", "no place"])
        self.assertTrue(is_base(base(rule_in(formula))))
        self.assertEqual(base(rule_in(formula)), base_of(base(rule_in(formula))))


if __name__ == "__main__":
    unittest.main()
