import copy
import itertools
import random
import unittest

from moredone.bases import base_of
from moredone.board import Board
from moredone.standings import standing
from tests.helpers import Parts, all_logs, as_lists, caught, weavings

PARTS = Parts()
NEVER, ALWAYS = (), ((),)
SMALL = PARTS.bases("ab", 2)
PERSONS, RULES, EVENTS = ("ann", "bob", "cleo", "dan"), ("first", "last", "order", "twice"), ("a", "b", "c")
ORDER = (("first", (("pay",),)), ("order", (("pay", "ship"),)))


def done(book, log):
    return tuple(rule for rule, base in book if PARTS.done(base, log))


class Model:
    """What a board is to be: the states one behind another, as dicts of rules and of persons."""

    def __init__(self, book, logs):
        self.states = [(dict(book), dict(logs))]

    @property
    def book(self):
        return tuple(sorted(self.states[-1][0].items()))

    @property
    def logs(self):
        return self.states[-1][1]

    def changed(self, deed):
        """The state behind the deed and what it returns; or what is raised, and None."""
        bases, logs = (dict(each) for each in self.states[-1])
        word, *handed = deed
        name = handed[0]
        if word == "join" and name in logs:
            return ("Taken", name), None
        if word not in ("join", "rule", "drop") and name not in logs:
            return ("NoPerson", name), None
        if word == "drop" and name not in bases:
            return ("NoRule", name), None
        if word in ("late", "lose") and not 0 <= handed[1] < len(logs[name]) + (word == "late"):
            return ("NoPlace", handed[1]), None
        return getattr(self, "do_" + word)(bases, logs, *handed), (bases, logs)

    def do_join(self, bases, logs, person):
        logs[person] = ()
        return ()

    def do_leave(self, bases, logs, person):
        return logs.pop(person)

    def do_event(self, bases, logs, person, name):
        return self.do_late(bases, logs, person, len(logs[person]), name)

    def do_late(self, bases, logs, person, place, name):
        log = list(logs[person])
        log.insert(place, name)
        before = done(self.book, logs[person])
        logs[person] = tuple(log)
        return tuple(rule for rule in done(self.book, logs[person]) if rule not in before)

    def do_lose(self, bases, logs, person, place):
        before = done(self.book, logs[person])
        logs[person] = tuple(event for at, event in enumerate(logs[person]) if at != place)
        return tuple(rule for rule in before if rule not in done(self.book, logs[person]))

    def do_rule(self, bases, logs, name, base):
        before = [person for person in sorted(logs) if PARTS.done(bases.get(name, ()), logs[person])]
        bases[name] = base
        now = [person for person in sorted(logs) if PARTS.done(base, logs[person])]
        return (tuple(person for person in now if person not in before),
                tuple(person for person in before if person not in now))

    def do_drop(self, bases, logs, name):
        base = bases.pop(name)
        return tuple(person for person in sorted(logs) if PARTS.done(base, logs[person]))


def some_deed(choose):
    word = choose.choice(("join", "leave", "event", "event", "event", "late", "late", "lose", "rule", "rule", "drop"))
    person = choose.choice(PERSONS)
    return {"join": (word, person), "leave": (word, person), "event": (word, person, choose.choice(EVENTS)),
            "late": (word, person, choose.randint(-1, 4), choose.choice(EVENTS)),
            "lose": (word, person, choose.randint(-1, 4)),
            "rule": (word, choose.choice(RULES), choose.choice(SMALL)), "drop": (word, choose.choice(RULES))}[word]


def do(board, deed):
    return getattr(board, deed[0])(*deed[1:])


def starts(many):
    choose = random.Random(71)
    for _ in range(many):
        book = tuple((rule, choose.choice(SMALL)) for rule in RULES if choose.random() < 0.7)
        logs = [(person, choose.choice(all_logs(EVENTS, 3))) for person in PERSONS if choose.random() < 0.6]
        choose.shuffle(logs)
        yield Board(book, tuple(logs)), Model(book, logs), choose


class Deeds(unittest.TestCase):
    def same(self, board, model):
        self.assertEqual([board.people(), len(board), board.book()], [tuple(sorted(model.logs)), len(model.logs), model.book])
        for person in PERSONS:
            self.assertIs(person in board, person in model.logs)
            if person in model.logs:
                self.assertEqual(board[person], model.logs[person])

    def test_row_of_states_with_back_behind_each(self):
        words = set()
        for board, model, choose in starts(150):
            for _ in range(40):
                deed = some_deed(choose)
                told, state = model.changed(deed)
                if state is None:
                    self.assertEqual(caught(lambda: do(board, deed)), told, deed)
                    words.add(told[0])
                else:
                    self.assertEqual(do(board, deed), told, deed)
                    self.assertIsNone(board.back())
                    self.same(board, model)
                    self.assertEqual(do(board, deed), told, deed)
                    model.states.append(state)
                self.same(board, model)
                if choose.random() < 0.15 and len(model.states) > 1:
                    self.assertIsNone(board.back())
                    model.states.pop()
                    self.same(board, model)
            while len(model.states) > 1:
                board.back()
                model.states.pop()
                self.same(board, model)
            self.assertEqual(caught(board.back), ("NothingDone",))
            self.same(board, model)
        self.assertEqual(words, {"Taken", "NoPerson", "NoPlace", "NoRule"})

    def test_attempts(self):
        stopped = done_whole = 0
        for board, model, choose in starts(150):
            board.join("eve")
            model.states.append(model.changed(("join", "eve"))[1])
            for _ in range(8):
                deeds = tuple(some_deed(choose) for _ in range(choose.randint(0, 4)))
                before, told, error = len(model.states), [], None
                for number, deed in enumerate(deeds):
                    result, state = model.changed(deed)
                    if state is None:
                        error = ("Stopped", number, result[0])
                        break
                    told.append(result)
                    model.states.append(state)
                last = model.states[-1]
                del model.states[before:]
                if error:
                    stopped += error[1] > 0
                    self.assertEqual(caught(lambda: board.attempt(deeds)), error)
                    self.same(board, model)
                else:
                    done_whole += len(deeds) > 1
                    found = board.attempt(deeds)
                    self.assertIs(type(found), list)
                    self.assertEqual(found, told)
                    model.states.append(last)
                    self.same(board, model)
            while len(model.states) > 1:
                board.back()
                model.states.pop()
                self.same(board, model)
            self.assertEqual(caught(board.back), ("NothingDone",))
        self.assertGreater(min(stopped, done_whole), 100)

    def test_edges_of_attempts(self):
        board = Board(ORDER, (("ann", ("pay",)),))
        self.assertEqual(board.attempt(()), [])
        self.assertIsNone(board.back())
        self.assertEqual(caught(board.back), ("NothingDone",))
        for deeds, error in (((("join", "ann"),), ("Stopped", 0, "Taken")),
                             ((("join", "bob"), ("leave", "bob"), ("event", "bob", "pay")), ("Stopped", 2, "NoPerson")),
                             ((("event", "ann", "ship"), ("drop", "none")), ("Stopped", 1, "NoRule")),
                             ((("drop", "order"), ("drop", "order")), ("Stopped", 1, "NoRule")),
                             ((("lose", "ann", 0), ("lose", "ann", 0)), ("Stopped", 1, "NoPlace")),
                             ((("late", "ann", 2, "pay"),), ("Stopped", 0, "NoPlace"))):
            self.assertEqual(caught(lambda: board.attempt(deeds)), error)
            self.assertEqual(caught(lambda: board.attempt(as_lists(deeds))), error)
            self.assertTrue(board == Board(ORDER, (("ann", ("pay",)),)))
            self.assertEqual(caught(board.back), ("NothingDone",))
        self.assertEqual(board.attempt([["rule", "twice", [["pay", "pay"]]], ["late", "ann", 1, "pay"], ["leave", "ann"]]),
                         [((), ()), ("twice",), ("pay", "pay")])
        board.back()
        self.assertTrue(board == Board(ORDER, (("ann", ("pay",)),)))

    def test_deeds_by_which_nothing_differs_count(self):
        board = Board(ORDER, (("ann", ("pay",)),))
        board.rule("first", (("pay",),))
        board.attempt((("join", "bob"), ("leave", "bob")))
        self.assertTrue(board == Board(ORDER, (("ann", ("pay",)),)))
        self.assertEqual([board.back(), board.back(), caught(board.back)], [None, None, ("NothingDone",)])
        # What was refused does not.
        self.assertEqual(caught(lambda: board.lose("ann", 1)), ("NoPlace", 1))
        self.assertEqual(caught(board.back), ("NothingDone",))

    def test_places(self):
        board = Board((), (("ann", ("a", "b")),))
        for place in (-1, 3, -3, 10 ** 30, -10 ** 30):
            self.assertEqual(caught(lambda: board.late("ann", place, "c")), ("NoPlace", place))
        for place in (-1, 2, 10 ** 30):
            self.assertEqual(caught(lambda: board.lose("ann", place)), ("NoPlace", place))
        # A person is told ahead of a place.
        self.assertEqual(caught(lambda: board.late("bob", -1, "c")), ("NoPerson", "bob"))
        self.assertEqual(caught(lambda: board.lose("bob", -1)), ("NoPerson", "bob"))
        board.late("ann", 2, "c")
        self.assertEqual(board["ann"], ("a", "b", "c"))
        board.late("ann", 0, "d")
        self.assertEqual(board["ann"], ("d", "a", "b", "c"))
        board.lose("ann", 3)
        self.assertEqual(board["ann"], ("d", "a", "b"))

    def test_rules_that_are_always_or_never_done(self):
        board = Board((), (("ann", ()), ("bob", ("a",))))
        self.assertEqual([board.rule("r", ALWAYS), board.rule("r", NEVER), board.rule("r", (("a",),)),
                          board.rule("r", (("b",), ("a", "a"))), board.rule("s", NEVER), board.drop("s"),
                          board.rule("r", ALWAYS), board.drop("r")],
                         [(("ann", "bob"), ()), ((), ("ann", "bob")), (("bob",), ()), ((), ("bob",)), ((), ()), (),
                          (("ann", "bob"), ()), ("ann", "bob")])


class Questions(unittest.TestCase):
    def test_against_the_logs(self):
        for board, model, choose in starts(80):
            for person, log in model.logs.items():
                self.assertEqual(board.done(person), done(model.book, log))
                found = board.wanted(person)
                self.assertIs(type(found), list)
                self.assertEqual(found, [(rule, self.further(base, log)) for rule, base in model.book
                                         if not PARTS.done(base, log)])
                for name in (*EVENTS, "z"):
                    self.assertEqual(board.helped(person, name),
                                     tuple(rule for rule, base in model.book
                                           if standing(base, log) != standing(base, log + (name,))))
            for rule, base in model.book:
                self.assertEqual(board.who(rule), tuple(person for person in sorted(model.logs)
                                                        if PARTS.done(base, model.logs[person])))

    def further(self, base, log):
        return next((later for later in all_logs("ab", 2) if PARTS.done(base, log + later)), None)

    def test_sure_and_possible_against_all_weavings(self):
        for board, model, choose in starts(60):
            for one, other in itertools.permutations(model.logs, 2):
                logs = weavings(model.logs[one], model.logs[other])
                self.assertEqual(board.sure(one, other), tuple(rule for rule, base in model.book
                                                               if all(PARTS.done(base, log) for log in logs)))
                self.assertEqual(board.possible(one, other), tuple(rule for rule, base in model.book
                                                                   if any(PARTS.done(base, log) for log in logs)))

    def test_losers_and_threats(self):
        threats = 0
        for board, model, choose in starts(80):
            others = tuple((rule, choose.choice(SMALL)) for rule in (*RULES, "z") if choose.random() < 0.6)
            for book in (others, (), model.book):
                kept = dict(book)
                expected = tuple((person, rule) for person in sorted(model.logs) for rule, base in model.book
                                 if PARTS.done(base, model.logs[person])
                                 and not PARTS.done(kept.get(rule, ()), model.logs[person]))
                self.assertEqual(board.losers(book), expected)
                # A least log that does one base and not another one is a word.
                least = [(rule, next((log for log in all_logs("ab", 2) if PARTS.done(base, log)
                                      and not PARTS.done(kept.get(rule, ()), log)), None)) for rule, base in model.book]
                found = board.threats(book)
                self.assertEqual(found, tuple((rule, log) for rule, log in least if log is not None))
                threats += len(found)
                self.assertTrue({rule for _, rule in expected} <= {rule for rule, _ in found})
            self.assertEqual([board.losers(model.book), board.threats(model.book)], [(), ()])
        self.assertGreater(threats, 100)

    def test_questions_change_nothing(self):
        for board, model, choose in starts(5):
            board.join("eve")
            twin = board.twin()
            for person in board.people():
                board.done(person), board.wanted(person), board.helped(person, "a"), board[person]
                for other in board.people():
                    if person != other:
                        board.sure(person, other), board.possible(person, other)
            board.losers(()), board.threats(()), board.book(), board.people(), len(board), "ann" in board
            self.assertTrue(board == twin)
            board.back()
            self.assertEqual(caught(board.back), ("NothingDone",))

    def test_who_is_not_there(self):
        board = Board(ORDER, (("ann", ()),))
        for call in (lambda: board["bob"], lambda: board.done("bob"), lambda: board.wanted("bob"),
                     lambda: board.helped("bob", "a"), lambda: board.sure("bob", "cleo"), lambda: board.sure("ann", "bob"),
                     lambda: board.possible("bob", "ann"), lambda: board.possible("ann", "bob"),
                     lambda: board.possible("bob", "cleo"), lambda: board.leave("bob"), lambda: board.event("bob", "a"),
                     lambda: board.late("bob", 0, "a"), lambda: board.lose("bob", 0)):
            self.assertEqual(caught(call), ("NoPerson", "bob"))
        for call in (lambda: board.who("last"), lambda: board.drop("last")):
            self.assertEqual(caught(call), ("NoRule", "last"))
        self.assertEqual(caught(lambda: board.join("ann")), ("Taken", "ann"))
        self.assertEqual(caught(board.back), ("NothingDone",))

    def test_edges(self):
        board = Board(())
        self.assertEqual([board.people(), board.book(), len(board), "ann" in board, board.losers(ORDER),
                          board.threats(ORDER)], [(), (), 0, False, (), ()])
        board = Board((("all", ALWAYS), ("none", NEVER)), (("ann", ()), ("bob", ("a",))))
        self.assertEqual([board.done("ann"), board.who("all"), board.who("none"), board.wanted("bob"),
                          board.helped("ann", "a"), board.sure("ann", "bob"), board.possible("ann", "bob"),
                          board.losers(()), board.threats(())],
                         [("all",), ("ann", "bob"), (), [("none", None)], (), ("all",), ("all",),
                          (("ann", "all"), ("bob", "all")), (("all", ()),)])


class Kinds(unittest.TestCase):
    def test_twice(self):
        logs = (("bob", ()), ("ann", ("a",)), ("cleo", ()), ("ann", ("a",)), ("bob", ()))
        self.assertEqual(caught(lambda: Board((), logs)), ("Twice", "ann"))
        self.assertEqual(caught(lambda: Board(book=[], logs=as_lists(logs))), ("Twice", "ann"))
        self.assertEqual(Board((), logs[:3]).people(), ("ann", "bob", "cleo"))

    def test_not_iterable(self):
        board = Board(ORDER, (("ann", ("a",)),))
        for call in (iter, list, tuple, set, sorted):
            self.assertRaises(TypeError, call, board)
        self.assertRaises(TypeError, lambda: [person for person in board])
        self.assertIs("ann" in board, True)

    def test_equal(self):
        boards = [Board(()), Board(ORDER), Board(ORDER, (("ann", ()),)), Board(ORDER, (("ann", ("pay",)),)),
                  Board(ORDER, (("bob", ()),)), Board(ORDER, (("ann", ()), ("bob", ()))), Board(ORDER[:1]),
                  Board((("first", (("pay", "pay"),)), ORDER[1]))]
        for at, one in enumerate(boards):
            for place, other in enumerate(boards):
                self.assertIs(one == other, at == place)
                self.assertIs(one != other, at != place)
        for thing in (None, True, 0, (), [], {}, "ann", ORDER, object(), Board):
            self.assertIs(boards[1] == thing, False)
            self.assertIs(boards[1] != thing, True)
            self.assertIs(thing == boards[1], False)

    def test_equal_whatever_was_done(self):
        one, other = Board(ORDER, [("bob", ()), ("ann", ())]), Board(ORDER, [("ann", ()), ("bob", ())])
        self.assertTrue(one == other and not one != other)
        one.event("ann", "pay")
        self.assertFalse(one == other)
        other.late("ann", 0, "pay")
        other.rule("last", ALWAYS)
        self.assertTrue(one != other)
        other.drop("last")
        self.assertTrue(one == other)
        one.leave("bob")
        one.join("bob")
        self.assertTrue(one == other)

    def test_twins_share_nothing(self):
        for board, model, choose in starts(60):
            for _ in range(6):
                deed = some_deed(choose)
                if caught(lambda: do(board, deed)) is None:
                    model.states.append(model.changed(deed)[1])
            twin, third = board.twin(), board.twin()
            self.assertIs(type(twin), Board)
            self.assertTrue(board == twin and not board != twin)
            self.upset(twin)
            self.assertTrue(board == third)
            self.take_back(board, model)
            self.upset(board)
            # The twin of what is left as it was can take back just as much.
            self.take_back(third, model)
            while caught(twin.back) is None:
                pass
            self.assertTrue(twin == third)

    def upset(self, board):
        for person in PERSONS:
            caught(lambda: board.join(person))
            board.event(person, "b")
        board.rule("first", (("z",),))
        board.attempt((("drop", "first"), ("leave", "ann")))

    def take_back(self, board, model):
        for bases, logs in model.states[:0:-1]:
            self.assertTrue(board == Board(tuple(bases.items()), tuple(logs.items())))
            board.back()
        self.assertTrue(board == Board(tuple(model.states[0][0].items()), tuple(model.states[0][1].items())))
        self.assertEqual(caught(board.back), ("NothingDone",))

    def test_what_is_handed_in_is_copied(self):
        book = [["first", [["pay"]]], ["order", [["pay", "ship"]]]]
        logs = [["ann", ["ship"]], ["bob", []]]
        base, deeds = [["a"], ["b", "b"]], [["rule", "more", [["a"]]], ["join", "cleo"]]
        given = copy.deepcopy([book, logs, base, deeds])
        board = Board(book, logs)
        board.rule("last", base)
        board.attempt(deeds)
        board.losers(book), board.threats(book)
        self.assertEqual([book, logs, base, deeds], given)
        kept = (board.book(), board["ann"], board["bob"])
        book[0][1].append(["z"])
        logs[0][1].append("z")
        logs.append(["dan", []])
        base[0].append("z")
        deeds[0][2].clear()
        self.assertEqual((board.book(), board["ann"], board["bob"]), kept)
        self.assertEqual(board.people(), ("ann", "bob", "cleo"))
        self.assertEqual(kept[0], (("first", (("pay",),)), ("last", (("a",), ("b", "b"))), ("more", (("a",),)),
                                   ("order", (("pay", "ship"),))))
        board.back()
        board.back()
        self.assertTrue(board == Board(ORDER, (("ann", ("ship",)), ("bob", ()))))

    def test_returned_lists_are_new(self):
        board = Board(ORDER, (("ann", ()),))
        board.wanted("ann").clear()
        self.assertEqual(len(board.wanted("ann")), 2)
        board.attempt((("join", "bob"),)).clear()
        self.assertEqual(board.people(), ("ann", "bob"))

    def test_by_name(self):
        board = Board(logs=[["ann", ["ship"]]], book=as_lists(ORDER))
        self.assertEqual([board.join(person="bob"), board.event(name="pay", person="ann"),
                          board.late(name="pay", place=0, person="ann"), board.lose(place=1, person="ann"),
                          board.rule(base=[["pay"]], name="more"), board.done(person="ann"), board.who(rule="more"),
                          board.wanted(person="ann"), board.helped(name="ship", person="ann"),
                          board.sure(other="bob", person="ann"), board.possible(other="bob", person="ann"),
                          board.losers(book=[]), board.threats(book=[["more", [["pay"]]], ["first", [["pay"]]]]),
                          board.attempt(deeds=[["leave", "bob"]]), board.drop(name="more"), board.leave(person="ann")],
                         [(), ("first",), ("order",), ("order",), (("ann",), ()), ("first", "more"), ("ann",),
                          [("order", ("ship",))], ("order",), ("first", "more"), ("first", "more"),
                          (("ann", "first"), ("ann", "more")), (("order", ("pay", "ship")),), [()], ("ann",),
                          ("pay", "pay")])
        for call, error in ((lambda: board.event(person="ann", name="a"), ("NoPerson", "ann")),
                            (lambda: board.drop(name="z"), ("NoRule", "z")),
                            (lambda: board.attempt(deeds=[["leave", "z"]]), ("Stopped", 0, "NoPerson"))):
            self.assertEqual(caught(call), error)

    def test_bases_of_other_forms(self):
        # Whatever is handed in as a BASE is kept as tuples.
        board = Board([["first", [["a"]]]])
        self.assertEqual(board.book(), (("first", (("a",),)),))
        self.assertEqual(board.rule("first", [["b"], ["a", "a"]]), ((), ()))
        self.assertEqual(board.book(), (("first", base_of((("a", "a"), ("b",)))),))


if __name__ == "__main__":
    unittest.main()
