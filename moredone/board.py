"""A board: a book of rules, the logs of several persons, and the deeds that change them."""

from moredone.bases import does, outside
from moredone.books import gained
from moredone.errors import NoPerson, NoPlace, NoRule, NothingDone, Stopped, Taken, Twice
from moredone.standings import further, helpful
from moredone.weaves import in_every, in_some
from moredone.words import copied


class Board:
    """The rules by name, the persons with their logs, and what was ahead of each deed that is not taken back."""

    def __init__(self, book, logs=()):
        """Raises Twice for the first person that stands ahead already."""
        self.bases = {rule: copied(base) for rule, base in book}
        self.logs = {}
        for person, log in logs:
            if person in self.logs:
                raise Twice(person)
            self.logs[person] = tuple(log)
        # Each of these is a pair of the book and of the persons with their logs.
        self.past = []

    def __contains__(self, x):
        """Whether there is this person."""
        return x in self.logs

    def __len__(self):
        """How many persons there are."""
        return len(self.logs)

    def __getitem__(self, at):
        """The log of this person; raises NoPerson if there is none."""
        if at not in self.logs:
            raise NoPerson(at)
        return self.logs[at]

    def __iter__(self):
        raise TypeError("a board is not iterated over")

    def __eq__(self, other):
        """Whether other is a board with the same book, the same persons and the same logs."""
        return isinstance(other, Board) and self.bases == other.bases and self.logs == other.logs

    def people(self):
        """The set of the persons."""
        return tuple(sorted(self.logs))

    def book(self):
        """The book of the rules."""
        return tuple(sorted(self.bases.items()))

    def done(self, person):
        """The set of the rules that the log of the person does; raises NoPerson."""
        return gained(self.book(), self[person])

    def who(self, rule):
        """The set of the persons whose logs do the rule; raises NoRule."""
        return self._doing(self._base(rule))

    def _base(self, rule):
        """The base of the rule; raises NoRule if there is none."""
        if rule not in self.bases:
            raise NoRule(rule)
        return self.bases[rule]

    def _doing(self, base):
        """The set of the persons whose logs do the base."""
        return tuple([person for person in self.people() if does(base, self.logs[person])])

    def wanted(self, person):
        """The list of the pairs of a rule that is not done and the least log that does it then; raises NoPerson."""
        log = self[person]
        return [(rule, further(base, log)) for rule, base in self.book() if not does(base, log)]

    def helped(self, person, name):
        """The set of the rules whose standing changes if this event comes next; raises NoPerson."""
        log = self[person]
        return tuple([rule for rule, base in self.book() if name in helpful(base, log)])

    def sure(self, person, other):
        """The set of the rules that are done in every weaving of the two logs; raises NoPerson."""
        logs = (self[person], self[other])
        return tuple([rule for rule, base in self.book() if in_every(base, logs)])

    def possible(self, person, other):
        """The set of the rules that are done in some weaving of the two logs; raises NoPerson."""
        logs = (self[person], self[other])
        return tuple([rule for rule, base in self.book() if in_some(base, logs)])

    def losers(self, book):
        """The ascending pairs of a person and a rule that the log does, but not as the other book has it."""
        others = {rule: base for rule, base in book}
        return tuple([(person, rule) for person in self.people() for rule in self.done(person)
                      if not does(others.get(rule, ()), self.logs[person])])

    def threats(self, book):
        """The ascending pairs of a rule and the least log that does it, but not as the other book has it."""
        others = {rule: base for rule, base in book}
        found = [(rule, outside(base, others.get(rule, ()))) for rule, base in self.book()]
        return tuple([(rule, log) for rule, log in found if log is not None])

    def join(self, person):
        """A person without events comes; raises Taken."""
        if person in self.logs:
            raise Taken(person)
        self._keep()
        self.logs[person] = ()
        return ()

    def leave(self, person):
        """The person goes, and the log is returned; raises NoPerson."""
        log = self[person]
        self._keep()
        del self.logs[person]
        return log

    def event(self, person, name):
        """An event comes behind the log; returns the set of the rules that are newly done. Raises NoPerson."""
        return self.late(person, len(self[person]), name)

    def late(self, person, place, name):
        """An event comes in at a place; returns the set of the rules that are newly done.

        Raises NoPerson, then NoPlace.
        """
        log = self[person]
        if not 0 <= place <= len(log):
            raise NoPlace(place)
        return self._change(person, log[:place] + (name,) + log[place:])[0]

    def lose(self, person, place):
        """The event at a place is lost; returns the set of the rules that are done no more.

        Raises NoPerson, then NoPlace.
        """
        log = self[person]
        if not 0 <= place < len(log):
            raise NoPlace(place)
        return self._change(person, log[:place] + log[place + 1:])[1]

    def _change(self, person, log):
        """Gives the person this log; returns the sets of the rules that are newly done, and that are done no more."""
        before = self.done(person)
        self._keep()
        self.logs[person] = log
        return _gained_and_lost(before, self.done(person))

    def rule(self, name, base):
        """The rule is this base from now on; returns the sets of the persons that do it newly, and no more."""
        before = self._doing(self.bases.get(name, ()))
        self._keep()
        self.bases[name] = copied(base)
        return _gained_and_lost(before, self._doing(base))

    def drop(self, name):
        """The rule goes; returns the set of the persons whose logs did it. Raises NoRule."""
        persons = self.who(name)
        self._keep()
        del self.bases[name]
        return persons

    def attempt(self, deeds):
        """Does all of the deeds as one, and returns the list of what they return; raises Stopped if one is refused."""
        before = self._state()
        many = len(self.past)
        told = []
        for number, deed in enumerate(deeds):
            word = self._try(deed, told)
            if word is not None:
                self._set(before)
                del self.past[many:]
                raise Stopped(number, word)
        del self.past[many:]
        self.past.append(before)
        return told

    def _try(self, deed, told):
        """Does the deed, and puts what it returns behind told; returns the name of its error, None if it has none."""
        try:
            told.append(self._do(deed[0], deed[1:]))
        except Taken:
            return "Taken"
        except NoPerson:
            return "NoPerson"
        except NoPlace:
            return "NoPlace"
        except NoRule:
            return "NoRule"
        return None

    def _do(self, deed, handed):
        """Does the deed of this name with what is handed to it."""
        if deed == "join":
            return self.join(*handed)
        if deed == "leave":
            return self.leave(*handed)
        if deed == "event":
            return self.event(*handed)
        if deed == "late":
            return self.late(*handed)
        if deed == "lose":
            return self.lose(*handed)
        if deed == "rule":
            return self.rule(*handed)
        return self.drop(*handed)

    def back(self):
        """Takes the last deed back; raises NothingDone if there is none."""
        if not self.past:
            raise NothingDone()
        self._set(self.past.pop())

    def twin(self):
        """A board in the same state, with the same deeds to take back, that shares nothing with this one."""
        board = Board(self.book(), self._state()[1])
        board.past = list(self.past)
        return board

    def _state(self):
        """The pair of the book and of the persons with their logs."""
        return self.book(), tuple(self.logs.items())

    def _keep(self):
        """Keeps what is now, to be taken back to."""
        self.past.append(self._state())

    def _set(self, state):
        """Makes the board what it was in this state."""
        book, logs = state
        self.bases = {rule: base for rule, base in book}
        self.logs = {person: log for person, log in logs}


def _gained_and_lost(before, now):
    """The pair of the sets of what is in the second one of two sets alone, and of what is in the first one alone."""
    return tuple([each for each in now if each not in before]), tuple([each for each in before if each not in now])
