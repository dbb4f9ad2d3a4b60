"""Numbers: how many logs of some names do a base, which ones, how soon, and with which chance."""

from math import gcd, lcm

from moredone.bases import ALWAYS, words_of
from moredone.errors import Endless, NoLog, NoName, NotDone
from moredone.standings import standing
from moredone.weaves import how_many_orders


class Paths:
    """The standings of a base behind the logs of some names, each told by a number: the base itself by 0."""

    def __init__(self, base, names):
        # Words with other names are of no use.
        self.told = [words_of(base, names)]
        numbers = {self.told[0]: 0}
        # For each standing the row of the numbers of those behind an event of each of the names.
        self.later = []
        while len(self.later) < len(self.told):
            begun = self.told[len(self.later)]
            row = []
            for name in names:
                left = standing(begun, (name,))
                if left not in numbers:
                    numbers[left] = len(self.told)
                    self.told.append(left)
                row.append(numbers[left])
            self.later.append(row)

    def is_done(self, number):
        """Whether nothing is left to be done there."""
        return self.told[number] == ALWAYS

    def counts(self, length):
        """For each length from 0 to this one the row of how many such logs do what is left, for each standing."""
        rows = [[int(self.is_done(number)) for number in range(len(self.told))]]
        for _ in range(length):
            rows.append([sum([rows[-1][later] for later in row]) for row in self.later])
        return rows


def how_many(base, names, length):
    """How many logs of so many events of these names do the base."""
    return Paths(base, names).counts(length)[-1][0]


def nth(base, names, length, number):
    """The log with this number among these logs, in order; raises NoLog if there is none."""
    paths = Paths(base, names)
    counts = paths.counts(length)
    if not 0 <= number < counts[-1][0]:
        raise NoLog(number)
    log = []
    at, left = 0, number
    for row in counts[:-1][::-1]:
        place, left = _place_among([row[later] for later in paths.later[at]], left)
        log.append(names[place])
        at = paths.later[at][place]
    return tuple(log)


def _place_among(counts, number):
    """The place of the count that a number falls into, counted through all of them, and its number in that one."""
    left = number
    for place, count in enumerate(counts):
        if left < count:
            break
        left -= count
    return place, left


def number_of(base, names, log):
    """The number of the log among those of its length that do the base; raises NoName, then NotDone."""
    for event in log:
        if event not in names:
            raise NoName(event)
    paths = Paths(base, names)
    at, number = 0, 0
    for event, row in zip(log, paths.counts(len(log))[:-1][::-1]):
        place = names.index(event)
        number += sum([row[later] for later in paths.later[at][:place]])
        at = paths.later[at][place]
    if not paths.is_done(at):
        raise NotDone()
    return number


def how_many_with(base, counts):
    """How many of the logs that have each of these names just so often, and no other one, do the base."""
    # If each name comes from a source of its own, unlike orders have unlike weavings.
    return how_many_orders(base, [(name,) * number for name, number in counts])[0]


def first_sure(base, names):
    """The least length from which on every log of these names does the base; None if there is none."""
    try:
        log = longest_without(base, names)
    except Endless:
        return None
    return 0 if log is None else len(log) + 1


def longest_without(base, names):
    """Of the longest logs of these names that do not do the base the least; None if there is none.

    Raises Endless for the least of the names of which the base has no word alone.
    """
    paths = Paths(base, names)
    if paths.is_done(0):
        return None
    for name in names:
        if not words_of(base, (name,)):
            raise Endless(name)
    logs = {0: ()}
    longer = _longer_logs(paths, names, logs)
    while longer:
        logs = longer
        longer = _longer_logs(paths, names, logs)
    return min(logs.values())


def _longer_logs(paths, names, logs):
    """For each standing behind one event more that is not done the least log that leads there, from these logs."""
    longer = {}
    for number, log in logs.items():
        for name, later in zip(names, paths.later[number]):
            if not paths.is_done(later):
                longer[later] = min(longer.get(later, log + (name,)), log + (name,))
    return longer


def growth(base, names):
    """The pair (many, power): the logs of n events that do not do the base grow as n ** power * many ** n does."""
    paths = Paths(base, names)
    idle = [0 if paths.is_done(number) else row.count(number) for number, row in enumerate(paths.later)]
    many = max(idle)
    return (many, _longest_row(paths, idle, 0, {}) - 1) if many else (0, 0)


def _longest_row(paths, idle, number, found):
    """How many standings with the most idle names can come one behind another, from this one on."""
    if number not in found:
        behind = [_longest_row(paths, idle, later, found) for later in paths.later[number] if later != number]
        found[number] = int(idle[number] == max(idle)) + max(behind, default=0)
    return found[number]


def fraction(top, bottom):
    """The pair of top and bottom without a common divisor above 1."""
    shared = gcd(top, bottom)
    return top // shared, bottom // shared


def _weights(shares):
    """The list of the numerators of the shares with one denominator, and this one."""
    whole = 1
    for name, (top, bottom) in shares:
        whole = lcm(whole, bottom)
    return [top * whole // bottom for name, (top, bottom) in shares], whole


def chance(base, shares, length):
    """The fraction of the chance that so many events, each a name by these shares, do the base."""
    paths = Paths(base, [name for name, _ in shares])
    weights, whole = _weights(shares)
    # How likely each standing is, all of them with one denominator.
    likely = [1] + [0] * (len(paths.told) - 1)
    every = 1
    for _ in range(length):
        longer = [0] * len(likely)
        for weight, row in zip(likely, paths.later):
            for part, later in zip(weights, row):
                longer[later] += weight * part
        likely = longer
        every = every * whole
    return fraction(sum([weight for number, weight in enumerate(likely) if paths.is_done(number)]), every)


def expected(base, shares):
    """The fraction of how many events it takes on the average until they do the base; None if they never need to."""
    paths = Paths(base, [name for name, _ in shares])
    if paths.told[0] == ():
        return None
    weights, whole = _weights(shares)
    return _expected_from(paths, weights, whole, 0, {})


def _expected_from(paths, weights, whole, number, found):
    """The fraction of how many events it takes on the average from this standing on."""
    if paths.is_done(number):
        return 0, 1
    if number not in found:
        top, bottom, changing = whole, 1, 0
        for weight, later in zip(weights, paths.later[number]):
            # Events that change nothing make the others the rarer.
            if later != number:
                more, parts = _expected_from(paths, weights, whole, later, found)
                top, bottom = fraction(top * parts + weight * more * bottom, bottom * parts)
                changing += weight
        found[number] = fraction(top, bottom * changing)
    return found[number]
