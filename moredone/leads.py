"""What leads into a base: the weakest bases that do ahead of given ones, behind them, or between them."""

from moredone.bases import ALWAYS, base_of, is_base, names_in, then
from moredone.demands import Demands, behind_event, done_by_all
from moredone.standings import standing, standings
from moredone.words import copied, front


def lead(base, other):
    """The greatest base that, with other behind it, leads into base."""
    return amid(base, ALWAYS, other)


def rest_of(base, other):
    """The greatest base that, behind other, leads into base."""
    return amid(base, other, ALWAYS)


def amid(base, one, other):
    """The greatest base that leads into base behind one and ahead of other."""
    # A log is enough if it is with each word of one ahead of it and each word of other behind it.
    return done_by_all([_between(base, word, end) for word in one for end in other])


def _between(base, begin, end):
    """The base of the logs with which begin ahead of them and end behind them do base."""
    return base_of([front(word, end) for word in standing(base, begin)])


def pairs(base):
    """The ascending list of the pairs (X, Y) in which X is lead(base, Y) and Y is rest_of(base, X)."""
    words = copied(base)
    return sorted([(lead(words, end), end) for end in _ends(words)])


def _ends(base):
    """The list of all bases that are rest_of the base and another one."""
    # They are what some standings of the base, or none of them, have in common.
    demands = Demands(names_in(base), behind_event)
    rows = {(): True}
    for begun in standings(base):
        for row in list(rows):
            rows[tuple(demands.hardest(row + ((begun, 0),)))] = True
    return list({demands.meeting(row): True for row in rows})


def splits(base):
    """The ascending list of the greatest pairs (X, Y) with then(X, Y) == base, neither of them done by each log."""
    words = copied(base)
    return [pair for pair in pairs(words) if is_split(words, pair)]


def is_split(base, thing):
    """Whether the thing is a pair of bases that, joined by then, are base, neither of them done by each log."""
    if not isinstance(thing, tuple) or len(thing) != 2 or ALWAYS in thing:
        return False
    one, other = thing
    # The words of then are as many as those of one, multiplied by those of other.
    return is_base(one) and is_base(other) and len(one) * len(other) == len(base) and then(one, other) == copied(base)
