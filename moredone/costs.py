"""Costs: the cheapest ways to do a base and to undo it, and how a price depends on a cost."""

from math import lcm

from moredone.bases import ALWAYS, is_base, words_of
from moredone.errors import NoWay
from moredone.numbers import fraction
from moredone.standings import Steps, first_names, standing
from moredone.words import ascends, copied, is_number


def _prices(costs):
    """The dict of the costs of the names."""
    return {name: cost for name, cost in costs}


def cheapest(base, log, costs):
    """The pair of the least price and the least log of this price that, behind log, does the base; None if none can."""
    prices = _prices(costs)
    ways = [(sum([prices[event] for event in word]), word) for word in words_of(standing(base, log), prices)]
    return min(ways, key=_price) if ways else None


def _price(way):
    """The price of a way."""
    return way[0]


def cheapest_put(base, log, costs):
    """The pair of the least price and the least log of this price that does the base, with log as a part.

    None if events that can be had do not do it.
    """
    way = _least_put(Steps(), _prices(costs), tuple(log), copied(base), {})
    return None if way is None else (way[0], way[2])


def _least_put(steps, prices, log, left, found):
    """The least triple of price, number of events, and log with this one as a part that does what is left, or None."""
    if left == ALWAYS:
        return 0, len(log), log
    key = (len(log), left)
    if key not in found:
        # Events of the log cost nothing; others are worth nothing if they do not change the standing.
        firsts = [(log[0], 0, log[1:])] if log else []
        firsts = firsts + [(name, prices[name], log) for name in first_names(left) if name in prices]
        ways = []
        for name, cost, behind in firsts:
            way = _least_put(steps, prices, behind, steps.after(left, name), found)
            if way is not None:
                price, many, events = way
                ways.append((price + cost, many + 1, (name,) + events))
        found[key] = min(ways) if ways else None
    return found[key]


def cheapest_undoing(base, log, costs):
    """The pair of the least price and the part of the log that does not do the base, if what it lacks costs this.

    Of several it is the one with the most events, of these the least; None if there is none.
    """
    prices = _prices(costs)
    steps = Steps()
    # For each standing that is not done the least triple of price, number of lost events, and what is kept.
    ways = {left: (0, 0, ()) for left in [copied(base)] if left != ALWAYS}
    for event in log:
        longer = {}
        for left, (price, lost, kept) in ways.items():
            _keep_least(longer, steps.after(left, event), (price, lost, kept + (event,)))
            if event in prices:
                _keep_least(longer, left, (price + prices[event], lost + 1, kept))
        ways = longer
    if not ways:
        return None
    price, lost, kept = min(ways.values())
    return price, kept


def _keep_least(ways, left, way):
    """Keeps the way for this standing if it is the least so far, and if the standing is not done."""
    if left != ALWAYS:
        ways[left] = min(ways.get(left, way), way)


def notes(base, log, costs):
    """Right notes in which the mark of the base ahead of the log is the price of undoing it; raises NoWay."""
    way = cheapest_undoing(base, log, costs)
    if way is None:
        raise NoWay()
    marks = {}
    _mark(Steps(), _prices(costs), log, (0, copied(base)), way[0], marks)
    return tuple(sorted([(place, left, mark) for (place, left), mark in marks.items() if mark]))


def _mark(steps, prices, log, state, most, marks):
    """How much is still to be paid at least at this place and standing, or most if that is less; kept in marks."""
    place, left = state
    if place == len(log):
        return 0
    if state not in marks:
        event = log[place]
        ways = [most]
        if steps.after(left, event) != ALWAYS:
            ways.append(_mark(steps, prices, log, (place + 1, steps.after(left, event)), most, marks))
        if event in prices:
            ways.append(prices[event] + _mark(steps, prices, log, (place + 1, left), most, marks))
        marks[state] = min(ways)
    return marks[state]


def are_notes(base, log, costs, price, thing):
    """Whether the thing is right notes in which the mark of the base ahead of the log is this price or more."""
    if not isinstance(thing, tuple) or not all([_is_note(each, log) for each in thing]) or not ascends(thing):
        return False
    marks = {(place, left): mark for place, left, mark in thing}
    if len(marks) < len(thing) or marks.get((0, copied(base)), 0) < price:
        return False
    prices = _prices(costs)
    return all([_is_right(note, log, prices, marks) for note in thing])


def _is_note(thing, log):
    """Whether the thing is a triple of a place of the log, a standing that is not done, and a mark from 1 on."""
    if not isinstance(thing, tuple) or len(thing) != 3:
        return False
    place, left, mark = thing
    return (is_number(place) and 0 <= place < len(log) and is_base(left) and left != ALWAYS
            and is_number(mark) and mark > 0)


def _is_right(note, log, prices, marks):
    """Whether no way on from the note, by keeping the event or by losing it, can cost less than its mark tells."""
    place, left, mark = note
    behind = standing(left, (log[place],))
    if behind != ALWAYS and mark > marks.get((place + 1, behind), 0):
        return False
    return log[place] not in prices or mark <= prices[log[place]] + marks.get((place + 1, left), 0)


def lines(base, log, costs, name):
    """How the least price of doing the base behind the log depends on the cost of one name: the lines, in their order.

    Each is a triple: the fraction from which on it is the price, what is fixed, and how many times the cost comes.
    """
    prices = _prices(costs)
    prices[name] = 0
    found = [(sum([prices[event] for event in word]), word.count(name))
             for word in words_of(standing(base, log), prices)]
    row = []
    following = [((0, 1), fixed, many) for fixed, many in sorted(found)[:1]]
    while following:
        row.extend(following)
        following = _next_line(found, row[-1])
    return tuple(row)


def _next_line(found, line):
    """The list of the line that is the first one to be below this one; of none if none is."""
    _, fixed, many = line
    whole = 1
    for part in range(1, many + 1):
        whole = lcm(whole, part)
    # Where others cross it, all with one denominator. Of several at one place that with the lowest way on is the next.
    crossing = [((more - fixed) * whole // (many - fewer), fewer, more) for more, fewer in found if fewer < many]
    return [(fraction(at, whole), more, fewer) for at, fewer, more in sorted(crossing)[:1]]
