"""Woven logs: several sources in all orders that keep what is known, and events that are dealt out."""

from moredone.bases import ALWAYS, base_of, does, names_in
from moredone.demands import Demands, done_by_all
from moredone.errors import Tangled
from moredone.standings import Steps, standing
from moredone.words import ascends, copied, is_number


def woven(logs, order):
    """The weaving of an order of the logs."""
    came = [0] * len(logs)
    log = []
    for source in order:
        log.append(logs[source][came[source]])
        came[source] += 1
    return tuple(log)


def is_order(logs, known, thing):
    """Whether the thing is an order of the logs that keeps known."""
    if not isinstance(thing, tuple):
        return False
    ahead = _events_ahead(known)
    came = (0,) * len(logs)
    for source in thing:
        if not is_number(source) or source not in _next_sources(logs, ahead, came):
            return False
        came = _with_one_of(came, source)
    return len(thing) == sum([len(log) for log in logs])


def _events_ahead(known):
    """For each event, told by its source and its place there, the list of those that are known to be ahead of it."""
    found = {}
    for first, second in known:
        found.setdefault(tuple(second), []).append(tuple(first))
    return found


def _next_sources(logs, ahead, came):
    """The list of the sources whose next event can come, if so many events of each source came."""
    return [source for source, place in enumerate(came) if place < len(logs[source])
            and all([at < came[other] for other, at in ahead.get((source, place), ())])]


def _with_one_of(came, source):
    """How many events of each source came, with one more of this one."""
    return came[:source] + (came[source] + 1,) + came[source + 1:]


def _checked_ahead(logs, known):
    """The events ahead of each event, as they are known; raises Tangled if no order keeps that."""
    ahead = _events_ahead(known)
    came = (0,) * len(logs)
    # What can come next still can if something else comes first: so there is no need to go back.
    for _ in range(sum([len(log) for log in logs])):
        sources = _next_sources(logs, ahead, came)
        if not sources:
            raise Tangled()
        came = _with_one_of(came, sources[0])
    return ahead


def is_weaving(logs, log, known=()):
    """Whether the log is a weaving of the logs that keeps known."""
    ahead = _checked_ahead(logs, known)
    reached = {(0,) * len(logs): True}
    for event in log:
        reached = {_with_one_of(came, source): True for came in reached
                   for source in _next_sources(logs, ahead, came) if logs[source][came[source]] == event}
    return len(log) == sum([len(each) for each in logs]) and bool(reached)


def _beginnings(base, logs, known):
    """What the beginnings of orders lead to: a list, for each number of events from 0, of dicts.

    The keys are pairs: how many events of each source came, and the standing behind them. The values are pairs, too:
    how many beginnings lead there, and one of these.
    """
    ahead = _checked_ahead(logs, known)
    steps = Steps()
    rows = [{((0,) * len(logs), copied(base)): (1, ())}]
    for _ in range(sum([len(log) for log in logs])):
        longer = {}
        for (came, left), (many, order) in rows[-1].items():
            for source in _next_sources(logs, ahead, came):
                key = (_with_one_of(came, source), steps.after(left, logs[source][came[source]]))
                before, told = longer.get(key, (0, order + (source,)))
                longer[key] = (before + many, told)
        rows.append(longer)
    return rows


def _done_and_not(row):
    """The two lists of values of those beginnings that do the base, and of those that do not."""
    done = [value for (_, left), value in row.items() if left == ALWAYS]
    return done, [value for (_, left), value in row.items() if left != ALWAYS]


def in_some(base, logs, known=()):
    """Whether some weaving does the base."""
    return order_with(base, logs, known) is not None


def in_every(base, logs, known=()):
    """Whether every weaving does the base."""
    return order_without(base, logs, known) is None


def order_with(base, logs, known=()):
    """An order whose weaving does the base; None if there is none."""
    done, _ = _done_and_not(_beginnings(base, logs, known)[-1])
    return done[0][1] if done else None


def order_without(base, logs, known=()):
    """An order whose weaving does not do the base; None if there is none."""
    _, undone = _done_and_not(_beginnings(base, logs, known)[-1])
    return undone[0][1] if undone else None


def how_many_orders(base, logs, known=()):
    """The pair of how many orders have a weaving that does the base, and of how many orders there are."""
    done, undone = _done_and_not(_beginnings(base, logs, known)[-1])
    many = sum([count for count, _ in done])
    return many, many + sum([count for count, _ in undone])


def soonest(base, logs, known=()):
    """The least number of events with which the beginning of some weaving does the base; None if none does."""
    for many, row in enumerate(_beginnings(base, logs, known)):
        if _done_and_not(row)[0]:
            return many
    return None


def latest(base, logs, known=()):
    """The least number of events with which the beginnings of every weaving do the base; None if not every one does."""
    for many, row in enumerate(_beginnings(base, logs, known)):
        if not _done_and_not(row)[1]:
            return many
    return None


def apart(one, other):
    """The base of the logs whose events can be dealt out to two hands, one of which does one and the other other."""
    return base_of([log for word in copied(one) for second in copied(other) for log in _weavings(word, second)])


def _weavings(one, other):
    """The list of all weavings of two words, in which some may stand again."""
    if not one or not other:
        return [one + other]
    return ([one[:1] + log for log in _weavings(one[1:], other)]
            + [other[:1] + log for log in _weavings(one, other[1:])])


def apart_times(base, number):
    """The base of the logs whose events can be dealt out to so many hands each of which does base."""
    dealt = ALWAYS
    for _ in range(number):
        more = apart(dealt, base)
        # Where one more hand asks for nothing more, no further one does.
        if more == dealt:
            break
        dealt = more
    return dealt


def beside(base, other):
    """The greatest base of which each weaving of a log that does it and of one that does other does base."""
    return done_by_all([_beside_word(copied(base), tuple(word)) for word in other])


def _beside_word(base, word):
    """The base of the logs each of whose weavings with the word does base."""

    # The number of a demand is how many events of the word came already: any further ones may come at any time.
    def opened(left, many):
        """What is left to be done if this is left behind so many events of the word, or behind more of them."""
        found = [(standing(left, word[many:end]), end) for end in range(many, len(word) + 1)]
        return [(wanted, came) for wanted, came in found if not does(wanted, word[came:])]

    def behind(demand, name):
        """What is left of a demand behind an event that is none of the word."""
        left, many = demand
        return opened(standing(left, (name,)), many)

    return Demands(names_in(base), behind).meeting(opened(base, 0))


def most_apart(word, log):
    """How many times at most the word is a part of the log with all events different."""
    return len(taken(word, log))


def taken(word, log):
    """As many ascending tuples of places as can be, no place in two of them, the events there being the word."""
    # For each row of how many events the hands hold that take what came so far: one deal of the places to them.
    deals = {(): ()}
    for place, event in enumerate(log):
        more = [hands for before in deals.values() for hands in _dealt(word, before, event, place)]
        deals = {tuple(sorted([len(hand) for hand in hands])): hands for hands in more}
    full = [[hand for hand in hands if len(hand) == len(word)] for hands in deals.values()]
    return tuple(sorted(max(full, key=len)))


def _dealt(word, hands, event, place):
    """The list of the unlike deals to these hands once the event at this place came."""
    lengths = [len(hand) for hand in hands]
    takers = [lengths.index(many) for many in sorted(set(lengths)) if many < len(word) and word[many] == event]
    deals = [hands[:at] + (hands[at] + (place,),) + hands[at + 1:] for at in takers]
    if word[0] == event:
        deals.append(hands + ((place,),))
    # To take an event is never worse than to leave it: a hand that is further on needs less.
    return deals or [hands]


def is_taken(word, log, thing):
    """Whether the thing is an ascending tuple of such tuples as taken tells, of any number of them."""
    if not isinstance(thing, tuple) or not all([_is_choice(word, log, places) for places in thing]):
        return False
    told = [place for places in thing for place in places]
    return len(set(told)) == len(told) and ascends(thing)


def _is_choice(word, log, thing):
    """Whether the thing is an ascending tuple of places of the log at which the events of the word stand."""
    if not isinstance(thing, tuple) or not all([is_number(place) and 0 <= place < len(log) for place in thing]):
        return False
    return ascends(thing) and [log[place] for place in thing] == list(word)
