"""Books: several bases by name, and what gaining one of them tells of the others."""

from moredone.asks import fewest_covering
from moredone.bases import ALWAYS, base_of, does, is_base, is_inside, names_in
from moredone.errors import NoBadge
from moredone.standings import Steps, least_logs
from moredone.words import ascends, copied, in_order, is_name, is_part


def is_book(thing):
    """Whether the thing is a BOOK: an ascending tuple of pairs of a NAME and a BASE, no NAME twice."""
    if not isinstance(thing, tuple) or not all([_is_entry(each) for each in thing]):
        return False
    return ascends(tuple([badge for badge, base in thing]))


def _is_entry(thing):
    """Whether the thing is a pair of a NAME and a BASE."""
    return isinstance(thing, tuple) and len(thing) == 2 and is_name(thing[0]) and is_base(thing[1])


def _bases(book):
    """The dict of the bases of the badges."""
    return {badge: copied(base) for badge, base in book}


def _checked(book, badges):
    """The bases of the badges of the book; raises NoBadge for the first one of these badges that it does not have."""
    bases = _bases(book)
    for badge in badges:
        if badge not in bases:
            raise NoBadge(badge)
    return bases


def gained(book, log):
    """The set of the badges whose bases the log does."""
    return tuple([badge for badge, base in book if does(base, log)])


def gained_at(book, log):
    """For each badge that the log gains the pair of it and of how many events the shortest beginning has that does."""
    return tuple([(badge, _first_done(base, log)) for badge, base in book if does(base, log)])


def _first_done(base, log):
    """How many events the shortest beginning of the log that does the base has."""
    many = 0
    while not does(base, log[:many]):
        many += 1
    return many


def brings(book, badge):
    """The set of the badges that each log gains that gains this one."""
    bases = _checked(book, (badge,))
    return tuple([other for other in bases if is_inside(bases[badge], bases[other])])


def _least_gaining(book):
    """For each set of badges that are just those that some log gains the least such log."""
    steps = Steps()
    bases = list(_bases(book).values())

    def after(state, name):
        """What is left of all bases behind an event."""
        return tuple([steps.after(left, name) for left in state])

    found = {}
    names = names_in([word for base in bases for word in base])
    for lefts, log in least_logs(tuple(bases), names, after).items():
        found.setdefault(tuple([entry[0] for entry, wanted in zip(book, lefts) if wanted == ALWAYS]), log)
    return found


def gains(book):
    """The list of all sets of badges that are just those that some log gains, the first ones first."""
    return in_order(list(_least_gaining(book)))


def just(book, badges):
    """The least log that gains just these badges; None if there is none."""
    _checked(book, badges)
    return _least_gaining(book).get(tuple(badges))


def gained_in_row(book, badges):
    """The least log that gains these badges, each one by fewer events than the next one; None if there is none."""
    bases = _checked(book, badges)
    steps = Steps()
    start = tuple([bases[badge] for badge in badges])

    def after(state, name):
        """What is left of their bases behind an event that does the next one of them or none."""
        later = tuple([steps.after(left, name) for left in state])
        return later if _is_step(state.count(ALWAYS), later) else None

    if not _is_step(0, start):
        return None
    names = names_in([word for base in start for word in base])
    return least_logs(start, names, after).get((ALWAYS,) * len(start))


def _is_step(many, state):
    """Whether so many of the first ones are done, or one more, and no others."""
    return state.count(ALWAYS) - many < 2 and ALWAYS not in state[state.count(ALWAYS):]


def _among(badges, others):
    """The set of those of others that stand among the badges."""
    return tuple([other for other in others if other in badges])


def tells(book, others, badge):
    """Whether the badges of others that are gained always tell whether badge is."""
    return unclear(book, others, badge) is None


def unclear(book, others, badge):
    """Two logs that gain the same ones of others, the first one badge, the second one not; None if there are none."""
    _checked(book, (badge,) + tuple(others))
    having, lacking = {}, {}
    for badges, log in _least_gaining(book).items():
        logs = having if badge in badges else lacking
        logs.setdefault(_among(badges, others), log)
    for badges, log in having.items():
        if badges in lacking:
            return log, lacking[badges]
    return None


def makes(book, others, badge):
    """Whether the base of badge can be made of those of others by either and both."""
    return made_of(book, others, badge) is not None


def made_of(book, others, badge):
    """As few subsets of others as can be of which the either of the boths is the base of badge; None if there are none.

    Ascending by comparison.
    """
    _checked(book, (badge,) + tuple(others))
    found = list(_least_gaining(book))
    # Of two ascending tuples one is a part of the other if all that stands in it stands in the other.
    lacking = [_among(badges, others) for badges in found if badge not in badges]
    having = base_of([_among(badges, others) for badges in found if badge in badges])
    enough = base_of([chosen for chosen in _subsets(others) if not any([is_part(chosen, each) for each in lacking])])
    if not all([does(enough, badges) for badges in having]):
        return None
    rows = {tuple([at for at, badges in enumerate(having) if is_part(chosen, badges)]): chosen for chosen in enough}
    return tuple(sorted(fewest_covering(len(having), rows)))


def _subsets(names):
    """The list of all sets of some of the names, none, or all, the first ones first."""
    found = [()]
    for name in names:
        found = found + [chosen + (name,) for chosen in found]
    return in_order(found)


def tellers(book):
    """The first set of badges that tell all badges of the book."""
    found = list(_least_gaining(book))
    telling = [chosen for chosen in _subsets([badge for badge, base in book])
               if len(set([_among(badges, chosen) for badges in found])) == len(found)]
    return telling[0]
