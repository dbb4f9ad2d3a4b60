"""Standings: what is still wanted of a base behind a log."""

from moredone.bases import base_of, is_inside, least_parting
from moredone.words import copied, rest


class Steps:
    """The standings of bases behind single events, each kept once it was asked for."""

    def __init__(self):
        self.later = {}

    def after(self, begun, name):
        """The standing of the base begun behind one event of this name."""
        key = (begun, name)
        if key not in self.later:
            self.later[key] = standing(begun, (name,))
        return self.later[key]


def standing(base, log):
    """What is still wanted behind the log: the base that later does if log with later behind it does base."""
    return base_of([rest(word, log) for word in base])


def first_names(base):
    """The set of the names with which words of the base begin."""
    return tuple(sorted({word[0] for word in base if word}))


def helpful(base, log):
    """The set of the names whose event changes the standing if it comes next."""
    return first_names(standing(base, log))


def further(base, log):
    """The least log that makes base done behind log; None if none does."""
    left = standing(base, log)
    return left[0] if left else None


def helped(base, log):
    """The set of the places of those events of log that changed the standing."""
    left = base
    found = []
    for at, event in enumerate(log):
        if event in first_names(left):
            found.append(at)
            left = standing(left, (event,))
    return tuple(found)


def is_ahead(base, one, other):
    """Whether each log that makes base done behind one does so behind other, too."""
    return is_inside(standing(base, one), standing(base, other))


def same(base, one, other):
    """Whether both logs have the same standing."""
    return standing(base, one) == standing(base, other)


def parting_end(base, one, other):
    """The least log behind which just one of one and other does base; None if both have the same standing."""
    return least_parting(standing(base, one), standing(base, other))


def standings(base):
    """All standings of the base behind logs: a list, ascending by comparison."""
    return sorted(_moves_from(base))


def moves(base):
    """The list of the triples (standing, name, later): an event of this name changes the one into the other."""
    return sorted([(begun, name, later) for begun, row in _moves_from(base).items() for name, later in row])


def _moves_from(base):
    """For each standing of the base the list of the pairs of a name that helps and the standing behind it."""
    found = {}
    left = [copied(base)]
    while left:
        begun = left.pop()
        if begun not in found:
            found[begun] = [(name, standing(begun, (name,))) for name in first_names(begun)]
            left.extend([later for _, later in found[begun]])
    return found


def longest_helping(base):
    """A longest log each of whose events changes the standing."""
    steps = Steps()
    # For each standing that so many events can lead to, each of which changes it, one row of them. No standing
    # comes again once it was changed: so there is an end.
    reached = {copied(base): ()}
    longest = ()
    while reached:
        longest = list(reached.values())[0]
        reached = {steps.after(begun, name): log + (name,) for begun, log in reached.items()
                   for name in first_names(begun)}
    return longest


def least_logs(start, names, after):
    """For each state that logs of these names lead to the least such log, in the order of these logs: a dict.

    after(state, name) is the state behind an event; None if none of this name may come there.
    """
    found = {start: ()}
    layer = [start]
    while layer:
        longer = []
        # What is found first stands behind the least log with one event fewer: so it is the least one, too.
        for state in layer:
            for name in names:
                later = after(state, name)
                if later is not None and later not in found:
                    found[later] = found[state] + (name,)
                    longer.append(later)
        layer = longer
    return found
