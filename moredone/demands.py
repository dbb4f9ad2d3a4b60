"""Bases that are found event by event: of the logs that meet several demands at once.

A demand is a pair (base, number): a base that is to be done, and a number that makes it the harder the greater it is;
what the number means is said where it is used. Behind an event other demands are left, and they only get easier.
"""

from moredone.bases import ALWAYS, base_of, is_inside, names_in
from moredone.standings import standing


def hardest(demands):
    """The tuple of those demands that are not met anyway or along with another one of them, ascending."""
    wanted = sorted({demand for demand in demands if demand[0] != ALWAYS})
    return tuple([demand for demand in wanted if not any([_is_harder(other, demand) for other in wanted])])


def _is_harder(one, other):
    """Whether one is another demand, and other is met by each log that meets it."""
    return one != other and one[1] >= other[1] and is_inside(one[0], other[0])


def meeting(demands, names, after, found):
    """The base of the logs that meet all demands, which are the hardest ones of some.

    Its words are made of these names. after(demands, name) gives the hardest ones of those that are left behind an
    event of this name. What is found for each row of demands is kept in the dict found.
    """
    if not demands:
        return ALWAYS
    if demands not in found:
        logs = []
        for name in names:
            left = after(demands, name)
            # An event by which nothing changes is in no least log.
            if left != demands:
                logs.extend([(name,) + log for log in meeting(left, names, after, found)])
        found[demands] = base_of(logs)
    return found[demands]


def behind_event(demands, name):
    """What is left of demands whose numbers mean nothing."""
    return hardest([(standing(base, (name,)), number) for base, number in demands])


def done_by_all(bases):
    """The base of the logs that do each of these bases."""
    names = names_in([word for base in bases for word in base])
    return meeting(hardest([(base, 0) for base in bases]), names, behind_event, {})
