"""Losses: which events of a log may get lost, and what is done whichever are."""

from moredone.bases import ALWAYS, does, names_in
from moredone.demands import Demands
from moredone.standings import Steps, standing
from moredone.words import copied, is_part


def without(log, places):
    """The log without the events at these places."""
    lost = set(places)
    return tuple([event for at, event in enumerate(log) if at not in lost])


def needed(base, log):
    """The set of the places each of which, lost alone, undoes the base."""
    if not does(base, log):
        return ()
    return tuple([at for at in range(len(log)) if not does(base, without(log, (at,)))])


def idle(base, log):
    """The set of the places at which no event stands that a word of the base has in any choice of its places."""
    used = {at: True for word in base for at in _places_used(word, log)}
    return tuple([at for at in range(len(log)) if at not in used])


def _places_used(word, log):
    """The list of the places in log that belong to some choice of places of the word."""
    return [at for at in range(len(log)) if _is_used(word, log, at)]


def _is_used(word, log, place):
    """Whether the event at this place of the log belongs to some choice of places of the word."""
    for at, event in enumerate(word):
        if event == log[place] and is_part(word[:at], log[:place]) and is_part(word[at + 1:], log[place + 1:]):
            return True
    return False


def fewest_losses(base, log):
    """A set of as few places as can be without which log does not do base; None if each log does it."""
    return _fewest([places for left, places in _fewest_places(base, log, False).items() if left != ALWAYS])


def _fewest(rows):
    """A row of as few places as can be; None if there is no row."""
    return min(rows, key=len) if rows else None


def _fewest_places(base, log, is_kept):
    """For each standing that a part of log has, a set of as few places as can be by which it comes about.

    These are the places that are kept for this part, or, if is_kept is False, those that are lost.
    """
    steps = Steps()
    found = {copied(base): ()}
    for at, event in enumerate(log):
        longer = {}
        for left, places in found.items():
            more = places + (at,)
            _keep_fewer(longer, steps.after(left, event), more if is_kept else places)
            _keep_fewer(longer, left, places if is_kept else more)
        found = longer
    return found


def _keep_fewer(found, left, places):
    """Keeps the places for this standing, if there are fewer of them than those that are kept for it."""
    if left not in found or len(places) < len(found[left]):
        found[left] = places


def withstands(base, log, many):
    """Whether log does base whichever so many of its events, or fewer, are lost."""
    places = fewest_losses(base, log)
    return places is None or len(places) > many


def hardened(base, many):
    """The base of the logs that do base whichever so many of their events, or fewer, are lost."""
    # The number of a demand is how many events may get lost yet.
    return Demands(names_in(base), _behind_event_or_loss).meeting([(copied(base), many)])


def _behind_event_or_loss(demand, name):
    """What is left of a demand behind an event that may get lost."""
    base, many = demand
    left = [(standing(base, (name,)), many)]
    return left + [(base, many - 1)] if many else left


def kernel(base, log):
    """A set of as few places as can be whose events alone have the same standing as log."""
    return _fewest_places(base, log, True)[standing(base, log)]


def setback(base, log):
    """A set of as few places as can be without which the standing is another one; None if there is none."""
    whole = standing(base, log)
    return _fewest([places for left, places in _fewest_places(base, log, False).items() if left != whole])
