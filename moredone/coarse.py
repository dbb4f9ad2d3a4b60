"""Coarser names: what logs tell of a base if several names are made one."""

from moredone.bases import base_of, does, names_in, words_of
from moredone.demands import Demands
from moredone.errors import NotCoarse
from moredone.standings import standing
from moredone.words import ascends, copied, in_order, is_log


def is_classes(thing):
    """Whether the thing is CLASSES: an ascending tuple of sets of two or more NAMEs, no NAME in two of them."""
    if not isinstance(thing, tuple) or not all([is_log(each) and len(each) > 1 for each in thing]):
        return False
    names = [name for each in thing for name in each]
    return len(set(names)) == len(names) and ascends(thing) and all([ascends(each) for each in thing])


def coarse_log(log, classes):
    """The log of the coarse names of the events."""
    coarse = {name: each[0] for each in classes for name in each}
    return tuple([coarse.get(event, event) for event in log])


def _finer_logs(log, classes):
    """The list of the logs that have this coarse log as their coarse log, the least first."""
    sets = {each[0]: each for each in classes}
    logs = [()]
    for event in log:
        logs = [finer + (name,) for finer in logs for name in sets.get(event, (event,))]
    return logs


def lifted(base, classes):
    """The base that a log does if its coarse log does this coarse one."""
    names = names_in(base)
    for name, coarse in zip(names, coarse_log(names, classes)):
        if name != coarse:
            raise NotCoarse(name)
    # None of them can be a part of another one, as the coarse log of none is one of that of another.
    return tuple(in_order([log for word in base for log in _finer_logs(word, classes)]))


def possible(base, classes):
    """The coarse base that a coarse log does if some log that has it does base."""
    return base_of([coarse_log(word, classes) for word in base])


def certain(base, classes):
    """The coarse base that a coarse log does if all logs that have it do base."""
    words = copied(base)
    left = [names for names in copied(classes) if _share(names, names_in(words))]
    if not _is_ever_certain(words, left):
        return ()
    while left:
        # The names may be made one set by set. Where few words are left, it is soon gone on with.
        found = [(_certain_for(words, names), names) for names in left]
        words, done = min(found, key=_many_words)
        left.remove(done)
    return words


def _many_words(found):
    """How many words the first one of a pair has."""
    return len(found[0])


def _is_ever_certain(base, classes):
    """Whether the base is certain in any coarse log."""
    # All events of a set may be of one name of it, whichever this is. If there is a word left then, however the names
    # are chosen, any log that goes on long enough has one of these words, whatever each event is.
    names = names_in(base)
    for chosen in _finer_logs([each[0] for each in classes], classes):
        others = [name for each in classes for name in each if name not in chosen]
        if not words_of(base, [name for name in names if name not in others]):
            return False
    return True


def _certain_for(base, names):
    """The same as certain for one set of names."""

    def behind(demand, name):
        """What is left of a demand behind an event of this coarse name, whichever name it has."""
        left, number = demand
        return [(standing(left, (each,)), number) for each in (names if name == names[0] else (name,))]

    coarse = names_in([coarse_log(word, (names,)) for word in base])
    return Demands(coarse, behind).meeting([(base, 0)])


def is_told(base, classes):
    """Whether coarse logs always tell whether a log does base."""
    return lifted(possible(base, classes), classes) == copied(base)


def doubtful(base, classes):
    """Two logs with the least coarse log of which one does base, and one does not; None if there are none."""
    for coarse in possible(base, classes):
        logs = _finer_logs(coarse, classes)
        without = [log for log in logs if not does(base, log)]
        if without:
            return [log for log in logs if does(base, log)][0], without[0]
    return None


def is_finer(one, other):
    """Whether each set of one lies in a set of other."""
    coarse = {name: at for at, each in enumerate(other) for name in each}
    return all([_are_one(each, coarse) for each in one])


def _are_one(names, coarse):
    """Whether all names stand in coarse, for one and the same."""
    return names[0] in coarse and all([coarse.get(name) == coarse[names[0]] for name in names])


def joined(one, other):
    """The finest classes of which both are finer."""
    found = []
    for names in copied(one) + copied(other):
        met = [each for each in found if _share(each, names)]
        found = [each for each in found if each not in met]
        found.append(tuple(sorted({name for each in met + [names] for name in each})))
    return tuple(sorted(found))


def _share(one, other):
    """Whether both have a name in common."""
    return any([name in other for name in one])


def shared(one, other):
    """The coarsest classes that are finer than both."""
    found = [tuple([name for name in names if name in each]) for names in one for each in other]
    return tuple(sorted([names for names in found if len(names) > 1]))


def coarsest(base):
    """Of the classes of names in the base with which it is told, those that all others are finer than."""
    words = copied(base)
    alike = {}
    for name in names_in(words):
        # Two names may stand for each other where what can stand around them is the same.
        around = [(word[:at], word[at + 1:]) for word in words for at in range(len(word)) if word[at] == name]
        alike.setdefault(tuple(sorted(around)), []).append(name)
    # The names come in order: so do the sets, by the first one of each.
    return tuple([tuple(names) for names in alike.values() if len(names) > 1])
