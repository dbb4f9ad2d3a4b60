"""Logs and their parts."""


def is_name(value):
    """Whether the value is a NAME: a string of 1 to 8 letters from a to z."""
    if not isinstance(value, str):
        return False
    return 1 <= len(value) <= 8 and all(["a" <= letter <= "z" for letter in value])


def is_number(value):
    """Whether the value is a number: an integer that is not True or False."""
    return isinstance(value, int) and not isinstance(value, bool)


def ascends(row):
    """Whether the row, a tuple, ascends by comparison, without repetitions."""
    return tuple(sorted(set(row))) == row


def is_log(thing):
    """Whether the thing is a LOG: a tuple of NAMEs."""
    return isinstance(thing, tuple) and all([is_name(event) for event in thing])


def copied(logs):
    """The logs as a tuple of tuples, whatever lists they were handed in with."""
    return tuple([tuple(log) for log in logs])


def in_order(logs):
    """The list of the logs, without repetitions: those of fewer events first, of as many the lesser one."""
    # Sorting keeps the places of what is alike by its key: so the lesser one stays ahead.
    return sorted(sorted(set(logs)), key=len)


def is_part(word, log):
    """Whether word is what remains of log when some of its events are left out."""
    events = iter(log)
    for event in word:
        # The search goes on behind what it found last: so the events are found in their order.
        is_there = event in events
        if not is_there:
            return False
    return True


def _early_places(word, log):
    """The list of the places of the longest beginning of word that is a part of log, each as early as can be."""
    found = []
    for at, event in enumerate(log):
        if len(found) < len(word) and event == word[len(found)]:
            found.append(at)
    return found


def places(word, log):
    """The places of the events of word in log, each as early as can be; None if it is no part."""
    found = _early_places(word, log)
    return tuple(found) if len(found) == len(word) else None


def ways(word, log):
    """At how many choices of places the log has just the events of word, in their order."""
    # many[k] is the answer for the first k events of word, in what was read of the log.
    many = [1] + [0] * len(word)
    for event in log:
        # From the end on, so that one event of the log does not stand for two of word.
        for end in range(len(word), 0, -1):
            if word[end - 1] == event:
                many[end] += many[end - 1]
    return many[-1]


def rest(word, log):
    """word without its longest beginning that is a part of log."""
    return tuple(word)[len(_early_places(word, log)):]


def front(word, log):
    """word without its longest end that is a part of log."""
    return rest(word[::-1], log[::-1])[::-1]


def least_both(one, other):
    """The logs that have both as parts, and no other log that has: a tuple, in order."""
    return tuple(in_order(_least_logs(tuple(one), tuple(other))))


def _least_logs(one, other):
    """The list of the logs of least_both, without an order."""
    if not one or not other:
        return [one + other]
    if one[0] == other[0]:
        return [one[:1] + log for log in _least_logs(one[1:], other[1:])]
    # A log that begins with the first event of one has, behind it, the rest of one and all of other. The first
    # event is idle just if all of one stands behind it anyway; the others are not, as what is behind is least.
    logs = [one[:1] + log for log in _least_logs(one[1:], other) if not is_part(one, log)]
    return logs + [other[:1] + log for log in _least_logs(one, other[1:]) if not is_part(other, log)]


def common_parts(one, other):
    """The logs that are parts of both, and of no other log that is: a tuple, in order."""
    return tuple(_common_logs(tuple(one), tuple(other)))


def _common_logs(one, other):
    """The list of the logs of common_parts, in order."""
    if not one or not other:
        return [()]
    if one[0] == other[0]:
        # What does not begin with this event is a part of something that does.
        return [one[:1] + part for part in _common_logs(one[1:], other[1:])]
    return greatest_of(_common_logs(one[1:], other) + _common_logs(one, other[1:]))


def greatest_of(logs):
    """The list of those logs that are a part of no other one of them, in order."""
    kept = []
    for log in in_order(logs)[::-1]:
        if not any([is_part(log, longer) for longer in kept]):
            kept.append(log)
    return kept[::-1]
