"""Bases: the finitely many least logs that do a rule."""

from moredone.words import common_parts, copied, greatest_of, in_order, is_log, is_part, least_both

# The base that each log does.
ALWAYS = ((),)


def is_base(thing):
    """Whether the thing is a BASE: a tuple of LOGs, none a part of another one, in order."""
    if not isinstance(thing, tuple) or not all([is_log(word) for word in thing]):
        return False
    return base_of(thing) == thing


def base_of(logs):
    """The base that is done by just the logs that have one of these as a part."""
    words, shorter = [], []
    for log in in_order(copied(logs)):
        # Of two unlike logs of as many events none is a part of the other.
        if words and len(words[-1]) < len(log):
            shorter = list(words)
        if not does(shorter, log):
            words.append(log)
    return tuple(words)


def does(base, log):
    """Whether the log has a word of the base as a part."""
    for word in base:
        if is_part(word, log):
            return True
    return False


def names_in(base):
    """The set of the names in the words of the base."""
    return tuple(sorted({event for word in base for event in word}))


def words_of(base, names):
    """The base of those words of the base that are made of these names alone."""
    return tuple([word for word in copied(base) if all([event in names for event in word])])


def either(one, other):
    """The base that a log does if it does one or other."""
    return base_of(copied(one) + copied(other))


def both(one, other):
    """The base that a log does if it does one and other."""
    logs = [log for word in one for behind in other for log in least_both(word, behind)]
    return tuple([log for log in in_order(logs) if _needs_all(log, one, other)])


def _needs_all(log, one, other):
    """Whether the log does not do both bases any more whichever one of its events is left out."""
    # One event is enough to try: what is done without several is done without each of them.
    for at in range(len(log)):
        less = log[:at] + log[at + 1:]
        if does(one, less) and does(other, less):
            return False
    return True


def then(one, other):
    """The base that a log does if a beginning of it does one, and what is behind this does other."""
    behind = copied(other)
    # No word can be a part of another one here, as none is in one and none in other.
    return tuple(in_order([word + end for word in copied(one) for end in behind]))


def times(base, number):
    """So many times the base, joined by then; always for 0."""
    joined = ALWAYS
    for _ in range(number):
        joined = then(joined, base)
    return joined


def is_inside(one, other):
    """Whether each log that does one does other, too."""
    return outside(one, other) is None


def outside(one, other):
    """The least log that does one and not other; None if there is none."""
    for word in one:
        if not does(other, word):
            return tuple(word)
    return None


def least_parting(one, other):
    """The least log that does just one of the two bases; None if the same logs do both."""
    logs = [log for log in (outside(one, other), outside(other, one)) if log is not None]
    return in_order(logs)[0] if logs else None


def missing(base, other):
    """The base of those words of other that do not do base."""
    return tuple([word for word in copied(other) if not does(base, word)])


def common(base):
    """The greatest logs that are parts of each log that does the base, in order; None for never."""
    words = copied(base)
    if not words:
        return None
    shared = [words[0]]
    for word in words[1:]:
        shared = greatest_of([part for log in shared for part in common_parts(log, word)])
    return tuple(shared)


def is_checklist(base):
    """Whether the base is done by just the logs that have each one of some logs as a part."""
    words = copied(base)
    parts = common(words)
    if parts is None:
        return False
    # The least logs that have all parts so far and do not do the base: with one of them left at the end,
    # the parts are not enough. What does the base already does it with more events, too, and is left out.
    without = ALWAYS
    for part in parts:
        longer = [log for less in without for log in least_both(less, part)]
        without = base_of([log for log in longer if not does(words, log)])
    return without == ()


def stages(base):
    """The row of the stages that, joined by then, are the base; None for never."""
    left = copied(base)
    if not left:
        return None
    row = []
    while left != ALWAYS:
        stage, left = _first_stage(left)
        row.append(stage)
    return tuple(row)


def _first_stage(base):
    """The pair of the first stage of a base other than never and always, and of the base of what is behind it."""
    for at in range(1, len(base[0])):
        one, other = _sides(base, at)
        if then(one, other) == base:
            return one, other
    return base, ALWAYS


def _sides(base, at):
    """The only two bases that, joined by then, may be the base and cut its first word at this place."""
    # Of two ends of one word one is a part of the other, so just one of them is a word of the second base:
    # what stands ahead of it is a word of the first one. Likewise with the beginnings.
    begin, end = base[0][:at], base[0][at:]
    one = tuple([word[:len(word) - len(end)] for word in base if word[-len(end):] == end])
    other = tuple([word[at:] for word in base if word[:at] == begin])
    return one, other
