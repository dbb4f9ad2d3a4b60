"""What the tests share: logs and bases gone through one by one, and what the document says of them in plain words.

Nothing here uses the package: the functions follow the definitions, by trying all choices.
"""

import itertools

KINDS = (
    True, False, None, 0, 1, -1, 10 ** 30, "", "a", "abc", "A", "-", (), [], ("a",), ["a"], ("a", "b"), ((),), [[]],
    ((), ()), ([],), [()], (("a",),), [("a",)], (["a"],), [["a"]], ((("a",),),), (("a",), "b"), ("a", ("b",)),
    ("a", 1), ("a", None), ("a", True), (1,), (None,), (True,), (("a", 1),), (("a", None),), ((("a",), ("b",)),),
    ((((((((((((),),),),),),),),),),),), ((((((((((("a",),),),),),),),),),),),
)


def logs_of_length(names, length):
    return list(itertools.product(names, repeat=length))


def all_logs(names, most):
    """All logs of at most so many events of these names, those of fewer events first, of as many the lesser first."""
    return [log for length in range(most + 1) for log in logs_of_length(sorted(names), length)]


def key(log):
    return len(log), log


def choices(length, many):
    """All ascending tuples of so many places, the least first."""
    return itertools.combinations(range(length), many)


def parts_of(log):
    """The set of all parts of a log: of what remains when some events are left out."""
    return {tuple(log[at] for at in chosen) for many in range(len(log) + 1) for chosen in choices(len(log), many)}


def has_part(word, log):
    """The same as in parts_of(log), for logs that have too many parts."""
    left = iter(log)
    return all(event in left for event in word)


class Parts:
    """The parts of logs, each kept once it was asked for."""

    def __init__(self):
        self.kept = {}

    def of(self, log):
        if log not in self.kept:
            self.kept[log] = parts_of(log)
        return self.kept[log]

    def is_part(self, word, log):
        return word in self.of(log)

    def done(self, base, log):
        return any(word in self.of(log) for word in base)

    def least(self, logs):
        """Those of the logs that have no other one of them as a part, in order."""
        logs = set(logs)
        return tuple(sorted((log for log in logs if not (self.of(log) - {log}) & logs), key=key))

    def greatest(self, logs):
        """Those of the logs that are a part of no other one of them, in order."""
        logs = set(logs)
        inner = {part for log in logs for part in self.of(log) - {log}}
        return tuple(sorted(logs - inner, key=key))

    def base(self, logs, is_done):
        """The base of what is_done tells of these logs, which are all up to some length, in order."""
        return self.least(log for log in logs if is_done(log))

    def bases(self, names, most):
        """All bases with words of at most so many events of these names, never and always too."""
        logs = all_logs(names, most)
        found = [()]
        for log in logs:
            found += [base + (log,) for base in found if not self.done(base, log)]
        return found


def done_then(one, other, log):
    """Whether a log can be cut in two such that one is true of what is ahead and other of what is behind."""
    return any(one(log[:cut]) and other(log[cut:]) for cut in range(len(log) + 1))


def done_times(rule, number, log):
    if number == 0:
        return True
    return done_then(lambda ahead: done_times(rule, number - 1, ahead), rule, log)


def subsets(rows):
    """All choices of some of the rows, those of fewer first, each in the order of the rows."""
    return [chosen for many in range(len(rows) + 1) for chosen in itertools.combinations(rows, many)]


def at_places(log, places):
    """The log of the events at these places alone."""
    return tuple(event for at, event in enumerate(log) if at in places)


def without_places(log, places):
    return tuple(event for at, event in enumerate(log) if at not in places)


def orders_of(logs):
    """All orders of the logs, the least first."""
    many = [len(log) for log in logs]

    def orders(left):
        if not any(left):
            return [()]
        return [(source,) + order for source in range(len(left)) if left[source]
                for order in orders([count - (at == source) for at, count in enumerate(left)])]

    return orders(many)


def weave(logs, order):
    """The weaving of an order: each number stands for what its source has next."""
    left = [iter(log) for log in logs]
    return tuple(next(left[source]) for source in order)


def place_in(order, source, place):
    """Where the event of this source at this place there stands in an order."""
    return [at for at, each in enumerate(order) if each == source][place]


def keeps(order, known):
    return all(place_in(order, *first) < place_in(order, *second) for first, second in known)


def weavings(one, other):
    """The set of all logs in which the events of both stand, those of each in their own order."""
    return {weave((one, other), order) for order in orders_of((one, other))}


def as_lists(value):
    """The value with lists for all tuples, at any depth."""
    return [as_lists(each) for each in value] if isinstance(value, (list, tuple)) else value


def has_list(value):
    """Whether a list stands anywhere in a value of tuples and lists."""
    if isinstance(value, list):
        return True
    return isinstance(value, tuple) and any(has_list(each) for each in value)


def all_classes(names):
    """All CLASSES of these names."""
    if not names:
        return [()]
    first, others = names[0], tuple(names[1:])
    found = []
    for beside in subsets(others):
        left = tuple(name for name in others if name not in beside)
        mine = ((first, *beside),) if beside else ()
        found += [mine + classes for classes in all_classes(left)]
    return found


def coarse_of(log, classes):
    """The coarse log of a log."""
    return tuple(next((names[0] for names in classes if event in names), event) for event in log)


def finer_of(log, classes):
    """All logs that have this coarse log, the least first."""
    return list(itertools.product(*(next((names for names in classes if event == names[0]), (event,))
                                    for event in log)))


def caught(call):
    """What a call raises: the name of the class and the values that it keeps; None if it raises nothing."""
    try:
        call()
    except ValueError as error:
        return type(error).__name__, *vars(error).values()
    return None
