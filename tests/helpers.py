"""What the tests share: logs and bases gone through one by one, and what the document says of them in plain words.

Nothing here uses the package: the functions follow the definitions, by trying all choices.
"""

import itertools

KINDS = (
    True, False, None, 0, 1, -1, 10 ** 30, "", "a", "abc", "A", "-", (), [], ("a",), ["a"], ("a", "b"), ((),), [[]],
    ((), ()), ([],), [()], (("a",),), [("a",)], (["a"],), [["a"]], ((("a",),),), (("a",), "b"), ("a", ("b",)),
    ("a", 1), ("a", None), ("a", True), (1,), (None,), (True,), (("a", 1),), (("a", None),), ((("a",), ("b",)),),
    ((((((((((((),),),),),),),),),),),), ((((((((((("a",),),),),),),),),),),),
)


def logs_of_length(names, length):
    return list(itertools.product(names, repeat=length))


def all_logs(names, most):
    """All logs of at most so many events of these names, those of fewer events first, of as many the lesser first."""
    return [log for length in range(most + 1) for log in logs_of_length(sorted(names), length)]


def key(log):
    return len(log), log


def choices(length, many):
    """All ascending tuples of so many places, the least first."""
    return itertools.combinations(range(length), many)


def parts_of(log):
    """The set of all parts of a log: of what remains when some events are left out."""
    return {tuple(log[at] for at in chosen) for many in range(len(log) + 1) for chosen in choices(len(log), many)}


class Parts:
    """The parts of logs, each kept once it was asked for."""

    def __init__(self):
        self.kept = {}

    def of(self, log):
        if log not in self.kept:
            self.kept[log] = parts_of(log)
        return self.kept[log]

    def is_part(self, word, log):
        return word in self.of(log)

    def done(self, base, log):
        return any(word in self.of(log) for word in base)

    def least(self, logs):
        """Those of the logs that have no other one of them as a part, in order."""
        logs = set(logs)
        return tuple(sorted((log for log in logs if not (self.of(log) - {log}) & logs), key=key))

    def greatest(self, logs):
        """Those of the logs that are a part of no other one of them, in order."""
        logs = set(logs)
        inner = {part for log in logs for part in self.of(log) - {log}}
        return tuple(sorted(logs - inner, key=key))

    def base(self, logs, is_done):
        """The base of what is_done tells of these logs, which are all up to some length, in order."""
        return self.least(log for log in logs if is_done(log))

    def bases(self, names, most):
        """All bases with words of at most so many events of these names, never and always too."""
        logs = all_logs(names, most)
        found = [()]
        for log in logs:
            found += [base + (log,) for base in found if not self.done(base, log)]
        return found


def done_then(one, other, log):
    """Whether a log can be cut in two such that one is true of what is ahead and other of what is behind."""
    return any(one(log[:cut]) and other(log[cut:]) for cut in range(len(log) + 1))


def done_times(rule, number, log):
    if number == 0:
        return True
    return done_then(lambda ahead: done_times(rule, number - 1, ahead), rule, log)


def as_lists(value):
    """The value with lists for all tuples, at any depth."""
    return [as_lists(each) for each in value] if isinstance(value, (list, tuple)) else value


def has_list(value):
    """Whether a list stands anywhere in a value of tuples and lists."""
    if isinstance(value, list):
        return True
    return isinstance(value, tuple) and any(has_list(each) for each in value)
