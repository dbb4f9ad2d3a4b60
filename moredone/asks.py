"""Asking: what the answers whether logs do a hidden base tell of it."""

from moredone.bases import ALWAYS, base_of, does
from moredone.errors import Gainsaid, NoName, NothingDone
from moredone.standings import least_logs, standing
from moredone.words import copied, greatest_of, is_part, rest


def _all_logs(names, most):
    """The list of all logs of at most so many events of these names, in order."""
    logs = longest = [()]
    for _ in range(most):
        longest = [log + (name,) for log in longest for name in names]
        logs = logs + longest
    return logs


def _open_logs(names, most, told):
    """The list of the logs that may be words of a base that fits what was told, in order."""
    undone = [log for log, done in told.items() if not done]
    return [word for word in _all_logs(names, most) if not any([is_part(word, log) for log in undone])]


def _choices(logs, told):
    """For each ask that was done the list of those of the logs one of which has to be a word, the last ones first."""
    return [[word for word in logs[::-1] if is_part(word, log)] for log, done in told.items() if done]


def _forced(logs, choices):
    """The tuple of the least ones of the logs for which there is a choice without any other one."""
    return tuple([word for word in base_of(logs) if [word] in choices])


def _only_one(names, most, told):
    """The base that fits what was told, if just one does; otherwise None."""
    logs = _open_logs(names, most, told)
    forced = _forced(logs, _choices(logs, told))
    return forced if forced == base_of(logs) else None


def _is_sure(choices, log):
    """Whether the log does each base that has a word of each choice."""
    return any([_are_parts(words, log) for words in choices])


def _are_parts(words, log):
    """Whether all words are parts of the log."""
    for word in words:
        if not is_part(word, log):
            return False
    return True


class Finder:
    """What is known of a hidden base: its names, how many events its words have at most, and the asks that came."""

    def __init__(self, names, most):
        self.names = tuple(names)
        self.most = most
        # Of each log that was asked for whether it is done, in the order in which the answers came.
        self.told = {}

    def answered(self, log, done):
        """This answer came; raises NoName for an event of another name, and Gainsaid if no base fits any more."""
        ask = self._checked(log)
        told = {known: answer for known, answer in self.told.items()}
        told[ask] = done
        if self.told.get(ask, done) != done or not all(_choices(self._logs(told), told)):
            raise Gainsaid(ask)
        self.told[ask] = done

    def _checked(self, log):
        """The log as a tuple; raises NoName for its first event that is none of the names."""
        for event in log:
            if event not in self.names:
                raise NoName(event)
        return tuple(log)

    def _logs(self, told):
        """The list of the logs that may be words if this was told, in order."""
        return _open_logs(self.names, self.most, told)

    def greatest(self):
        """The base that fits and that all others that fit are inside of."""
        return base_of(self._logs(self.told))

    def forced(self):
        """The tuple of those words of the greatest base that do each one that fits."""
        logs = self._logs(self.told)
        return _forced(logs, _choices(logs, self.told))

    def found(self):
        """The base if just one fits; otherwise None."""
        return _only_one(self.names, self.most, self.told)

    def another(self):
        """A base that fits besides the greatest one; None if there is none."""
        forced = self.forced()
        for word in self.greatest():
            if word not in forced:
                return base_of([log for log in self._logs(self.told) if log != word])
        return None

    def sure(self, log):
        """True if the log does all bases that fit, False if none; otherwise None."""
        ask = self._checked(log)
        logs = self._logs(self.told)
        if not does(logs, ask):
            return False
        return True if _is_sure(_choices(logs, self.told), ask) else None

    def next_ask(self):
        """The least log for which it is not sure; None if there is none."""
        logs = self._logs(self.told)
        choices = _choices(logs, self.told)
        # Of the other logs of so few events it is sure that they are not done. And if it is of all these that they
        # are, just one base fits: so it is sure of all longer ones, too.
        for log in logs:
            if not _is_sure(choices, log):
                return log
        return None

    def asks(self):
        """The list of the pairs of a log and whether it is done, in the order in which they came."""
        return list(self.told.items())

    def back(self):
        """Forgets the last ask; raises NothingDone if there is none."""
        if not self.told:
            raise NothingDone()
        del self.told[list(self.told)[-1]]

    def __len__(self):
        """How many asks there are."""
        return len(self.told)

    def __eq__(self, other):
        """Whether other is a finder of the same names and events with the same asks, in whatever order they came."""
        return (isinstance(other, Finder) and self.names == other.names and self.most == other.most
                and self.told == other.told)


def shows(names, most, base, logs):
    """Whether base is the only one that fits if it gives the answers to these asks."""
    return _only_one(names, most, {tuple(log): does(base, log) for log in logs}) == copied(base)


def paper(names, most, base):
    """As few asks as can be for which base is the only one that fits, as a tuple."""
    words = copied(base)
    # Each word is forced by an ask of its own. All other logs that do not do the base have to be ruled out.
    wanted = greatest_of([log for log in _all_logs(names, most) if not does(words, log)])
    return words + fewest_covering(len(wanted), _undone_asks(names, words, wanted))


def _undone_asks(names, base, wanted):
    """For each tuple of places of wanted logs that are parts of a log that does not do base: the least such log."""

    def after(state, name):
        """What is left of the wanted logs, and the standing, behind an event by which the base is not done."""
        logs, left = state
        later = standing(left, (name,))
        return None if later == ALWAYS else (tuple([rest(part, (name,)) for part in logs]), later)

    asks = {}
    for (rests, _), log in least_logs((tuple(wanted), base), names, after).items():
        asks.setdefault(tuple([at for at, word in enumerate(rests) if not word]), log)
    return asks


def fewest_covering(many, rows):
    """As few values of the dict rows as can be among whose keys each place from 0 on, so many, stands: a tuple.

    The keys are ascending tuples of places; each place stands in one of them.
    """
    whole = tuple(range(many))
    # Ascending tuples are parts of each other if all that stands in one stands in the other.
    best = greatest_of(list(rows))
    reached = {(): ()}
    while whole not in reached:
        longer = {}
        for have, chosen in reached.items():
            # One of them has to be for this place, and in which order they are taken means nothing.
            lacking = [at for at in whole if at not in have][0]
            for places in best:
                if lacking in places:
                    longer.setdefault(tuple(sorted(set(have + places))), chosen + (rows[places],))
        reached = longer
    return reached[whole]
