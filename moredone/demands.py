"""Bases that are found event by event: of the logs that meet several demands at once.

A demand is a pair (base, number): a base that is to be done, and a number that makes it the harder the greater it is;
what the number means is said where it is used. Behind an event other demands are left, and they only get easier.
"""

from moredone.bases import ALWAYS, is_inside, names_in
from moredone.standings import standing
from moredone.words import in_order


class Demands:
    """Demands that logs of some names are to meet, and what is left of them behind events.

    Inside, a demand is told by a number, and a row of several ones, an ascending tuple of such numbers, by one, too:
    the row without any by 0.
    """

    def __init__(self, names, behind):
        """behind(demand, name) tells the list of the demands that are left of one behind an event of this name."""
        self.names = names
        self.behind = behind
        self.told = []
        self.numbers = {}
        self.harder = {}
        self.left = {}
        self.rows = [()]
        self.places = {(): 0}
        # For each row the rows behind an event of a name, and the least logs that meet it, so far as they were wanted.
        self.later = [{}]
        self.least = {0: [()]}

    def meeting(self, demands):
        """The base of the logs that meet all of these demands."""
        return tuple(self._least_logs(self._row([self._number(demand) for demand in demands])))

    def hardest(self, demands):
        """The list of those demands that are not met anyway or along with another one of them."""
        row = self._row([self._number(demand) for demand in demands])
        return [self.told[number] for number in self.rows[row]]

    def _number(self, demand):
        """The number that tells this demand."""
        if demand not in self.numbers:
            self.numbers[demand] = len(self.told)
            self.told.append(demand)
        return self.numbers[demand]

    def _row(self, numbers):
        """The number of the row of the hardest ones of these demands."""
        wanted = [number for number in sorted(set(numbers)) if self.told[number][0] != ALWAYS]
        row = tuple([each for each in wanted if not any([self._is_harder(other, each) for other in wanted])])
        if row not in self.places:
            self.places[row] = len(self.rows)
            self.rows.append(row)
            self.later.append({})
        return self.places[row]

    def _is_harder(self, one, other):
        """Whether one is another demand, and other is met by each log that meets it."""
        key = (one, other)
        if key not in self.harder:
            (base, many), (second, most) = self.told[one], self.told[other]
            self.harder[key] = one != other and many >= most and is_inside(base, second)
        return self.harder[key]

    def _left_of(self, number, name):
        """The list of the numbers of the demands that are left of one behind an event."""
        key = (number, name)
        if key not in self.left:
            self.left[key] = [self._number(demand) for demand in self.behind(self.told[number], name)]
        return self.left[key]

    def _after(self, row, name):
        """The row of the hardest demands that are left of those of a row behind an event."""
        later = self.later[row]
        if name not in later:
            later[name] = self._row([left for number in self.rows[row] for left in self._left_of(number, name)])
        return later[name]

    def _is_met(self, row, log):
        """Whether the log meets all demands of the row."""
        at = row
        for event in log:
            # This is asked so often that what is known is looked up here.
            later = self.later[at]
            at = later[event] if event in later else self._after(at, event)
        return at == 0

    def _least_logs(self, row):
        """The list of the least logs that meet all demands of the row, in order."""
        if row not in self.least:
            logs = []
            for name in self.names:
                left = self._after(row, name)
                # An event by which nothing changes is in no least log. Of others only the first event can be too
                # much, as what stands behind it is least.
                if left != row:
                    logs.extend([(name,) + log for log in self._least_logs(left) if not self._is_met(row, log)])
            self.least[row] = in_order(logs)
        return self.least[row]


def behind_event(demand, name):
    """What is left of a demand whose number means nothing."""
    base, number = demand
    return [(standing(base, (name,)), number)]


def done_by_all(bases):
    """The base of the logs that do each of these bases."""
    names = names_in([word for base in bases for word in base])
    return Demands(names, behind_event).meeting([(base, 0) for base in bases])
