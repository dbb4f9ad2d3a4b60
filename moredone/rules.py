"""Rules: objects that are put together with signs, and that have a base."""

from moredone.bases import ALWAYS, both, either, is_inside, least_parting, then, times
from moredone.errors import NoName
from moredone.words import copied, is_name

SEEN = "seen"
NOTHING = "1"
NEVER = "0"
THEN = ">>"
EITHER = "|"
BOTH = "&"
TIMES = "*"

# How strongly a rule that was built so holds together when it is written.
STRENGTHS = {"|": 1, "&": 2, ">>": 3, "*": 4, "seen": 5, "1": 5, "0": 5}


class Rule:
    """A rule, kept as it was built: by a sign, and what stands on both sides of it."""

    def __init__(self, sign, one, other):
        self.sign = sign
        self.one = one
        self.other = other

    def __rshift__(self, other):
        return Rule(THEN, self, _as_rule(other))

    def __rrshift__(self, other):
        return Rule(THEN, _as_rule(other), self)

    def __or__(self, other):
        return Rule(EITHER, self, _as_rule(other))

    def __ror__(self, other):
        return Rule(EITHER, _as_rule(other), self)

    def __and__(self, other):
        return Rule(BOTH, self, _as_rule(other))

    def __rand__(self, other):
        return Rule(BOTH, _as_rule(other), self)

    def __mul__(self, other):
        return Rule(TIMES, self, _as_number(other))

    def __rmul__(self, other):
        return Rule(TIMES, self, _as_number(other))

    def __contains__(self, x):
        """Whether the log x does the rule."""
        return _end(self, x, 0) is not None

    @property
    def text(self):
        """How the rule is written as it was built."""
        return _written(self)


def _as_rule(value):
    """The rule for what stands on a side of a sign."""
    if isinstance(value, Rule):
        return value
    if isinstance(value, str):
        return seen(value)
    raise TypeError("rules are joined with rules and strings")


def _as_number(value):
    """The number beside a rule."""
    if isinstance(value, int):
        return value
    raise TypeError("a rule is multiplied by a number")


def seen(name):
    """The rule that each log does in which this event stands."""
    if not is_name(name):
        raise NoName(name)
    return Rule(SEEN, name, None)


def nothing():
    """The rule that each log does."""
    return Rule(NOTHING, None, None)


def never():
    """The rule that no log does."""
    return Rule(NEVER, None, None)


def _end(rule, log, start):
    """Where the shortest piece of log from start on that does the rule ends; None if none does it."""
    # More events never undo a rule: so what comes behind is best off if each piece ends as early as it can.
    if start is None or rule.sign == NEVER:
        return None
    if rule.sign == NOTHING:
        return start
    if rule.sign == SEEN:
        return _end_of_event(rule.one, log, start)
    if rule.sign == TIMES:
        return _end_of_times(rule.one, rule.other, log, start)
    first = _end(rule.one, log, start)
    if rule.sign == THEN:
        return _end(rule.other, log, first)
    return _end_of_two(rule.sign, first, _end(rule.other, log, start))


def _end_of_event(name, log, start):
    """The place behind the first event of this name from start on; None if there is none."""
    for at in range(start, len(log)):
        if log[at] == name:
            return at + 1
    return None


def _end_of_times(rule, number, log, start):
    """Where so many pieces that do the rule, one behind the other, end; None if there are not so many."""
    end = start
    for _ in range(number):
        end = _end(rule, log, end)
    return end


def _end_of_two(sign, first, second):
    """Where a piece ends that does one of two rules, or both, from where the pieces of the two end."""
    if sign == BOTH:
        return None if first is None or second is None else max(first, second)
    if first is None or second is None:
        return second if first is None else first
    return min(first, second)


def _written(rule):
    """The text of a rule."""
    if rule.sign == SEEN:
        return rule.one
    if rule.sign == NOTHING or rule.sign == NEVER:
        return rule.sign
    strength = STRENGTHS[rule.sign]
    left = _written_side(rule.one, strength)
    if rule.sign == TIMES:
        return f"{left} * {rule.other}"
    # Of several like signs the first one is put together first: on the right side they need brackets.
    right = _written_side(rule.other, strength + 1)
    return f"{left} {rule.sign} {right}"


def _written_side(rule, strength):
    """The text of a side of a sign, in brackets if it holds together less than that."""
    text = _written(rule)
    return f"({text})" if STRENGTHS[rule.sign] < strength else text


def base(rule):
    """The base of the logs that do the rule."""
    if rule.sign == SEEN:
        return ((rule.one,),)
    if rule.sign == NOTHING:
        return ALWAYS
    if rule.sign == NEVER:
        return ()
    if rule.sign == TIMES:
        return times(base(rule.one), rule.other)
    if rule.sign == THEN:
        return then(base(rule.one), base(rule.other))
    if rule.sign == EITHER:
        return either(base(rule.one), base(rule.other))
    return both(base(rule.one), base(rule.other))


def rule_of(words):
    """The rule with this base that is built of its words, in order."""
    logs = copied(words)
    if not logs:
        return never()
    rule = _rule_of_log(logs[0])
    for log in logs[1:]:
        rule = rule | _rule_of_log(log)
    return rule


def _rule_of_log(log):
    """The rule that the logs do that have this log as a part."""
    if not log:
        return nothing()
    rule = seen(log[0])
    for event in log[1:]:
        rule = rule >> event
    return rule


def alike(rule, other):
    """Whether the same logs do both."""
    return base(rule) == base(other)


def goes_with(rule, other):
    """Whether each log that does other does rule, too."""
    return is_inside(base(other), base(rule))


def parting(rule, other):
    """The least log that does one of both and not the other; None if they are alike."""
    return least_parting(base(rule), base(other))


def turned(rule):
    """The rule that a log does if it does the given one when it is read from its end to its beginning."""
    if rule.sign == TIMES:
        return Rule(TIMES, turned(rule.one), rule.other)
    if rule.sign == THEN:
        return Rule(THEN, turned(rule.other), turned(rule.one))
    if rule.sign == EITHER or rule.sign == BOTH:
        return Rule(rule.sign, turned(rule.one), turned(rule.other))
    return rule
