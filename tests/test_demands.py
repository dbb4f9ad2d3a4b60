import itertools
import unittest

from moredone.bases import both, is_inside
from moredone.demands import Demands, behind_event, done_by_all
from tests.helpers import Parts, all_logs

PARTS = Parts()
NEVER, ALWAYS = (), ((),)
SMALL = PARTS.bases("ab", 2)
MIDDLE = PARTS.bases("ab", 3)


class DoneByAll(unittest.TestCase):
    def test_of_two_it_is_both(self):
        for one, other in list(itertools.product(SMALL, repeat=2)) + list(zip(MIDDLE[::3], MIDDLE[5::4])):
            self.assertEqual(done_by_all([one, other]), both(one, other))

    def test_of_three(self):
        for one, other, third in itertools.product(SMALL[::2], MIDDLE[::40], SMALL[1::3]):
            self.assertEqual(done_by_all([one, other, third]), both(both(one, other), third))

    def test_edges(self):
        self.assertEqual(done_by_all([]), ALWAYS)
        for base in MIDDLE:
            self.assertEqual([done_by_all([base]), done_by_all([base, ALWAYS, base]), done_by_all([base, NEVER])],
                             [base, base, NEVER])


class Hardest(unittest.TestCase):
    def test_each_demand_goes_with_one_that_is_kept_and_none_of_these_with_another(self):
        demands = [(base, number) for base in SMALL[::2] for number in range(3)]
        kept_by = Demands(("a", "b"), behind_event)
        for chosen in itertools.combinations(demands, 3):
            kept = kept_by.hardest(chosen)
            self.assertEqual(len(kept), len(set(kept)))
            self.assertLessEqual(set(kept), set(chosen))
            for base, number in chosen:
                above = [each for each in kept if each[1] >= number and is_inside(each[0], base)]
                self.assertTrue(above or base == ALWAYS)
                self.assertIs((base, number) in kept, above == [(base, number)])

    def test_the_same_ones_are_told_in_the_same_row(self):
        kept_by = Demands(("a", "b"), behind_event)
        for chosen in itertools.combinations([(base, 0) for base in SMALL[::3]], 3):
            rows = [kept_by.hardest(each) for each in itertools.permutations(chosen)]
            self.assertEqual(rows, [rows[0]] * 6)

    def test_what_each_log_does_is_no_demand(self):
        kept_by = Demands((), behind_event)
        self.assertEqual([kept_by.hardest([]), kept_by.hardest([(ALWAYS, 0), (ALWAYS, 5)])], [[], []])


class Meeting(unittest.TestCase):
    @staticmethod
    def either_behind(demand, name):
        """What is left of a demand if any event may be lost, but an a."""
        base, number = demand
        left = behind_event(demand, name)
        return left if name == "a" else left + [(base, number)]

    def test_against_all_logs(self):
        # Whatever is lost but what is an a: so just the words of a alone count.
        for base in SMALL + MIDDLE[::12]:
            found = Demands(("a", "b"), self.either_behind).meeting([(base, 0)])
            self.assertEqual(found, tuple(word for word in base if "b" not in word))

    def test_of_several_demands_one_behind_another(self):
        found_by = Demands(("a", "b"), behind_event)
        for one, other in itertools.product(SMALL[::2], SMALL[::3]):
            found = found_by.meeting([(one, 0), (other, 3)])
            for log in all_logs("ab", 4):
                self.assertIs(PARTS.done(found, log), PARTS.done(one, log) and PARTS.done(other, log))


if __name__ == "__main__":
    unittest.main()
