import itertools
import unittest

from moredone.bases import both, is_inside
from moredone.demands import done_by_all, hardest
from tests.helpers import Parts

PARTS = Parts()
NEVER, ALWAYS = (), ((),)
SMALL = PARTS.bases("ab", 2)
MIDDLE = PARTS.bases("ab", 3)


class DoneByAll(unittest.TestCase):
    def test_of_two_it_is_both(self):
        for one, other in list(itertools.product(SMALL, repeat=2)) + list(zip(MIDDLE[::3], MIDDLE[5::4])):
            self.assertEqual(done_by_all([one, other]), both(one, other))

    def test_of_three(self):
        for one, other, third in itertools.product(SMALL[::2], MIDDLE[::40], SMALL[1::3]):
            self.assertEqual(done_by_all([one, other, third]), both(both(one, other), third))

    def test_edges(self):
        self.assertEqual(done_by_all([]), ALWAYS)
        for base in MIDDLE:
            self.assertEqual([done_by_all([base]), done_by_all([base, ALWAYS, base]), done_by_all([base, NEVER])],
                             [base, base, NEVER])


class Hardest(unittest.TestCase):
    def test_each_demand_goes_with_one_that_is_kept_and_none_of_these_with_another(self):
        demands = [(base, number) for base in SMALL[::2] for number in range(3)]
        for chosen in itertools.combinations(demands, 3):
            kept = hardest(chosen)
            self.assertEqual(kept, tuple(sorted(set(kept))))
            self.assertLessEqual(set(kept), set(chosen))
            for base, number in chosen:
                above = [each for each in kept if each[1] >= number and is_inside(each[0], base)]
                self.assertTrue(above or base == ALWAYS)
                self.assertIs((base, number) in kept, above == [(base, number)])

    def test_what_each_log_does_is_no_demand(self):
        self.assertEqual([hardest([]), hardest([(ALWAYS, 0), (ALWAYS, 5)])], [(), ()])


if __name__ == "__main__":
    unittest.main()
