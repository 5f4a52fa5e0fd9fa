import unittest

from tests.helper import THREE_PARTS, ask, begin, fall, last, period, told_around

TRILLION = 1000000000000


def grown(start, values, flows=None):
    """Calls for a fund of one part with these values before flows, at times that are not evenly spaced."""
    calls = [begin([start])]
    for n, one in enumerate(values):
        calls.append(period(1 + n * (n + 3) // 2, [one], [flows[n] if flows else 0], [1000000]))
    return calls


class Ordinary(unittest.TestCase):
    def test_one_period(self):
        self.assertEqual(last(*THREE_PARTS, fall()), [2, 3, 17, 23])

    def test_over_several_periods_with_a_rise_between(self):
        self.assertEqual(last(*grown(100, [50, 75, 30, 90, 60]), fall()), [0, 3, 3, 10])

    def test_after_a_rise(self):
        self.assertEqual(last(*grown(10, [8, 20, 15, 16, 12, 13]), fall()), [2, 5, 3, 5])

    def test_of_two_falls_the_greater(self):
        self.assertEqual(last(*grown(12, [6, 18, 6]), fall()), [2, 3, 1, 3])
        self.assertEqual(last(*grown(12, [4, 12, 6]), fall()), [0, 1, 1, 3])

    def test_flows_are_no_fall_and_hide_none(self):
        # Factors 1, 1/2, 3/2; money goes out, then in.
        self.assertEqual(last(*grown(100, [100, 5, 90], [-90, 55, 0]), fall()), [0, 2, 1, 2])
        self.assertEqual(last(*grown(100, [100, 10], [-90, 0]), fall()), [0, 0, 1, 1])

    def test_flows_of_the_last_end_do_not_matter(self):
        for flow in (-6, 0, 1000):
            self.assertEqual(last(*grown(10, [12, 7], [0, flow]), fall()), [1, 2, 7, 12])

    def test_all_parts_together(self):
        calls = [begin([6, 4]), period(3, [2, 9], [0, -5], [1, 1]), period(8, [3, 2], [0, 0], [1, 1])]
        self.assertEqual(last(*calls, fall()), [1, 2, 5, 6])


class NoFall(unittest.TestCase):
    def test_no_end_but_the_beginning(self):
        self.assertEqual(last(fall()), [0, 0, 1, 1])
        self.assertEqual(last(*THREE_PARTS, begin([2, 3]), fall()), [0, 0, 1, 1])

    def test_only_rises(self):
        self.assertEqual(last(*grown(10, [11, 12, 30]), fall()), [0, 0, 1, 1])

    def test_nothing_happens(self):
        self.assertEqual(last(*grown(10, [10, 10]), fall()), [0, 0, 1, 1])

    def test_the_least_fall_there_is(self):
        self.assertEqual(last(*grown(1000000000, [999999999]), fall()), [0, 1, 999999999, 1000000000])
        self.assertEqual(last(*grown(1, [TRILLION, TRILLION - 1]), fall()), [1, 2, TRILLION - 1, TRILLION])


class TheSame(unittest.TestCase):
    def test_the_lesser_j(self):
        self.assertEqual(last(*grown(10, [5, 15, 8, 8, 20, 10]), fall()), [0, 1, 1, 2])
        self.assertEqual(last(*grown(10, [5, 20, 10]), fall()), [0, 1, 1, 2])

    def test_the_lesser_j_before_the_lesser_k(self):
        self.assertEqual(last(*grown(10, [10, 5]), fall()), [0, 2, 1, 2])
        self.assertEqual(last(*grown(10, [12, 12, 6]), fall()), [1, 3, 1, 2])

    def test_the_lesser_k(self):
        self.assertEqual(last(*grown(10, [5, 5]), fall()), [0, 1, 1, 2])
        self.assertEqual(last(*grown(10, [5, 6, 5]), fall()), [0, 1, 1, 2])
        self.assertEqual(last(*grown(10, [10, 5, 5]), fall()), [0, 2, 1, 2])

    def test_the_same_in_other_terms(self):
        self.assertEqual(last(*grown(10, [4, 25, 10]), fall()), [0, 1, 2, 5])
        self.assertEqual(last(*grown(25, [10, 100, 40]), fall()), [0, 1, 2, 5])


class AllLost(unittest.TestCase):
    def test_at_once(self):
        self.assertEqual(last(*grown(10, [0], [1]), fall()), [0, 1, 0, 1])

    def test_after_a_rise_and_a_fall(self):
        self.assertEqual(last(*grown(10, [20, 5, 0], [0, 0, 7]), fall()), [0, 3, 0, 1])

    def test_ends_behind_it(self):
        self.assertEqual(last(*grown(10, [20, 0, 20, 5], [0, 10, 0, 0]), fall()), [0, 2, 0, 1])
        self.assertEqual(last(*grown(10, [20, 0, 0, 0], [0, 10, 10, 1]), fall()), [0, 2, 0, 1])


class Many(unittest.TestCase):
    def test_24_ends_with_the_greatest_values(self):
        calls = [begin([1000000000] * 6)]
        for n in range(1, 25):
            row = [TRILLION if n % 2 else TRILLION - n] * 6
            calls.append(period(36 + n, row, [0] * 6, [1] * 6))
        self.assertEqual(last(*calls, fall()), [1, 24, (TRILLION - 24) // 8, TRILLION // 8])

    def test_exact_over_24_periods(self):
        calls = [period(36 + n, [TRILLION - n], [n], [1]) for n in range(1, 25)]
        over = 1
        for n in range(2, 25):
            over *= TRILLION - n
        told = last(*calls, fall())
        self.assertEqual(told[:2], [1, 24])
        self.assertEqual(told[2] * TRILLION ** 23, over * told[3])

    def test_changes_nothing(self):
        self.assertEqual(told_around(THREE_PARTS, fall(), 3, 3), ([2, 3, 17, 23], True))
        self.assertEqual(ask(*THREE_PARTS, fall(), fall())[5:], [[2, 3, 17, 23]] * 2)


if __name__ == "__main__":
    unittest.main()
