import unittest

from tests.helper import HIGHEST, LOWEST, THREE_PARTS, ask, begin, dietz, last, period, still, told_around

TRILLION = 1000000000000


class Ordinary(unittest.TestCase):
    def test_one_period(self):
        told = ask(*THREE_PARTS, dietz(0, 1), dietz(1, 2), dietz(2, 3))[5:]
        self.assertEqual(told, [[0, 1, 10], [0, 11, 113], [0, -6, 23]])

    def test_flows_between(self):
        # (124 - 100 - 3) * 5 over 100 * 5 + 3 * 3; (34 - 113 + 78) * 7 over 113 * 7 - 78 * 4.
        told = ask(*THREE_PARTS, dietz(0, 2), dietz(1, 3))[5:]
        self.assertEqual(told, [[0, 105, 509], [0, -7, 479]])

    def test_flows_in_and_out_between(self):
        # (34 - 100 - 3 + 78) * 9 over 100 * 9 + 3 * 7 - 78 * 4, which is 81 over 609.
        self.assertEqual(last(*THREE_PARTS, dietz(0, 3)), [0, 27, 203])

    def test_the_time_until_the_flow_matters(self):
        for time, under in ((1, 39), (3, 37), (9, 31)):
            calls = [begin([3]), period(time, [3], [1], [1]), period(10, [8], [0], [1])]
            self.assertEqual(last(*calls, dietz(0, 2)), [0, 40, under])

    def test_flows_of_the_last_end_are_left_out(self):
        for flow in (-6, 0, 100):
            calls = [begin([3]), period(4, [5], [1], [1]), period(6, [7], [flow], [1])]
            self.assertEqual(ask(*calls, dietz(0, 1), dietz(1, 2), dietz(0, 2))[3:],
                             [[0, 2, 3], [0, 1, 6], [0, 9, 10]])

    def test_flows_of_the_first_end_are_in_its_values(self):
        calls = [begin([3]), period(4, [5], [3], [1]), period(6, [9], [0], [1]), period(7, [9], [0], [1])]
        self.assertEqual(last(*calls, dietz(1, 3)), [0, 1, 8])

    def test_nothing_made(self):
        self.assertEqual(last(*still(3), dietz(0, 3)), [0, 0, 1])
        self.assertEqual(last(begin([5]), period(2, [5], [5], [1]), period(3, [10], [0], [1]), dietz(0, 2)), [0, 0, 1])

    def test_all_lost(self):
        self.assertEqual(last(begin([5]), period(2, [0], [5], [1]), dietz(0, 1)), [0, -1, 1])

    def test_the_greatest(self):
        calls = [begin([1000000000] * 6)]
        for n in range(37, 61):
            calls.append(period(n, [TRILLION] * 6, [TRILLION] * 6, [1] * 6))
        # In billions: the times from the ends 1 to 23 to the last one are 23 down to 1, together 276.
        # (6000 - 6 - 23 * 6000) * 60 over 6 * 60 + 6000 * 276, both divided by 360.
        self.assertEqual(last(*calls, dietz(0, 24)), [0, -22001, 4601])


class TheLowerPart(unittest.TestCase):
    """Of one part that begins with 1, from time 0 to time 2: 2, and the flow at time 1."""

    def fund(self, value, flow, at_last):
        return [begin([1]), period(1, [value], [flow], [1]), period(2, [at_last], [1], [1])]

    def test_of_just_1(self):
        self.assertEqual(last(*self.fund(3, -1, 5), dietz(0, 2)), [0, 10, 1])
        self.assertEqual(last(*self.fund(3, -1, 0), dietz(0, 2)), [0, 0, 1])

    def test_of_0(self):
        self.assertEqual(told_around(self.fund(3, -2, 5), dietz(0, 2), 1, 2), ([-9], True))

    def test_below_0(self):
        self.assertEqual(told_around(self.fund(4, -3, 5), dietz(0, 2), 1, 2), ([-9], True))
        self.assertEqual(told_around(self.fund(TRILLION, 1 - TRILLION, 5), dietz(0, 2), 1, 2), ([-9], True))

    def test_above_1_it_may_stand_over_more(self):
        self.assertEqual(last(*self.fund(3, 0, 5), dietz(0, 2)), [0, 4, 1])
        self.assertEqual(last(*self.fund(3, 1, 5), dietz(0, 2)), [0, 2, 1])

    def test_only_of_the_ends_named(self):
        self.assertEqual(ask(*self.fund(4, -3, 5), dietz(0, 1), dietz(1, 2), dietz(0, 2))[3:],
                         [[0, 3, 1], [0, 4, 1], [-9]])

    def test_the_time_until_the_flow_decides(self):
        # 2 * 10 less 5 times 5, 4 or 3; above it (0 - 2 + 5) * 10.
        for time, answer in ((5, [-9]), (6, [-9]), (7, [0, 6, 1])):
            calls = [begin([2]), period(time, [9], [-5], [1]), period(10, [0], [1], [1])]
            self.assertEqual(last(*calls, dietz(0, 2)), answer)


class Refused(unittest.TestCase):
    def refuse(self, j, k, refusal):
        self.assertEqual(told_around(THREE_PARTS, dietz(j, k), 3, 3), ([refusal], True))

    def test_out_of_range(self):
        for wrong in (-1, 61, LOWEST, HIGHEST):
            self.refuse(wrong, 3, -1)
            self.refuse(0, wrong, -1)

    def test_not_there(self):
        for missing in (4, 24, 25, 60):
            self.refuse(0, missing, -4)
            self.refuse(missing, missing, -4)

    def test_the_wrong_way_round(self):
        self.refuse(1, 0, -6)
        self.refuse(3, 2, -6)

    def test_from_an_end_to_itself(self):
        for k in range(4):
            self.refuse(k, k, -6)
        self.assertEqual(last(dietz(0, 0)), [-6])

    def test_the_order(self):
        self.refuse(61, 4, -1)
        self.refuse(4, -1, -1)
        self.refuse(61, 61, -1)
        self.refuse(3, -1, -1)
        self.refuse(4, 0, -4)
        # From 2 to 0 the lower part would be below 1 too.
        calls = [begin([1]), period(1, [4], [-3], [1]), period(2, [5], [0], [1])]
        self.assertEqual(ask(*calls, dietz(2, 0), dietz(0, 2), dietz(0, 3))[3:], [[-6], [-9], [-4]])

    def test_the_24th_end_is_there_and_the_25th_is_not(self):
        self.assertEqual(ask(*still(24), dietz(0, 24), dietz(0, 25))[24:], [[0, 0, 1], [-4]])


if __name__ == "__main__":
    unittest.main()
