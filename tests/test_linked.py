import unittest

from tests.helper import HIGHEST, LOWEST, THREE_PARTS, ask, begin, last, linked, period, scaled, still

# All of the first period is lost; the money behind it came in anew.
LOST = [
    begin([4, 6]),
    period(1, [0, 0], [3, 0], [0, 0]),
    period(2, [4, 0], [0, 0], [0, 0]),
]


class Linked(unittest.TestCase):
    def test_one_period(self):
        told = ask(*THREE_PARTS, linked(0, 1), linked(1, 2), linked(2, 3))[5:]
        self.assertEqual(told, [[11, 10], [124, 113], [17, 23]])

    def test_more_periods(self):
        told = ask(*THREE_PARTS, linked(0, 2), linked(1, 3), linked(0, 3))[5:]
        self.assertEqual(told, [[682, 565], [2108, 2599], [11594, 12995]])

    def test_from_an_end_to_itself(self):
        self.assertEqual(ask(*THREE_PARTS, *[linked(k, k) for k in range(4)])[5:], [[1, 1]] * 4)
        self.assertEqual(last(linked(0, 0)), [1, 1])

    def test_told_in_least_terms_though_no_period_can_be_reduced_alone(self):
        # 3/2 times 4/3, and each is in least terms already.
        told = last(begin([1, 1]), period(1, [2, 1], [0, 0], [0, 0]), period(2, [2, 2], [0, 0], [0, 0]), linked(0, 2))
        self.assertEqual(told, [2, 1])

    def test_a_factor_of_0(self):
        told = ask(*LOST, linked(0, 1), linked(0, 2), linked(1, 2), linked(2, 2))[3:]
        self.assertEqual(told, [[0, 1], [0, 1], [4, 3], [1, 1]])

    def test_exact_where_the_numbers_are_long(self):
        trillion = 1000000000000
        calls = [begin([1])]
        for n in range(1, 25):
            calls.append(period(n, [trillion - 1], [1 - trillion + 1], [0]))
        self.assertEqual(last(*calls, linked(0, 24)), [(trillion - 1) ** 24, 1])


class Scaled(unittest.TestCase):
    def test_one_period(self):
        told = ask(*THREE_PARTS, scaled(0, 1), scaled(1, 2), scaled(2, 3))[5:]
        self.assertEqual(told, [[1100000000], [1097345132], [739130434]])

    def test_more_periods_are_rounded_once(self):
        told = ask(*THREE_PARTS, scaled(0, 2), scaled(1, 3), scaled(0, 3))[5:]
        self.assertEqual(told, [[1207079646], [811081185], [892189303]])

    def test_from_an_end_to_itself(self):
        self.assertEqual(ask(*THREE_PARTS, *[scaled(k, k) for k in range(4)])[5:], [[1000000000]] * 4)
        self.assertEqual(last(scaled(0, 0)), [1000000000])

    def test_rounded_down_just_below_a_billionth(self):
        told = ask(begin([1000000000, 1000000000]), period(1, [1, 0], [0, 0], [0, 0]), scaled(0, 1))
        self.assertEqual(told[2], [0])
        told = ask(begin([500000000, 500000000]), period(1, [1, 0], [0, 0], [0, 0]), scaled(0, 1))
        self.assertEqual(told[2], [1])

    def test_a_factor_of_0(self):
        self.assertEqual(ask(*LOST, scaled(0, 1), scaled(0, 2), scaled(1, 2))[3:], [[0], [0], [1333333333]])


class Refused(unittest.TestCase):
    def each(self, j, k):
        return [last(*THREE_PARTS, call(j, k)) for call in (linked, scaled)]

    def test_out_of_range(self):
        for wrong in (-1, 61, LOWEST, HIGHEST):
            self.assertEqual(self.each(wrong, 3), [[-1]] * 2)
            self.assertEqual(self.each(0, wrong), [[-1]] * 2)

    def test_not_there(self):
        for missing in (4, 24, 25, 60):
            self.assertEqual(self.each(0, missing), [[-4]] * 2)
            self.assertEqual(self.each(missing, missing), [[-4]] * 2)

    def test_the_wrong_way_round(self):
        self.assertEqual(self.each(1, 0), [[-6]] * 2)
        self.assertEqual(self.each(3, 2), [[-6]] * 2)

    def test_out_of_range_comes_first(self):
        self.assertEqual(self.each(61, 4), [[-1]] * 2)
        self.assertEqual(self.each(4, 61), [[-1]] * 2)
        self.assertEqual(self.each(60, -1), [[-1]] * 2)
        self.assertEqual(self.each(3, -1), [[-1]] * 2)
        self.assertEqual(self.each(61, 0), [[-1]] * 2)

    def test_not_there_comes_before_the_wrong_way_round(self):
        self.assertEqual(self.each(4, 0), [[-4]] * 2)
        self.assertEqual(self.each(60, 4), [[-4]] * 2)

    def test_the_24th_end_is_there_and_the_25th_is_not(self):
        for call in (linked, scaled):
            told = ask(*still(24), call(0, 24), call(24, 24), call(0, 25), call(25, 24))[24:]
            self.assertEqual([answer[0] > 0 for answer in told], [True, True, False, False])
            self.assertEqual(told[2:], [[-4], [-4]])

    def test_changes_nothing(self):
        told = ask(*THREE_PARTS, linked(0, 3), linked(1, 0), scaled(4, 0), linked(-1, 0), linked(0, 3))[5:]
        self.assertEqual(told, [[11594, 12995], [-6], [-4], [-1], [11594, 12995]])


if __name__ == "__main__":
    unittest.main()
