import unittest

from tests.helper import HIGHEST, LOWEST, THREE_PARTS, ask, begin, bench, last, linked, period, weights


class Ordinary(unittest.TestCase):
    def test_answers_nothing_but_0(self):
        self.assertEqual(last(begin([1, 1, 1]), weights([200000, 300000, 500000])), [0])

    def test_hold_for_later_periods(self):
        told = last(begin([1, 1]), weights([250000, 750000]), period(1, [1, 1], [0, 0], [2000000, 4000000]), bench(0, 1))
        self.assertEqual(told, [7, 2])

    def test_hold_for_periods_told_earlier(self):
        told = ask(*THREE_PARTS, bench(0, 3), weights([0, 0, 1000000]), bench(0, 1), bench(0, 3))[5:]
        self.assertEqual(told, [[56753, 40000], [0], [9, 10], [27, 40]])

    def test_the_last_told_hold(self):
        told = last(*THREE_PARTS, weights([1000000, 0, 0]), weights([0, 1000000, 0]), bench(1, 2))
        self.assertEqual(told, [1, 2])

    def test_the_fund_itself_stays(self):
        self.assertEqual(last(*THREE_PARTS, weights([1000000, 0, 0]), linked(0, 3)), [11594, 12995])

    def test_on_the_new_object(self):
        self.assertEqual(ask(weights([1000000]), weights([999999])), [[0], [-2]])

    def test_of_six_parts(self):
        self.assertEqual(last(begin([1] * 6), weights([1, 2, 3, 4, 5, 999985])), [0])


class Refused(unittest.TestCase):
    def refuse(self, row):
        told = ask(*THREE_PARTS, weights(row), bench(0, 1), bench(1, 2))[5:]
        self.assertEqual(told, [[-2], [103, 100], [19, 20]])

    def test_a_row_of_another_length(self):
        self.refuse([])
        self.refuse([1000000])
        self.refuse([500000, 500000])
        self.refuse([500000, 500000, 0, 0])
        self.refuse([1000000] + [0] * 6)

    def test_together_more_or_less(self):
        self.refuse([500000, 300000, 199999])
        self.refuse([500000, 300000, 200001])
        self.refuse([0, 0, 0])

    def test_a_number_out_of_range(self):
        self.refuse([-1, 500001, 500000])
        self.refuse([500000, 500001, -1])
        self.refuse([1000001, -1, 0])
        self.refuse([LOWEST, HIGHEST, 1000001])
        self.refuse([1000001, 0, 0])

    def test_the_range_itself(self):
        self.assertEqual(last(*THREE_PARTS, weights([0, 1000000, 0])), [0])


if __name__ == "__main__":
    unittest.main()
