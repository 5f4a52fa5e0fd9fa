import unittest

from tests.helper import HIGHEST, LOWEST, THREE_PARTS, ask, begin, bench, last, linked, part, period, value


class Ordinary(unittest.TestCase):
    def test_answers_the_values_together(self):
        self.assertEqual(last(begin([50, 30, 20])), [100])

    def test_the_values_are_those_of_the_beginning(self):
        self.assertEqual(ask(begin([50, 30, 20]), value(0)), [[100], [0, 100, 100]])

    def test_the_first_part_has_all_the_weight(self):
        told = last(begin([5, 5]), period(1, [5, 5], [0, 0], [1500000, 3000000]), bench(0, 1))
        self.assertEqual(told, [3, 2])

    def test_one_part_and_six_parts(self):
        for row in ([7], [1, 2, 3, 4, 5, 6]):
            told = ask(begin(row), part(0, 0, len(row)), part(0, 0, len(row) + 1))
            self.assertEqual(told, [[sum(row)], [0, 0, 1], [-1]])

    def test_a_part_may_have_nothing(self):
        self.assertEqual(ask(begin([0, 3, 0]), value(0)), [[3], [0, 3, 3]])


class Anew(unittest.TestCase):
    def test_all_ends_are_gone(self):
        told = ask(*THREE_PARTS, begin([4, 6]), value(0), value(1), linked(0, 1), part(0, 0, 2), part(0, 0, 3))[5:]
        self.assertEqual(told, [[10], [0, 10, 10], [-4], [-4], [0, 0, 1], [-1]])

    def test_weights_are_new_too(self):
        told = last(*THREE_PARTS, begin([4, 6, 1]), period(1, [4, 6, 1], [0] * 3, [7, 8, 9]), bench(0, 1))
        self.assertEqual(told, [7, 1000000])

    def test_times_and_numbers_of_ends_start_over(self):
        told = ask(*THREE_PARTS, begin([4]), period(1, [8], [0], [1000000]), value(1), linked(0, 1))[6:]
        self.assertEqual(told, [[1], [1, 8, 8], [2, 1]])

    def test_with_fewer_and_with_more_parts(self):
        self.assertEqual(last(begin([1] * 6), begin([1]), part(0, 0, 2)), [-1])
        self.assertEqual(last(begin([1]), begin([1] * 6), part(0, 0, 6)), [0, 0, 1])


class Refused(unittest.TestCase):
    def refuse(self, row):
        self.assertEqual(ask(begin([3, 4]), begin(row), value(0), part(0, 0, 2), part(0, 0, 3)),
                         [[7], [-2], [0, 7, 7], [0, 0, 1], [-1]])

    def test_a_row_of_none(self):
        self.refuse([])

    def test_a_row_of_seven_and_more(self):
        self.refuse([1] * 7)
        self.refuse([1] * 20)

    def test_together_nothing(self):
        self.refuse([0])
        self.refuse([0] * 6)
        self.assertEqual(last(begin([0, 0, 0, 0, 0, 1])), [1])
        self.assertEqual(last(begin([1])), [1])

    def test_a_number_below_the_range(self):
        self.refuse([-1])
        self.refuse([5, -1])
        self.refuse([LOWEST, 5])

    def test_a_number_above_the_range(self):
        self.assertEqual(last(begin([1000000000])), [1000000000])
        self.assertEqual(last(begin([1000000000] * 6)), [6000000000])
        self.refuse([1000000001])
        self.refuse([1, 1000000001])
        self.refuse([HIGHEST, 1])

    def test_leaves_ends_and_weights(self):
        told = ask(*THREE_PARTS, begin([]), value(3), bench(0, 1))[5:]
        self.assertEqual(told, [[-2], [9, 34, 27], [103, 100]])


if __name__ == "__main__":
    unittest.main()
