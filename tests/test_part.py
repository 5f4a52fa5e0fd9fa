import unittest

from tests.helper import HIGHEST, LOWEST, THREE_PARTS, ask, begin, last, part, period, still

EVEN = [1000000, 1000000]


class Ordinary(unittest.TestCase):
    def spans(self, number):
        return ask(*THREE_PARTS, part(0, 1, number), part(1, 2, number), part(2, 3, number),
                   part(0, 2, number), part(1, 3, number), part(0, 3, number))[5:]

    def test_the_first_part(self):
        self.assertEqual(self.spans(1), [[0, 1, 10], [0, 14, 113], [0, 0, 1],
                                         [0, 267, 1130], [0, 14, 113], [0, 267, 1130]])

    def test_the_second_part(self):
        self.assertEqual(self.spans(2), [[0, -3, 100], [0, -10, 113], [0, 1, 23],
                                         [0, -1439, 11300], [0, -106, 2599], [0, -19457, 259900]])

    def test_the_third_part(self):
        self.assertEqual(self.spans(3), [[0, 3, 100], [0, 7, 113], [0, -7, 23],
                                         [0, 1109, 11300], [0, -707, 2599], [0, -69973, 259900]])

    def test_from_an_end_to_itself(self):
        told = ask(*THREE_PARTS, *[part(k, k, p) for k in range(4) for p in (1, 2, 3)])[5:]
        self.assertEqual(told, [[0, 0, 1]] * 12)
        self.assertEqual(last(part(0, 0, 1)), [0, 0, 1])

    def test_a_part_that_lost_all(self):
        told = ask(begin([4, 6]), period(1, [0, 6], [0, 0], EVEN), part(0, 1, 1), part(0, 1, 2))[2:]
        self.assertEqual(told, [[0, -2, 5], [0, 0, 1]])

    def test_a_part_that_never_had_anything(self):
        told = last(begin([4, 0]), period(1, [9, 0], [0, 0], EVEN), part(0, 1, 2))
        self.assertEqual(told, [0, 0, 1])

    def test_behind_a_factor_of_0_nothing_is_brought_any_more(self):
        told = ask(begin([4, 6]), period(1, [0, 0], [3, 0], EVEN), period(2, [9, 0], [0, 0], EVEN),
                   part(0, 2, 1), part(0, 2, 2), part(1, 2, 1))[3:]
        self.assertEqual(told, [[0, -2, 5], [0, -3, 5], [0, 2, 1]])

    def test_a_flow_is_not_what_a_part_brought(self):
        told = ask(begin([5, 5]), period(1, [5, 5], [90, -5], EVEN), period(2, [95, 0], [0, 0], EVEN),
                   part(0, 2, 1), part(0, 2, 2))[3:]
        self.assertEqual(told, [[0, 0, 1], [0, 0, 1]])


class Refused(unittest.TestCase):
    def told(self, j, k, number):
        return last(*THREE_PARTS, part(j, k, number))

    def test_no_such_part(self):
        for wrong in (0, 4, -1, 7, LOWEST, HIGHEST):
            self.assertEqual(self.told(0, 3, wrong), [-1])
        self.assertEqual(ask(part(0, 0, 0), part(0, 0, 1), part(0, 0, 2)), [[-1], [0, 0, 1], [-1]])
        self.assertEqual(ask(begin([1] * 6), part(0, 0, 6), part(0, 0, 7))[1:], [[0, 0, 1], [-1]])

    def test_out_of_range(self):
        for wrong in (-1, 61, LOWEST, HIGHEST):
            self.assertEqual(self.told(wrong, 3, 1), [-1])
            self.assertEqual(self.told(0, wrong, 1), [-1])

    def test_not_there(self):
        for missing in (4, 24, 25, 60):
            self.assertEqual(self.told(0, missing, 1), [-4])
            self.assertEqual(self.told(missing, missing, 1), [-4])

    def test_the_wrong_way_round(self):
        self.assertEqual(self.told(1, 0, 1), [-6])
        self.assertEqual(self.told(3, 2, 3), [-6])

    def test_the_part_before_the_ends(self):
        self.assertEqual(self.told(0, 4, 0), [-1])
        self.assertEqual(self.told(4, 4, 4), [-1])
        self.assertEqual(self.told(1, 0, 4), [-1])

    def test_the_order_among_the_ends(self):
        self.assertEqual(self.told(61, 4, 1), [-1])
        self.assertEqual(self.told(4, -1, 1), [-1])
        self.assertEqual(self.told(3, -1, 1), [-1])
        self.assertEqual(self.told(4, 0, 1), [-4])

    def test_the_24th_end_is_there_and_the_25th_is_not(self):
        self.assertEqual(ask(*still(24), part(0, 24, 1), part(0, 25, 1))[24:], [[0, 0, 1], [-4]])

    def test_changes_nothing(self):
        told = ask(*THREE_PARTS, part(0, 3, 4), part(0, 61, 2), part(0, 4, 2), part(1, 0, 2), part(0, 3, 2))[5:]
        self.assertEqual(told, [[-1], [-1], [-4], [-6], [0, -19457, 259900]])


if __name__ == "__main__":
    unittest.main()
