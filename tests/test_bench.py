import unittest

from tests.helper import HIGHEST, LOWEST, THREE_PARTS, ask, begin, bench, last, period, still, weights


class Ordinary(unittest.TestCase):
    def test_one_period(self):
        told = ask(*THREE_PARTS, bench(0, 1), bench(1, 2), bench(2, 3))[5:]
        self.assertEqual(told, [[103, 100], [19, 20], [29, 20]])

    def test_more_periods(self):
        told = ask(*THREE_PARTS, bench(0, 2), bench(1, 3), bench(0, 3))[5:]
        self.assertEqual(told, [[1957, 2000], [551, 400], [56753, 40000]])

    def test_from_an_end_to_itself(self):
        self.assertEqual(ask(*THREE_PARTS, *[bench(k, k) for k in range(4)])[5:], [[1, 1]] * 4)
        self.assertEqual(last(bench(0, 0)), [1, 1])

    def test_the_new_object_has_one_part_with_all_the_weight(self):
        self.assertEqual(last(period(1, [1], [0], [1250000]), bench(0, 1)), [5, 4])

    def test_no_factor_and_the_greatest(self):
        told = ask(period(1, [1], [0], [10000000]), period(2, [1], [0], [0]), period(3, [1], [0], [10000000]),
                   bench(0, 1), bench(0, 2), bench(0, 3), bench(2, 3))[3:]
        self.assertEqual(told, [[10, 1], [0, 1], [0, 1], [10, 1]])

    def test_to_the_last_millionth_of_a_millionth(self):
        told = last(begin([1, 1]), weights([1, 999999]), period(1, [1, 1], [0, 0], [1, 0]), bench(0, 1))
        self.assertEqual(told, [1, 1000000000000])

    def test_exact_over_24_periods(self):
        calls = [period(n, [1], [0], [999999]) for n in range(1, 25)]
        self.assertEqual(last(*calls, bench(0, 24)), [999999 ** 24, 1000000 ** 24])

    def test_values_and_flows_do_not_matter(self):
        told = last(begin([7, 1]), weights([500000, 500000]), period(1, [0, 90], [5, 5], [1000000, 2000000]), bench(0, 1))
        self.assertEqual(told, [3, 2])


class Refused(unittest.TestCase):
    def told(self, j, k):
        return last(*THREE_PARTS, bench(j, k))

    def test_out_of_range(self):
        for wrong in (-1, 61, LOWEST, HIGHEST):
            self.assertEqual(self.told(wrong, 3), [-1])
            self.assertEqual(self.told(0, wrong), [-1])

    def test_not_there(self):
        for missing in (4, 24, 25, 60):
            self.assertEqual(self.told(0, missing), [-4])
            self.assertEqual(self.told(missing, missing), [-4])

    def test_the_wrong_way_round(self):
        self.assertEqual(self.told(1, 0), [-6])
        self.assertEqual(self.told(3, 2), [-6])

    def test_the_order(self):
        self.assertEqual(self.told(61, 4), [-1])
        self.assertEqual(self.told(4, -1), [-1])
        self.assertEqual(self.told(3, -1), [-1])
        self.assertEqual(self.told(4, 0), [-4])

    def test_the_24th_end_is_there_and_the_25th_is_not(self):
        self.assertEqual(ask(*still(24), bench(0, 24), bench(0, 25))[24:], [[1, 1], [-4]])

    def test_changes_nothing(self):
        told = ask(*THREE_PARTS, bench(0, 61), bench(0, 4), bench(1, 0), bench(0, 3))[5:]
        self.assertEqual(told, [[-1], [-4], [-6], [56753, 40000]])


if __name__ == "__main__":
    unittest.main()
