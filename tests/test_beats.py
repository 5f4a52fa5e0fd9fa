import unittest

from tests.helper import (HIGHEST, LOWEST, THREE_PARTS, ask, beats, begin, last, period, still, told_around, weights)


class Ordinary(unittest.TestCase):
    def test_one_period(self):
        # 11/10 against 103/100, 124/113 against 19/20, 17/23 against 29/20.
        self.assertEqual(ask(*THREE_PARTS, beats(0, 1), beats(1, 2), beats(2, 3))[5:], [[1], [1], [2]])

    def test_more_periods(self):
        # 682/565 against 1957/2000, 2108/2599 against 551/400, 11594/12995 against 56753/40000.
        self.assertEqual(ask(*THREE_PARTS, beats(0, 2), beats(1, 3), beats(0, 3))[5:], [[1], [2], [2]])

    def test_from_an_end_to_itself(self):
        self.assertEqual(ask(*THREE_PARTS, *[beats(k, k) for k in range(4)])[5:], [[0]] * 4)
        self.assertEqual(last(beats(0, 0)), [0])

    def test_the_same_factors(self):
        calls = [begin([6, 4]), weights([500000, 500000]), period(3, [7, 5], [1, 0], [1000000, 1400000])]
        self.assertEqual(last(*calls, beats(0, 1)), [0])

    def test_the_same_over_two_periods_but_not_over_each(self):
        calls = [period(2, [2], [1], [3000000]), period(7, [9], [0], [2000000])]
        self.assertEqual(ask(*calls, beats(0, 1), beats(1, 2), beats(0, 2))[2:], [[2], [1], [0]])

    def test_weights_told_behind_the_period(self):
        calls = [begin([5, 5]), period(1, [6, 5], [0, 0], [1100000, 1300000])]
        told = ask(*calls, beats(0, 1), weights([999999, 1]), beats(0, 1), weights([0, 1000000]), beats(0, 1))[2:]
        self.assertEqual(told, [[0], [0], [2], [0], [2]])

    def test_a_difference_of_one_in_a_billion_billion(self):
        # 999999999/1000000000 against 999999999000/1000000000000 and the like.
        calls = [begin([1000000000, 0]), weights([1, 999999]), period(1, [999999999, 0], [0, 0], [999000, 1000000])]
        self.assertEqual(last(*calls, beats(0, 1)), [0])
        calls[2] = period(1, [999999999, 0], [0, 0], [999001, 1000000])
        self.assertEqual(last(*calls, beats(0, 1)), [2])
        calls[2] = period(1, [999999999, 0], [0, 0], [998999, 1000000])
        self.assertEqual(last(*calls, beats(0, 1)), [1])

    def test_nothing_against_nothing(self):
        self.assertEqual(ask(period(1, [0], [1], [0]), beats(0, 1))[1], [0])
        self.assertEqual(ask(period(1, [0], [1], [1]), beats(0, 1))[1], [2])
        self.assertEqual(ask(period(1, [1], [0], [0]), beats(0, 1))[1], [1])

    def test_over_24_periods(self):
        calls = [period(n, [1], [0], [1000000]) for n in range(37, 60)]
        for factor, answer in ((999999, 1), (1000000, 0), (1000001, 2)):
            self.assertEqual(last(*calls, period(60, [1], [0], [factor]), beats(0, 24)), [answer])


class Refused(unittest.TestCase):
    def refuse(self, j, k, refusal):
        self.assertEqual(told_around(THREE_PARTS, beats(j, k), 3, 3), ([refusal], True))

    def test_out_of_range(self):
        for wrong in (-1, 61, LOWEST, HIGHEST):
            self.refuse(wrong, 3, -1)
            self.refuse(0, wrong, -1)

    def test_not_there(self):
        for missing in (4, 24, 25, 60):
            self.refuse(0, missing, -4)
            self.refuse(missing, missing, -4)

    def test_the_wrong_way_round(self):
        self.refuse(1, 0, -6)
        self.refuse(3, 2, -6)

    def test_the_order(self):
        self.refuse(61, 4, -1)
        self.refuse(4, -1, -1)
        self.refuse(3, -1, -1)
        self.refuse(4, 0, -4)

    def test_the_24th_end_is_there_and_the_25th_is_not(self):
        self.assertEqual(ask(*still(24), beats(0, 24), beats(0, 25))[24:], [[0], [-4]])


if __name__ == "__main__":
    unittest.main()
