import unittest

from tests.helper import HIGHEST, LOWEST, THREE_PARTS, ask, begin, last, made, period, still, told_around, weights


class Ordinary(unittest.TestCase):
    def test_parts_that_were_as_the_weights_say(self):
        told = ask(*THREE_PARTS, made(1, 1), made(1, 2), made(1, 3))[5:]
        self.assertEqual(told, [[0, 0, 1, 1, 20, 0, 1], [0, 0, 1, -3, 100, 0, 1], [0, 0, 1, 1, 20, 0, 1]])

    def test_behind_flows(self):
        # w - v: 27/226, -139/1130, 2/565; b - B: 1/4, -9/20, 1/20; r - b: 0, 0, 7/23.
        told = ask(*THREE_PARTS, made(2, 1), made(2, 2), made(2, 3))[5:]
        self.assertEqual(told, [[0, 27, 904, 0, 1, 0, 1],
                                [0, 1251, 22600, 0, 1, 0, 1],
                                [0, 1, 5650, 7, 115, 14, 12995]])

    def test_the_last_period(self):
        # w - v: -1/2, -19/230, 67/115; b - B: 11/20, -9/20, -7/10; r - b: 0 (it had nothing), 1/5, -5/36.
        told = ask(*THREE_PARTS, made(3, 1), made(3, 2), made(3, 3))[5:]
        self.assertEqual(told, [[0, -11, 40, 0, 1, 0, 1],
                                [0, 171, 4600, 3, 50, -19, 1150],
                                [0, -469, 1150, -1, 36, -67, 828]])

    def test_weights_told_behind_the_period(self):
        told = ask(*THREE_PARTS, weights([0, 0, 1000000]), made(1, 1), made(1, 3))[6:]
        # w - v: 1/2 and -4/5; b - B: 1/5 and 0; r - b: 1/10 and 1/4.
        self.assertEqual(told, [[0, 1, 10, 0, 1, 1, 20], [0, 0, 1, 1, 4, -1, 5]])

    def test_the_weights_at_the_beginning(self):
        calls = [begin([1, 3]), period(4, [2, 3], [0, 0], [1500000, 500000])]
        # w - v: -3/4 and 3/4; b - B: 0 and -1; r - b: 1/2 and 1/2.
        self.assertEqual(ask(*calls, made(1, 1), made(1, 2))[2:],
                         [[0, 0, 1, 1, 2, -3, 8], [0, -3, 4, 0, 1, 3, 8]])

    def test_the_new_object_with_one_part(self):
        self.assertEqual(last(period(1, [3], [0], [1250000]), made(1, 1)), [0, 0, 1, 7, 4, 0, 1])

    def test_of_six_parts(self):
        calls = [begin([1, 1, 1, 1, 1, 5]), weights([0, 0, 0, 0, 0, 1000000]),
                 period(1, [1, 1, 1, 1, 1, 10], [0] * 6, [0, 0, 0, 0, 2000000, 1000000])]
        self.assertEqual(ask(*calls, made(1, 5), made(1, 6))[3:],
                         [[0, 1, 10, 0, 1, -1, 10], [0, 0, 1, 1, 1, -1, 2]])


class Nothing(unittest.TestCase):
    def test_a_part_that_began_with_nothing(self):
        calls = [begin([0, 4]), weights([250000, 750000]), period(2, [0, 5], [0, 0], [3000000, 1000000])]
        # Its w - v is -1/4, its b - B is 3/2; r is b.
        self.assertEqual(last(*calls, made(1, 1)), [0, -3, 8, 0, 1, 0, 1])

    def test_behind_its_flow_not_before(self):
        calls = [begin([4, 4]), weights([250000, 750000]), period(1, [4, 4], [-4, 0], [1000000, 1000000]),
                 period(3, [0, 4], [0, 0], [3000000, 1000000])]
        self.assertEqual(last(*calls, made(2, 1)), [0, -3, 8, 0, 1, 0, 1])

    def test_a_part_that_lost_all_is_not_one_that_had_nothing(self):
        calls = [begin([4, 4]), period(2, [0, 4], [1, 0], [2000000, 1000000])]
        self.assertEqual(last(*calls, made(1, 1)), [0, 0, 1, -2, 1, 1, 1])

    def test_a_part_to_which_money_came(self):
        calls = [begin([0, 4]), period(1, [0, 4], [4, 0], [7, 7]), period(2, [6, 4], [0, 0], [1000000, 1000000])]
        self.assertEqual(last(*calls, made(2, 1)), [0, 0, 1, 1, 2, -1, 4])


class Exact(unittest.TestCase):
    def test_at_the_greatest(self):
        calls = [begin([1000000000] * 6), weights([999999, 1, 0, 0, 0, 0]),
                 period(60, [1000000000000] * 6, [-1000000000000] * 5 + [0], [10000000, 0, 0, 0, 0, 1])]
        # w - v: 1/6 - 999999/1000000; b - B: 10 - 9999990/1000000; r - b: 990.
        self.assertEqual(last(*calls, made(1, 1)),
                         [0, -2499997, 300000000000, 98999901, 100000, -82499901, 100000])
        # w - v: 1/6; b - B: 1/1000000 - 9999990/1000000; r - b: 1000 - 1/1000000.
        self.assertEqual(last(*calls, made(1, 6)),
                         [0, -9999989, 6000000, 0, 1, 333333333, 2000000])


class Refused(unittest.TestCase):
    def refuse(self, k, number, refusal):
        self.assertEqual(told_around(THREE_PARTS, made(k, number), 3, 3), ([refusal], True))

    def test_no_such_part(self):
        self.assertEqual(len(last(*THREE_PARTS, made(3, 3))), 7)
        for wrong in (0, -1, 4, 6, LOWEST, HIGHEST):
            self.refuse(3, wrong, -1)

    def test_the_end_out_of_range(self):
        for wrong in (-1, 61, LOWEST, HIGHEST):
            self.refuse(wrong, 1, -1)

    def test_no_such_end(self):
        for missing in (4, 24, 25, 60):
            self.refuse(missing, 1, -4)
        self.assertEqual(ask(made(1, 1), made(60, 1), made(61, 1)), [[-4], [-4], [-1]])

    def test_the_beginning_ends_no_period(self):
        self.refuse(0, 1, -6)
        self.assertEqual(last(made(0, 1)), [-6])
        self.assertEqual(last(*THREE_PARTS, made(1, 1))[0], 0)

    def test_the_order(self):
        self.refuse(0, 4, -1)
        self.refuse(0, 0, -1)
        self.refuse(4, 4, -1)
        self.refuse(61, 0, -1)
        self.refuse(-1, 3, -1)

    def test_the_24th_end_is_there_and_the_25th_is_not(self):
        self.assertEqual(ask(*still(24), made(24, 1), made(25, 1))[24:], [[0, 0, 1, 0, 1, 0, 1], [-4]])


if __name__ == "__main__":
    unittest.main()
