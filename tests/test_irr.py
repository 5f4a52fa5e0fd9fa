"""The calls irr and sign, which both rest on what's left over."""

import unittest

from tests.helper import HIGHEST, LOWEST, THREE_PARTS, ask, begin, irr, last, period, sign, still, told_around

TRILLION = 1000000000000


def one_part(start, ends):
    """Calls for a fund of one part; each end is its time, its value before flows and its flow."""
    return [begin([start])] + [period(time, [value], [flow], [1000000]) for time, value, flow in ends]


# With x = n / 1000000 what's left over is as (x - 1) * (x - 2) * (x - 3).
THREE_ROOTS = one_part(1, [(1, 8, -6), (2, 3, 11), (3, 6, 0)])


class Ordinary(unittest.TestCase):
    def test_one_period(self):
        # 100 * n less 110 * 1000000
        told = ask(*one_part(100, [(1, 110, 0)]), irr(), sign(1099999), sign(1100000), sign(1100001))[2:]
        self.assertEqual(told, [[1099999], [2], [0], [1]])

    def test_between_two_millionths(self):
        told = ask(*one_part(3, [(1, 10, 0)]), irr(), sign(3333333), sign(3333334))[2:]
        self.assertEqual(told, [[3333333], [2], [1]])

    def test_for_each_unit_of_time(self):
        # 1.1 to the power 5 is 1.61051.
        calls = one_part(100000, [(5, 161051, 0)])
        self.assertEqual(ask(*calls, irr(), sign(1099999), sign(1100000), sign(1100001))[2:], [[1099999], [2], [0], [1]])

    def test_a_flow_in(self):
        # 100000 * 1.61051 + 10000 * 1.331 = 174361; one more or less at the end makes 1.3 millionths.
        for value, answer, sign_there in ((174361, 1099999, 0), (174362, 1100001, 2), (174360, 1099998, 1)):
            calls = one_part(100000, [(2, 120000, 10000), (5, value, 0)])
            self.assertEqual(ask(*calls, irr(), sign(1100000))[3:], [[answer], [sign_there]])

    def test_a_flow_out(self):
        # 100000 * 1.61051 - 10000 * 1.331 = 147741
        for value, sign_there in ((147741, 0), (147742, 2), (147740, 1)):
            calls = one_part(100000, [(2, 120000, -10000), (5, value, 0)])
            self.assertEqual(last(*calls, sign(1100000)), [sign_there])
        self.assertEqual(last(*one_part(100000, [(2, 120000, -10000), (5, 147741, 0)]), irr()), [1099999])

    def test_flows_in_and_out_at_uneven_times(self):
        # 6144 * 0.5 ** 10 + 128 * 0.5 ** 7 - 16 * 0.5 ** 2 = 6 + 1 - 4
        calls = one_part(6144, [(3, 900, 128), (8, 80, -16), (10, 3, 0)])
        self.assertEqual(ask(*calls, irr(), sign(499999), sign(500000), sign(500001))[4:], [[499999], [2], [0], [1]])

    def test_three_parts(self):
        # 100 * x ** 9 + 3 * x ** 7 - 78 * x ** 4 - 34: about -0.0004 at 1.013750, and 0.0003 at 1.013751.
        told = ask(*THREE_PARTS, sign(1000000), sign(1013750), sign(1013751), sign(1100000), irr())[5:]
        self.assertEqual(told, [[2], [2], [1], [1], [1013750]])

    def test_parts_and_their_flows_together(self):
        # 100000 at the beginning, 10000 in at time 2, 174361 at time 5, as with one part.
        calls = [begin([60000, 0, 40000]), period(2, [50000, 0, 30000], [-50000, 70000, -10000], [1, 1, 1]),
                 period(5, [0, 174360, 1], [3, -174360, 0], [1, 1, 1])]
        self.assertEqual(ask(*calls, irr(), sign(1100000))[3:], [[1099999], [0]])

    def test_flows_of_the_last_end_are_left_out(self):
        for flow in (-109, 0, 5, TRILLION):
            calls = one_part(100, [(1, 110, flow)])
            self.assertEqual(ask(*calls, irr(), sign(1100000))[2:], [[1099999], [0]])

    def test_flows_count_once_another_end_is_there(self):
        calls = one_part(100, [(1, 110, -10), (2, 100, 7)])
        # 100 * x * x - 10 * x - 100
        self.assertEqual(ask(*calls, irr())[3:], [[1051249]])

    def test_values_between_do_not_matter(self):
        for value in (0, 1, 7000):
            self.assertEqual(last(*one_part(10, [(1, value, 10), (2, 20, 0)]), irr()), [999999])


class ByHalving(unittest.TestCase):
    def test_which_of_three(self):
        # 5000000: above 0; 2500000: below 0; so it is the third.
        self.assertEqual(last(*THREE_ROOTS, irr()), [2999999])

    def test_the_signs_between(self):
        asked = (0, 999999, 1000000, 1000001, 1999999, 2000000, 2000001, 2999999, 3000000, 3000001, 10000000)
        told = ask(*THREE_ROOTS, *[sign(n) for n in asked])[4:]
        self.assertEqual(told, [[2], [2], [0], [1], [1], [0], [2], [2], [0], [1], [1]])

    def test_where_the_first_half_already_has_one(self):
        # (x - 1) * (x - 4) * (x - 8): above 0 at 2500000, below 0 at 5000000, above 0 at 10000000.
        calls = one_part(1, [(1, 14, -13), (2, 3, 44), (3, 32, 0)])
        self.assertEqual(ask(*calls, sign(2500000), sign(5000000), irr())[4:], [[1], [2], [7999999]])
        # (x - 1) * (x - 6) * (x - 8): above 0 at 5000000 and at 2500000, so it is the first.
        calls = one_part(1, [(1, 16, -15), (2, 3, 62), (3, 48, 0)])
        self.assertEqual(ask(*calls, sign(5000000), sign(7000000), irr())[4:], [[1], [2], [999999]])


    def test_where_nothing_is_left_over_just_in_the_middle(self):
        # (x - 2) * (x - 3) * (x - 5): nothing at 5000000, so it is looked for below.
        calls = one_part(1, [(1, 11, -10), (2, 3, 31), (3, 30, 0)])
        self.assertEqual(ask(*calls, sign(4999999), sign(5000000), irr())[4:], [[2], [0], [1999999]])

    def test_the_middle_is_rounded_down(self):
        # (x - 0.0390625) * (x - 0.05) * (x - 0.07), times 800000000: the middle of 0 and 78125 is 39062.5.
        calls = one_part(800000000, [(1, 200000000, -127250000), (2, 3, 6550000), (3, 109375, 0)])
        told = ask(*calls, sign(78125), sign(39063), sign(39062), sign(58593), irr())[4:]
        self.assertEqual(told, [[1], [1], [2], [2], [69999]])


class AtTheBounds(unittest.TestCase):
    def test_an_answer_of_0(self):
        self.assertEqual(ask(*one_part(1000000, [(1, 1, 0)]), irr(), sign(0), sign(1))[2:], [[0], [2], [0]])
        self.assertEqual(ask(*one_part(1000000000, [(1, 1, 0)]), irr(), sign(1))[2:], [[0], [1]])
        self.assertEqual(ask(*one_part(999999, [(1, 1, 0)]), irr(), sign(1))[2:], [[1], [2]])

    def test_an_answer_just_below_10000000(self):
        told = ask(*one_part(1, [(1, 10, 0)]), irr(), sign(9999999), sign(10000000))[2:]
        self.assertEqual(told, [[9999999], [2], [0]])
        # 9.9999999 lies between the last two millionths.
        told = ask(*one_part(10000000, [(1, 99999999, 0)]), irr(), sign(9999999), sign(10000000))[2:]
        self.assertEqual(told, [[9999999], [2], [1]])
        self.assertEqual(last(*one_part(1000000, [(1, 9999999, 0)]), irr()), [9999998])

    def test_sign_at_0(self):
        self.assertEqual(last(*one_part(5, [(1, 1, 0)]), sign(0)), [2])
        self.assertEqual(last(*one_part(5, [(1, 0, 1)]), sign(0)), [0])
        self.assertEqual(last(*one_part(5, [(1, 5, 100), (2, 1, 0)]), sign(0)), [2])
        self.assertEqual(last(*one_part(5, [(1, 5, 100), (2, 0, 1)]), sign(0)), [0])
        self.assertEqual(last(*one_part(5, [(1, 5, 100), (2, 0, 1)]), sign(1)), [1])

    def test_sign_at_10000000(self):
        told = [last(*one_part(1, [(1, value, 0)]), sign(10000000)) for value in (9, 10, 11)]
        self.assertEqual(told, [[1], [0], [2]])
        told = [last(*one_part(1, [(2, 200, -9), (3, value, 0)]), sign(10000000)) for value in (909, 910, 911)]
        self.assertEqual(told, [[1], [0], [2]])


class NotToBeTold(unittest.TestCase):
    def refuse(self, fund, call, ends):
        self.assertEqual(told_around(fund, call, 1, ends), ([-9], True))

    def test_no_end_but_the_beginning(self):
        self.refuse([], irr(), 0)
        self.refuse([begin([7])], irr(), 0)
        self.refuse([], sign(0), 0)
        self.refuse([], sign(1000000), 0)
        self.refuse([], sign(10000000), 0)
        self.assertEqual(ask(*THREE_PARTS, begin([1]), irr(), sign(5))[6:], [[-9], [-9]])

    def test_nothing_at_the_last_end(self):
        self.refuse(one_part(5, [(1, 0, 1)]), irr(), 1)
        self.refuse(one_part(5, [(1, 9, 0), (4, 0, 9)]), irr(), 2)
        # One part's value of 1 is enough.
        calls = [begin([5, 5]), period(1, [0, 1], [0, 0], [1, 1])]
        self.assertEqual(last(*calls, irr()), [99999])
        calls = [begin([5, 5]), period(1, [0, 0], [1, 0], [1, 1])]
        self.assertEqual(last(*calls, irr()), [-9])

    def test_below_0_at_10000000(self):
        self.assertEqual(last(*one_part(1, [(1, 10, 0)]), irr()), [9999999])
        self.refuse(one_part(1, [(1, 11, 0)]), irr(), 1)
        self.refuse(one_part(1, [(1, TRILLION, 0)]), irr(), 1)
        self.assertEqual(last(*one_part(1, [(2, 100, 0)]), irr()), [9999999])
        self.refuse(one_part(1, [(2, 101, 0)]), irr(), 1)

    def test_below_0_at_10000000_for_what_went_out(self):
        self.assertEqual(last(*one_part(1, [(1, 20, -9), (2, 10, 0)]), irr()), [9999999])
        self.refuse(one_part(1, [(1, 20, -9), (2, 11, 0)]), irr(), 2)
        self.refuse(one_part(1, [(1, 20, -10), (2, 10, 0)]), irr(), 2)

    def test_may_be_told_again_with_another_end(self):
        told = ask(begin([1]), irr(), period(1, [0], [1], [1]), irr(), period(2, [1], [0], [1]), irr(),
                   period(3, [1000000], [0], [1]), irr())
        # With three ends what's left over at 10000000 is 1000 + 100 - 1000000, so it is below 0.
        self.assertEqual(told, [[1], [-9], [1], [-9], [2], [618033], [3], [-9]])


class OutOfRange(unittest.TestCase):
    def refuse(self, fund, n, ends):
        self.assertEqual(told_around(fund, sign(n), 1, ends), ([-1], True))

    def test_sign(self):
        for n in (-1, 10000001, LOWEST, HIGHEST):
            self.refuse(one_part(5, [(1, 1, 0)]), n, 1)

    def test_before_there_is_no_end(self):
        for n in (-1, 10000001, LOWEST, HIGHEST):
            self.refuse([], n, 0)


class Many(unittest.TestCase):
    def test_24_ends_up_to_time_60(self):
        self.assertEqual(ask(*still(24, 37), irr(), sign(1000000))[24:], [[999999], [0]])

    def test_one_period_of_60(self):
        self.assertEqual(ask(*one_part(1000, [(60, 1000, 0)]), irr(), sign(1000000))[2:], [[999999], [0]])

    def test_two_periods_of_30(self):
        # At 2000000: 2 ** 60 - (2 ** 30 - 1) * 2 ** 30 - 2 ** 30
        calls = one_part(1, [(30, 2 ** 30, 1 - 2 ** 30), (60, 2 ** 30, 0)])
        told = ask(*calls, sign(1999999), sign(2000000), sign(2000001), sign(10000000))[3:]
        self.assertEqual(told, [[2], [0], [1], [1]])

    def test_the_greatest_values(self):
        calls = [begin([1000000000] * 6)]
        for n in range(37, 61):
            calls.append(period(n, [TRILLION] * 6, [TRILLION if n % 2 else -TRILLION + 1] * 6, [10000000] * 6))
        for n in (0, 1, 999999, 1000000, 1000001, 1100000, 1112345, 9999999, 10000000):
            left = 6000000000 * n ** 60 - 6000000000000 * 1000000 ** 60
            for m in range(37, 60):
                flows = 6 * (TRILLION if m % 2 else -TRILLION + 1)
                left += flows * n ** (60 - m) * 1000000 ** m
            self.assertEqual(last(*calls, sign(n)), [1 if left > 0 else 2 if left < 0 else 0])
        found = last(*calls, irr())[0]
        self.assertEqual(ask(*calls, sign(found), sign(found + 1))[25:], [[2], [1]])


if __name__ == "__main__":
    unittest.main()
