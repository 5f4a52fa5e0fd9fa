import unittest

from tests.helper import HIGHEST, LOWEST, THREE_PARTS, ask, begin, bench, last, linked, part, period, picture, still, value

TRILLION = 1000000000000
EVEN = [1000000, 1000000]


class Ordinary(unittest.TestCase):
    def test_answers_the_number_of_the_new_end(self):
        self.assertEqual(ask(*THREE_PARTS), [[100], [0], [1], [2], [3]])

    def test_on_the_new_object(self):
        self.assertEqual(ask(period(1, [3], [-2], [1000000]), value(1), linked(0, 1)), [[1], [1, 3, 1], [3, 1]])

    def test_flows_come_behind_the_values(self):
        told = ask(begin([3, 4]), period(7, [5, 6], [10, -6], EVEN), value(1), value(0))[1:]
        self.assertEqual(told, [[1], [7, 11, 15], [0, 7, 7]])

    def test_values_flows_and_factors_of_one_end_stay_when_the_next_is_told(self):
        told = ask(*THREE_PARTS, *picture(3, 3))[5:]
        self.assertEqual(told, [
            [0, 100, 100], [2, 110, 113], [5, 124, 46], [9, 34, 27], [-4],
            [103, 100], [0, 1, 10], [0, -3, 100], [0, 3, 100], [-1],
            [19, 20], [0, 14, 113], [0, -10, 113], [0, 7, 113], [-1],
            [29, 20], [0, 0, 1], [0, 1, 23], [0, -7, 23], [-1],
        ])

    def test_a_part_with_nothing_may_get_money_and_then_grow(self):
        told = ask(begin([0, 5]), period(1, [0, 5], [5, 0], EVEN), period(2, [9, 5], [0, 0], EVEN), linked(0, 2))[1:]
        self.assertEqual(told, [[1], [2], [7, 5]])

    def test_all_may_be_lost_if_money_comes_in(self):
        told = ask(begin([4, 5]), period(1, [0, 0], [0, 1], EVEN), value(1))[1:]
        self.assertEqual(told, [[1], [1, 0, 1]])


class Refused(unittest.TestCase):
    def refuse(self, refusal, call):
        """On a fund with parts of 6 and 0 behind the flows at end 1, whose time is 3."""
        before = [begin([5, 5]), period(3, [6, 4], [0, -4], [1000000, 2000000])]
        after = picture(2, 1)
        expected = ask(*before, *after)[2:]
        self.assertEqual(expected[2:], [[-4], [1, 1], [0, 1, 10], [0, -1, 10], [-1]])
        self.assertEqual(ask(*before, call, *after)[2:], [[refusal]] + expected)
        # The end that is told next is still the second, and may have any time from 4 on.
        self.assertEqual(last(*before, call, period(4, [6, 0], [0, 0], EVEN)), [2])

    def accept(self, call):
        before = [begin([5, 5]), period(3, [6, 4], [0, -4], [1000000, 2000000])]
        self.assertEqual(last(*before, call), [2])

    def test_a_time_not_later(self):
        self.accept(period(4, [6, 0], [0, 0], EVEN))
        for time in (3, 2, 0, -1, LOWEST):
            self.refuse(-1, period(time, [6, 0], [0, 0], EVEN))

    def test_a_time_too_late(self):
        self.accept(period(60, [6, 0], [0, 0], EVEN))
        for time in (61, 1000, HIGHEST):
            self.refuse(-1, period(time, [6, 0], [0, 0], EVEN))

    def test_the_first_end_is_later_than_0(self):
        self.assertEqual(last(period(0, [1], [0], [1])), [-1])
        self.assertEqual(last(period(1, [1], [0], [1])), [1])
        self.assertEqual(ask(period(60, [1], [0], [1]), period(61, [1], [0], [1]), value(1)), [[1], [-1], [60, 1, 1]])

    def test_rows_of_another_length(self):
        for row in ([], [6], [6, 0, 0], [6] + [0] * 6, [0] * 20):
            self.refuse(-2, period(4, row, [0, 0], EVEN))
            self.refuse(-2, period(4, [6, 0], row, EVEN))
            self.refuse(-2, period(4, [6, 0], [0, 0], row))
        self.refuse(-2, period(4, [], [], []))
        self.refuse(-2, period(4, [6], [0], [1]))
        self.refuse(-2, period(4, [6, 0, 0], [0, 0, 0], [1, 1, 1]))

    def test_values_out_of_range(self):
        self.accept(period(4, [TRILLION, 0], [0, 0], EVEN))
        self.accept(period(4, [0, 0], [1, 0], EVEN))
        for wrong in (-1, TRILLION + 1, LOWEST, HIGHEST):
            self.refuse(-2, period(4, [wrong, 0], [2, 0], EVEN))
            self.refuse(-2, period(4, [6, wrong], [0, 2], EVEN))

    def test_flows_out_of_range(self):
        self.accept(period(4, [6, 0], [TRILLION, TRILLION], EVEN))
        self.accept(period(4, [TRILLION, 0], [-TRILLION, 1], EVEN))
        for wrong in (TRILLION + 1, -TRILLION - 1, LOWEST, HIGHEST):
            self.refuse(-2, period(4, [TRILLION, 0], [wrong, 9], EVEN))
            self.refuse(-2, period(4, [6, 0], [0, wrong], EVEN))

    def test_benchmark_factors_out_of_range(self):
        self.accept(period(4, [6, 0], [0, 0], [0, 10000000]))
        self.accept(period(4, [6, 0], [0, 0], [10000000, 0]))
        for wrong in (-1, 10000001, LOWEST, HIGHEST):
            self.refuse(-2, period(4, [6, 0], [0, 0], [wrong, 0]))
            self.refuse(-2, period(4, [6, 0], [0, 0], [0, wrong]))

    def test_a_value_that_came_from_nothing(self):
        self.accept(period(4, [6, 0], [0, 5], EVEN))
        self.refuse(-6, period(4, [6, 1], [0, 0], EVEN))
        self.refuse(-6, period(4, [6, TRILLION], [0, 0], EVEN))
        self.assertEqual(last(begin([0, 1]), period(1, [1, 1], [0, 0], EVEN)), [-6])
        self.assertEqual(last(begin([0, 1]), period(1, [0, 1], [0, 0], EVEN)), [1])

    def test_the_flow_counts_for_what_a_part_had(self):
        # Before its flow the first part had nothing and the second had 1; behind them it is the other way round.
        told = ask(begin([0, 1]), period(1, [0, 1], [1, -1], EVEN), period(2, [1, 0], [0, 0], EVEN))
        self.assertEqual(told, [[1], [1], [2]])
        told = ask(begin([0, 1]), period(1, [0, 1], [1, -1], EVEN), period(2, [0, 1], [1, 0], EVEN))
        self.assertEqual(told, [[1], [1], [-6]])

    def test_a_part_left_with_less_than_nothing(self):
        self.accept(period(4, [6, 0], [-6, 1], EVEN))
        self.accept(period(4, [6, 0], [-5, 0], EVEN))
        self.refuse(-7, period(4, [6, 0], [-7, 8], EVEN))
        self.refuse(-7, period(4, [6, 0], [0, -1], EVEN))

    def test_all_left_with_less_than_1(self):
        self.refuse(-7, period(4, [6, 0], [-6, 0], EVEN))
        self.refuse(-7, period(4, [0, 0], [0, 0], EVEN))
        self.refuse(-7, period(4, [6, 0], [-7, 0], EVEN))


class TwoAtOnce(unittest.TestCase):
    """The parts have 6 and 0 behind the flows at end 1, whose time is 3."""

    def told(self, call):
        return last(begin([5, 5]), period(3, [6, 4], [0, -4], EVEN), call)

    def test_the_time_before_all(self):
        self.assertEqual(self.told(period(3, [6], [0, 0], EVEN)), [-1])
        self.assertEqual(self.told(period(61, [6, 1], [0, 0], EVEN)), [-1])
        self.assertEqual(self.told(period(3, [6, 0], [-6, 0], EVEN)), [-1])
        self.assertEqual(self.told(period(HIGHEST, [], [], [])), [-1])

    def test_the_rows_before_a_value_from_nothing(self):
        self.assertEqual(self.told(period(4, [6, 1], [0, 0], [0, -1])), [-2])
        self.assertEqual(self.told(period(4, [6, 1], [0], EVEN)), [-2])

    def test_the_rows_before_what_is_left(self):
        self.assertEqual(self.told(period(4, [6, 0], [-6, 0], [1])), [-2])
        self.assertEqual(self.told(period(4, [6, 0], [-TRILLION - 1, 0], EVEN)), [-2])

    def test_a_value_from_nothing_before_what_is_left(self):
        self.assertEqual(self.told(period(4, [0, 1], [0, -1], EVEN)), [-6])
        self.assertEqual(self.told(period(4, [6, 1], [0, -2], EVEN)), [-6])

    def test_too_many_ends_behind_all(self):
        full = [begin([6, 0])] + [period(n, [6, 0], [0, 0], EVEN) for n in range(1, 25)]
        wrong = [
            period(24, [6, 0], [0, 0], EVEN),
            period(25, [6, 0], [0, 0], [0]),
            period(25, [6, 1], [0, 0], EVEN),
            period(25, [6, 0], [-6, 0], EVEN),
            period(25, [6, 0], [0, -1], EVEN),
            period(25, [6, 0], [0, 0], EVEN),
        ]
        self.assertEqual(ask(*full, *wrong)[25:], [[-1], [-2], [-6], [-7], [-7], [-8]])


class ManyEnds(unittest.TestCase):
    def test_24_ends_and_no_more(self):
        told = ask(*still(24), period(25, [1], [0], [7]), value(24), value(25), bench(0, 24), period(60, [2], [0], [7]))
        self.assertEqual(told, [[n] for n in range(1, 25)] + [[-8], [24, 1, 1], [-4], [1, 1], [-8]])

    def test_the_24th_at_time_60(self):
        told = ask(*still(24, 37), value(24), period(61, [1], [0], [7]), period(60, [1], [0], [7]))[23:]
        self.assertEqual(told, [[24], [60, 1, 1], [-1], [-1]])

    def test_begin_makes_room_again(self):
        self.assertEqual(ask(*still(24), begin([1]), *still(1))[24:], [[1], [1]])

    def test_six_parts_at_the_greatest(self):
        told = ask(begin([1000000000] * 6), period(60, [TRILLION] * 6, [TRILLION] * 6, [10000000] * 6),
                   value(1), linked(0, 1), bench(0, 1), part(0, 1, 6))
        self.assertEqual(told, [[6000000000], [1], [60, 6 * TRILLION, 12 * TRILLION], [1000, 1], [10, 1], [0, 333, 2]])


if __name__ == "__main__":
    unittest.main()
