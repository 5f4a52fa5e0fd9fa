import contextlib
import io
import unittest

from fundlinks.desk import UnknownCall, answers
from tests.helper import (HIGHEST, LOWEST, THREE_PARTS, beats, begin, bench, counts, dietz, fall, irr, linked, made,
                          part, period, scaled, sign, still, value, weights)


def joined(calls):
    return [number for call in calls for number in call]


class Form(unittest.TestCase):
    def test_how_calls_and_answers_stand(self):
        calls = [3, 0,
                 0, 2, 60, 40,
                 1, 2, 250000, 750000,
                 2, 4, 2, 66, 44, 2, 0, -4, 2, 2000000, 1000000,
                 3, 1,
                 4, 0, 1,
                 5, 0, 1,
                 6, 0, 1, 2,
                 7, 0, 1,
                 4, 1, 0]
        told = [3, 0, 1, 1,
                1, 100,
                1, 0,
                1, 1,
                3, 4, 110, 106,
                2, 11, 10,
                1, 1100000000,
                3, 0, 1, 25,
                2, 5, 4,
                1, -6]
        self.assertEqual(answers(calls), told)

    def test_all_fifteen_calls_and_begin_anew_among_them(self):
        calls = [14,
                 10,
                 11, 0,
                 12,
                 0, 2, 60, 40,
                 1, 2, 250000, 750000,
                 2, 4, 2, 66, 44, 2, 0, -10, 2, 2000000, 1000000,
                 9, 1, 2,
                 2, 6, 2, 33, 17, 2, 0, 0, 2, 1000000, 1000000,
                 3, 2,
                 4, 0, 2,
                 5, 0, 2,
                 6, 0, 2, 1,
                 7, 0, 2,
                 8, 0, 2,
                 13, 0, 2,
                 12,
                 10,
                 11, 1000000,
                 14,
                 0, 1, 5,
                 14,
                 12,
                 13, 0, 0,
                 8, 0, 0,
                 9, 0, 1,
                 2, 60, 1, 5, 1, 0, 1, 999999,
                 8, 0, 1,
                 10,
                 11, 1000000,
                 14]
        told = [3, 1, 0, 0,
                1, -9,
                1, -9,
                4, 0, 0, 1, 1,
                1, 100,
                1, 0,
                1, 1,
                # w - v is -7/20, b - B is -1/4, r - b is 1/10
                7, 0, 7, 80, 3, 40, -7, 200,
                1, 2,
                3, 6, 50, 50,
                2, 11, 20,
                1, 550000000,
                # 6/100 and 11/10 times -33/100
                3, 0, -303, 1000,
                2, 5, 4,
                1, 2,
                # (50 - 100 + 10) * 6 over 600 - 20
                3, 0, -12, 29,
                4, 1, 2, 1, 2,
                # 100 * x ** 6 - 10 * x ** 2 - 50 is about -0.0003 at 0.914144 and 0.00006 at 0.914145
                1, 914144,
                1, 1,
                3, 2, 2, 6,
                1, 5,
                3, 1, 0, 0,
                4, 0, 0, 1, 1,
                1, -6,
                1, 0,
                1, -6,
                1, 1,
                1, 1,
                1, 999999,
                1, 0,
                3, 1, 1, 60]
        self.assertEqual(answers(calls), told)

    def test_a_refused_call_is_gone_through_to_its_end(self):
        # The numbers of the refused rows would be calls of their own if they were not passed over.
        calls = [0, 0,
                 0, 7, 3, 0, 3, 0, 3, 0, 3,
                 1, 3, 4, 0, 0,
                 2, 99, 0, 3, 3, 0, 3, 1, 3,
                 2, 1, 0, 0, 1, 5,
                 6, 0, 0, 3,
                 8, 99, 12,
                 9, 99, 12,
                 11, -12,
                 13, 99, 12,
                 3, 0]
        self.assertEqual(answers(calls),
                         [1, -2, 1, -2, 1, -2, 1, -1, 1, -2, 1, -1, 1, -1, 1, -1, 1, -1, 1, -1, 3, 0, 1, 1])

    def test_rows_of_20(self):
        row = [LOWEST, HIGHEST] * 10
        self.assertEqual(answers(joined([begin(row), weights(row), period(1, row, row, row), value(0)])),
                         [1, -2, 1, -2, 1, -2, 3, 0, 1, 1])

    def test_400_calls(self):
        calls = joined([begin([1])] + still(24) + [part(0, 24, 1)] * 375)
        self.assertEqual(answers(calls), [1, 1] + joined([[1, n] for n in range(1, 25)]) + [3, 0, 0, 1] * 375)

    def test_400_of_the_longest_to_reckon(self):
        row = [1000000000000] * 6
        full = [begin([1000000000] * 6)] + [period(n, row, [-n] * 6, [1] * 6) for n in range(37, 61)]
        told = answers(joined(full + [irr(), fall(), dietz(0, 24)] * 125))
        self.assertEqual(told[50:], told[50:50 + 11] * 125)

    def test_400_calls_of_16000_numbers(self):
        calls = joined([period(1, [1] * 12, [0] * 12, [1] * 11)] * 400)
        self.assertEqual(len(calls), 16000)
        self.assertEqual(answers(calls), [1, -2] * 400)

    def test_a_number_that_is_no_call(self):
        for wrong in (-1, 15, HIGHEST):
            with self.assertRaises(UnknownCall):
                answers([3, 0, wrong, 0, 0])

    def test_only_whole_numbers_in_a_list(self):
        told = answers(joined(THREE_PARTS + [value(1), linked(0, 3), scaled(0, 3), bench(0, 3), part(0, 3, 2),
                                             linked(1, 0), beats(0, 3), beats(0, 0), made(3, 1), irr(), sign(1000000),
                                             fall(), dietz(0, 3), dietz(1, 1), counts()]))
        self.assertIs(type(told), list)
        self.assertEqual({type(number) for number in told}, {int})


class NothingKept(unittest.TestCase):
    calls = joined(THREE_PARTS + [value(3), begin([]), weights([1]), linked(0, 3), part(0, 3, 2), bench(0, 3),
                                  scaled(0, 3), beats(0, 3), made(3, 2), made(3, 4), irr(), sign(1013750), sign(-1),
                                  fall(), dietz(0, 3), dietz(3, 3), counts(), begin([7, 8]), counts(), irr()])

    def test_the_list_handed_in_is_as_it_was(self):
        calls = list(self.calls)
        answers(calls)
        self.assertEqual(calls, self.calls)

    def test_twice_the_same_answers(self):
        first = answers(self.calls)
        self.assertEqual(answers(self.calls), first)

    def test_the_object_is_new_each_time(self):
        answers(self.calls)
        self.assertEqual(answers([3, 0, 3, 1, 6, 0, 0, 1, 6, 0, 0, 2, 2, 1, 1, 1, 1, 0, 1, 3, 7, 0, 1]),
                         [3, 0, 1, 1, 1, -4, 3, 0, 0, 1, 1, -1, 1, 1, 2, 3, 1000000])
        self.assertEqual(answers([14, 10, 12, 11, 0, 8, 0, 0, 13, 0, 0, 9, 0, 1]),
                         [3, 1, 0, 0, 1, -9, 4, 0, 0, 1, 1, 1, -9, 1, 0, 1, -6, 1, -6])

    def test_what_was_given_back_may_be_changed(self):
        first = answers(self.calls)
        kept = list(first)
        first.clear()
        self.assertEqual(answers(self.calls), kept)

    def test_prints_nothing(self):
        out = io.StringIO()
        with contextlib.redirect_stdout(out), contextlib.redirect_stderr(out):
            answers(self.calls)
        self.assertEqual(out.getvalue(), "")


if __name__ == "__main__":
    unittest.main()
