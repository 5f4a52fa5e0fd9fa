import contextlib
import io
import unittest

from fundlinks.desk import UnknownCall, answers
from tests.helper import HIGHEST, LOWEST, THREE_PARTS, begin, bench, linked, part, period, still, value, weights


def joined(calls):
    return [number for call in calls for number in call]


class Form(unittest.TestCase):
    def test_how_calls_and_answers_stand(self):
        calls = [3, 0,
                 0, 2, 60, 40,
                 1, 2, 250000, 750000,
                 2, 4, 2, 66, 44, 2, 0, -4, 2, 2000000, 1000000,
                 3, 1,
                 4, 0, 1,
                 5, 0, 1,
                 6, 0, 1, 2,
                 7, 0, 1,
                 4, 1, 0]
        told = [3, 0, 1, 1,
                1, 100,
                1, 0,
                1, 1,
                3, 4, 110, 106,
                2, 11, 10,
                1, 1100000000,
                3, 0, 1, 25,
                2, 5, 4,
                1, -6]
        self.assertEqual(answers(calls), told)

    def test_a_refused_call_is_gone_through_to_its_end(self):
        # The numbers of the refused rows would be calls of their own if they were not passed over.
        calls = [0, 0,
                 0, 7, 3, 0, 3, 0, 3, 0, 3,
                 1, 3, 4, 0, 0,
                 2, 99, 0, 3, 3, 0, 3, 1, 3,
                 2, 1, 0, 0, 1, 5,
                 6, 0, 0, 3,
                 3, 0]
        self.assertEqual(answers(calls), [1, -2, 1, -2, 1, -2, 1, -1, 1, -2, 1, -1, 3, 0, 1, 1])

    def test_rows_of_20(self):
        row = [LOWEST, HIGHEST] * 10
        self.assertEqual(answers(joined([begin(row), weights(row), period(1, row, row, row), value(0)])),
                         [1, -2, 1, -2, 1, -2, 3, 0, 1, 1])

    def test_400_calls(self):
        calls = joined([begin([1])] + still(24) + [part(0, 24, 1)] * 375)
        self.assertEqual(answers(calls), [1, 1] + joined([[1, n] for n in range(1, 25)]) + [3, 0, 0, 1] * 375)

    def test_a_number_that_is_no_call(self):
        for wrong in (-1, 15, HIGHEST):
            with self.assertRaises(UnknownCall):
                answers([3, 0, wrong, 0, 0])

    def test_only_whole_numbers_in_a_list(self):
        told = answers(joined(THREE_PARTS + [value(1), linked(0, 3), bench(0, 3), part(0, 3, 2), linked(1, 0)]))
        self.assertIs(type(told), list)
        self.assertEqual({type(number) for number in told}, {int})


class NothingKept(unittest.TestCase):
    calls = joined(THREE_PARTS + [value(3), begin([]), weights([1]), linked(0, 3), part(0, 3, 2), bench(0, 3)])

    def test_the_list_handed_in_is_as_it_was(self):
        calls = list(self.calls)
        answers(calls)
        self.assertEqual(calls, self.calls)

    def test_twice_the_same_answers(self):
        first = answers(self.calls)
        self.assertEqual(answers(self.calls), first)

    def test_the_object_is_new_each_time(self):
        answers(self.calls)
        self.assertEqual(answers([3, 0, 3, 1, 6, 0, 0, 1, 6, 0, 0, 2, 2, 1, 1, 1, 1, 0, 1, 3, 7, 0, 1]),
                         [3, 0, 1, 1, 1, -4, 3, 0, 0, 1, 1, -1, 1, 1, 2, 3, 1000000])

    def test_what_was_given_back_may_be_changed(self):
        first = answers(self.calls)
        kept = list(first)
        first.clear()
        self.assertEqual(answers(self.calls), kept)

    def test_prints_nothing(self):
        out = io.StringIO()
        with contextlib.redirect_stdout(out), contextlib.redirect_stderr(out):
            answers(self.calls)
        self.assertEqual(out.getvalue(), "")


if __name__ == "__main__":
    unittest.main()
