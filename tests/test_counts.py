import unittest

from tests.helper import THREE_PARTS, ask, begin, counts, last, period, still, told_around, weights


class Counts(unittest.TestCase):
    def test_parts_ends_and_the_last_time(self):
        self.assertEqual(last(*THREE_PARTS, counts()), [3, 3, 9])

    def test_after_each_call(self):
        told = ask(*[call for one in THREE_PARTS for call in (one, counts())])[1::2]
        self.assertEqual(told, [[3, 0, 0], [3, 0, 0], [3, 1, 2], [3, 2, 5], [3, 3, 9]])

    def test_the_new_object(self):
        self.assertEqual(last(counts()), [1, 0, 0])

    def test_no_end_but_the_beginning(self):
        self.assertEqual(last(begin([1] * 6), counts()), [6, 0, 0])
        self.assertEqual(last(*THREE_PARTS, begin([4, 5]), counts()), [2, 0, 0])

    def test_24_ends_up_to_time_60(self):
        self.assertEqual(last(*still(24, 37), counts()), [1, 24, 60])
        self.assertEqual(last(*still(24, 1), counts()), [1, 24, 24])

    def test_after_refusals(self):
        wrong = [begin([]), weights([1]), period(9, [0, 0, 1], [0] * 3, [1] * 3), period(10, [1], [1], [1])]
        self.assertEqual(ask(*THREE_PARTS, *wrong, counts())[5:], [[-2], [-2], [-1], [-2], [3, 3, 9]])
        self.assertEqual(ask(*still(24), *still(1, 25), counts())[24:], [[-8], [1, 24, 24]])

    def test_changes_nothing(self):
        self.assertEqual(told_around(THREE_PARTS, counts(), 3, 3), ([3, 3, 9], True))


if __name__ == "__main__":
    unittest.main()
