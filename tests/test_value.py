import unittest

from tests.helper import HIGHEST, LOWEST, THREE_PARTS, ask, last, still, value


class Ordinary(unittest.TestCase):
    def test_each_end(self):
        told = ask(*THREE_PARTS, value(3), value(1), value(2), value(0))[5:]
        self.assertEqual(told, [[9, 34, 27], [2, 110, 113], [5, 124, 46], [0, 100, 100]])

    def test_the_new_object(self):
        self.assertEqual(last(value(0)), [0, 1, 1])

    def test_the_last_of_24(self):
        self.assertEqual(last(*still(24, 37), value(24)), [60, 1, 1])


class Refused(unittest.TestCase):
    def test_out_of_range(self):
        for k in (-1, 61, LOWEST, HIGHEST):
            self.assertEqual(last(*THREE_PARTS, value(k)), [-1])

    def test_not_there(self):
        for k in (4, 24, 25, 60):
            self.assertEqual(last(*THREE_PARTS, value(k)), [-4])
        self.assertEqual(ask(value(1), value(60), value(61)), [[-4], [-4], [-1]])

    def test_changes_nothing(self):
        told = ask(*THREE_PARTS, value(3), value(-1), value(3), value(4), value(3))[5:]
        self.assertEqual(told, [[9, 34, 27], [-1], [9, 34, 27], [-4], [9, 34, 27]])


if __name__ == "__main__":
    unittest.main()
