"""Many funds, reckoned a second time with Python's own fractions, straight from the document's words."""

import unittest
from fractions import Fraction

from tests.helper import ask, begin, bench, linked, part, period, scaled, value, weights


class Numbers:
    """Numbers that look chosen by chance, but are the same at every run."""

    def __init__(self, seed):
        self.state = seed

    def below(self, bound):
        self.state = (self.state * 6364136223846793005 + 1442695040888963407) % 2 ** 64
        return (self.state >> 33) % bound


def made_weights(numbers, parts):
    left = 1000000
    row = []
    for n in range(parts - 1):
        row.append(numbers.below(left + 1))
        left -= row[-1]
    return row + [left]


def made_fund(seed):
    """Weights, and the ends: time, values before flows, values behind flows, benchmark factors."""
    numbers = Numbers(seed)
    parts = 1 + numbers.below(6)
    bound = (10, 1000, 1000000000)[numbers.below(3)]
    start = [numbers.below(bound) for n in range(parts)]
    start[0] += 1 if sum(start) == 0 else 0
    ends = [(0, start, start, [])]
    for n in range(1 + numbers.below(24)):
        before = [numbers.below(2 * had + 1) for had in ends[-1][2]]
        behind = [numbers.below(bound) if numbers.below(2) else had for had in before]
        behind[-1] += 1 if sum(behind) == 0 else 0
        ends.append((ends[-1][0] + 1 + numbers.below(2), before, behind,
                     [numbers.below(10000001) for p in range(parts)]))
    return made_weights(numbers, parts), ends


def calls_for(row, ends):
    calls = [begin(ends[0][1]), weights(row)]
    for time, before, behind, factors in ends[1:]:
        calls.append(period(time, before, [b - a for a, b in zip(before, behind)], factors))
    return calls


def fund_factor(ends, k):
    return Fraction(sum(ends[k][1]), sum(ends[k - 1][2]))


def fund_linked(ends, j, k):
    linked_so_far = Fraction(1)
    for m in range(j + 1, k + 1):
        linked_so_far *= fund_factor(ends, m)
    return linked_so_far


def fund_brought(ends, j, k, p):
    total = Fraction(0)
    for m in range(j + 1, k + 1):
        gain = ends[m][1][p - 1] - ends[m - 1][2][p - 1]
        total += fund_linked(ends, j, m - 1) * Fraction(gain, sum(ends[m - 1][2]))
    return total


def bench_linked(row, ends, j, k):
    linked_so_far = Fraction(1)
    for m in range(j + 1, k + 1):
        linked_so_far *= Fraction(sum(w * b for w, b in zip(row, ends[m][3])), 1000000000000)
    return linked_so_far


def two(fraction):
    return [fraction.numerator, fraction.denominator]


class AgainstFractions(unittest.TestCase):
    def test_forty_funds(self):
        for seed in range(40):
            with self.subTest(seed=seed):
                self.compare(seed)

    def compare(self, seed):
        row, ends = made_fund(seed)
        calls = calls_for(row, ends)
        expected = [[sum(ends[0][1])], [0]] + [[n] for n in range(1, len(ends))]
        numbers = Numbers(seed + 1000)
        for n in range(20):
            k = numbers.below(len(ends))
            j = numbers.below(k + 1)
            p = 1 + numbers.below(len(row))
            calls += [value(k), linked(j, k), scaled(j, k), part(j, k, p), bench(j, k)]
            factor = fund_linked(ends, j, k)
            expected += [[ends[k][0], sum(ends[k][1]), sum(ends[k][2])], two(factor), [factor * 1000000000 // 1],
                         [0] + two(fund_brought(ends, j, k, p)), two(bench_linked(row, ends, j, k))]
        self.assertEqual(ask(*calls), expected)

    def test_what_the_parts_brought_adds_up_to_what_the_fund_made(self):
        for seed in range(100, 120):
            row, ends = made_fund(seed)
            k = len(ends) - 1
            j = k // 3
            asked = [linked(j, k)] + [part(j, k, p) for p in range(1, len(row) + 1)]
            told = ask(*calls_for(row, ends), *asked)[-len(asked):]
            brought = sum(Fraction(answer[1], answer[2]) for answer in told[1:])
            self.assertEqual(brought, Fraction(*told[0]) - 1)


if __name__ == "__main__":
    unittest.main()
