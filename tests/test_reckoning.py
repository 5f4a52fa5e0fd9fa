"""Many funds, reckoned a second time with Python's own fractions, straight from the document's words."""

import unittest
from fractions import Fraction

from tests.helper import (ask, beats, begin, bench, counts, dietz, fall, irr, linked, made, part, period, scaled, sign,
                          value, weights)


class Numbers:
    """Numbers that look chosen by chance, but are the same at every run."""

    def __init__(self, seed):
        self.state = seed

    def below(self, bound):
        self.state = (self.state * 6364136223846793005 + 1442695040888963407) % 2 ** 64
        return (self.state >> 33) % bound


def made_weights(numbers, parts):
    left = 1000000
    row = []
    for n in range(parts - 1):
        row.append(numbers.below(left + 1))
        left -= row[-1]
    return row + [left]


def made_fund(seed):
    """Weights, and the ends: time, values before flows, values behind flows, benchmark factors."""
    numbers = Numbers(seed)
    parts = 1 + numbers.below(6)
    bound = (10, 1000, 1000000000)[numbers.below(3)]
    start = [numbers.below(bound) for n in range(parts)]
    start[0] += 1 if sum(start) == 0 else 0
    ends = [(0, start, start, [])]
    for n in range(1 + numbers.below(24)):
        before = [numbers.below(2 * had + 1) for had in ends[-1][2]]
        behind = [numbers.below(bound) if numbers.below(2) else had for had in before]
        behind[-1] += 1 if sum(behind) == 0 else 0
        ends.append((ends[-1][0] + 1 + numbers.below(2), before, behind,
                     [numbers.below(10000001) for p in range(parts)]))
    return made_weights(numbers, parts), ends


def calls_for(row, ends):
    calls = [begin(ends[0][1]), weights(row)]
    for time, before, behind, factors in ends[1:]:
        calls.append(period(time, before, [b - a for a, b in zip(before, behind)], factors))
    return calls


def fund_factor(ends, k):
    return Fraction(sum(ends[k][1]), sum(ends[k - 1][2]))


def fund_linked(ends, j, k):
    linked_so_far = Fraction(1)
    for m in range(j + 1, k + 1):
        linked_so_far *= fund_factor(ends, m)
    return linked_so_far


def fund_brought(ends, j, k, p):
    total = Fraction(0)
    for m in range(j + 1, k + 1):
        gain = ends[m][1][p - 1] - ends[m - 1][2][p - 1]
        total += fund_linked(ends, j, m - 1) * Fraction(gain, sum(ends[m - 1][2]))
    return total


def bench_linked(row, ends, j, k):
    linked_so_far = Fraction(1)
    for m in range(j + 1, k + 1):
        linked_so_far *= Fraction(sum(w * b for w, b in zip(row, ends[m][3])), 1000000000000)
    return linked_so_far


def total_flows(ends, m):
    return sum(ends[m][2]) - sum(ends[m][1])


def which(first, second):
    return [1 if first > second else 2 if first < second else 0]


def fund_averaged(ends, j, k):
    """The averaged return's upper and lower part."""
    length = ends[k][0] - ends[j][0]
    gain = sum(ends[k][1]) - sum(ends[j][2])
    lower = sum(ends[j][2]) * length
    for m in range(j + 1, k):
        gain -= total_flows(ends, m)
        lower += total_flows(ends, m) * (ends[k][0] - ends[m][0])
    return gain * length, lower


def averaged_answer(ends, j, k):
    upper, lower = fund_averaged(ends, j, k)
    return [-9] if lower < 1 else [0] + two(Fraction(upper, lower))


def made_answer(row, ends, k, p):
    had = ends[k - 1][2]
    w = Fraction(had[p - 1], sum(had))
    v = Fraction(row[p - 1], 1000000)
    b = Fraction(ends[k][3][p - 1], 1000000)
    whole = bench_linked(row, ends, k - 1, k)
    r = Fraction(ends[k][1][p - 1], had[p - 1]) if had[p - 1] else b
    return [0] + two((w - v) * (b - whole)) + two(v * (r - b)) + two((w - v) * (r - b))


def fund_left(ends, n):
    t = ends[-1][0]
    left = sum(ends[0][1]) * n ** t
    for m in range(1, len(ends) - 1):
        left += total_flows(ends, m) * n ** (t - ends[m][0]) * 1000000 ** ends[m][0]
    return left - sum(ends[-1][1]) * 1000000 ** t


def irr_answer(ends):
    if fund_left(ends, 0) >= 0 or fund_left(ends, 10000000) < 0:
        return [-9]
    lo = 0
    hi = 10000000
    while hi > lo + 1:
        m = (lo + hi) // 2
        if fund_left(ends, m) < 0:
            lo = m
        else:
            hi = m
    return [lo]


def fall_answer(ends):
    pairs = [(fund_linked(ends, j, k), j, k) for k in range(len(ends)) for j in range(k + 1)
             if fund_linked(ends, 0, j) != 0]
    factor, j, k = min(pairs)
    return [j, k] + two(factor)


def two(fraction):
    return [fraction.numerator, fraction.denominator]


class AgainstFractions(unittest.TestCase):
    def test_forty_funds(self):
        for seed in range(40):
            with self.subTest(seed=seed):
                self.compare(seed)

    def compare(self, seed):
        row, ends = made_fund(seed)
        calls = calls_for(row, ends)
        expected = [[sum(ends[0][1])], [0]] + [[n] for n in range(1, len(ends))]
        numbers = Numbers(seed + 1000)
        for n in range(20):
            k = numbers.below(len(ends))
            j = numbers.below(k + 1)
            p = 1 + numbers.below(len(row))
            calls += [value(k), linked(j, k), scaled(j, k), part(j, k, p), bench(j, k), beats(j, k)]
            factor = fund_linked(ends, j, k)
            benchmark = bench_linked(row, ends, j, k)
            expected += [[ends[k][0], sum(ends[k][1]), sum(ends[k][2])], two(factor), [factor * 1000000000 // 1],
                         [0] + two(fund_brought(ends, j, k, p)), two(benchmark), which(factor, benchmark)]
            calls += [made(k, p), dietz(j, k)]
            expected += [made_answer(row, ends, k, p) if k > 0 else [-6],
                         averaged_answer(ends, j, k) if j < k else [-6]]
            rate = numbers.below((3, 1000000, 2000000, 10000001)[numbers.below(4)])
            calls += [sign(rate)]
            expected += [which(fund_left(ends, rate), 0)]
        calls += [irr(), fall(), counts()]
        expected += [irr_answer(ends), fall_answer(ends), [len(row), len(ends) - 1, ends[-1][0]]]
        self.assertEqual(ask(*calls), expected)

    def test_what_made_the_difference_adds_up_to_it(self):
        for seed in range(200, 220):
            row, ends = made_fund(seed)
            k = len(ends) - 1
            asked = [linked(k - 1, k), bench(k - 1, k)] + [made(k, p) for p in range(1, len(row) + 1)]
            told = ask(*calls_for(row, ends), *asked)[-len(asked):]
            together = sum(Fraction(*answer[n:n + 2]) for answer in told[2:] for n in (1, 3, 5))
            self.assertEqual(together, Fraction(*told[0]) - Fraction(*told[1]))

    def test_the_return_lies_where_the_sign_changes(self):
        found = 0
        for seed in range(300, 340):
            calls = calls_for(*made_fund(seed))
            answer = ask(*calls, irr())[-1]
            if answer != [-9]:
                told = ask(*calls, sign(answer[0]), sign(answer[0] + 1))[-2:]
                self.assertEqual(told[0], [2])
                self.assertIn(told[1], ([0], [1]))
                found += 1
        self.assertGreater(found, 10)

    def test_what_the_parts_brought_adds_up_to_what_the_fund_made(self):
        for seed in range(100, 120):
            row, ends = made_fund(seed)
            k = len(ends) - 1
            j = k // 3
            asked = [linked(j, k)] + [part(j, k, p) for p in range(1, len(row) + 1)]
            told = ask(*calls_for(row, ends), *asked)[-len(asked):]
            brought = sum(Fraction(answer[1], answer[2]) for answer in told[1:])
            self.assertEqual(brought, Fraction(*told[0]) - 1)


if __name__ == "__main__":
    unittest.main()
