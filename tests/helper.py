"""Builds calls, asks the program, and keeps the fund that many tests speak of."""

from fundlinks.desk import answers

LOWEST = -9223372036854775808
HIGHEST = 9223372036854775807


def begin(values):
    return [0, len(values)] + list(values)


def weights(row):
    return [1, len(row)] + list(row)


def period(time, values, flows, factors):
    call = [2, time]
    for row in (values, flows, factors):
        call += [len(row)] + list(row)
    return call


def value(k):
    return [3, k]


def linked(j, k):
    return [4, j, k]


def scaled(j, k):
    return [5, j, k]


def part(j, k, number):
    return [6, j, k, number]


def bench(j, k):
    return [7, j, k]


def beats(j, k):
    return [8, j, k]


def made(k, number):
    return [9, k, number]


def irr():
    return [10]


def sign(n):
    return [11, n]


def fall():
    return [12]


def dietz(j, k):
    return [13, j, k]


def counts():
    return [14]


def ask(*calls):
    """What each call answers, a list a call."""
    told = answers([number for call in calls for number in call])
    split = []
    place = 0
    while place < len(told):
        count = told[place]
        split.append(told[place + 1:place + 1 + count])
        place += 1 + count
    if place != len(told) or len(split) != len(calls):
        raise AssertionError(f"{len(calls)} calls, but told was {told}")
    return split


def last(*calls):
    """What the last of the calls answers."""
    return ask(*calls)[-1]


# Factors of the fund: 11/10, 124/113, 17/23. Of the benchmark: 103/100, 19/20, 29/20.
THREE_PARTS = [
    begin([50, 30, 20]),
    weights([500000, 300000, 200000]),
    period(2, [60, 27, 23], [10, -7, 0], [1100000, 1000000, 900000]),
    period(5, [84, 10, 30], [-84, 0, 6], [1200000, 500000, 1000000]),
    period(9, [0, 12, 22], [5, -12, 0], [2000000, 1000000, 750000]),
]


def still(count, first_time=1):
    """So many periods of one part in which nothing happens; the part has value 1."""
    return [period(first_time + n, [1], [0], [1000000]) for n in range(count)]


def picture(parts, ends):
    """Calls whose answers together tell all that the fund keeps, for so many parts and ends."""
    calls = [value(k) for k in range(ends + 2)]
    for k in range(1, ends + 1):
        calls += [bench(k - 1, k)] + [part(k - 1, k, p) for p in range(1, parts + 2)]
    return calls


def told_around(fund, call, parts, ends):
    """What the call answers behind the fund's calls, and whether the fund's picture is the same before and behind."""
    views = picture(parts, ends)
    told = ask(*fund, *views, call, *views)[len(fund):]
    return told[len(views)], told[:len(views)] == told[len(views) + 1:]
