"""The money-weighted return, in millionths for each unit of time."""

from fundlinks.fund import MILLION, all_flows

GREATEST_RATE = 10000000


def power(base, exponent):
    """The base times itself, as often as the exponent says."""
    result = 1
    for done in range(exponent):
        result = result * base
    return result


def left_over(fund, rate):
    """What's left over at so many millionths; there is an end besides the beginning."""
    left = sum(fund.ends[0].before)
    scale = 1
    for m in range(1, len(fund.ends)):
        passed = fund.ends[m].time - fund.ends[m - 1].time
        left = left * power(rate, passed)
        # The scale keeps each flow's power of a million, which is that of its own time.
        scale = scale * power(MILLION, passed)
        if m < len(fund.ends) - 1:
            left = left + all_flows(fund.ends[m]) * scale
    return left - sum(fund.ends[-1].before) * scale


def money_weighted(fund):
    """The money-weighted return, found by halving."""
    low = 0
    high = GREATEST_RATE
    while high > low + 1:
        middle = (low + high) // 2
        if left_over(fund, middle) < 0:
            low = middle
        else:
            high = middle
    return low
