"""The calls that only tell how a fund did; each gives back the list of what is answered."""

from fundlinks.attribution import made_difference
from fundlinks.checks import NOTHING_REFUSED, averaged_refusal, ends_refusal, made_refusal, money_weighted_refusal
from fundlinks.checks import part_span_refusal, rate_refusal, span_refusal
from fundlinks.falls import greatest_fall
from fundlinks.fund import part_count
from fundlinks.money import left_over, money_weighted
from fundlinks.ratio import least
from fundlinks.returns import averaged_lower, averaged_upper, brought, linked_benchmark, linked_factor

SCALE = 1000000000

SAME = 0
GREATER = 1
LESS = 2


def compared(first, second):
    """Whether the first number is greater than the second, less, or the same."""
    if first > second:
        return GREATER
    if first < second:
        return LESS
    return SAME


def tell_value(fund, k):
    """The time of end k, and all values before and behind its flows."""
    refusal = ends_refusal(fund, [k])
    if refusal != NOTHING_REFUSED:
        return [refusal]
    end = fund.ends[k]
    return [end.time, sum(end.before), sum(end.behind)]


def tell_linked(fund, j, k):
    """The linked factor from end j to end k."""
    refusal = span_refusal(fund, j, k)
    if refusal != NOTHING_REFUSED:
        return [refusal]
    return list(linked_factor(fund, j, k))


def tell_scaled(fund, j, k):
    """The linked factor in billionths, rounded down."""
    refusal = span_refusal(fund, j, k)
    if refusal != NOTHING_REFUSED:
        return [refusal]
    factor = linked_factor(fund, j, k)
    return [factor[0] * SCALE // factor[1]]


def tell_part(fund, j, k, part):
    """What the part brought from end j to end k."""
    refusal = part_span_refusal(fund, j, k, part)
    if refusal != NOTHING_REFUSED:
        return [refusal]
    # What it brought may be below 0, so a 0 stands before it: else it would look like a refusal.
    return [0] + list(brought(fund, j, k, part))


def tell_bench(fund, j, k):
    """The benchmark's linked factor from end j to end k."""
    refusal = span_refusal(fund, j, k)
    if refusal != NOTHING_REFUSED:
        return [refusal]
    return list(linked_benchmark(fund, j, k))


def tell_beats(fund, j, k):
    """Whether the fund did better than its benchmark from end j to end k."""
    refusal = span_refusal(fund, j, k)
    if refusal != NOTHING_REFUSED:
        return [refusal]
    own = linked_factor(fund, j, k)
    benchmark = linked_benchmark(fund, j, k)
    return [compared(own[0] * benchmark[1], benchmark[0] * own[1])]


def tell_made(fund, k, part):
    """What made the difference in the k-th period, for the part."""
    refusal = made_refusal(fund, k, part)
    if refusal != NOTHING_REFUSED:
        return [refusal]
    told = [0]
    for fraction in made_difference(fund, k, part):
        told.extend(fraction)
    return told


def tell_irr(fund):
    """The money-weighted return."""
    refusal = money_weighted_refusal(fund)
    if refusal != NOTHING_REFUSED:
        return [refusal]
    return [money_weighted(fund)]


def tell_sign(fund, rate):
    """Whether what's left over at so many millionths is above 0, below, or nothing."""
    refusal = rate_refusal(fund, rate)
    if refusal != NOTHING_REFUSED:
        return [refusal]
    return [compared(left_over(fund, rate), 0)]


def tell_fall(fund):
    """The ends of the greatest fall, and the linked factor between them."""
    fall = greatest_fall(fund)
    return [fall[0], fall[1]] + list(fall[2])


def tell_dietz(fund, j, k):
    """The averaged return from end j to end k."""
    refusal = averaged_refusal(fund, j, k)
    if refusal != NOTHING_REFUSED:
        return [refusal]
    return [0] + list(least(averaged_upper(fund, j, k), averaged_lower(fund, j, k)))


def tell_counts(fund):
    """How many parts and how many ends without the beginning there are, and the last end's time."""
    return [part_count(fund), len(fund.ends) - 1, fund.ends[-1].time]
