"""The calls that only tell how a fund did; each gives back the list of what is answered."""

from fundlinks.checks import NOTHING_REFUSED, ends_refusal, part_span_refusal, span_refusal
from fundlinks.returns import brought, linked_benchmark, linked_factor

SCALE = 1000000000


def tell_value(fund, k):
    """The time of end k, and all values before and behind its flows."""
    refusal = ends_refusal(fund, [k])
    if refusal != NOTHING_REFUSED:
        return [refusal]
    end = fund.ends[k]
    return [end.time, sum(end.before), sum(end.behind)]


def tell_linked(fund, j, k):
    """The linked factor from end j to end k."""
    refusal = span_refusal(fund, j, k)
    if refusal != NOTHING_REFUSED:
        return [refusal]
    return list(linked_factor(fund, j, k))


def tell_scaled(fund, j, k):
    """The linked factor in billionths, rounded down."""
    refusal = span_refusal(fund, j, k)
    if refusal != NOTHING_REFUSED:
        return [refusal]
    factor = linked_factor(fund, j, k)
    return [factor[0] * SCALE // factor[1]]


def tell_part(fund, j, k, part):
    """What the part brought from end j to end k."""
    refusal = part_span_refusal(fund, j, k, part)
    if refusal != NOTHING_REFUSED:
        return [refusal]
    # What it brought may be below 0, so a 0 stands before it: else it would look like a refusal.
    return [0] + list(brought(fund, j, k, part))


def tell_bench(fund, j, k):
    """The benchmark's linked factor from end j to end k."""
    refusal = span_refusal(fund, j, k)
    if refusal != NOTHING_REFUSED:
        return [refusal]
    return list(linked_benchmark(fund, j, k))
