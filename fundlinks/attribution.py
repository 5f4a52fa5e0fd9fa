"""What made the difference between the fund and its benchmark in one period."""

from fundlinks.fund import MILLION
from fundlinks.ratio import least, times
from fundlinks.returns import weighted_factors


def weight_gap(fund, k, place):
    """How much more of the fund than of the benchmark the part was: w - v."""
    behind = fund.ends[k - 1].behind
    whole = sum(behind)
    return least(behind[place] * MILLION - fund.weights[place] * whole, whole * MILLION)


def benchmark_gap(fund, k, place):
    """How much better the part's benchmark did than the whole one: b - B."""
    factor = fund.ends[k].factors[place]
    return least(factor * MILLION - weighted_factors(fund, k), MILLION * MILLION)


def choice_gap(fund, k, place):
    """How much better the part did than its benchmark: r - b."""
    had = fund.ends[k - 1].behind[place]
    if had == 0:
        return (0, 1)
    end = fund.ends[k]
    return least(end.before[place] * MILLION - end.factors[place] * had, had * MILLION)


def made_difference(fund, k, part):
    """Allocation, selection and both of the k-th period, for the part, told from 1 on."""
    place = part - 1
    more = weight_gap(fund, k, place)
    better = choice_gap(fund, k, place)
    allocation = times(more, benchmark_gap(fund, k, place))
    selection = times((fund.weights[place], MILLION), better)
    return (allocation, selection, times(more, better))
