"""How the fund, its parts and its benchmark did between two ends.

Products are brought to least terms only once, at the end: that is exact all the same, and quicker.
"""

from fundlinks.fund import MILLION, all_flows
from fundlinks.ratio import least


def linked_factor(fund, j, k):
    """The fund's linked factor from end j to end k."""
    over = 1
    under = 1
    for m in range(j + 1, k + 1):
        over = over * sum(fund.ends[m].before)
        under = under * sum(fund.ends[m - 1].behind)
    return least(over, under)


def brought(fund, j, k, part):
    """What the part, told from 1 on, brought from end j to end k."""
    place = part - 1
    gained = 0
    linked = 1
    under = 1
    for m in range(j + 1, k + 1):
        first = fund.ends[m - 1]
        last = fund.ends[m]
        whole = sum(first.behind)
        gain = last.before[place] - first.behind[place]
        # What is gained so far and the linked factor so far are both over the same under.
        gained = gained * whole + linked * gain
        linked = linked * sum(last.before)
        under = under * whole
    return least(gained, under)


def weighted_factors(fund, k):
    """The weights times the parts' benchmark factors of the k-th period, added up."""
    return sum([weight * factor for weight, factor in zip(fund.weights, fund.ends[k].factors)])


def linked_benchmark(fund, j, k):
    """The benchmark's linked factor from end j to end k."""
    over = 1
    under = 1
    for m in range(j + 1, k + 1):
        over = over * weighted_factors(fund, m)
        under = under * MILLION * MILLION
    return least(over, under)


def averaged_upper(fund, j, k):
    """The upper part of the averaged return from end j to the later end k."""
    first = fund.ends[j]
    last = fund.ends[k]
    flows = sum([all_flows(end) for end in fund.ends[j + 1:k]])
    return (sum(last.before) - sum(first.behind) - flows) * (last.time - first.time)


def averaged_lower(fund, j, k):
    """The lower part of the averaged return from end j to the later end k; it may be below 1."""
    first = fund.ends[j]
    last = fund.ends[k]
    flows = sum([all_flows(end) * (last.time - end.time) for end in fund.ends[j + 1:k]])
    return sum(first.behind) * (last.time - first.time) + flows
