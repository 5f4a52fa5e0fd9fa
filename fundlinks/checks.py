"""What is refused: each function answers the first refusal that holds, or NOTHING_REFUSED."""

from fundlinks.fund import MILLION, part_count, values_behind
from fundlinks.money import GREATEST_RATE, left_over
from fundlinks.returns import averaged_lower

NOTHING_REFUSED = 0
OUT_OF_RANGE = -1
WRONG_ROW = -2
NO_SUCH_END = -4
NOT_AS_TOLD = -6
NOTHING_LEFT = -7
TOO_MANY = -8
NOT_TO_BE_TOLD = -9

MOST_PARTS = 6
MOST_ENDS = 24
MOST_AT_START = 1000000000
MOST_VALUE = 1000000000000
MOST_FACTOR = 10000000
LATEST_TIME = 60
GREATEST_END_NAMED = 60


def all_within(row, low, high):
    """Whether every number of the row is from low to high."""
    return all([low <= number <= high for number in row])


def start_refusal(row):
    """For the values of begin."""
    if not 1 <= len(row) <= MOST_PARTS:
        return WRONG_ROW
    if not all_within(row, 0, MOST_AT_START) or sum(row) < 1:
        return WRONG_ROW
    return NOTHING_REFUSED


def weights_refusal(fund, row):
    """For the row of weights."""
    if len(row) != part_count(fund):
        return WRONG_ROW
    if not all_within(row, 0, MILLION) or sum(row) != MILLION:
        return WRONG_ROW
    return NOTHING_REFUSED


def period_rows_refusal(fund, before, flows, factors):
    """For the form of the three rows of period."""
    for row in (before, flows, factors):
        if len(row) != part_count(fund):
            return WRONG_ROW
    if not all_within(before, 0, MOST_VALUE):
        return WRONG_ROW
    if not all_within(flows, -MOST_VALUE, MOST_VALUE):
        return WRONG_ROW
    if not all_within(factors, 0, MOST_FACTOR):
        return WRONG_ROW
    return NOTHING_REFUSED


def grown_from_nothing(fund, before):
    """Whether a part with nothing behind the last end's flows has a value above 0."""
    last = fund.ends[-1]
    return any([had == 0 and value > 0 for had, value in zip(last.behind, before)])


def period_refusal(fund, time, before, flows, factors):
    """For all that period is given."""
    if not fund.ends[-1].time < time <= LATEST_TIME:
        return OUT_OF_RANGE
    if period_rows_refusal(fund, before, flows, factors) != NOTHING_REFUSED:
        return WRONG_ROW
    if grown_from_nothing(fund, before):
        return NOT_AS_TOLD
    behind = values_behind(before, flows)
    if min(behind) < 0 or sum(behind) < 1:
        return NOTHING_LEFT
    # The beginning is among the ends, but is none of the 24 that may be.
    if len(fund.ends) - 1 >= MOST_ENDS:
        return TOO_MANY
    return NOTHING_REFUSED


def ends_refusal(fund, named):
    """For a list of one or more ends named by number."""
    if not all_within(named, 0, GREATEST_END_NAMED):
        return OUT_OF_RANGE
    if max(named) >= len(fund.ends):
        return NO_SUCH_END
    return NOTHING_REFUSED


def span_refusal(fund, j, k):
    """For the ends j and k, where k may not be less than j."""
    refusal = ends_refusal(fund, [j, k])
    if refusal == NOTHING_REFUSED and k < j:
        return NOT_AS_TOLD
    return refusal


def part_refusal(fund, part):
    """For a part, told from 1 on."""
    if not 1 <= part <= part_count(fund):
        return OUT_OF_RANGE
    return NOTHING_REFUSED


def part_span_refusal(fund, j, k, part):
    """For a part and the ends j and k."""
    refusal = part_refusal(fund, part)
    if refusal != NOTHING_REFUSED:
        return refusal
    return span_refusal(fund, j, k)


def made_refusal(fund, k, part):
    """For a part and the end k of a period: the beginning ends none."""
    refusal = part_refusal(fund, part)
    if refusal != NOTHING_REFUSED:
        return refusal
    refusal = ends_refusal(fund, [k])
    if refusal == NOTHING_REFUSED and k == 0:
        return NOT_AS_TOLD
    return refusal


def averaged_refusal(fund, j, k):
    """For the averaged return from end j to end k, which must be later."""
    refusal = span_refusal(fund, j, k)
    if refusal != NOTHING_REFUSED:
        return refusal
    if j == k:
        return NOT_AS_TOLD
    if averaged_lower(fund, j, k) < 1:
        return NOT_TO_BE_TOLD
    return NOTHING_REFUSED


def no_period_refusal(fund):
    """For what can only be told of a fund with an end besides the beginning."""
    if len(fund.ends) == 1:
        return NOT_TO_BE_TOLD
    return NOTHING_REFUSED


def rate_refusal(fund, rate):
    """For what's left over at so many millionths."""
    if not 0 <= rate <= GREATEST_RATE:
        return OUT_OF_RANGE
    return no_period_refusal(fund)


def money_weighted_refusal(fund):
    """For the money-weighted return, which must lie between nothing and the greatest rate."""
    refusal = no_period_refusal(fund)
    if refusal != NOTHING_REFUSED:
        return refusal
    if left_over(fund, 0) >= 0 or left_over(fund, GREATEST_RATE) < 0:
        return NOT_TO_BE_TOLD
    return NOTHING_REFUSED
