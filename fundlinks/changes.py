"""The calls that change a fund; each gives back the list of what is answered."""

from fundlinks.checks import NOTHING_REFUSED, period_refusal, start_refusal, weights_refusal
from fundlinks.fund import End


def begin(fund, parts):
    """All is new, with parts of these values."""
    refusal = start_refusal(parts)
    if refusal != NOTHING_REFUSED:
        return [refusal]
    fund.start_anew(parts)
    return [sum(parts)]


def change_weights(fund, row):
    """The benchmark's weights for all periods, told ones too."""
    refusal = weights_refusal(fund, row)
    if refusal != NOTHING_REFUSED:
        return [refusal]
    fund.weights = row
    return [0]


def add_period(fund, time, before, flows, factors):
    """A new end behind the last one."""
    refusal = period_refusal(fund, time, before, flows, factors)
    if refusal != NOTHING_REFUSED:
        return [refusal]
    number = len(fund.ends)
    fund.ends.append(End(time, before, flows, factors))
    return [number]
