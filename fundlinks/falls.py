"""The greatest fall of a fund."""

from fundlinks.ratio import least


def greatest_fall(fund):
    """The ends j and k of the least linked factor, and this factor."""
    before = [sum(end.before) for end in fund.ends]
    behind = [sum(end.behind) for end in fund.ends]
    fall_from = 0
    fall_to = 0
    fall_over = 1
    fall_under = 1
    # Ends behind the loss of all need no leaving out: the fall from 0 to that loss comes first, and none is greater.
    for j in range(len(fund.ends)):
        over = 1
        under = 1
        for k in range(j + 1, len(fund.ends)):
            over = over * before[k]
            under = under * behind[k - 1]
            if over * fall_under < fall_over * under:
                fall_from = j
                fall_to = k
                fall_over = over
                fall_under = under
    return (fall_from, fall_to, least(fall_over, fall_under))
