"""Fractions in least terms, told as a tuple: numerator, denominator."""


def common_divisor(first, second):
    """The greatest number that divides both; first may be below 0."""
    greater = abs(first)
    lesser = abs(second)
    while lesser > 0:
        rest = greater % lesser
        greater = lesser
        lesser = rest
    return greater


def least(over, under):
    """The fraction over / under in least terms; under is 1 or more."""
    divisor = common_divisor(over, under)
    return (over // divisor, under // divisor)


def times(first, second):
    """Two fractions multiplied."""
    return least(first[0] * second[0], first[1] * second[1])
