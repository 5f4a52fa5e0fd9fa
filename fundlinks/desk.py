"""Answers a list of calls on one fund that is new at the list's beginning."""

from fundlinks.changes import add_period, begin, change_weights
from fundlinks.fund import Fund
from fundlinks.tellings import tell_beats, tell_bench, tell_counts, tell_dietz, tell_fall, tell_irr, tell_linked
from fundlinks.tellings import tell_made, tell_part, tell_scaled, tell_sign, tell_value

BEGIN = 0
WEIGHTS = 1
PERIOD = 2
VALUE = 3
LINKED = 4
SCALED = 5
PART = 6
BENCH = 7
BEATS = 8
MADE = 9
IRR = 10
SIGN = 11
FALL = 12
DIETZ = 13
COUNTS = 14


class UnknownCall(ValueError):
    """No call has this number."""


class Reader:
    """Goes through a list of numbers from its beginning, and changes nothing in it."""

    def __init__(self, numbers):
        self.numbers = numbers
        self.place = 0

    def has_more(self):
        """Whether a number is left."""
        return self.place < len(self.numbers)

    def take_number(self):
        """The number that comes now."""
        number = self.numbers[self.place]
        self.place = self.place + 1
        return number

    def take_numbers(self, count):
        """The numbers that come now, as many as count, in a list of their own."""
        start = self.place
        self.place = start + count
        return self.numbers[start:self.place]

    def take_row(self):
        """The row that comes now, told behind how many numbers it has."""
        return self.take_numbers(self.take_number())


def answer_change(fund, reader, call):
    """The answer to a call that changes the fund."""
    if call == BEGIN:
        return begin(fund, reader.take_row())
    if call == WEIGHTS:
        return change_weights(fund, reader.take_row())
    time = reader.take_number()
    before = reader.take_row()
    flows = reader.take_row()
    factors = reader.take_row()
    return add_period(fund, time, before, flows, factors)


def answer_span(fund, reader, call):
    """The answer to a call that begins with the ends j and k."""
    j = reader.take_number()
    k = reader.take_number()
    if call == LINKED:
        return tell_linked(fund, j, k)
    if call == SCALED:
        return tell_scaled(fund, j, k)
    if call == PART:
        return tell_part(fund, j, k, reader.take_number())
    if call == BENCH:
        return tell_bench(fund, j, k)
    if call == BEATS:
        return tell_beats(fund, j, k)
    return tell_dietz(fund, j, k)


def answer_made(fund, reader):
    """The answer to made, which names an end and a part."""
    k = reader.take_number()
    return tell_made(fund, k, reader.take_number())


def answer_alone(fund, call):
    """The answer to a call that is its number alone."""
    if call == IRR:
        return tell_irr(fund)
    if call == FALL:
        return tell_fall(fund)
    return tell_counts(fund)


def answer_call(fund, reader):
    """The answer to the call that comes now."""
    call = reader.take_number()
    if call in (BEGIN, WEIGHTS, PERIOD):
        return answer_change(fund, reader, call)
    if call == VALUE:
        return tell_value(fund, reader.take_number())
    if call in (LINKED, SCALED, PART, BENCH, BEATS, DIETZ):
        return answer_span(fund, reader, call)
    if call == MADE:
        return answer_made(fund, reader)
    if call == SIGN:
        return tell_sign(fund, reader.take_number())
    if call in (IRR, FALL, COUNTS):
        return answer_alone(fund, call)
    raise UnknownCall(f"no call has the number {call}")


def answers(calls):
    """For each call in order: how many numbers are answered, then these."""
    reader = Reader(calls)
    fund = Fund()
    told = []
    while reader.has_more():
        answer = answer_call(fund, reader)
        told.append(len(answer))
        told.extend(answer)
    return told
