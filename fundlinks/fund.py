"""What a fund keeps: its benchmark's weights, and the ends of its periods."""

MILLION = 1000000


def values_behind(before, flows):
    """What each part has behind its flow."""
    return [value + flow for value, flow in zip(before, flows)]


class End:
    """One end: its time and, a number for each part, values, and the benchmark's factors of its period."""

    def __init__(self, time, before, flows, factors):
        self.time = time
        self.before = before
        self.behind = values_behind(before, flows)
        self.factors = factors


class Fund:
    """A fund; end 0, the beginning, is always there."""

    def __init__(self):
        self.start_anew([1])

    def start_anew(self, parts):
        """Forgets all, and has parts with these values."""
        others = len(parts) - 1
        self.weights = [MILLION] + [0] * others
        self.ends = [End(0, parts, [0] * len(parts), [])]


def part_count(fund):
    """How many parts the fund has."""
    return len(fund.ends[0].before)


def all_flows(end):
    """All flows of the end together."""
    return sum(end.behind) - sum(end.before)
