"""Wheels: rounds made of two rounds, whose days are called R days and S days."""

from feastwheel.asks import how_many
from feastwheel.errors import NoNumber
from feastwheel.remains import refuse_below_one
from feastwheel.rounds import both, common_size, days_in, either, later, other_days
from feastwheel.rounds import refuse_too_long, round_by, stretched, unlike, without


def gathered(turn, barred, step, join):
    """Join for each day the round's days from the last barred day up to it; with step -1 from it on to the next one.

    It holds where at least one of these is a day of the round (either), or an odd number of them is (unlike).
    """
    told = turn
    free = other_days(barred)
    stride = step
    # It doubles, since a walk day by day would be long. On a free day no barred day lies within the stride.
    while abs(stride) < turn[0]:
        told = join(told, both(later(told, stride), free))
        free = both(free, later(free, stride))
        stride = 2 * stride
    return told


def upon(R, S):
    """Tell the first R day from each S day on."""
    size = common_size(R, S)
    days = stretched(R, size)
    return both(days, gathered(stretched(S, size), later(days, 1), 1, either))


def until(R, S):
    """Tell the last R day up to each S day."""
    size = common_size(R, S)
    days = stretched(R, size)
    return both(days, gathered(stretched(S, size), later(days, -1), -1, either))


def till(R, S):
    """Tell the days from each R day on that lie ahead of the next S day behind it."""
    size = common_size(R, S)
    return gathered(stretched(R, size), stretched(S, size), 1, either)


def nearer_ahead(R):
    """Tell the days whose nearest R day is not behind them, of two as near the earlier one."""
    days = days_in(R)
    behind = days[1:] + [day + R[0] for day in days[:1]]
    first_nearer = [(day + other) // 2 + 1 for day, other in zip(days, behind)]
    return till(R, round_by(R[0], first_nearer))


def near(R, S):
    """Tell the nearest R day of each S day."""
    early = nearer_ahead(R)
    return either(until(R, both(S, early)), upon(R, without(S, early)))


def kth(number, R, S):
    """Tell the number-th R day of each S day's span, below 0 counted from the span's end."""
    if number == 0:
        raise NoNumber("the days of a span are counted from 1 on or from -1 back")
    size = common_size(R, S)
    step = 1 if number > 0 else -1
    # The days from which is counted: the first one of each span, or the last one.
    ends = stretched(S, size) if number > 0 else later(stretched(S, size), -1)
    days = stretched(R, size)
    place = abs(number)
    # Every second R day of each span is left out, the sought ones staying, until these are the first ones.
    while place > 1 and days[1] > 0:
        odd = both(days, gathered(days, ends, step, unlike))
        days = odd if place % 2 == 1 else without(days, odd)
        place = (place + 1) // 2
    return upon(days, ends) if number > 0 else until(days, ends)


def every(number, R, day):
    """Tell every number-th R day, the first one from day on among them."""
    refuse_below_one(number)
    size = R[0] * number
    refuse_too_long(size)
    days = days_in(R)
    # The R days are numbered through, 0 being the first one from day 0 on.
    first = how_many(R, 0, day) % number
    places = list(range(first, len(days) * number, number))
    return round_by(size, [place // len(days) * R[0] + days[place % len(days)] for place in places])


def mirrored(turn):
    """Tell the days d for which the round holds on -d."""
    return round_by(turn[0], [-day for day in days_in(turn)])
