"""Wheels: rounds made of two rounds, whose days are called R days and S days."""

from feastwheel.asks import how_many
from feastwheel.errors import NoNumber
from feastwheel.remains import refuse_below_one
from feastwheel.rounds import both, common_size, days_in, either, later, other_days
from feastwheel.rounds import refuse_too_long, round_by, stretched, without


def reached(seeds, closed, step):
    """Tell the seeds and the days come to from them, forth (step 1) or back (-1); no closed day is left again."""
    told = seeds
    stride = step
    free = other_days(closed)
    # One may go on by the stride from the free days. It doubles, since a walk day by day would be long.
    while abs(stride) < seeds[0]:
        told = either(told, later(both(told, free), stride))
        free = both(free, later(free, -stride))
        stride = 2 * stride
    return told


def upon(R, S):
    """Tell the first R day from each S day on."""
    size = common_size(R, S)
    days = stretched(R, size)
    return both(days, reached(stretched(S, size), days, 1))


def until(R, S):
    """Tell the last R day up to each S day."""
    size = common_size(R, S)
    days = stretched(R, size)
    return both(days, reached(stretched(S, size), days, -1))


def till(R, S):
    """Tell the days from each R day on that lie ahead of the next S day behind it."""
    size = common_size(R, S)
    return reached(stretched(R, size), later(stretched(S, size), -1), 1)


def nearer_ahead(R):
    """Tell the days whose nearest R day is not behind them, of two as near the earlier one."""
    days = days_in(R)
    behind = days[1:] + [day + R[0] for day in days[:1]]
    first_nearer = [(day + other) // 2 + 1 for day, other in zip(days, behind)]
    return till(R, round_by(R[0], first_nearer))


def near(R, S):
    """Tell the nearest R day of each S day."""
    early = nearer_ahead(R)
    return either(until(R, both(S, early)), upon(R, without(S, early)))


def spans(R, S, size):
    """Tell for the span of each S day of one round its R days in their order."""
    begins = days_in(stretched(S, size))
    if len(begins) == 0:
        return []
    days = days_in(stretched(R, size))
    # The last span goes on into the next round, up to the first S day there.
    row = [day for day in days if day >= begins[0]] + [day + size for day in days if day < begins[0]]
    told = []
    place = 0
    for end in begins[1:] + [begins[0] + size]:
        first = place
        while place < len(row) and row[place] < end:
            place = place + 1
        told.append(row[first:place])
    return told


def kth(number, R, S):
    """Tell the number-th R day of each S day's span, below 0 counted from the span's end."""
    if number == 0:
        raise NoNumber("the days of a span are counted from 1 on or from -1 back")
    size = common_size(R, S)
    place = number - 1 if number > 0 else number
    return round_by(size, [span[place] for span in spans(R, S, size) if len(span) >= abs(number)])


def every(number, R, day):
    """Tell every number-th R day, the first one from day on among them."""
    refuse_below_one(number)
    size = R[0] * number
    refuse_too_long(size)
    days = days_in(R)
    # The R days are numbered through, 0 being the first one from day 0 on.
    first = how_many(R, 0, day) % number
    places = list(range(first, len(days) * number, number))
    return round_by(size, [place // len(days) * R[0] + days[place % len(days)] for place in places])


def mirrored(turn):
    """Tell the days d for which the round holds on -d."""
    return round_by(turn[0], [-day for day in days_in(turn)])
