"""Wheels: rounds made of two rounds, whose days are called R days and S days."""

from feastwheel.asks import how_many
from feastwheel.errors import NoNumber
from feastwheel.remains import refuse_below_one
from feastwheel.rounds import common_size, days_in, full_bits, refuse_too_long, round_by, stretched


def neighbours(R, S, size):
    """Tell for each S day of one round (last R day up to it, S day, first R day from it on)."""
    if R[1] == 0:
        return []
    days = days_in(stretched(R, size))
    # One R day on either side of the round, so that each S day has one ahead and one behind.
    row = [days[-1] - size] + days + [days[0] + size]
    told = []
    place = 0
    for day in days_in(stretched(S, size)):
        while row[place + 1] < day:
            place = place + 1
        behind = row[place + 1]
        ahead = day if behind == day else row[place]
        told.append((ahead, day, behind))
    return told


def upon(R, S):
    """Tell the first R day from each S day on."""
    size = common_size(R, S)
    return round_by(size, [found[2] for found in neighbours(R, S, size)])


def until(R, S):
    """Tell the last R day up to each S day."""
    size = common_size(R, S)
    return round_by(size, [found[0] for found in neighbours(R, S, size)])


def nearer(found):
    """Tell the nearer one of the R days beside an S day, of two as near the earlier one."""
    if found[1] - found[0] <= found[2] - found[1]:
        return found[0]
    return found[2]


def near(R, S):
    """Tell the nearest R day of each S day."""
    size = common_size(R, S)
    return round_by(size, [nearer(found) for found in neighbours(R, S, size)])


def spans(R, S, size):
    """Tell for the span of each S day of one round (its R days in their order, next S day)."""
    begins = days_in(stretched(S, size))
    if len(begins) == 0:
        return []
    days = days_in(stretched(R, size))
    # The last span goes on into the next round, up to the first S day there.
    row = [day for day in days if day >= begins[0]] + [day + size for day in days if day < begins[0]]
    told = []
    place = 0
    for end in begins[1:] + [begins[0] + size]:
        first = place
        while place < len(row) and row[place] < end:
            place = place + 1
        told.append((row[first:place], end))
    return told


def till(R, S):
    """Tell the days from each R day on that lie ahead of the next S day behind it."""
    size = common_size(R, S)
    if R[1] > 0 and S[1] == 0:
        return (size, full_bits(size))
    days = []
    for span in spans(R, S, size):
        if len(span[0]) > 0:
            days.extend(list(range(span[0][0], span[1])))
    return round_by(size, days)


def kth(number, R, S):
    """Tell the number-th R day of each S day's span, below 0 counted from the span's end."""
    if number == 0:
        raise NoNumber("the days of a span are counted from 1 on or from -1 back")
    size = common_size(R, S)
    place = number - 1 if number > 0 else number
    full = [span[0] for span in spans(R, S, size) if len(span[0]) >= abs(number)]
    return round_by(size, [days[place] for days in full])


def every(number, R, day):
    """Tell every number-th R day, the first one from day on among them."""
    refuse_below_one(number)
    size = R[0] * number
    refuse_too_long(size)
    days = days_in(R)
    # The R days are numbered through, 0 being the first one from day 0 on.
    first = how_many(R, 0, day) % number
    places = list(range(first, len(days) * number, number))
    return round_by(size, [place // len(days) * R[0] + days[place % len(days)] for place in places])


def mirrored(turn):
    """Tell the days d for which the round holds on -d."""
    return round_by(turn[0], [-day for day in days_in(turn)])
