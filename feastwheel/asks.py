"""Asks of rounds: the next day and the last one, how many days, the so-many-th."""

from feastwheel.errors import NoNumber
from feastwheel.rounds import bits_by, full_bits, later


def next_day(turn, day):
    """Tell the first day from day on on which the round holds, or None."""
    # Bit number k of these stands for the day k days behind the one asked for.
    bits = later(turn, -day)[1]
    if bits == 0:
        return None
    return day + (bits & -bits).bit_length() - 1


def last_day(turn, day):
    """Tell the last day up to day on which the round holds, or None."""
    # The highest of these bits stands for the day asked for, the others for those ahead of it.
    bits = later(turn, -day - 1)[1]
    if bits == 0:
        return None
    return day + bits.bit_length() - turn[0]


def ones_in(bits):
    """Tell how many of the bits are 1."""
    # The bits are a row of fields of one width, each the sum of the bits that lay there.
    # Fields are added in pairs, all at once, until only the lowest one is left.
    fields = bits
    width = 1
    while fields >> width > 0:
        each_second = bits_by((2 * width, full_bits(width)), fields.bit_length())
        fields = (fields & each_second) + ((fields >> width) & each_second)
        width = 2 * width
    return fields


def days_ahead(turn, day):
    """Tell how many days from day 0 on and ahead of a day, below 0 for a day below 0."""
    part = turn[1] & full_bits(day % turn[0])
    return day // turn[0] * ones_in(turn[1]) + ones_in(part)


def how_many(turn, first, end):
    """Tell on how many days from first on and ahead of end the round holds."""
    return days_ahead(turn, end) - days_ahead(turn, first)


def place_of_one(bits, number):
    """Tell the place of the bit that is 1 and has just so many ones below it."""
    left = bits
    sought = number
    place = 0
    width = bits.bit_length()
    while width > 1:
        half = width // 2
        below = left & full_bits(half)
        ones = ones_in(below)
        if sought < ones:
            left = below
            width = half
        else:
            left = left >> half
            sought = sought - ones
            place = place + half
            width = width - half
    return place


def nth_day(turn, day, number):
    """Tell the number-th day from day on, or below 0 up to it and counted back, or None."""
    if number == 0:
        raise NoNumber("days are counted from 1 on or from -1 back")
    if turn[1] == 0:
        return None
    # The days of the round are numbered through, 0 being the first one from day 0 on.
    if number > 0:
        index = days_ahead(turn, day) + number - 1
    else:
        index = days_ahead(turn, day + 1) + number
    ones = ones_in(turn[1])
    return index // ones * turn[0] + place_of_one(turn[1], index % ones)
