"""Remainders: divisors, what is common to numbers, and days alike by a size."""

from feastwheel.errors import NoNumber


def refuse_below_one(number):
    """Refuse a size, or a number that must be one from 1 on."""
    if number < 1:
        raise NoNumber("a number from 1 on is asked for")


def divisor(one, other):
    """Tell the greatest number that divides both, without a sign."""
    return equation(one, other)[2]


def equation(one, other):
    """Tell (u, v, g): u times one and v times other come to g, their divisor."""
    # Each row (u, v, r) keeps to u times one and v times other being r.
    row = (1, 0, one)
    below = (0, 1, other)
    while below[2] != 0:
        times = row[2] // below[2]
        rest = (row[0] - times * below[0], row[1] - times * below[1], row[2] - times * below[2])
        row = below
        below = rest
    if row[2] < 0:
        return (-row[0], -row[1], -row[2])
    return row


def common(one, other):
    """Tell the least number from 1 on that both numbers divide."""
    refuse_below_one(one)
    refuse_below_one(other)
    return one // divisor(one, other) * other


def met(rest, size, other_rest, other_size):
    """Tell the days alike to both remainders as (remainder, common size), or None."""
    refuse_below_one(size)
    refuse_below_one(other_size)
    parts = equation(size, other_size)
    apart = other_rest - rest
    if apart % parts[2] != 0:
        return None
    common_size = common(size, other_size)
    # parts[0] * size is the divisor more than a multiple of other_size, so as many
    # times that as the divisor goes into the distance leads from rest to other_rest.
    day = rest + apart // parts[2] * parts[0] * size
    return (day % common_size, common_size)


def ahead(rest, size, day):
    """Tell the first day from day on that is alike to rest by size."""
    refuse_below_one(size)
    return day + (rest - day) % size


def back(rest, size, day):
    """Tell the last day up to day that is alike to rest by size."""
    refuse_below_one(size)
    return day - (day - rest) % size
