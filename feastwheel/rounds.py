"""Rounds: sets of days that come again, as tuples (size, bits)."""

from feastwheel.errors import NoNumber, TooLong
from feastwheel.remains import common, refuse_below_one

LONGEST = 150000
# Bits are put together and taken apart in pieces of this many, since a step over all
# the bits of a long round for each of its days would be slow.
PIECE = 256


def refuse_too_long(size):
    """Refuse a size that no round may have for its length."""
    if size > LONGEST:
        raise TooLong(size)


def round_by(size, days):
    """Tell the round of this size that holds on the days and on all alike to them."""
    refuse_below_one(size)
    refuse_too_long(size)
    pieces = [0] * (size // PIECE + 1)
    for day in days:
        place = day % size
        pieces[place // PIECE] = pieces[place // PIECE] | (1 << (place % PIECE))
    bits = 0
    for number in range(len(pieces)):
        bits = bits | (pieces[number] << (number * PIECE))
    return (size, bits)


def days_in(turn):
    """Tell the days from 0 to below the size on which the round holds, in their order."""
    days = []
    for first in range(0, turn[0], PIECE):
        piece = (turn[1] >> first) & full_bits(PIECE)
        if piece > 0:
            days.extend([first + place for place in range(PIECE) if (piece >> place) & 1])
    return days


def on(turn, day):
    """Tell whether the round holds on the day."""
    return ((turn[1] >> (day % turn[0])) & 1) == 1


def full_bits(size):
    """Tell the bits of a round that holds on every day."""
    return (1 << size) - 1


def bits_by(turn, size):
    """Tell the bits of the round's days by a multiple of its size."""
    bits = turn[1]
    width = turn[0]
    # Doubling takes few steps even for a round of size 1; what is too much is cut off.
    while width < size:
        bits = bits | (bits << width)
        width = width * 2
    return bits & full_bits(size)


def stretched(turn, size):
    """Tell the same days by a multiple of the round's size."""
    refuse_below_one(size)
    if size % turn[0] != 0:
        raise NoNumber("a round is stretched to a multiple of its size alone")
    refuse_too_long(size)
    return (size, bits_by(turn, size))


def primes_of(number):
    """Tell the primes that divide a number from 1 on, each once."""
    primes = []
    left = number
    factor = 2
    while factor * factor <= left:
        if left % factor == 0:
            primes.append(factor)
        while left % factor == 0:
            left = left // factor
        factor = factor + 1
    if left > 1:
        primes.append(left)
    return primes


def comes_again(turn, size):
    """Tell whether the round's days come again after a divisor of its size."""
    return (turn[1] >> size) == (turn[1] & full_bits(turn[0] - size))


def least(turn):
    """Tell the same days by the least size by which they can be told."""
    size = turn[0]
    bits = turn[1]
    # The sizes by which the days come again are the multiples of the least one, so
    # each prime can be taken out by itself, as often as it goes.
    for prime in primes_of(turn[0]):
        while size % prime == 0 and comes_again((size, bits), size // prime):
            size = size // prime
            bits = bits & full_bits(size)
    return (size, bits)


def common_size(one, other):
    """Tell the size common to both rounds, as far as a round may have it."""
    size = common(one[0], other[0])
    refuse_too_long(size)
    return size


def both(one, other):
    """Tell the days on which both rounds hold."""
    size = common_size(one, other)
    return (size, bits_by(one, size) & bits_by(other, size))


def either(one, other):
    """Tell the days on which at least one of the rounds holds."""
    size = common_size(one, other)
    return (size, bits_by(one, size) | bits_by(other, size))


def unlike(one, other):
    """Tell the days on which just one of the rounds holds."""
    size = common_size(one, other)
    return (size, bits_by(one, size) ^ bits_by(other, size))


def without(one, other):
    """Tell the days of the first round that are not the second's."""
    return both(one, other_days(other))


def other_days(turn):
    """Tell the days on which the round doesn't hold."""
    return (turn[0], turn[1] ^ full_bits(turn[0]))


def later(turn, number):
    """Tell the days on which the round holds so many days ahead of them."""
    shift = number % turn[0]
    bits = (turn[1] << shift) | (turn[1] >> (turn[0] - shift))
    return (turn[0], bits & full_bits(turn[0]))


def folded(turn, size):
    """Tell the days that are alike, by a divisor of the round's size, to one of its days."""
    refuse_below_one(size)
    if turn[0] % size != 0:
        raise NoNumber("a round is folded by a divisor of its size alone")
    bits = turn[1]
    shift = size
    # Each step doubles how many stretches of this size lie on top of one another.
    while shift < turn[0]:
        bits = bits | (bits >> shift)
        shift = shift * 2
    return (size, bits & full_bits(size))
