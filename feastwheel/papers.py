"""Papers: answers about two rounds for ever, which can be looked over without asking again."""

from feastwheel.asks import next_day, ones_in
from feastwheel.errors import TooLong
from feastwheel.remains import ahead, common, divisor, met
from feastwheel.rounds import LONGEST, bits_by, both, days_in, folded, later, least, on, other_days

MOST_PAIRS = 1000


def first_parted(one, other, day):
    """Tell the first day from day on on which just one of two rounds holds that are not the same."""
    # Rounds that agree on so many days running agree for ever, so the common size need not be built.
    width = one[0] + other[0] - divisor(one[0], other[0])
    bits = bits_by(later(one, -day), width) ^ bits_by(later(other, -day), width)
    return day + (bits & -bits).bit_length() - 1


def same(one, other, day):
    """Tell the paper on whether two rounds hold on the same days for ever."""
    turn = least(one)
    if turn == least(other):
        return ("same", turn)
    return ("parted", first_parted(one, other, day))


def first_of_pairs(one, other, day):
    """Tell the first day from day on on which both rounds hold, by each pair of their days."""
    told = []
    rests = days_in(one)
    other_rests = days_in(other)
    for rest in rests:
        for other_rest in other_rests:
            alike = met(rest, one[0], other_rest, other[0])
            if alike is not None:
                told.append(ahead(alike[0], alike[1], day))
    return min(told)


def first_met(one, other, day):
    """Tell the first day from day on on which both rounds hold, of two that meet."""
    size = common(one[0], other[0])
    if size <= LONGEST:
        return next_day(both(one, other), day)
    if ones_in(one[1]) * ones_in(other[1]) > MOST_PAIRS:
        raise TooLong(size)
    return first_of_pairs(one, other, day)


def paper_of(words, one, other, day):
    """Tell the paper that two rounds never meet, or that they do, with the first word for each."""
    size = divisor(one[0], other[0])
    bits = folded(one, size)[1]
    other_bits = folded(other, size)[1]
    if bits & other_bits == 0:
        return (words[0], size, bits, other_bits)
    return (words[1], first_met(one, other, day))


def meeting(one, other, day):
    """Tell the paper on whether two rounds ever hold on one day."""
    return paper_of(("never", "meet"), one, other, day)


def within(one, other, day):
    """Tell the paper on whether the first round holds on no day but the second's."""
    return paper_of(("within", "outside"), one, other_days(other), day)


def divides_both(size, one, other):
    """Tell whether a size is from 1 on and divides both rounds' sizes."""
    return size >= 1 and one[0] % size == 0 and other[0] % size == 0


def are_bits(bits, size):
    """Tell whether a number is the bits of a round of a size that a round may have."""
    return bits >= 0 and bits >> size == 0


def same_stands(turn, one, other):
    """Tell whether both rounds hold on just the days of a third one, if that is a round at all."""
    if not divides_both(turn[0], one, other) or not are_bits(turn[1], turn[0]):
        return False
    return bits_by(turn, one[0]) == one[1] and bits_by(turn, other[0]) == other[1]


def holds_all(bits, turn, size):
    """Tell whether the bits hold the remainder by the size of each day of the round."""
    return folded(turn, size)[1] | bits == bits


def never_stands(paper, one, other):
    """Tell whether the size and the bits of a paper keep both rounds apart."""
    size = paper[1]
    if not divides_both(size, one, other):
        return False
    if not are_bits(paper[2], size) or not are_bits(paper[3], size) or paper[2] & paper[3] != 0:
        return False
    return holds_all(paper[2], one, size) and holds_all(paper[3], other, size)


def stands(paper, one, other):
    """Tell whether a paper stands for two rounds."""
    if paper[0] == "same":
        return same_stands(paper[1], one, other)
    if paper[0] == "never":
        return never_stands(paper, one, other)
    if paper[0] == "within":
        return never_stands(paper, one, other_days(other))
    if paper[0] == "parted":
        return on(one, paper[1]) != on(other, paper[1])
    if paper[0] == "meet":
        return on(one, paper[1]) and on(other, paper[1])
    return on(one, paper[1]) and not on(other, paper[1])
