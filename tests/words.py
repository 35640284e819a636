"""The sentences of the document on wheels and days by date, walked day by day."""

from helper import holds


def says_upon(R, S, day, size):
    if not holds(R, day):
        return False
    for sooner in range(day, day - size - 1, -1):
        if sooner < day and holds(R, sooner):
            return False
        if holds(S, sooner):
            return True
    return False


def says_until(R, S, day, size):
    if not holds(R, day):
        return False
    for later in range(day, day + size + 1):
        if later > day and holds(R, later):
            return False
        if holds(S, later):
            return True
    return False


def nearest(R, day, size):
    for far in range(size + 1):
        for found in (day - far, day + far):
            if holds(R, found):
                return found
    return None


def says_near(R, S, day, size):
    return any(holds(S, s) and nearest(R, s, size) == day for s in range(day - size, day + size + 1))


def says_till(R, S, day, size):
    return any(holds(R, r) and not any(holds(S, s) for s in range(r + 1, day + 1))
               for r in range(day - size, day + 1))


def says_kth(number, R, S, day, size):
    begins = [s for s in range(day - size + 1, day + 1) if holds(S, s)]
    if not begins:
        return False
    end = next(s for s in range(day + 1, day + size + 1) if holds(S, s))
    days = [r for r in range(begins[-1], end) if holds(R, r)]
    if abs(number) > len(days):
        return False
    return day == (days[number - 1] if number > 0 else days[number])


def says_every(number, R, first, day):
    """Counted through the row of R days from the first one from a day on to the day asked for."""
    if not holds(R, day):
        return False
    while not holds(R, first):
        first += 1
    low, high = min(first, day), max(first, day)
    return sum(holds(R, between) for between in range(low, high)) % number == 0


def says_dated(calendar, day, wanted):
    """Asked of one day through its date."""
    month, number, step, rest = wanted
    date = calendar.date_of(day)
    if (date[0] - rest) % step != 0:
        return False
    if month is not None and date[1] != month:
        return False
    if number is None:
        return True
    if number > 0:
        return date[2] == number
    lengths = calendar.lengths(date[0])
    return date[2] == lengths[date[1] - 1] + 1 + number
