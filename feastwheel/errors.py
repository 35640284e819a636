"""The refusals: each has its own class, and all stand straight under FeastError."""


class FeastError(ValueError):
    """Any refusal."""


class NoNumber(FeastError):
    """A number that lies outside what is asked for."""


class TooLong(FeastError):
    """A size above the greatest one that a round may have."""

    def __init__(self, needed):
        FeastError.__init__(self, f"the size {needed} is too great")
        self.needed = needed


class NoMeasure(FeastError):
    """Numbers that make no measure or no calendar."""


class NoDate(FeastError):
    """A date that no day has."""

    def __init__(self, date):
        FeastError.__init__(self, f"no day has the date {date}")
        self.date = date


class InGap(FeastError):
    """A date that a change of calendars leaves out."""

    def __init__(self, date, day):
        FeastError.__init__(self, f"the change at day {day} leaves out the date {date}")
        self.date = date
        self.day = day


class NoChange(FeastError):
    """Two calendars that can't follow one another at a day."""


class NoCycle(FeastError):
    """A calendar that doesn't come again."""


class NoText(FeastError):
    """A text of another form than asked for, or no text."""


class NoRule(FeastError):
    """A text that tells no rule, or no text."""


class NoName(FeastError):
    """A word that is no name, or under which nothing is kept."""

    def __init__(self, name):
        FeastError.__init__(self, f"no such name: {name}")
        self.name = name


class NoRow(FeastError):
    """A row that the desk doesn't know, or no text."""
