"""Rules: sets of days without end, each told by a sentence."""

from feastwheel.dated import dated
from feastwheel.rounds import both, either, later, on, other_days, round_by, unlike, without
from feastwheel.wheels import every, kth, near, till, until, upon


class Rule:
    """The base of all kinds: its round, the rules that it is made of, and its words around theirs."""

    def __init__(self, kept=None, made_of=None, words=None):
        self.kept = (1, 0) if kept is None else kept
        self.made_of = () if made_of is None else made_of
        self.words = ("none",) if words is None else words

    def on(self, day):
        """Tell whether the rule holds on the day."""
        return on(self.kept, day)

    def size(self):
        """Tell the size of the rule, which goes by its words alone."""
        return self.kept[0]

    def turn(self):
        """Tell the round of just the rule's size that holds on the same days."""
        return self.kept

    def shown(self):
        """Tell the rule as a text."""
        told = [self.words[0]]
        for rule, word in zip(self.made_of, self.words[1:]):
            told.extend([rule.shown(), word])
        return "".join(told)

    def parts(self):
        """Tell the rule itself and behind it the parts of each rule that it is made of."""
        told = [self]
        for rule in self.made_of:
            told.extend(rule.parts())
        return told


class All(Rule):
    """Every day."""

    def __init__(self):
        Rule.__init__(self, (1, 1), (), ("all",))


class No(Rule):
    """No day."""

    def __init__(self):
        Rule.__init__(self, (1, 0), (), ("none",))


def each_text(step, rest):
    """Tell the text of what comes again after a step, from a rest on."""
    least_rest = rest % step
    return f"each {step} from {least_rest}"


class Each(Rule):
    """The days alike to a rest by a size."""

    def __init__(self, size, rest):
        kept = round_by(size, [rest])
        Rule.__init__(self, kept, (), (each_text(size, rest),))


def wanted_text(number):
    """Tell the text of a month or a day, or of one that is left out."""
    return "*" if number is None else str(number)


def dated_text(name, month, day, step, rest):
    """Tell the text of the days by date of the calendar that has a name."""
    words = ["date", name, wanted_text(month), wanted_text(day)]
    if step > 1:
        words.append(each_text(step, rest))
    return " ".join(words)


class Dated(Rule):
    """The days by date of a calendar, which texts call by a name."""

    def __init__(self, name, calendar, month=None, day=None, step=1, rest=0):
        kept = dated(calendar, month, day, step, rest)
        Rule.__init__(self, kept, (), (dated_text(name, month, day, step, rest),))


class Not(Rule):
    """The days on which a rule doesn't hold."""

    def __init__(self, R):
        Rule.__init__(self, other_days(R.turn()), (R,), ("(not ", ")"))


class Both(Rule):
    """The days on which two rules hold."""

    def __init__(self, R, S):
        Rule.__init__(self, both(R.turn(), S.turn()), (R, S), ("(", " and ", ")"))


class Either(Rule):
    """The days on which at least one of two rules holds."""

    def __init__(self, R, S):
        Rule.__init__(self, either(R.turn(), S.turn()), (R, S), ("(", " or ", ")"))


class But(Rule):
    """The days on which the first rule holds and the second doesn't."""

    def __init__(self, R, S):
        Rule.__init__(self, without(R.turn(), S.turn()), (R, S), ("(", " but ", ")"))


class Unlike(Rule):
    """The days on which just one of two rules holds."""

    def __init__(self, R, S):
        Rule.__init__(self, unlike(R.turn(), S.turn()), (R, S), ("(", " unlike ", ")"))


class Later(Rule):
    """The days on which a rule holds so many days ahead of them."""

    def __init__(self, number, R):
        Rule.__init__(self, later(R.turn(), number), (R,), (f"({number} later ", ")"))


class Upon(Rule):
    """The first R day from each S day on."""

    def __init__(self, R, S):
        Rule.__init__(self, upon(R.turn(), S.turn()), (R, S), ("(", " upon ", ")"))


class Until(Rule):
    """The last R day up to each S day."""

    def __init__(self, R, S):
        Rule.__init__(self, until(R.turn(), S.turn()), (R, S), ("(", " until ", ")"))


class Near(Rule):
    """The nearest R day of each S day."""

    def __init__(self, R, S):
        Rule.__init__(self, near(R.turn(), S.turn()), (R, S), ("(", " near ", ")"))


class Till(Rule):
    """The days from each R day on that lie ahead of the next S day behind it."""

    def __init__(self, R, S):
        Rule.__init__(self, till(R.turn(), S.turn()), (R, S), ("(", " till ", ")"))


class Kth(Rule):
    """The number-th R day of each S day's span."""

    def __init__(self, number, R, S):
        kept = kth(number, R.turn(), S.turn())
        Rule.__init__(self, kept, (R, S), (f"({number} of ", " from ", ")"))


class Every(Rule):
    """Every number-th R day, the first one from a day on among them."""

    def __init__(self, number, R, day):
        kept = every(number, R.turn(), day)
        Rule.__init__(self, kept, (R,), (f"(every {number} of ", f" from {day})"))
