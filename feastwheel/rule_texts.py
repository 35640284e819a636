"""Rules read from texts: first a plan, nested tuples of words and numbers, then the rule of the plan."""

from feastwheel.errors import NoName, NoRule
from feastwheel.numbers import is_name, is_number, is_readable
from feastwheel.rules import All, Both, But, Dated, Each, Either, Every, Kth
from feastwheel.rules import Later, Near, No, Not, Till, Unlike, Until, Upon

MOST_BRACKETS = 40
PAIR_WORDS = ("and", "or", "but", "unlike", "upon", "until", "near", "till")


class Reader:
    """The words and brackets of a text, taken one at a time."""

    def __init__(self, words):
        self.words = tuple(words)
        self.place = 0

    def peek(self):
        """Tell the next word, the text without signs where there is none."""
        return self.words[self.place] if self.place < len(self.words) else ""

    def take(self):
        """Tell the next word and go on behind it."""
        word = self.peek()
        self.place = self.place + 1
        return word


def words_of(text):
    """Tell the words of a text and its brackets, each by itself; refuse brackets too deep within one another."""
    told = []
    depth = 0
    for whole in text.split(" "):
        opened = whole.lstrip("(")
        word = opened.rstrip(")")
        # Blanks that are too many, or by a bracket where there is none to be, leave nothing of a word.
        if word == "":
            raise NoRule("a blank stands where there is none to be")
        opening = len(whole) - len(opened)
        closing = len(opened) - len(word)
        depth = depth + opening
        if depth > MOST_BRACKETS:
            raise NoRule("brackets stand too deep within one another")
        depth = depth - closing
        told.extend(["("] * opening + [word] + [")"] * closing)
    return told


def take_word(reader, word):
    """Take just this word."""
    if reader.take() != word:
        raise NoRule(f"the word {word} is missing")


def take_number(reader):
    """Take a number."""
    word = reader.take()
    if not is_number(word):
        raise NoRule("a number is missing")
    return int(word)


def take_wanted(reader):
    """Take a month or a day, None where it is left out."""
    if reader.peek() == "*":
        reader.take()
        return None
    return take_number(reader)


def take_each(reader):
    """Take what stands behind the word each: a size and a rest."""
    size = take_number(reader)
    take_word(reader, "from")
    return (size, take_number(reader))


def take_date(reader):
    """Take what stands behind the word date."""
    name = reader.take()
    if not is_name(name):
        raise NoRule("a calendar's name is missing")
    month = take_wanted(reader)
    day = take_wanted(reader)
    years = (1, 0)
    if reader.peek() == "each":
        reader.take()
        years = take_each(reader)
    return ("date", name, month, day, years[0], years[1])


def take_numbered(reader):
    """Take what stands within a bracket that begins with a number."""
    number = take_number(reader)
    word = reader.take()
    if word == "later":
        return (word, number, take_plan(reader))
    if word != "of":
        raise NoRule("behind a number stands the word later or of")
    plan = take_plan(reader)
    take_word(reader, "from")
    return (word, number, plan, take_plan(reader))


def take_every(reader):
    """Take what stands behind the word every."""
    number = take_number(reader)
    take_word(reader, "of")
    plan = take_plan(reader)
    take_word(reader, "from")
    return ("every", number, plan, take_number(reader))


def take_pair(reader):
    """Take two rules and the word between them."""
    plan = take_plan(reader)
    word = reader.take()
    if word not in PAIR_WORDS:
        raise NoRule("between two rules stands a word of theirs")
    return (word, plan, take_plan(reader))


def take_within(reader):
    """Take what stands within a bracket."""
    word = reader.peek()
    if word == "not":
        reader.take()
        return (word, take_plan(reader))
    if word == "every":
        reader.take()
        return take_every(reader)
    if is_number(word):
        return take_numbered(reader)
    return take_pair(reader)


def take_plan(reader):
    """Take a whole rule and tell its plan."""
    word = reader.take()
    if word == "all" or word == "none":
        return (word,)
    if word == "each":
        numbers = take_each(reader)
        return (word, numbers[0], numbers[1])
    if word == "date":
        return take_date(reader)
    if word != "(":
        raise NoRule("a rule is missing")
    plan = take_within(reader)
    take_word(reader, ")")
    return plan


def made_date(plan, calendars):
    """Tell the rule of the plan of a date."""
    name = plan[1]
    if name not in calendars:
        raise NoName(name)
    return Dated(name, calendars[name], plan[2], plan[3], plan[4], plan[5])


def made_pair(word, one, other):
    """Tell the rule of two rules with a word between them."""
    if word == "and":
        return Both(one, other)
    if word == "or":
        return Either(one, other)
    if word == "but":
        return But(one, other)
    if word == "unlike":
        return Unlike(one, other)
    if word == "upon":
        return Upon(one, other)
    if word == "until":
        return Until(one, other)
    if word == "near":
        return Near(one, other)
    return Till(one, other)


def made(plan, calendars):
    """Tell the rule of a plan; its parts are made ahead of it, the first one ahead of the second."""
    word = plan[0]
    if word == "all":
        return All()
    if word == "none":
        return No()
    if word == "each":
        return Each(plan[1], plan[2])
    if word == "date":
        return made_date(plan, calendars)
    if word == "not":
        return Not(made(plan[1], calendars))
    if word == "later":
        return Later(plan[1], made(plan[2], calendars))
    if word == "every":
        return Every(plan[1], made(plan[2], calendars), plan[3])
    if word == "of":
        one = made(plan[2], calendars)
        return Kth(plan[1], one, made(plan[3], calendars))
    one = made(plan[1], calendars)
    return made_pair(word, one, made(plan[2], calendars))


def read_rule(text, calendars):
    """Tell the rule of a text, with calendars by their names; refuse what is none."""
    if not is_readable(text):
        raise NoRule("no rule as a text")
    reader = Reader(words_of(text))
    plan = take_plan(reader)
    if reader.peek() != "":
        raise NoRule("more stands behind a rule")
    return made(plan, calendars)
