"""Rules told as plain tuples, from which a rule, its text and its days by the document's words are made."""

import math
import random

from feastwheel.calendars import Moon, Sun
from feastwheel.measures import Measure
from feastwheel.rules import (
    All, Both, But, Dated, Each, Either, Every, Kth, Later, Near, No, Not, Till, Unlike, Until, Upon,
)
from helper import FOURTH, holds
from words import says_dated, says_every, says_kth, says_near, says_till, says_until, says_upon

# Small calendars, so that their days can be walked; one has the name of a word of rules.
CALENDARS = {
    "sun": Sun(4, [3, 0, 2], 2, [FOURTH]),
    "all": Sun(-17, [3, 4]),
    "moon": Moon(5, Measure(3, [(1, 1, 0, 2)]), Measure(2)),
}
PAIRS = {"and": Both, "or": Either, "but": But, "unlike": Unlike, "upon": Upon, "until": Until, "near": Near,
         "till": Till}
WHEELS = {"upon": says_upon, "until": says_until, "near": says_near, "till": says_till}
JOINED = {"and": lambda p, q: p and q, "or": lambda p, q: p or q, "but": lambda p, q: p and not q,
          "unlike": lambda p, q: p != q}


def parts_of(tree):
    """The trees that a tree is made of."""
    return [part for part in tree[1:] if isinstance(part, tuple)]


def count_of(tree):
    return 1 + sum(count_of(part) for part in parts_of(tree))


def built(tree):
    """The rule of a tree, made by the classes."""
    word = tree[0]
    if word in ("all", "none"):
        return All() if word == "all" else No()
    if word == "each":
        return Each(tree[1], tree[2])
    if word == "date":
        return Dated(tree[1], CALENDARS[tree[1]], *tree[2:])
    if word == "not":
        return Not(built(tree[1]))
    if word == "later":
        return Later(tree[1], built(tree[2]))
    if word == "of":
        return Kth(tree[1], built(tree[2]), built(tree[3]))
    if word == "every":
        return Every(tree[1], built(tree[2]), tree[3])
    return PAIRS[word](built(tree[1]), built(tree[2]))


def shown(tree):
    """The text of a tree, by point 41."""
    word = tree[0]
    if word in ("all", "none"):
        return word
    if word == "each":
        return "each %d from %d" % (tree[1], tree[2] % tree[1])
    if word == "date":
        name, month, day, step, rest = tree[1:]
        text = "date %s %s %s" % (name, "*" if month is None else month, "*" if day is None else day)
        return text + (" each %d from %d" % (step, rest % step) if step > 1 else "")
    if word == "not":
        return "(not %s)" % shown(tree[1])
    if word == "later":
        return "(%d later %s)" % (tree[1], shown(tree[2]))
    if word == "of":
        return "(%d of %s from %s)" % (tree[1], shown(tree[2]), shown(tree[3]))
    if word == "every":
        return "(every %d of %s from %d)" % (tree[1], shown(tree[2]), tree[3])
    return "(%s %s %s)" % (shown(tree[1]), word, shown(tree[2]))


def size_of(tree):
    """The size of a tree, by point 40."""
    word = tree[0]
    if word in ("all", "none"):
        return 1
    if word == "each":
        return tree[1]
    if word == "date":
        years, days = CALENDARS[tree[1]].cycle()
        return math.lcm(years, tree[4]) // years * days
    if word == "every":
        return size_of(tree[2]) * tree[1]
    return math.lcm(*[size_of(part) for part in parts_of(tree)])


def says(tree, rounds, day, size):
    """Whether a tree holds on a day, by points 38 and 39, its parts being told as rounds."""
    word = tree[0]
    if word in ("all", "none"):
        return word == "all"
    if word == "each":
        return (day - tree[2]) % tree[1] == 0
    if word == "date":
        return says_dated(CALENDARS[tree[1]], day, tree[2:])
    if word == "not":
        return not holds(rounds[0], day)
    if word == "later":
        return holds(rounds[0], day - tree[1])
    if word == "of":
        return says_kth(tree[1], rounds[0], rounds[1], day, size)
    if word == "every":
        # The day from which is counted may be too far off to be walked to; all comes again after the size.
        return says_every(tree[1], rounds[0], tree[3] % size, day)
    if word in JOINED:
        return JOINED[word](holds(rounds[0], day), holds(rounds[1], day))
    return WHEELS[word](rounds[0], rounds[1], day, size)


def walked(tree):
    """The round of a tree by the document's words, each of its days asked for by itself."""
    rounds = [walked(part) for part in parts_of(tree)]
    size = size_of(tree)
    return (size, sum(1 << day for day in range(size) if says(tree, rounds, day, size)))


def leaf_of(chance):
    word = chance.choice(["each", "each", "each", "date", "date", "all", "none"])
    if word == "each":
        return (word, chance.choice([1, 2, 3, 4, 6, 12]), chance.randint(-20, 20))
    if word == "date":
        month = chance.choice([None, 1, 2, 3])
        day = chance.choice([None, 1, 2, 3, -1, -2])
        return (word, chance.choice(sorted(CALENDARS)), month, day, chance.choice([1, 1, 2]), chance.randint(-9, 9))
    return (word,)


def tree_of(chance, depth):
    """Some tree of at most a depth."""
    if depth == 1 or chance.random() < 0.1:
        return leaf_of(chance)
    word = chance.choice(sorted(PAIRS) * 2 + ["not", "later", "later", "of", "of", "every"])
    part = tree_of(chance, depth - 1)
    if word == "not":
        return (word, part)
    if word == "later":
        return (word, chance.randint(-30, 30), part)
    if word == "every":
        return (word, chance.randint(1, 3), part, chance.randint(-30, 30))
    other = tree_of(chance, depth - 1)
    if word == "of":
        return (word, chance.choice([1, 1, 2, 3, -1, -2]), part, other)
    return (word, part, other)


def some_trees(seed, many, depth, longest=300):
    """Many trees, always the same ones for a seed, with sizes that can be walked."""
    chance = random.Random(seed)
    told = []
    while len(told) < many:
        tree = tree_of(chance, depth)
        if size_of(tree) <= longest:
            told.append(tree)
    return told
