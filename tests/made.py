"""Decks, steps, cards and programs for tests, with parts that do not matter filled in."""

from batchyard.plain import plain_house


def card(name, how="old", then="keep", generation=None, member=None, volume=None):
    return ((name, generation, member, volume), how, then)


def data(*records):
    return ("data", records)


def step(name="one", program=(("end", 0),), parameters=(), unless=None, cards=()):
    return (name, program, parameters, unless, tuple(cards))


def deck(*steps, name="job", account="acc", letter="a", priority=0, turns=100, lines=60):
    return (name, account, letter, priority, turns, lines, steps)


def job(number, *steps, cut=None, **parts):
    """A job as an order tells it."""
    return ("job", number, deck(*steps, **parts), cut)


def ends_with(code):
    """A program of two turns that ends with this code."""
    return (("set", 0, code), ("end", 0))


def writes(at, *words):
    """A program that puts a record of each word to a card, and ends with 0."""
    rows = [part for word in words for part in (("set", 1, word), ("put", at, (1,)))]
    return (*rows, ("end", 0))


def reads(at=0):
    """A program that prints the first field of each record of a card, and ends with 0."""
    return (("take", at), ("over", at, 5), ("field", 1, at, 0), ("line", (1,)), ("go", 0), ("end", 0))


def prints(*words):
    """A program that prints a line of each word, and ends with 0."""
    rows = [part for word in words for part in (("set", 1, word), ("line", (1,)))]
    return (*rows, ("end", 0))


def counts_to_put(at):
    """A program that puts as many records to a card as its first parameter tells, and ends with 0."""
    return (("less", 1, 2, 0), ("if", 1, 3), ("end", 3), ("put", at, (2,)), ("set", 4, 1), ("add", 2, 2, 4), ("go", 0))


def counts_to_print():
    """A program that prints as many lines as its first parameter tells, and ends with 0."""
    return tuple([("line", part[2]) if part[0] == "put" else part for part in counts_to_put(0)])


def records(*words):
    return tuple([(word,) for word in words])


def make(name, kind="plain", keeps=1):
    return ("file-make", name, kind, keeps)


def load(name, key, *words):
    """A load of records of one word each."""
    return ("file-load", name, key, None, records(*words))


def drop(name):
    return ("file-drop", name)


def plain_file(name, *words):
    """The deeds that make a plain file with these records."""
    return [make(name), load(name, 1, *words)]


def group(name, keeps, *contents):
    """The deeds that make a group with these contents, each a tuple of words."""
    return [make(name, "group", keeps), *[load(name, at, *words) for at, words in enumerate(contents, 1)]]


def library(name, **members):
    """The deeds that make a library with these members, each a tuple of words."""
    return [make(name, "library"), *[load(name, key, *words) for key, words in members.items()]]


def kept_of(order, name):
    """The (key, records) under a name behind an order; None where the name is not there."""
    found = [contents for other, _, contents in plain_house(order).kept if other == name]
    return found[0] if found else None


def why_of(order):
    """Why the last job of an order ended."""
    return plain_house(order).ends[-1][2]


def lines_of(order, at):
    """The first words of the lines of the last job's step at this place; None where it has no paper."""
    told = plain_house(order)
    number = told.ends[-1][0]
    found = [lines for other, place, lines in told.papers if (other, place) == (number, at)]
    return [line[0] for line in found[-1]] if found else None
