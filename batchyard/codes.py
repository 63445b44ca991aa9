"""Programs: what they can be, what cards they name, and how they are written as records."""

from batchyard.errors import NoCode
from batchyard.records import is_record, is_whole, is_word

MOST_STEPS = 30
MOST_ROW = 6

# The parts behind each word, by the letters of the document: r a register, n a word,
# p the place of a step, f a card, k a field, row a tuple of registers.
PARTS = {
    "add": ("r", "r", "r"),
    "copy": ("r", "r"),
    "div": ("r", "r", "r"),
    "end": ("r",),
    "field": ("r", "f", "k"),
    "go": ("p",),
    "if": ("r", "p"),
    "less": ("r", "r", "r"),
    "line": ("row",),
    "mark": (),
    "mod": ("r", "r", "r"),
    "mul": ("r", "r", "r"),
    "over": ("f", "p"),
    "put": ("f", "row"),
    "same": ("r", "r", "r"),
    "set": ("r", "n"),
    "sub": ("r", "r", "r"),
    "take": ("f",),
}

GREATEST = {"r": 7, "f": 5, "k": 7}


def is_code(thing):
    """Whether a thing is a program: a tuple of 1 to 30 steps."""
    if not isinstance(thing, tuple) or not 1 <= len(thing) <= MOST_STEPS:
        return False
    return all([_is_step(part, len(thing)) for part in thing])


def demand_code(thing):
    """Refuses what is no program."""
    if not is_code(thing):
        raise NoCode("this is no program")


def slots_of(code):
    """The cards that a program names by take, over or field, and those that it names by put."""
    demand_code(code)
    read = [card for step in code if step[0] != "put" for card in _cards_of(step)]
    filled = [card for step in code if step[0] == "put" for card in _cards_of(step)]
    return tuple(sorted(set(read))), tuple(sorted(set(filled)))


def code_records(code):
    """The steps of a program as records."""
    demand_code(code)
    return tuple([_written_step(step) for step in code])


def code_in(records):
    """The program that has just these records, or None."""
    if not isinstance(records, tuple) or not all([is_record(record) for record in records]):
        return None
    code = tuple([_read_step(record) for record in records])
    return code if is_code(code) else None


def _is_step(thing, many):
    """Whether a thing is a step of a program of so many steps."""
    if not isinstance(thing, tuple) or not thing:
        return False
    word, *parts = thing
    # What is no text may be no key of a table, so it is not asked for there.
    if not isinstance(word, str) or word not in PARTS:
        return False
    kinds = PARTS[word]
    if len(parts) != len(kinds):
        return False
    return all([_is_part(part, kind, many) for part, kind in zip(parts, kinds)])


def _is_part(thing, kind, many):
    """Whether a thing is a part of this kind in a program of so many steps."""
    if kind == "row":
        return _is_row(thing)
    if kind == "n":
        return is_word(thing)
    if kind == "p":
        return is_whole(thing, 0, many - 1)
    return is_whole(thing, 0, GREATEST[kind])


def _is_row(thing):
    if not isinstance(thing, tuple) or not 1 <= len(thing) <= MOST_ROW:
        return False
    return all([is_whole(part, 0, GREATEST["r"]) for part in thing])


def _cards_of(step):
    word, *parts = step
    return [part for part, kind in zip(parts, PARTS[word]) if kind == "f"]


def _written_step(step):
    word, *parts = step
    written = [sorted(PARTS).index(word)]
    for part in parts:
        if isinstance(part, tuple):
            written.extend(part)
        else:
            written.append(part)
    return tuple(written)


def _read_step(record):
    """The step that a record would be, not yet looked at; None where its number is no word's."""
    number, *parts = record
    words = sorted(PARTS)
    if number >= len(words):
        return None
    word = words[number]
    kinds = PARTS[word]
    if "row" not in kinds:
        return (word, *parts)
    # A row is always the last part: it takes all registers that are left.
    ahead = len(kinds) - 1
    front = parts[:ahead]
    row = tuple(parts[ahead:])
    return (word, *front, row)
