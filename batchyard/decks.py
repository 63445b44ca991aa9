"""Decks: what is handed in as a job, and what a job costs."""

from batchyard.codes import is_code
from batchyard.filecards import is_file_card
from batchyard.records import are_records, is_name, is_whole, is_word

MOST_PRIORITY = 9
MOST_TURNS = 5000
MOST_LINES = 60
MOST_STEPS = 6
MOST_PARAMETERS = 8
MOST_CARDS = 6
MOST_COMPARED = 99
COMPARISONS = ("less", "same", "more")


def is_deck(thing):
    """Whether a thing is a deck: a tuple (name, account, class, priority, turns, lines, steps)."""
    if not isinstance(thing, tuple) or len(thing) != 7:
        return False
    name, account, letter, priority, turns, lines, steps = thing
    if not is_name(name) or not is_name(account) or not is_letter(letter):
        return False
    if not is_whole(priority, 0, MOST_PRIORITY):
        return False
    if not is_whole(turns, 1, MOST_TURNS) or not is_whole(lines, 0, MOST_LINES):
        return False
    return _are_steps(steps)


def is_letter(thing):
    """Whether a thing is a letter a to z."""
    return is_name(thing) and len(thing) == 1


def cost_of(turns, lines, price):
    """What so many turns and lines cost."""
    return (turns + 2 * lines) * price


def price_of(priority):
    """The price of a job with this priority."""
    return priority + 1


def is_left_out(unless, codes):
    """Whether a step with this unless is left out behind steps that ended as codes tells.

    codes is a list of (name of a step, code or text) of all that were not left out.
    """
    if unless is None:
        return False
    name, comparison, number = unless
    told = [code for step, code in codes if step == name and not isinstance(code, str)]
    if not told:
        return True
    if comparison == "less":
        return told[0] < number
    if comparison == "more":
        return told[0] > number
    return told[0] == number


def _are_steps(thing):
    if not isinstance(thing, tuple) or not 1 <= len(thing) <= MOST_STEPS:
        return False
    ahead = []
    for step in thing:
        if not _is_step(step, ahead):
            return False
        ahead.append(step[0])
    return True


def _is_step(thing, ahead):
    """Whether a thing is a step of a deck behind steps with these names."""
    if not isinstance(thing, tuple) or len(thing) != 5:
        return False
    name, program, parameters, unless, cards = thing
    if not is_name(name) or name in ahead:
        return False
    if not is_code(program) and not _is_member(program):
        return False
    return _are_parameters(parameters) and _is_unless(unless, ahead) and _are_cards(cards)


def _is_member(thing):
    """Whether a thing is a tuple (library, member)."""
    return isinstance(thing, tuple) and len(thing) == 2 and all([is_name(part) for part in thing])


def _are_parameters(thing):
    if not isinstance(thing, tuple) or len(thing) > MOST_PARAMETERS:
        return False
    return all([is_word(part) for part in thing])


def _is_unless(thing, ahead):
    if thing is None:
        return True
    if not isinstance(thing, tuple) or len(thing) != 3:
        return False
    name, comparison, number = thing
    return name in ahead and comparison in COMPARISONS and is_whole(number, 0, MOST_COMPARED)


def _are_cards(thing):
    if not isinstance(thing, tuple) or len(thing) > MOST_CARDS:
        return False
    return all([is_file_card(card) or _is_data(card) for card in thing])


def _is_data(thing):
    """Whether a thing is a card ("data", records)."""
    return isinstance(thing, tuple) and len(thing) == 2 and thing[0] == "data" and are_records(thing[1])
