"""Cards for files: what they can be, how they are written, and what a job wants by them."""

from batchyard.errors import NoText
from batchyard.records import is_name, is_whole

LEAST_GENERATION = -8
NEXT_GENERATION = 1
HOWS = ("old", "shared", "new", "more")
THENS = ("keep", "drop", "pass")
MANY_PARTS = 6
NOTHING = "-"


def is_file_card(thing):
    """Whether a thing is a card for a file: a tuple (reference, how, then)."""
    if not isinstance(thing, tuple) or len(thing) != 3:
        return False
    reference, how, then = thing
    if not _is_reference(reference) or how not in HOWS or then not in THENS:
        return False
    if then == "pass" and not is_name_alone(reference):
        return False
    return reference[1] != NEXT_GENERATION or how in ("new", "more")


def is_name_alone(reference):
    """Whether a reference tells no generation, no member and no volume."""
    return reference[1:] == (None, None, None)


def is_for_file(card):
    """Whether a card of a deck is one for a file, and none with data."""
    return card[0] != "data"


def library_of(program):
    """The library from which a step has its program, or None."""
    return program[0] if isinstance(program[0], str) else None


def card_line(card):
    """The parts of a card for a file, with blanks between."""
    reference, how, then = card
    return " ".join([_part_text(part) for part in (*reference, how, then)])


def card_in(words):
    """The card for a file of which these texts are the parts."""
    if not _are_texts(words) or len(words) != MANY_PARTS:
        raise NoText("these are not the parts of a card")
    name, generation, member, volume, how, then = words
    reference = (name, _read_generation(generation), _read_part(member), _read_part(volume))
    card = (reference, how, then)
    if not is_file_card(card):
        raise NoText("these are not the parts of a card")
    return card


def passes_of(steps):
    """For each step the names that are passed on to it, in the order in which they came."""
    told = []
    passed = []
    for step in steps:
        told.append(tuple(passed))
        for card in step[4]:
            if is_for_file(card) and is_name_alone(card[0]):
                passed = _passed_behind(passed, card)
    return told


def needs_of(steps):
    """The names that a job wants alone, those that it wants shared, and its volumes."""
    alone = []
    shared = []
    volumes = []
    for step, passed in zip(steps, passes_of(steps)):
        library = library_of(step[1])
        if library is not None:
            shared.append(library)
        for card in step[4]:
            if is_for_file(card):
                reference = card[0]
                wanted = shared if is_shared_kept(card) and reference[0] not in passed else alone
                wanted.append(reference[0])
                volumes.append(reference[3])
    shared = [name for name in shared if name not in alone]
    volumes = [volume for volume in volumes if volume is not None]
    return _rising(alone), _rising(shared), _rising(volumes)


def is_free(needs, others):
    """Whether none of others wants what these needs leave to nobody else, nor the other way round."""
    return not any([_collide(needs, other) for other in others])


def is_shared_kept(card):
    """Whether a card for a file leaves this as it is for others, too."""
    return card[1] == "shared" and card[2] == "keep"


def _is_reference(thing):
    """Whether a thing is a tuple (name, generation, member, volume), but one of the last three None."""
    if not isinstance(thing, tuple) or len(thing) != 4:
        return False
    name, generation, member, volume = thing
    told = [part for part in thing[1:] if part is not None]
    if not is_name(name) or len(told) > 1:
        return False
    if generation is not None:
        return is_whole(generation, LEAST_GENERATION, NEXT_GENERATION)
    return all([part is None or is_name(part) for part in (member, volume)])


def _are_texts(thing):
    return isinstance(thing, list) and all([isinstance(part, str) for part in thing])


def _part_text(part):
    return NOTHING if part is None else str(part)


def _read_part(word):
    return None if word == NOTHING else word


def _read_generation(word):
    """The generation that a text writes; the text itself where it writes none."""
    for generation in range(LEAST_GENERATION, NEXT_GENERATION + 1):
        if word == str(generation):
            return generation
    return _read_part(word)


def _passed_behind(passed, card):
    """The names that are passed on behind a card for a name alone."""
    name = card[0][0]
    if card[2] != "pass":
        return [other for other in passed if other != name]
    return passed if name in passed else [*passed, name]


def _rising(names):
    return tuple(sorted(set(names)))


def _collide(needs, other):
    """Whether two jobs' wants are not free of one another."""
    if any([volume in needs[2] for volume in other[2]]):
        return True
    return _takes(needs, other) or _takes(other, needs)


def _takes(needs, other):
    """Whether these needs want a name alone that the other wants at all."""
    return any([name in other[0] or name in other[1] for name in needs[0]])
