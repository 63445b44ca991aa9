"""Histories: events, and houses that are made from them."""

from batchyard.errors import NoEvents, YardError
from batchyard.house import House
from batchyard.records import is_whole

MANY_PARTS = {"hand": 1, "tick": 0, "operator": 1, "answer": 2, "paper": 2, "fall": 1, "up": 0}


def is_event(thing):
    """Whether a thing is a tuple of one of the words and as many parts, whatever they are."""
    if not isinstance(thing, tuple) or not thing or not isinstance(thing[0], str):
        return False
    return thing[0] in MANY_PARTS and len(thing) - 1 == MANY_PARTS[thing[0]]


def happen(house, event):
    """The event comes; told is what the house's own deed tells."""
    if not is_event(event):
        raise NoEvents("this is no event")
    match event[0]:
        case "hand":
            return house.hand(event[1])
        case "tick":
            return house.tick()
        case "operator":
            return house.operator(event[1])
        case "answer":
            return house.answer(event[1], event[2])
        case "paper":
            return house.paper(event[1], event[2])
        case "fall":
            # What is no tuple is no list of choices, either; the house itself refuses it.
            return house.fall(list(event[1]) if isinstance(event[1], tuple) else None)
        case _:
            return house.come_up()


def replayed(events, *, blocks=2000, size=100):
    """The house of these events, one behind the other."""
    if not isinstance(events, list) or not all([is_event(event) for event in events]):
        raise NoEvents("this is no list of events")
    house = House(blocks=blocks, size=size)
    for event in events:
        try:
            happen(house, event)
        except YardError as refusal:
            raise NoEvents("one of the events can not come") from refusal
    return house


def twin(house):
    """A house of the same events, that goes by itself."""
    return without_last(house, 0)


def without_last(house, many):
    """A house of the same events but the last so many, that goes by itself."""
    events = house.events()
    if not is_whole(many, 0, len(events)):
        raise NoEvents("there are not so many events")
    return replayed(events[:len(events) - many], blocks=len(house.disk), size=len(house.disk.block(0)))
