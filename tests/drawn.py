"""Drawn decks and events, for whole runs."""

from batchyard import seen, units
from batchyard.decks import is_deck

NAMES = ("a", "b", "c", "g", "lib", "p")
VOLUMES = ("v", "w")
ACCOUNTS = ("acc", "bcc")


def drawn_step(draw, many_cards, length):
    """A step of a program of so many steps ahead of its end."""
    def register_at():
        return draw.randrange(8)

    def card_at():
        return draw.randrange(many_cards) if many_cards and draw.random() < 0.97 else draw.randrange(6)

    def row():
        return tuple(register_at() for _ in range(draw.randint(1, 4)))

    word = draw.choice(("set", "set", "copy", "add", "sub", "mul", "div", "less", "same", "if", "take", "take", "over", "field", "put", "put",
                        "line", "line", "mark", "mark"))
    if word == "set":
        return word, register_at(), draw.choice((0, 1, 2, 5, 9999))
    if word == "copy":
        return word, register_at(), register_at()
    if word == "div" and draw.random() < 0.8:
        return "mark",
    if word in ("add", "sub", "mul", "div", "less", "same"):
        return word, register_at(), register_at(), register_at()
    if word == "if":
        return word, register_at(), draw.randint(0, length)
    if word == "line":
        return word, row()
    if many_cards == 0 or word == "mark":
        return "mark",
    if word == "take":
        return word, card_at()
    if word == "over":
        return word, card_at(), draw.randint(0, length)
    if word == "field":
        return word, register_at(), card_at(), draw.randrange(8)
    return word, card_at(), row()


def drawn_code(draw, many_cards):
    length = draw.randint(1, 14)
    return (*[drawn_step(draw, many_cards, length) for _ in range(length)], ("end", draw.randrange(8)))


def drawn_card(draw):
    if draw.random() < 0.15:
        return "data", tuple((draw.randrange(10000),) * draw.randint(1, 3) for _ in range(draw.randrange(5)))
    name = draw.choice(NAMES)
    generation = draw.choice((1, 1, 0, -1)) if name == "g" and draw.random() < 0.8 else None
    member = draw.choice(("m", "n")) if name == "lib" and draw.random() < 0.9 else None
    volume = draw.choice(VOLUMES) if name in "abcp" and draw.random() < 0.12 else None
    reference = (name, generation, member, volume)
    how = draw.choice(("old", "shared", "shared", "new", "more", "more", "more"))
    if generation == 1 and how in ("old", "shared"):
        how = "more"
    then = draw.choice(("keep", "keep", "keep", "drop", "pass"))
    if then == "pass" and reference[1:] != (None, None, None):
        then = "keep"
    return reference, how, then


def drawn_deck(draw):
    steps = []
    for at in range(draw.randint(1, 4)):
        cards = tuple(drawn_card(draw) for _ in range(draw.choice((0, 0, 1, 1, 2))))
        program = ("lib", draw.choice(("m", "n"))) if draw.random() < 0.12 else drawn_code(draw, len(cards))
        unless = None
        if steps and draw.random() < 0.3:
            unless = (draw.choice(steps)[0], draw.choice(("less", "same", "more")), draw.choice((0, 1, 5)))
        parameters = tuple(draw.randrange(10) for _ in range(draw.randrange(5)))
        steps.append(("s" + "abcd"[at], program, parameters, unless, cards))
    made = (draw.choice(("ja", "jb")), draw.choice(ACCOUNTS), draw.choice("ab"), draw.randrange(10), draw.randint(1, 200),
            draw.randrange(21), tuple(steps))
    assert is_deck(made)
    return made


def drawn_records(draw):
    if draw.random() < 0.3:
        return (15, 0, 42), (8, 0), (9,), (3, 0)
    return tuple((draw.randrange(10), draw.randrange(10)) for _ in range(draw.randrange(5)))


def drawn_deed(draw, house):
    """What an operator tries, most of which can be done."""
    job = draw.randint(1, len(house) + 1)
    papers = units.papers(house)
    key = draw.choice(papers)[0] if papers else (1, 0)
    return draw.choice((
        ("slot", draw.randint(1, 3), draw.choice(("a", "b", "ab"))), ("slot", draw.randint(1, 3), "ab"), ("stop", draw.randint(1, 3)),
        ("hold", job), ("free", job), ("cancel", job), ("rank", job, draw.randrange(10)), ("add", draw.choice(ACCOUNTS), draw.randint(1, 5000)),
        ("make", draw.choice(NAMES), draw.choice(("plain", "group", "library")), draw.randint(1, 3)), ("make", "lib", "library", 1),
        ("load", draw.choice(NAMES), draw.choice((1, 1, 2, 3)), drawn_records(draw)), ("load", "lib", draw.choice("mn"), drawn_records(draw)),
        ("load", draw.choice(NAMES), 1, drawn_records(draw)), ("drop", draw.choice(NAMES)), ("volume", draw.choice(VOLUMES)),
        ("drive", draw.randint(1, 3)), ("printer", draw.randint(1, 2), draw.choice(("plain", "plain", "wide"))),
        ("paper", draw.choice(("paper-hold", "paper-free", "paper-form")), key, draw.choice(("plain", "wide"))),
    ))


def drawn_event(draw, house):
    """What tries to come; a fall has its choices."""
    kind = draw.random()
    if kind < 0.6:
        return ("tick",)
    if kind < 0.68:
        return "hand", drawn_deck(draw)
    if kind < 0.72:
        return "answer", draw.choice(VOLUMES), draw.randint(1, 3)
    if kind < 0.75:
        return "paper", draw.randint(1, 2), draw.choice((1, 2, 5, 999))
    if kind < 0.8:
        part = draw.choice((0, 0.5, 0.5, 0.8, 1))
        return "fall", tuple(draw.random() < part for _ in range(house.loose()))
    return "operator", drawn_deed(draw, house)


def first_events(draw):
    """Accounts, initiators, and some files."""
    return [("operator", ("account", name, draw.randint(3000, 60000))) for name in ACCOUNTS] + [("operator", deed) for deed in (
        ("slot", 1, "ab"), ("slot", 2, "a"), ("make", "lib", "library", 1), ("load", "lib", "m", ((15, 0, 7), (8, 0), (9,), (3, 0))),
        ("make", "g", "group", 2), ("load", "g", 1, ((1,), (2,))), ("make", "a", "plain", 1), ("load", "a", 1, ((3,), (4,), (5,))))]


def running_decks(house):
    return [seen.deck_of(house, number) for number, _, state in seen.jobs(house) if state == "running"]
