"""Houses for tests: how they are made and run, and all that is to be seen of them."""

from batchyard import seen, units
from batchyard.house import House


def house_with(*deeds, paid=100000, classes=("a",), **size):
    """A house with the account acc, an initiator for each text of classes, and what operators did behind that."""
    house = House(**size)
    house.operator(("account", "acc", paid))
    for number, letters in enumerate(classes, 1):
        house.operator(("slot", number, letters))
    for deed in deeds:
        house.operator(deed)
    return house


def make(name, kind="plain", keeps=1):
    return ("make", name, kind, keeps)


def load(name, key, *words):
    """A load of records of one word each."""
    return ("load", name, key, tuple([(word,) for word in words]))


def plain_file(name, *words):
    return (make(name), load(name, 1, *words))


def ticks(house, many):
    for _ in range(many):
        house.tick()


def state_of(house, number):
    return seen.jobs(house)[number - 1][2]


def run_out(house, most=3000):
    """Ticks till no job runs or waits; told is how many that were."""
    for many in range(most):
        if all(state in ("ended", "held") for _, _, state in seen.jobs(house)):
            return many
        house.tick()
    raise AssertionError("jobs do not end")


def fall(house, choice=False):
    """A fall with this choice for all that is loose, or with a list of choices; and up again."""
    house.fall(choice if isinstance(choice, list) else [choice] * house.loose())
    house.come_up()


def seen_of_job(house, number):
    return {told.__name__: told(house, number) for told in (
        seen.deck_of, seen.priority_of, seen.codes_of, seen.why, seen.used, seen.step_of, seen.has_mark)}


def told_by_jobs(house):
    """What jobs tell: how their steps ended, why they did, and what they used."""
    return [(seen.codes_of(house, number), seen.why(house, number), seen.used(house, number))
            for number in range(1, len(house) + 1)]


def all_seen(house):
    """All that is to be seen of a house, but its events and its disk."""
    told = {name: getattr(seen, name)(house) for name in ("jobs", "initiators", "accounts", "bookings", "order")}
    told.update({name: getattr(units, name)(house) for name in (
        "files", "asked", "drives", "mountings", "papers", "printers")})
    told["len"] = len(house)
    told["each"] = [seen_of_job(house, number) for number in range(1, len(house) + 1)]
    told["queues"] = [seen.queue(house, letter) for letter in "abcdefghijklmnopqrstuvwxyz"]
    told["shown"] = [units.shown(house, row[0]) for row in told["files"]]
    return told


def lines_out(house, printer=9):
    """All lines of papers of the form plain that are not held."""
    house.operator(("printer", printer, "plain"))
    return house.paper(printer, 999)


def disk_state(house):
    disk = seen.disk_of(house)
    return disk.blocks(), disk.loose(), [disk.block(number) for number in range(len(disk))]


def refused(test, refusal, house, deed):
    """A deed is refused so, and turns nothing that is seen of the house, its events or its disk."""
    before = (all_seen(house), house.events(), disk_state(house))
    with test.assertRaises(refusal):
        deed()
    test.assertEqual(all_seen(house), before[0])
    test.assertEqual(house.events(), before[1])
    test.assertEqual(disk_state(house), before[2])
