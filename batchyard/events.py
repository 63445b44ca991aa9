"""What comes to a house that is up, and what it turns in the tables."""

from batchyard.decks import is_deck
from batchyard.errors import NoAccount, NoDeck, NoDrive, NoRoom, TooDear
from batchyard.filecards import is_for_file
from batchyard.operators import MOST_FILE_CARDS, do_deed
from batchyard.tables import HouseJob
from batchyard.ticks import tick
from batchyard.values import written

MOST_JOBS = 12
MOST_DECK_WORDS = 800


def do_event(tables, event):
    """Does what comes; told is what its deed tells, of a tick whether anything was done."""
    match event[0]:
        case "hand":
            return _hand(tables, event[1])
        case "operator":
            return do_deed(tables, event[1])
        case "answer":
            return _answer(tables, event[1], event[2])
        case "paper":
            return tables.press.taken_off(event[1], event[2])
        case _:
            return tick(tables)


def _hand(tables, deck):
    """A job more; told is its number."""
    if not is_deck(deck):
        raise NoDeck("this is no deck")
    if deck[1] not in tables.accounts:
        raise NoAccount("there is no such account")
    number = len(tables.jobs) + 1
    job = HouseJob(number, deck, tables.many_begun())
    cards = [card for step in deck[6] for card in step[4] if is_for_file(card)]
    if number > MOST_JOBS or tables.many_file_cards() + len(cards) > MOST_FILE_CARDS:
        raise NoRoom("there are as many jobs, or cards for files, as can be")
    if len(written(deck)) > MOST_DECK_WORDS:
        raise NoRoom("the deck is too long")
    if tables.left(deck[1]) - tables.set_by(deck[1]) < job.greatest_cost():
        raise TooDear("the account has less than this could cost")
    tables.jobs.append(job)
    return number


def _answer(tables, volume, drive):
    """A volume is mounted on a drive."""
    tables.mounts.demand_mountable(volume)
    there = tables.mounts.on_drive(drive)
    # Of an empty drive this is None, which no job wants.
    if any([there in other.needs[2] for other in tables.running()]):
        raise NoDrive("a running job wants the volume that is on this drive")
    asking = [job for job in tables.jobs if volume in job.asked]
    tables.mounts.mount(volume, drive, bool(asking))
    for job in asking:
        job.asked = tuple([wanted for wanted in job.asked if wanted != volume])
