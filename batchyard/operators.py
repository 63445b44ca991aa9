"""What operators do."""

from batchyard.errors import Busy, NoAccount, NoEvents, NoJob, NoName, NoNumber, NoRoom, NoSlot
from batchyard.jobs import CANCELLED
from batchyard.records import is_name, is_whole
from batchyard.tables import ENDED, HELD, RUNNING, WAITING, Initiator

MOST_SUM = 999999
MOST_INITIATORS = 6
MOST_CLASSES = 6
MOST_PRIORITY = 9
MOST_FILE_CARDS = 40

MANY_PARTS = {
    "account": 2,
    "add": 2,
    "slot": 2,
    "stop": 1,
    "hold": 1,
    "free": 1,
    "rank": 2,
    "cancel": 1,
    "make": 3,
    "load": 3,
    "drop": 1,
    "volume": 1,
    "drive": 1,
    "printer": 2,
    "paper": 3,
}


def do_deed(tables, deed):
    """Does an operator's deed."""
    _demand_deed(deed)
    word, *parts = deed
    action = ACTIONS[word]
    action(tables, *parts)


def _demand_deed(thing):
    """Refuses what is no deed, by word and number of parts."""
    if not isinstance(thing, tuple) or not thing or not isinstance(thing[0], str):
        raise NoEvents("this is no deed")
    if thing[0] not in MANY_PARTS or len(thing) - 1 != MANY_PARTS[thing[0]]:
        raise NoEvents("there is no such deed")


def _open_account(tables, name, paid):
    if not is_name(name):
        raise NoName("this is no name of an account")
    if name in tables.accounts:
        raise NoAccount("the account is there")
    if not is_whole(paid, 0, MOST_SUM):
        raise NoNumber("this sum can not be paid in")
    tables.accounts[name] = paid


def _add_to_account(tables, name, paid):
    if not is_name(name):
        raise NoName("this is no name of an account")
    if name not in tables.accounts:
        raise NoAccount("there is no such account")
    if not is_whole(paid, 1, MOST_SUM):
        raise NoNumber("this sum can not be paid in")
    tables.accounts[name] += paid


def _set_initiator(tables, number, classes):
    if not is_whole(number, 1, MOST_INITIATORS) or not is_name(classes) or len(classes) > MOST_CLASSES:
        raise NoSlot("this is no number of an initiator, or these are no classes")
    runs = tables.initiators[number].runs if number in tables.initiators else None
    tables.initiators[number] = Initiator(classes, False, runs)


def _stop_initiator(tables, number):
    if not is_whole(number, 1, MOST_INITIATORS) or number not in tables.initiators:
        raise NoSlot("there is no such initiator")
    initiator = tables.initiators[number]
    initiator.drains = True


def _hold_job(tables, number):
    job = _job_in(tables, number, (WAITING,))
    job.state = HELD


def _free_job(tables, number):
    job = _job_in(tables, number, (HELD,))
    job.state = WAITING


def _rank_job(tables, number, priority):
    job = _job_in(tables, number, (WAITING, HELD))
    if not is_whole(priority, 0, MOST_PRIORITY):
        raise NoNumber("this is no priority")
    job.priority = priority


def _cancel_job(tables, number):
    job = tables.job(number)
    if job.state == ENDED:
        raise NoJob("the job ended")
    turns = job.turns_of_step()
    if job.state == RUNNING:
        job.cut = (len(job.codes), turns)
    tables.book(job, CANCELLED, job.cut_off(turns))
    tables.end_job(job)


def _job_in(tables, number, states):
    """The job of this number, if it is in one of these states."""
    job = tables.job(number)
    if job.state not in states:
        raise NoJob("there is no such job that waits, or is held")
    return job


def _make_file(tables, name, kind, keeps):
    _demand_file_room(tables)
    tables.catalogue.demand_new(name, kind, keeps)
    _demand_idle(tables, name)
    tables.catalogue.make(name, kind, keeps)
    tables.done_rows.append(("make", name, kind, keeps))


def _load_file(tables, name, key, records):
    _demand_file_room(tables)
    tables.catalogue.demand(name)
    _demand_idle(tables, name)
    tables.catalogue.load(name, key, records)
    tables.done_rows.append(("load", name, key, records))


def _drop_file(tables, name):
    tables.catalogue.demand(name)
    _demand_idle(tables, name)
    tables.catalogue.drop(name)
    tables.done_rows.append(("drop", name))


def _demand_file_room(tables):
    if tables.many_file_cards() >= MOST_FILE_CARDS:
        raise NoRoom("there are as many cards for files as can be")


def _demand_idle(tables, name):
    """Refuses a name that a running job wants."""
    if any([job.wants(name) for job in tables.running()]):
        raise Busy("a running job wants this name")


def _know_volume(tables, volume):
    tables.mounts.know(volume)


def _install_drive(tables, drive):
    tables.mounts.install(drive)


def _set_printer(tables, number, form):
    tables.press.set_printer(number, form)


def _treat_paper(tables, word, key, form):
    tables.press.treat(word, key, form)


ACTIONS = {
    "account": _open_account,
    "add": _add_to_account,
    "slot": _set_initiator,
    "stop": _stop_initiator,
    "hold": _hold_job,
    "free": _free_job,
    "rank": _rank_job,
    "cancel": _cancel_job,
    "make": _make_file,
    "load": _load_file,
    "drop": _drop_file,
    "volume": _know_volume,
    "drive": _install_drive,
    "printer": _set_printer,
    "paper": _treat_paper,
}
