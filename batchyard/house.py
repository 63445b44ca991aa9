"""The house: it keeps all its tables by a journal, and comes up again behind a fall."""

from batchyard.disk import Disk
from batchyard.errors import IsDown, IsUp, NoRoom
from batchyard.events import do_event
from batchyard.images import image_of, tables_in
from batchyard.journal import HEAD, Journal, recovered
from batchyard.press import is_form_told
from batchyard.tables import Tables

# So many ticks are loose at most, on disks of shorter blocks as many as one has words for. Their deeds, of one word
# each, stand in one block; so each is one writing, and what a fall leaves of them is the same on all other disks.
MOST_LOOSE = 32
TICK_DEED = None


class House:
    """A house on a disk of so many blocks of so many words."""

    def __init__(self, *, blocks=2000, size=100):
        self.disk = Disk(blocks, size)
        self.tables = Tables()
        self.journal = Journal(self.disk, image_of(self.tables))
        self.most_loose = min(MOST_LOOSE, size - HEAD)
        self.history = []
        self.is_down = False

    def __len__(self):
        return len(self.tables.jobs)

    def operator(self, deed):
        """An operator's deed."""
        self._demand_up()
        do_event(self.tables, ("operator", deed))
        self._keep_settled(("operator", _kept_deed(deed)))
        self.history.append(_unshared(("operator", deed)))

    def hand(self, deck):
        """A job more; told is its number."""
        return self._come(("hand", deck))

    def tick(self):
        """Each initiator begins a job, or goes on with its own."""
        self._demand_up()
        if do_event(self.tables, ("tick",)):
            self._keep(TICK_DEED)
            if self.loose() >= self.most_loose:
                self._settle()
        self.history.append(("tick",))

    def answer(self, volume, drive):
        """A volume is mounted on a drive."""
        self._come(("answer", volume, drive))

    def paper(self, printer, many):
        """A list of the next lines, so many at most, that come out of a printer."""
        return self._come(("paper", printer, many))

    def loose(self):
        """How many writings are not kept yet."""
        self._demand_up()
        return len(self.disk.loose())

    def fall(self, choices):
        """The house is down; of the loose writings those are there for which the choice is True."""
        self._demand_up()
        self.disk.fall(choices)
        self.history.append(("fall", tuple(choices)))
        self.is_down = True
        self.tables = _tables_on(self.disk)

    def come_up(self):
        """The house is up, with what the fall has left; steps that went begin anew, or from their marks."""
        if not self.is_down:
            raise IsUp("the house is up")
        for job in self.tables.running():
            job.step = None
        # What the fall has left of later deeds must not be found behind those that come now.
        self.journal = Journal(self.disk, image_of(self.tables))
        self.is_down = False
        self.history.append(("up",))
        self._make_place()

    def events(self):
        """A list of all events that came and were not refused."""
        return [_unshared(event) for event in self.history]

    def _demand_up(self):
        if self.is_down:
            raise IsDown("the house is down")

    def _come(self, event):
        """Does what comes, and keeps it; told is what its deed tells."""
        self._demand_up()
        told = do_event(self.tables, event)
        self._keep_settled(event)
        self.history.append(event)
        return told

    def _keep_settled(self, deed):
        """Keeps a deed that was done, with all that were done ahead of it."""
        self._keep(deed)
        self._settle()

    def _keep(self, deed):
        """Keeps a deed that was done, loosely; in a new image, where it has no room behind the other deeds."""
        if self.journal.has_room(deed):
            self.journal.append(deed)
            return
        try:
            self.journal.renew(image_of(self.tables))
        except NoRoom:
            # What is refused changes nothing; the disk still tells what was there ahead of it.
            self.tables = _tables_on(self.disk)
            raise

    def _settle(self):
        self.journal.settle()
        self._make_place()

    def _make_place(self):
        """Sees to it that as many ticks as are ever loose have room in one block."""
        if self.journal.gather(self.most_loose):
            return
        try:
            self.journal.renew(image_of(self.tables))
        except NoRoom:
            # Where there is no room for an image, ticks go on behind the other deeds, as long as these have room.
            return
        self.journal.gather(self.most_loose)


def _tables_on(disk):
    """The tables that are found on a disk."""
    image, deeds = recovered(disk)
    tables = tables_in(image)
    for deed in deeds:
        do_event(tables, ("tick",) if deed == TICK_DEED else deed)
    return tables


def _kept_deed(deed):
    """An operator's deed as it is kept, without a form that does not matter, for this can be any thing."""
    if deed[0] == "paper" and not is_form_told(deed[1]):
        return (*deed[:3], None)
    return deed


def _unshared(event):
    """An event whose lists nobody else has; only in an operator's deed with a paper a form can be, or have, one."""
    if event[0] == "operator" and event[1][0] == "paper":
        return _copied(event)
    return event


def _copied(thing):
    """A thing like this, with lists of its own."""
    if isinstance(thing, list):
        return [_copied(part) for part in thing]
    if isinstance(thing, tuple):
        return tuple([_copied(part) for part in thing])
    return thing
