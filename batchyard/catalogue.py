"""The catalogue: the names of files, and what stands under them."""

from batchyard.errors import NoName, NoNumber, NoRecords
from batchyard.records import are_records, is_name, is_whole

KINDS = ("plain", "group", "library")
MOST_KEPT = 9
PLAIN_KEY = 1


class File:
    """What stands under a name: its kind, how many generations it keeps, its volume, its contents by keys."""

    def __init__(self, kind, keeps, volume):
        self.kind = kind
        self.keeps = keeps
        self.volume = volume
        self.contents = {}

    def key_of(self, generation, member):
        """The key that a card means, whether there is a content under it or not."""
        if self.kind == "library":
            return member
        if self.kind == "plain":
            return PLAIN_KEY
        # A group without a generation told means its newest.
        return self.greatest() + (0 if generation is None else generation)

    def greatest(self):
        """The greatest number of a generation, or 0 where there is none."""
        return max(list(self.contents), default=0)

    def store(self, key, records):
        """Sets a content; of a group the elder ones beyond those that it keeps go."""
        self.contents[key] = records
        if self.kind == "group":
            elder = sorted(self.contents)[:-self.keeps]
            for number in elder:
                del self.contents[number]

    def shown(self):
        """A rising list of (key, records) of all contents."""
        return [(key, self.contents[key]) for key in sorted(self.contents)]


class Catalogue:
    """All names of files that are kept."""

    def __init__(self):
        self.files = {}

    def demand_new(self, name, kind, keeps):
        """Refuses what can not be made."""
        if not is_name(name) or kind not in KINDS:
            raise NoName("this is no name, or no kind")
        if not is_whole(keeps, 1, MOST_KEPT):
            raise NoNumber("so many can not be kept")
        if name in self.files:
            raise NoName("the name is there")

    def demand(self, name):
        """Refuses a name that is not there."""
        if not is_name(name) or name not in self.files:
            raise NoName("there is no such name")

    def make(self, name, kind, keeps):
        """An operator's deed: a name more, without contents."""
        self.demand_new(name, kind, keeps)
        self.files[name] = File(kind, keeps, None)

    def load(self, name, key, records):
        """An operator's deed: a content."""
        self.demand(name)
        file = self.files[name]
        _demand_key(file, key)
        if not are_records(records):
            raise NoRecords("this is no tuple of records")
        file.store(key, records)

    def drop(self, name):
        """An operator's deed: a name is no more."""
        self.demand(name)
        del self.files[name]

    def keep(self, name, key, records, volume):
        """A step's deed: a content; where the name is not there, of a new plain file on this volume."""
        if name not in self.files:
            self.files[name] = File("plain", 1, volume)
        self.files[name].store(key, records)

    def lose(self, name, key):
        """A step's deed: a plain file, or a content of another one, is no more, if it was there."""
        if name not in self.files:
            return
        file = self.files[name]
        if file.kind == "plain":
            del self.files[name]
        elif key in file.contents:
            del file.contents[key]

    def member(self, library, name):
        """The content of a library under this name, or None."""
        # Only libraries have contents under names, so that others have none under this one.
        return self.files[library].contents.get(name) if library in self.files else None

    def listed(self):
        """A rising list of (name, kind, contents) of all names."""
        return [(name, self.files[name].kind, self.files[name].shown()) for name in sorted(self.files)]


def _demand_key(file, key):
    """Refuses a key under which no content can be loaded."""
    if file.kind == "library":
        if not is_name(key):
            raise NoName("this is no name of a member")
        return
    wanted = PLAIN_KEY if file.kind == "plain" else file.greatest() + 1
    if not is_whole(key, wanted, wanted):
        raise NoNumber("this is not the number that comes")
