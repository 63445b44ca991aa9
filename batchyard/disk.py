"""The disk: blocks of words, of whose last writings any part may be lost at a fall."""

from batchyard.errors import NoChoices, NoNumber, NoWords
from batchyard.records import are_words, is_whole

LEAST_BLOCKS = 6
MOST_BLOCKS = 2000
LEAST_SIZE = 16
MOST_SIZE = 400


class Disk:
    """So many blocks of so many words, all 0 at first."""

    def __init__(self, blocks, size):
        if not is_whole(blocks, LEAST_BLOCKS, MOST_BLOCKS) or not is_whole(size, LEAST_SIZE, MOST_SIZE):
            raise NoNumber("there is no disk of this size")
        self._size = size
        self._settled = [(0,) * size] * blocks
        # The blocks as they were written last, and all writings that are not settled yet.
        self._last = list(self._settled)
        self._writings = []

    def __len__(self):
        return len(self._settled)

    def write(self, number, words):
        """A block bears these words from now on, followed by 0, but loosely."""
        self._demand(number)
        if not are_words(words) or len(words) > self._size:
            raise NoWords("these are no words of a block")
        zeros = (0,) * (self._size - len(words))
        self._last[number] = (*words, *zeros)
        self._writings.append((number, self._last[number]))

    def block(self, number):
        """The words of a block, as they were written last."""
        self._demand(number)
        return self._last[number]

    def settle(self):
        """Settles all that is loose; told is how many writings that were."""
        many = len(self._writings)
        for number, words in self._writings:
            self._settled[number] = words
        self._writings = []
        return many

    def loose(self):
        """A list of the block numbers of all loose writings, in order."""
        return [number for number, _ in self._writings]

    def fall(self, choices):
        """Settles those loose writings for which the choice is True, and loses all others."""
        if not _are_choices(choices, len(self._writings)):
            raise NoChoices("this is no list of a truth for each loose writing")
        for is_kept, (number, words) in zip(choices, self._writings):
            if is_kept:
                self._settled[number] = words
        self._writings = []
        self._last = list(self._settled)

    def blocks(self):
        """All blocks, as they are settled."""
        return tuple(self._settled)

    def twin(self):
        """A disk that is as this one, and goes by itself."""
        other = Disk(len(self._settled), self._size)
        other._settled = list(self._settled)
        other._last = list(self._last)
        other._writings = list(self._writings)
        return other

    def _demand(self, number):
        if not is_whole(number, 0, len(self._settled) - 1):
            raise NoNumber("there is no such block")


def _are_choices(thing, many):
    """Whether a thing is a list of so many truths."""
    return isinstance(thing, list) and len(thing) == many and all([isinstance(part, bool) for part in thing])
