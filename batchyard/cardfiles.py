"""The files of a step's cards: how they are had when it begins, and turned when it ends with a code."""

from batchyard.catalogue import PLAIN_KEY
from batchyard.filecards import NEXT_GENERATION, is_for_file, is_name_alone, is_shared_kept

DATA = "data"
PASSED = "passed"
CATALOGUE = "catalogue"


class OpenCard:
    """A card as it is had: what its file bore when the step began, None without a content, and under what key.

    Its source is DATA, PASSED for what was passed on to the step, or CATALOGUE for all else.
    """

    def __init__(self, card, source, bore, key=PLAIN_KEY):
        self.card = card
        self.source = source
        self.how = card[1] if is_for_file(card) else "shared"
        self.bore = bore
        self.key = key

    def borne_behind(self, put):
        """What the file bears when so much was put to it."""
        if self.how == "new":
            return put
        if self.how == "more":
            return (*self.records(), *put)
        return put if put else self.bore

    def records(self):
        """The records that can be read."""
        return () if self.bore is None else self.bore


def open_cards(cards, passes, passed, catalogue):
    """The cards of a step as they are had, and None; or None, and why one can not be had.

    passes are the names that are passed on to the step by the job's cards; passed has what was passed on.
    """
    if _is_one_twice([card for card in cards if is_for_file(card)]):
        return None, "twice"
    told = []
    for card in cards:
        opened, reason = _opened(card, passes, passed, catalogue)
        if reason is not None:
            return None, reason
        told.append(opened)
    return told, None


def turn_files(opened, puts, passed, catalogue):
    """Turns the files of a step that ended with a code, by what it put to each of its cards."""
    for card, put in zip(opened, puts):
        if card.source != DATA:
            _turn_file(card, card.borne_behind(put), passed, catalogue)


def _is_one_twice(cards):
    """Whether two cards are for one name, and not both shared, keep."""
    names = [card[0][0] for card in cards]
    return any([names.count(card[0][0]) > 1 and not is_shared_kept(card) for card in cards])


def _opened(card, passes, passed, catalogue):
    """A card as it is had, and None; or None, and why it can not be had."""
    if not is_for_file(card):
        return OpenCard(card, DATA, card[1]), None
    reference, how, then = card
    name = reference[0]
    if is_name_alone(reference) and name in passes:
        return _opened_passed(card, passed, catalogue)
    if how == "new" and then == "pass":
        return OpenCard(card, CATALOGUE, None), None
    if name in catalogue.files:
        return _opened_known(card, catalogue.files[name])
    return _opened_unknown(card)


def _opened_passed(card, passed, catalogue):
    """A card for a name that is passed on to the step."""
    reference, how, then = card
    name = reference[0]
    if name not in passed:
        return None, "missing"
    if how == "new" or (then == "keep" and name in catalogue.files):
        return None, "taken"
    return OpenCard(card, PASSED, passed[name]), None


def _opened_unknown(card):
    """A card for a name that the catalogue has not."""
    reference, how, _ = card
    if how in ("old", "shared"):
        return None, "missing"
    if reference[1] is not None or reference[2] is not None:
        return None, "kind"
    return OpenCard(card, CATALOGUE, None), None


def _opened_known(card, file):
    """A card for a name under which the catalogue has this file."""
    reference, how, _ = card
    _, generation, member, volume = reference
    if file.volume != volume:
        return None, "volume"
    if not _is_of_kind(file.kind, generation, member):
        return None, "kind"
    key = file.key_of(generation, member)
    if key in file.contents:
        if how == "new":
            return None, "taken"
        return OpenCard(card, CATALOGUE, file.contents[key], key), None
    if how in ("old", "shared"):
        return None, "member" if file.kind == "library" else "generation"
    if file.kind == "group" and generation != NEXT_GENERATION:
        return None, "generation"
    return OpenCard(card, CATALOGUE, None, key), None


def _is_of_kind(kind, generation, member):
    """Whether a reference can be to a file of this kind."""
    if generation is not None and kind != "group":
        return False
    return (member is not None) == (kind == "library")


def _turn_file(card, records, passed, catalogue):
    """Does what is to be done then with a card's file, that bears these records now."""
    reference, _, then = card.card
    name = reference[0]
    if then == "pass":
        passed[name] = records
        return
    # Two shared cards can be for one name that was passed on: the second finds it gone.
    if card.source == PASSED and name in passed:
        del passed[name]
    if then == "keep":
        catalogue.keep(name, card.key, records, reference[3])
    elif card.source != PASSED:
        catalogue.lose(name, card.key)
