"""Names, words and records."""

LETTERS = "abcdefghijklmnopqrstuvwxyz"
MOST_LETTERS = 8
GREATEST_WORD = 9999
MOST_WORDS = 8
MOST_RECORDS = 30


def is_whole(thing, low, high):
    """Whether a thing is a whole number from low to high."""
    # To Python a truth is an int, too; here it is no number.
    return isinstance(thing, int) and not isinstance(thing, bool) and low <= thing <= high


def is_word(thing):
    """Whether a thing is a word."""
    return is_whole(thing, 0, GREATEST_WORD)


def are_words(thing):
    """Whether a thing is a list of words."""
    if not isinstance(thing, list):
        return False
    # Without a call for each word, for disks ask this of all that is written.
    return all([isinstance(word, int) and 0 <= word <= GREATEST_WORD and not isinstance(word, bool) for word in thing])


def is_name(thing):
    """Whether a thing is a name: a text of 1 to 8 letters a to z."""
    if not isinstance(thing, str) or not 1 <= len(thing) <= MOST_LETTERS:
        return False
    return all([sign in LETTERS for sign in thing])


def is_record(thing):
    """Whether a thing is a record: a tuple of 1 to 8 words."""
    if not isinstance(thing, tuple) or not 1 <= len(thing) <= MOST_WORDS:
        return False
    return all([is_word(part) for part in thing])


def are_records(thing):
    """Whether a thing is a tuple of at most 30 records."""
    if not isinstance(thing, tuple) or len(thing) > MOST_RECORDS:
        return False
    return all([is_record(part) for part in thing])
