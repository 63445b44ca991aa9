"""Values, and how they are written as words."""

from batchyard.errors import NoValue, NoWords
from batchyard.records import are_words

SIGNS = "abcdefghijklmnopqrstuvwxyz0123456789 -.,:;/+*=()"
BASE = 10000
# So many digits to the base 10000 are 400 figures.
MOST_DIGITS = 100
NUMBER_BOUND = (10000 ** 50) ** 2
MOST_PARTS = 9999
MOST_DEEP = 50

# The words with which the writings of values begin; the first three are whole writings.
SINGLES = (None, False, True)
NUMBER = 3
BELOW_ZERO = 4
TEXT = 5
TUPLE = 6

DIGEST_BEGIN = 7
DIGEST_FACTOR = 10007
DIGEST_MODULUS = 99999989


def is_value(thing):
    """Whether a thing is a value."""
    return _is_value_within(thing, 0)


def written(value):
    """The words of a value."""
    if not is_value(value):
        raise NoValue("this is no value")
    words = []
    _write(value, words)
    return words


def read(words):
    """The value of which these words are the writing."""
    _demand_words(words)
    value, end = value_at(words, 0)
    if end != len(words):
        raise NoWords("there are words behind the value")
    return value


def digest(words):
    """Two words that tell, but for chance, whether words are the same."""
    _demand_words(words)
    told = DIGEST_BEGIN
    for word in words:
        told = (DIGEST_FACTOR * told + word + 1) % DIGEST_MODULUS
    return [told // BASE, told % BASE]


def value_at(words, at, deep=0):
    """The value whose writing begins at this place of a list of words, and where it ends; deep tuples are around it."""
    head = _word_at(words, at)
    if head < len(SINGLES):
        return SINGLES[head], at + 1
    many = _word_at(words, at + 1)
    if head in (NUMBER, BELOW_ZERO):
        return _read_number(_part_of(words, at + 2, many), head == BELOW_ZERO), at + 2 + many
    if head == TEXT:
        return _read_text(_part_of(words, at + 2, many)), at + 2 + many
    if head == TUPLE and deep < MOST_DEEP:
        return _tuple_at(words, at + 2, many, deep + 1)
    raise NoWords("no value begins so")


def _is_value_within(thing, deep):
    """Whether a thing is a value where so many tuples are around it."""
    if thing is None or isinstance(thing, bool):
        return True
    if isinstance(thing, int):
        return abs(thing) < NUMBER_BOUND
    if isinstance(thing, str):
        return len(thing) <= MOST_PARTS and all([sign in SIGNS for sign in thing])
    if not isinstance(thing, tuple) or len(thing) > MOST_PARTS or deep >= MOST_DEEP:
        return False
    return all([_is_value_within(part, deep + 1) for part in thing])


def _write(value, words):
    """Puts the words of a value behind others."""
    if value is None or isinstance(value, bool):
        words.append(SINGLES.index(value))
    elif isinstance(value, int):
        digits = _digits_of(abs(value))
        words.extend([BELOW_ZERO if value < 0 else NUMBER, len(digits), *digits])
    elif isinstance(value, str):
        words.extend([TEXT, len(value)])
        words.extend([SIGNS.index(sign) for sign in value])
    else:
        words.extend([TUPLE, len(value)])
        for part in value:
            _write(part, words)


def _digits_of(number):
    """The digits of a number to the base 10000, the lowest first."""
    digits = []
    while number > 0:
        digits.append(number % BASE)
        number = number // BASE
    return digits


def _demand_words(thing):
    if not are_words(thing):
        raise NoWords("this is no list of words")


def _word_at(words, at):
    if at >= len(words):
        raise NoWords("a word is missing")
    return words[at]


def _part_of(words, at, many):
    part = words[at:at + many]
    if len(part) < many:
        raise NoWords("words are missing")
    return part


def _read_number(digits, is_below_zero):
    # Each number has one writing: none begins with zeros, and 0 is not below itself.
    if len(digits) > MOST_DIGITS or digits[-1:] == [0] or (is_below_zero and not digits):
        raise NoWords("no number is written so")
    number = 0
    for digit in reversed(digits):
        number = number * BASE + digit
    return -number if is_below_zero else number


def _read_text(places):
    if any([place >= len(SIGNS) for place in places]):
        raise NoWords("there is no such sign")
    return "".join([SIGNS[place] for place in places])


def _tuple_at(words, at, many, deep):
    """A tuple of so many values from this place on, and where it ends."""
    parts = []
    for _ in range(many):
        part, at = value_at(words, at, deep)
        parts.append(part)
    return tuple(parts), at
