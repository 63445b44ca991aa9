"""Values as texts, and events as lines."""

from batchyard.errors import NoText, NoValue
from batchyard.values import MOST_DEEP, is_value

WORDS = {"none": None, "yes": True, "no": False}
FIGURES = "0123456789"
MOST_FIGURES = 400
QUOTE = '"'
ENDS = " )"


def value_text(value):
    """The text of a value."""
    if not is_value(value):
        raise NoValue("this is no value")
    return _text_of(value)


def read_value(text):
    """The value of which this is the text."""
    if not isinstance(text, str):
        raise NoText("this is no text")
    value, end = _value_at(text, 0, 0)
    if end != len(text) or not is_value(value):
        raise NoText("this is no text of a value")
    return value


def events_text(events):
    """A line for each of a list of values."""
    if not isinstance(events, list):
        raise NoValue("this is no list of values")
    return "".join([value_text(event) + "\n" for event in events])


def read_events(text):
    """The list of values of which this is the lines."""
    if not isinstance(text, str) or not (text == "" or text.endswith("\n")):
        raise NoText("this is no text of lines")
    return [read_value(line) for line in text.split("\n")[:-1]]


def _text_of(value):
    if value is None:
        return "none"
    if isinstance(value, bool):
        return "yes" if value else "no"
    if isinstance(value, int):
        return str(value)
    if isinstance(value, str):
        return QUOTE + value + QUOTE
    parts = " ".join([_text_of(part) for part in value])
    return f"({parts})"


def _value_at(text, at, deep):
    """The value whose text begins at this place, and where it ends; deep tuples are around it."""
    sign = text[at:at + 1]
    if sign == QUOTE:
        end = text.find(QUOTE, at + 1)
        if end < 0:
            raise NoText("a text has no end")
        return text[at + 1:end], end + 1
    if sign == "(" and deep < MOST_DEEP:
        return _tuple_at(text, at + 1, deep + 1)
    end = at
    while end < len(text) and text[end] not in ENDS:
        end += 1
    return _word_value(text[at:end]), end


def _tuple_at(text, at, deep):
    """The tuple whose parts begin at this place, and where it ends."""
    if text[at:at + 1] == ")":
        return (), at + 1
    parts = []
    while True:
        part, at = _value_at(text, at, deep)
        parts.append(part)
        sign = text[at:at + 1]
        if sign == ")":
            return tuple(parts), at + 1
        if sign != " ":
            raise NoText("a tuple has no end")
        at += 1


def _word_value(word):
    """The value of a word that is no text and no tuple."""
    if word in WORDS:
        return WORDS[word]
    figures = word[1:] if word.startswith("-") else word
    if not figures or len(figures) > MOST_FIGURES or not all([figure in FIGURES for figure in figures]):
        raise NoText("no value is written so")
    number = int(word)
    # Each number has one text: without zeros ahead, and 0 without a sign.
    if str(number) != word:
        raise NoText("no number is written so")
    return number
