"""Minds: programs on their way, step by step."""

from batchyard.codes import demand_code
from batchyard.errors import NoAnswer
from batchyard.records import GREATEST_WORD, is_record

# The places of a mind's parts in its tuple.
PROGRAM = 0
PLACE = 1
REGISTERS = 2
RECORDS = 3
ENDS = 4
WAITS = 5

MANY_REGISTERS = 8
MANY_CARDS = 6
MODULUS = GREATEST_WORD + 1


def begun(code, parameters):
    """The mind of a program at its beginning."""
    demand_code(code)
    zeros = (0,) * (MANY_REGISTERS - len(parameters))
    return code, 0, (*parameters, *zeros), (None,) * MANY_CARDS, (False,) * MANY_CARDS, None


def gone(mind, answer=None):
    """A mind one step further, or with the answer it waited for; and what it asks, or None."""
    if mind[WAITS] is not None:
        return _answered(mind, answer), None
    if answer is not None:
        raise NoAnswer("nothing is waited for")
    if mind[PLACE] >= len(mind[PROGRAM]):
        return _asking(mind, ("fault", "place"))
    return _done(mind, mind[PROGRAM][mind[PLACE]])


def gone_so_far(mind, place, registers, records, ends):
    """The mind of the same program at this place, with these for its own, that waits for nothing."""
    return mind[PROGRAM], place, registers, records, ends, None


def _answered(mind, answer):
    """A mind that waited, with its answer."""
    waits = mind[WAITS]
    if not _fits(waits, answer):
        raise NoAnswer("this is no answer to what is waited for")
    if waits[0] == "next":
        mind = _with_record(mind, waits[1], answer[1])
    return _further(_with_part(mind, WAITS, None))


def _fits(waits, answer):
    """Whether a thing is an answer to what is waited for."""
    if not isinstance(answer, tuple) or len(answer) != 2 or answer[0] != "told":
        return False
    if waits[0] == "next":
        return answer[1] is None or is_record(answer[1])
    # To Python 1 is the same as True; here it is no answer.
    return waits[0] in ("put", "line", "mark") and answer[1] is True


def _done(mind, step):
    """A mind behind this step of its program, and what the step asks, or None."""
    word = step[0]
    if word in ("div", "mod") and mind[REGISTERS][step[3]] == 0:
        return _asking(mind, ("fault", "zero"))
    if word in RECKONINGS or word in ("set", "copy", "field"):
        return _further(_with_register(mind, step[1], _worth(mind, step))), None
    if word in ("go", "if", "over"):
        return _with_part(mind, PLACE, _next_place(mind, step)), None
    return _asking(mind, _question(mind, step))


def _worth(mind, step):
    """What a step makes its register."""
    word = step[0]
    registers = mind[REGISTERS]
    if word in RECKONINGS:
        reckoning = RECKONINGS[word]
        return reckoning(registers[step[2]], registers[step[3]])
    if word == "set":
        return step[2]
    if word == "copy":
        return registers[step[2]]
    return _field_of(mind[RECORDS][step[2]], step[3])


def _field_of(record, at):
    """The field of a card's last record; 0 where there is none."""
    return 0 if record is None or at >= len(record) else record[at]


def _next_place(mind, step):
    """Where the mind is behind a go, an if or an over."""
    word = step[0]
    if word == "go":
        return step[1]
    goes = mind[ENDS][step[1]] if word == "over" else mind[REGISTERS][step[1]] != 0
    return step[2] if goes else mind[PLACE] + 1


def _question(mind, step):
    """What a step asks that is to be told from outside."""
    word = step[0]
    registers = mind[REGISTERS]
    if word == "take":
        return "next", step[1]
    if word == "put":
        return "put", step[1], _row_of(registers, step[2])
    if word == "line":
        return "line", _row_of(registers, step[1])
    if word == "mark":
        return ("mark",)
    return "end", registers[step[1]]


def _row_of(registers, row):
    return tuple([registers[at] for at in row])


def _asking(mind, asked):
    return _with_part(mind, WAITS, asked), asked


def _further(mind):
    return _with_part(mind, PLACE, mind[PLACE] + 1)


def _with_record(mind, card, record):
    """A mind that was told this by a card's take."""
    told = _with_part(mind, RECORDS, _with_part(mind[RECORDS], card, record))
    return _with_part(told, ENDS, _with_part(mind[ENDS], card, record is None))


def _with_register(mind, at, word):
    return _with_part(mind, REGISTERS, _with_part(mind[REGISTERS], at, word))


def _with_part(row, at, part):
    return (*row[:at], part, *row[at + 1:])


def _sum_of(left, right):
    return (left + right) % MODULUS


def _rest_of(left, right):
    return (left - right) % MODULUS


def _product_of(left, right):
    return (left * right) % MODULUS


def _quotient_of(left, right):
    return left // right


def _remainder_of(left, right):
    return left % right


def _is_less(left, right):
    return 1 if left < right else 0


def _is_same(left, right):
    return 1 if left == right else 0


RECKONINGS = {
    "add": _sum_of,
    "div": _quotient_of,
    "less": _is_less,
    "mod": _remainder_of,
    "mul": _product_of,
    "same": _is_same,
    "sub": _rest_of,
}
