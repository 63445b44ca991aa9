"""Steps alone: a step of a job from its beginning to its end, turn by turn."""

from batchyard.cardfiles import open_cards, turn_files
from batchyard.codes import code_in, is_code
from batchyard.desks import Desk
from batchyard.minds import ENDS, PLACE, REGISTERS, begun, gone, gone_so_far


class StepAlone:
    """A step on its way; its end is its code, or a text that tells why it has none, or None till it ends."""

    def __init__(self, turns_left, lines_left):
        self.turns_left = turns_left
        self.lines_left = lines_left
        self.turns = 0
        self.mind = None
        self.desk = None
        self.end = None
        # How far it was when it asked to be marked.
        self.mark = None

    def begin(self, step, passes, passed, catalogue):
        """Begins a step of a deck, to which the names of passes are passed on, by what was passed on."""
        code = _code_of(step[1], catalogue)
        if code is None:
            self.end = "program"
            return
        cards, reason = open_cards(step[4], passes, passed, catalogue)
        if reason is not None:
            self.end = reason
            return
        self.mind = begun(code, step[2])
        self.desk = Desk(cards)

    def turn(self):
        """Goes on by one turn, where the job has one left."""
        if self.turns >= self.turns_left:
            self.end = "turns"
            return
        self.turns += 1
        self.mind, asked = gone(self.mind)
        if asked is None:
            return
        if asked[0] in ("end", "fault"):
            self.end = asked[1]
            return
        self._ask_desk(asked)

    def reached(self):
        """How far the step is, as a value with which it can be resumed."""
        mind = self.mind
        desk = self.desk
        return (self.turns, mind[PLACE], mind[REGISTERS], mind[ENDS], tuple(desk.taken), tuple(desk.puts), desk.lines)

    def resume(self, reached):
        """Sets a step that was just begun where it was when this was told."""
        self.turns, place, registers, ends, taken, puts, lines = reached
        self.desk.resume(taken, puts, lines)
        records = [None if is_ended else self.desk.last_record(at) for at, is_ended in enumerate(ends)]
        self.mind = gone_so_far(self.mind, place, registers, tuple(records), ends)

    def has_code(self):
        """Whether the step ended with a code."""
        return self.end is not None and not isinstance(self.end, str)

    def leave(self, passed, catalogue):
        """Turns the files of the step, when it ended with a code."""
        turn_files(self.desk.cards, self.desk.puts, passed, catalogue)

    def _ask_desk(self, asked):
        answer, reason = self.desk.tell(asked)
        if reason is None and len(self.desk.lines) > self.lines_left:
            reason = "lines"
        if reason is not None:
            self.end = reason
            return
        self.mind, _ = gone(self.mind, answer)
        if asked[0] == "mark":
            self.mark = self.reached()


def _code_of(program, catalogue):
    """The program of a step, or None where its library has none."""
    if is_code(program):
        return program
    library, member = program
    records = catalogue.member(library, member)
    return None if records is None else code_in(records)
