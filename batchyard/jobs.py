"""Jobs on their way: step by step, each as a step alone."""

from batchyard.decks import cost_of, is_left_out, price_of
from batchyard.filecards import passes_of
from batchyard.steps import StepAlone

CANCELLED = "cancelled"
DONE = "done"


class Job:
    """A job on its way: at which step it is, how those ahead ended, what they used, and what they passed on."""

    def __init__(self, number, deck):
        self.number = number
        self.deck = deck
        self.steps = deck[6]
        self.passes = passes_of(deck[6])
        self.place = 0
        self.codes = []
        self.turns = 0
        self.lines = 0
        self.passed = {}
        # The step that goes, or None, and how far it was when it was marked last, or None.
        self.step = None
        self.mark = None
        self.why = None

    def begin_step(self, catalogue):
        """Begins the step at which the job is, from its mark, if it has one."""
        turns, lines, steps = self.deck[4:]
        self.step = StepAlone(turns - self.turns, lines - self.lines)
        self.step.begin(steps[self.place], self.passes[self.place], self.passed, catalogue)
        if self.mark is not None:
            self.step.resume(self.mark)

    def go(self):
        """The step that goes is one turn further."""
        self.step.turn()
        if self.step.mark is not None:
            self.mark = self.step.mark

    def end_step(self, catalogue):
        """Leaves the step that ended; told are its lines, None without a code, and what it costs."""
        step = self.step
        lines = None
        if step.has_code():
            step.leave(self.passed, catalogue)
            lines = step.desk.lines
        self.codes.append((self.steps[self.place][0], step.end))
        self._lose_step()
        if lines is None:
            self._end(step.end)
            return None, self._use(step.turns, 0)
        self._pass_on()
        return lines, self._use(step.turns, len(lines))

    def cut_off(self, turns):
        """Ends the job where it is; told is what so many turns of the step that goes cost."""
        self._lose_step()
        self._end(CANCELLED)
        return self._use(turns, 0)

    def turns_of_step(self):
        """How many turns of the step that goes are known."""
        if self.step is not None:
            return self.step.turns
        return 0 if self.mark is None else self.mark[0]

    def cost(self):
        """What the job costs as far as it is."""
        return cost_of(self.turns, self.lines, price_of(self.deck[3]))

    def greatest_cost(self):
        """What all turns and lines of the job cost."""
        return cost_of(self.deck[4], self.deck[5], price_of(self.deck[3]))

    def _use(self, turns, lines):
        """Reckons so many turns and lines more; told is what they cost."""
        self.turns += turns
        self.lines += lines
        return cost_of(turns, lines, price_of(self.deck[3]))

    def _lose_step(self):
        self.step = None
        self.mark = None

    def _pass_on(self):
        """Goes on to the next step that is not left out."""
        self.place += 1
        while self.place < len(self.steps) and is_left_out(self.steps[self.place][3], self.codes):
            self.place += 1
        if self.place == len(self.steps):
            self._end(DONE)

    def _end(self, why):
        self.why = why
        self.passed = {}
