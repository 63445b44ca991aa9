"""Steps' desks: they tell a mind what it asks of its cards, and have what it puts and its lines."""

MOST_PUT = 30


class Desk:
    """The desk of a step whose cards are had as these."""

    def __init__(self, cards):
        self.cards = cards
        self.taken = [0] * len(cards)
        self.puts = [()] * len(cards)
        self.lines = ()

    def tell(self, asked):
        """The answer to what is asked, and None; or None, and why there is none."""
        word = asked[0]
        if word == "next":
            return self._next_record(asked[1])
        reason = None
        if word == "put":
            reason = self._put(asked[1], asked[2])
        elif word == "line":
            reason = self._line(asked[1])
        return (("told", True), None) if reason is None else (None, reason)

    def resume(self, taken, puts, lines):
        """Sets the desk where it was when so much was taken, put and printed."""
        self.taken = list(taken)
        self.puts = list(puts)
        self.lines = lines

    def last_record(self, at):
        """The record that was told last of a card, or None."""
        if at >= len(self.cards) or self.taken[at] == 0:
            return None
        return self.cards[at].records()[self.taken[at] - 1]

    def _next_record(self, at):
        if at >= len(self.cards):
            return None, "missing"
        card = self.cards[at]
        if card.how == "new":
            return None, "kind"
        records = card.records()
        if self.taken[at] == len(records):
            return ("told", None), None
        self.taken[at] += 1
        return ("told", records[self.taken[at] - 1]), None

    def _put(self, at, record):
        """Takes a record for a card; told is why it can not, or None."""
        if at >= len(self.cards):
            return "missing"
        card = self.cards[at]
        if card.how == "shared":
            return "kind"
        borne = len(card.records()) if card.how == "more" else 0
        if borne + len(self.puts[at]) >= MOST_PUT:
            return "records"
        self.puts[at] = (*self.puts[at], record)
        return None

    def _line(self, record):
        """Takes a line; told is why it can not, or None."""
        if len(self.lines) >= MOST_PUT:
            return "records"
        self.lines = (*self.lines, record)
        return None
