"""The reading of programs: their errors, and the plans, readers and questions of their asks."""

from fadinginks.claims import is_claim
from fadinginks.errors import BadClaim, BadNumber, NoCell, NoStart, Twice, Unknown
from fadinginks.grammar import statements_of
from fadinginks.values import is_span, is_whole

MOST_CELLS = 4
MOST_INKS = 4
MOST_WRITES = 8
MOST_LOOKS = 3
LONGEST_STAY = 50
LONGEST_WRITE_REST = 50
LONGEST_LOOK_REST = 200
MOST_SLACK = 50


def check_number(number, low, high):
    """Raise BadNumber for a number that is not from low to high."""
    if not is_whole(number, low, high):
        raise BadNumber(f"not a number from {low} to {high}")


def check_bounds(low, high, most):
    """Raise BadNumber for numbers that are not the bounds of a rest of at most most."""
    if not is_span(low, high, most):
        raise BadNumber(f"not a low and a high from 0 to {most}")


class Draft:
    """What the statements of a program make, taken in one behind another; its asks are (plan, reader, question)."""

    def __init__(self, cells):
        check_number(cells, 1, MOST_CELLS)
        self.cells = cells
        self.inks = {}
        self.stays = []
        self.writes = []
        self.readers = {}
        self.asks = []

    def take_in(self, statement):
        """Take in a statement, but the cells'; raise its first error by the order of the text."""
        kind = statement[0]
        if kind == "ink":
            self.take_ink(statement)
        elif kind == "write":
            self.take_write(statement)
        elif kind == "reader":
            self.take_reader(statement)
        else:
            self.take_ask(statement)

    def check_new(self, name):
        """Raise Twice for a name that an ink or a reader has already."""
        if name in self.inks or name in self.readers:
            raise Twice(name)

    def check_place(self, cell):
        """Raise NoCell for a cell that the board does not have."""
        if cell >= self.cells:
            raise NoCell("not a cell of the program")

    def take_ink(self, statement):
        """Take in an ink."""
        _, name, stay = statement
        self.check_new(name)
        check_number(stay, 1, LONGEST_STAY)
        check_number(len(self.stays) + 1, 1, MOST_INKS)
        self.inks[name] = len(self.stays)
        self.stays.append(stay)

    def take_write(self, statement):
        """Take in a write."""
        _, cell, sign, name, low, high = statement
        self.check_place(cell)
        if name not in self.inks:
            raise Unknown(name)
        check_bounds(low, high, LONGEST_WRITE_REST)
        check_number(len(self.writes) + 1, 1, MOST_WRITES)
        self.writes.append((cell, sign, self.inks[name], low, high))

    def take_reader(self, statement):
        """Take in a reader."""
        _, name, start, looks = statement
        self.check_new(name)
        if start is not None and start >= len(self.writes):
            raise NoStart("no such write ahead of the reader")
        for at, (cell, low, high) in enumerate(looks):
            self.check_place(cell)
            check_bounds(low, high, LONGEST_LOOK_REST)
            check_number(at + 1, 1, MOST_LOOKS)
        self.readers[name] = (start, looks)

    def take_ask(self, statement):
        """Take in an ask, of the plan that stands ahead of it."""
        _, name, question = statement
        if name not in self.readers:
            raise Unknown(name)
        reader = self.readers[name]
        if question[0] == "slack":
            check_number(question[1], 0, MOST_SLACK)
        if question[0] != "reads" and not is_claim(question[-1], len(reader[1])):
            raise BadClaim("not a claim on the reader's looks")
        plan = (self.cells, tuple(self.stays), tuple(self.writes))
        self.asks.append((plan, reader, question))


def asks_of(statements):
    """Return the triples (plan, reader, question) of the statements' asks; raise the first error of the statements.

    A plan may have no ink here, and so no write.
    """
    draft = Draft(statements[0][1])
    for statement in statements[1:]:
        draft.take_in(statement)
    return draft.asks


def check(text):
    """Raise an error for any value but a program."""
    asks_of(statements_of(text))
