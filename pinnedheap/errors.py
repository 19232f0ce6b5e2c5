"""The errors of the package.

No error puts its value into a message of its own: a very large integer cannot
be written out in digits, and an error must be possible for every value. The
errors without a value have an `__init__`, too: otherwise Python would accept any.
"""


class HeapError(ValueError):
    """Every error of the package is directly below this one."""


class BadChain(HeapError):
    """The value is no chain."""

    def __init__(self, chain):
        self.chain = chain


class BadPages(HeapError):
    """The value is no number of pages."""

    def __init__(self, pages):
        self.pages = pages


class BadLimit(HeapError):
    """The value is no limit of live words."""

    def __init__(self, limit):
        self.limit = limit


class BadRule(HeapError):
    """The value is no rule."""

    def __init__(self, rule):
        self.rule = rule


class BadSize(HeapError):
    """The value is no size that is allowed here."""

    def __init__(self, size):
        self.size = size


class BadState(HeapError):
    """The value is no state of this heap, or it exceeds the limit."""

    def __init__(self, value):
        self.value = value


class BadPlace(HeapError):
    """The value is no place for the size."""

    def __init__(self, address):
        self.address = address


class BadAnswer(HeapError):
    """The value does not answer the request."""

    def __init__(self, value):
        self.value = value


class BadEvent(HeapError):
    """The item of the history with this index cannot stand there."""

    def __init__(self, number):
        self.number = number


class OverLimit(HeapError):
    """A block of this size would exceed the limit of live words."""

    def __init__(self, size):
        self.size = size


class NoRoom(HeapError):
    """There is no place for this size."""

    def __init__(self, size):
        self.size = size


class NoBlock(HeapError):
    """The value is not the address of a block."""

    def __init__(self, address):
        self.address = address


class TooMany(HeapError):
    """There is more to look at than this limit."""

    def __init__(self, limit):
        self.limit = limit


class Safe(HeapError):
    """The state is safe, so there is no strategy."""

    def __init__(self):
        pass


class Unsafe(HeapError):
    """The state is not safe, so there is no plan."""

    def __init__(self):
        pass


class Finished(HeapError):
    """The request program is finished."""

    def __init__(self):
        pass


class NothingToUndo(HeapError):
    """There is no event that could be taken back."""

    def __init__(self):
        pass


class BadText(HeapError):
    """The line of the text with this index cannot stand there."""

    def __init__(self, row):
        self.row = row


class BadLine(HeapError):
    """The value has none of the forms that a desk knows."""

    def __init__(self, line):
        self.line = line
