"""Heaps that record their events, so that these can be taken back."""

from pinnedheap.bounds import outlook
from pinnedheap.chains import class_of, is_chain
from pinnedheap.errors import (BadChain, BadEvent, BadLimit, BadPages, BadPlace, BadRule, HeapError, NoRoom,
                               NothingToUndo, OverLimit)
from pinnedheap.integers import is_integer
from pinnedheap.rules import is_rule, place
from pinnedheap.states import is_place, live_words, with_block, without_block


class Heap:
    """A heap with a rule and a limit of live words, empty at first."""

    def __init__(self, chain, pages, limit, *, rule="lowest"):
        if not is_chain(chain):
            raise BadChain(chain)
        if not is_integer(pages) or pages < 0:
            raise BadPages(pages)
        if not is_integer(limit) or limit < 0:
            raise BadLimit(limit)
        if not is_rule(rule):
            raise BadRule(rule)
        self.chain = chain
        self.pages = pages
        self.limit = limit
        self.rule = rule
        self.blocks = ()
        # Triples (word, address, size): the event of a free has no size, but undo needs it.
        self.steps = []

    def get(self, size):
        """Place a block by the rule and return its address."""
        self.check(size)
        address = place(self.rule, self.chain, self.pages, self.blocks, size)
        if address is None:
            raise NoRoom(size)
        self.enter(address, size)
        return address

    def put(self, address, size):
        """Record a block that another allocator placed."""
        self.check(size)
        if not is_place(self.chain, self.pages, self.blocks, address, size):
            raise BadPlace(address)
        self.enter(address, size)

    def check(self, size):
        """Raise an error if any value is no size of the chain or exceeds the limit."""
        class_of(self.chain, size)
        if live_words(self.blocks) + size > self.limit:
            raise OverLimit(size)

    def enter(self, address, size):
        """Record a block at a place."""
        self.blocks = with_block(self.blocks, address, size)
        self.steps.append(("get", address, size))

    def free(self, address):
        """Remove the block at this address."""
        kept = without_block(self.blocks, address)
        self.steps.append(("free", address, live_words(self.blocks) - live_words(kept)))
        self.blocks = kept

    def undo(self):
        """Take back the last event."""
        if not self.steps:
            raise NothingToUndo()
        word, address, size = self.steps.pop()
        if word == "get":
            self.blocks = without_block(self.blocks, address)
        else:
            self.blocks = with_block(self.blocks, address, size)

    def state(self):
        """Return the blocks as a state."""
        return self.blocks

    def live(self):
        """Return the number of live words."""
        return live_words(self.blocks)

    def outlook(self):
        """Return how far the blocks of each class can still reach."""
        return outlook(self.chain, self.limit, self.blocks)

    def history(self):
        """Return the events that were not taken back, in their order."""
        return tuple([event_of(word, address, size) for word, address, size in self.steps])

    def copy(self):
        """Return an independent heap with the same rule and history."""
        other = Heap(self.chain, self.pages, self.limit, rule=self.rule)
        other.blocks = self.blocks
        other.steps = list(self.steps)
        return other

    def __len__(self):
        return len(self.steps)


def event_of(word, address, size):
    """Return the event of a step."""
    if word == "get":
        return ("get", size, address)
    return ("free", address)


def replay(chain, pages, limit, history):
    """Return a heap in which the events of a history were done by put and free."""
    if not isinstance(history, tuple):
        raise BadEvent(0)
    heap = Heap(chain, pages, limit)
    for number, item in enumerate(history):
        if not has_form_of_event(item):
            raise BadEvent(number)
        try:
            repeat(heap, item)
        except HeapError:
            raise BadEvent(number) from None
    return heap


def has_form_of_event(value):
    """Return True if any value is a get or a free, whatever its size and address are."""
    if not isinstance(value, tuple):
        return False
    return len(value) == 3 and value[0] == "get" or len(value) == 2 and value[0] == "free"


def repeat(heap, event):
    """Do an event by put or free."""
    if event[0] == "get":
        heap.put(event[2], event[1])
    else:
        heap.free(event[1])
