"""The request program under which every allocator fails that has one page too few."""

from pinnedheap.chains import is_size
from pinnedheap.errors import BadAnswer, BadEvent, BadPlace, Finished
from pinnedheap.heaps import replay
from pinnedheap.states import is_place, keepers, live_words, may_hold, places, with_block, without_block


class Pressure:
    """A request program with one phase for each class; it sees only the addresses it is answered."""

    def __init__(self, chain, limit):
        self.chain = chain
        self.limit = limit
        self.blocks = ()
        self.stage = 0
        # The addresses that this phase frees before it gets blocks.
        self.doomed = []
        self.skip()

    def skip(self):
        """Begin the next phases until one has a request, or the last phase has none left."""
        while self.request() is None and self.stage + 1 < len(self.chain):
            self.stage += 1
            self.doomed = not_kept(self.chain, self.blocks, self.chain[self.stage])

    def request(self):
        """Return the next request, or None if there is none."""
        if self.doomed:
            return ("free", self.doomed[0])
        size = self.chain[self.stage]
        if live_words(self.blocks) + size <= self.limit:
            return ("get", size)
        return None

    def answer(self, answer):
        """Take the answer to the request: an address for a get, None for a free."""
        asked = self.request()
        if asked is None:
            raise Finished()
        word, number = asked
        if word == "get":
            if not may_hold(self.blocks, answer, number):
                raise BadAnswer(answer)
            self.blocks = with_block(self.blocks, answer, number)
        else:
            if answer is not None:
                raise BadAnswer(answer)
            self.blocks = without_block(self.blocks, number)
            self.doomed = self.doomed[1:]
        self.skip()

    def state(self):
        """Return the live blocks as a state."""
        return self.blocks

    def phase(self):
        """Return the class of the phase of the next request, or the last class."""
        return self.stage


def not_kept(chain, state, size):
    """Return the ascending list of the addresses of all blocks that are no keepers for this size."""
    kept = dict(keepers(chain, state, size))
    return [block[0] for block in state if block[0] not in kept]


def exhaust(chain, limit, pages, allocate):
    """Return the events up to the get that fails on a heap with so many pages, or None if none fails."""
    program = Pressure(chain, limit)
    events = []
    asked = program.request()
    while asked is not None:
        word, number = asked
        if word == "get":
            address = allocate(program.state(), number)
            events.append(("get", number, address))
            if address is None:
                return tuple(events)
            if not is_place(chain, pages, program.state(), address, number):
                raise BadPlace(address)
            program.answer(address)
        else:
            events.append(("free", number))
            program.answer(None)
        asked = program.request()
    return None


def shows_exhaustion(chain, limit, pages, value):
    """Return True if any value is a tuple of events whose last one is a get that must fail."""
    if not isinstance(value, tuple) or not value or not is_failed_get(chain, value[-1]):
        return False
    try:
        heap = replay(chain, pages, limit, value[:-1])
    except BadEvent:
        return False
    size = value[-1][1]
    return heap.live() + size <= limit and not places(chain, pages, heap.state(), size)


def is_failed_get(chain, value):
    """Return True if any value is the event of a get of some size that found no place."""
    if not isinstance(value, tuple) or len(value) != 3:
        return False
    return value[0] == "get" and is_size(chain, value[1]) and value[2] is None
