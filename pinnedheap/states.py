"""States of a heap: the blocks that lie in it, by ascending addresses."""

from pinnedheap.chains import class_of, is_size
from pinnedheap.errors import NoBlock, TooMany
from pinnedheap.integers import divided_up, is_integer

MOST_STATES = 20000
# Each word holds a block of one word or none, so one word more has more states than MOST_STATES.
MOST_WORDS = 14


def is_state(chain, pages, value):
    """Return True if any value is a state of a heap with so many pages."""
    if not isinstance(value, tuple) or not all([is_block(chain, item) for item in value]):
        return False
    end = 0
    for address, size in value:
        # This also refuses an address below 0.
        if address < end:
            return False
        end = address + size
    return end <= pages * chain[-1]


def is_block(chain, value):
    """Return True if any value is a block, wherever it lies."""
    if not isinstance(value, tuple) or len(value) != 2:
        return False
    address, size = value
    return is_integer(address) and is_size(chain, size) and address % size == 0


def live_words(state):
    """Return the sum of the sizes of all blocks."""
    return sum([size for address, size in state])


def places(chain, pages, state, size):
    """Return the ascending tuple of all places for a size."""
    found = []
    for first, last in gaps(chain, pages, state, size):
        found.extend(list(range(first, last + 1, size)))
    return tuple(found)


def gaps(chain, pages, state, size):
    """Return the ascending list of pairs (first, last) of places for a size that no block separates."""
    class_of(chain, size)
    found = []
    free_from = 0
    # A block of no words behind the last page closes the last gap.
    for address, taken in (*state, (pages * chain[-1], 0)):
        first = divided_up(free_from, size) * size
        last = (address - size) // size * size
        if first <= last:
            found.append((first, last))
        free_from = address + taken
    return found


def is_place(chain, pages, state, address, size):
    """Return True if any value is a place for a size."""
    return may_hold(state, address, size) and address + size <= pages * chain[-1]


def may_hold(state, address, size):
    """Return True if any value is an address at which a heap without an end has a place for a size."""
    if not is_integer(address) or address < 0 or address % size != 0:
        return False
    return all([start + taken <= address or address + size <= start for start, taken in state])


def with_block(state, address, size):
    """Return the state with one more block."""
    return tuple(sorted([*state, (address, size)]))


def without_block(state, address):
    """Return the state without the block at this address."""
    if not has_block(state, address):
        raise NoBlock(address)
    return tuple([block for block in state if block[0] != address])


def has_block(state, value):
    """Return True if any value is the address of a block."""
    # False == 0, so `in` alone would take a bool for an address.
    return is_integer(value) and value in [address for address, size in state]


def used_pages(chain, state):
    """Return the ascending tuple of the numbers of all pages that contain a block."""
    # A block never lies in two pages: its size divides the page and its address.
    return tuple(sorted({address // chain[-1] for address, size in state}))


def reaches(chain, state):
    """Return, for each class, the largest end of a block of this class or less."""
    return tuple([reach(state, largest) for largest in chain])


def reach(state, largest):
    """Return the largest end of a block of at most `largest` words, 0 if there is none."""
    return max([address + size for address, size in state if size <= largest], default=0)


def keepers(chain, state, size):
    """Return the state that keeps the smallest block of each chunk of this size."""
    class_of(chain, size)
    kept = {}
    for block in state:
        # A larger block stands under its first chunk only: no other block is in it.
        chunk = block[0] // size
        # The state ascends, so of equal blocks the lowest one came first.
        if chunk not in kept or block[1] < kept[chunk][1]:
            kept[chunk] = block
    return tuple(kept.values())


def count_states(chain, pages):
    """Return the number of states of a heap with so many pages."""
    # A page may be too large to count its states; a heap without pages needs none of them.
    if pages == 0:
        return 1
    counted = 2
    for size, larger in zip(chain, chain[1:]):
        # A chunk holds one block as large as itself, or a state of each smaller chunk in it.
        counted = power(counted, larger // size) + 1
    return power(counted, pages)


def power(base, times):
    """Return the product of so many equal factors."""
    product = 1
    for turn in range(times):
        product *= base
    return product


def check_many(many):
    """Raise an error if there are more states than the package looks at."""
    if many > MOST_STATES:
        raise TooMany(MOST_STATES)


def check_heap(chain, pages):
    """Raise an error if a heap with so many pages has more states than the package looks at."""
    # The states of a large heap are too many to be counted.
    if pages * chain[-1] > MOST_WORDS:
        raise TooMany(MOST_STATES)
    check_many(count_states(chain, pages))


def all_states(chain, pages, limit):
    """Return the ascending tuple of all states with at most `limit` live words."""
    check_heap(chain, pages)
    found = states_of_words(chain, pages * chain[-1])
    return tuple(sorted([state for state in found if live_words(state) <= limit]))


def states_of_words(chain, words):
    """Return the list of all states of a heap of so many words, a multiple of the page."""
    # behind[start] lists the states whose blocks all lie at `start` or behind it.
    behind = {words: [()]}
    for start in range(words - 1, -1, -1):
        found = list(behind[start + 1])
        for size in chain:
            if start % size == 0:
                found.extend([((start, size), *rest) for rest in behind[start + size]])
        behind[start] = found
    return behind[0]
