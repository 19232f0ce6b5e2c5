"""Receipts: evidence that a place is the lowest one for its size."""

from pinnedheap.chains import class_of
from pinnedheap.errors import BadPlace
from pinnedheap.integers import is_integer


def receipt(chain, state, size, address):
    """Return a block for each chunk below an address, or None if such a chunk is empty."""
    check_address(chain, size, address)
    inside = blocks_by_chunk(state, size, address)
    found = []
    for start in range(0, address, size):
        if start not in inside:
            return None
        # The state ascends, so the lowest block of a chunk came first.
        found.append((start, inside[start][0][0]))
    return tuple(found)


def shows_receipt(chain, state, size, address, value):
    """Return True if any value names, for each chunk below an address, a block that overlaps it."""
    check_address(chain, size, address)
    # The number of chunks comes first: the address may be far beyond all blocks.
    if not isinstance(value, tuple) or len(value) != address // size:
        return False
    inside = blocks_by_chunk(state, size, address)
    return all([names_block(inside, number * size, item) for number, item in enumerate(value)])


def names_block(inside, start, value):
    """Return True if any value is a pair of this start and the address of a block in the chunk there."""
    if not isinstance(value, tuple) or len(value) != 2 or not is_integer(value[0]) or not is_integer(value[1]):
        return False
    return value[0] == start and value[1] in [block[0] for block in inside.get(start, [])]


def shown_words(chain, state, size, address):
    """Return the least number of live words below an address that a receipt shows."""
    check_address(chain, size, address)
    inside = blocks_by_chunk(state, size, address)
    return sum([min(size, smallest(blocks)) for blocks in inside.values()])


def smallest(blocks):
    """Return the smallest size of some blocks."""
    return min([size for address, size in blocks])


def check_address(chain, size, address):
    """Raise an error if any value is no size of the chain, or if any value is no address for it."""
    class_of(chain, size)
    if not is_integer(address) or address < 0 or address % size != 0:
        raise BadPlace(address)


def blocks_by_chunk(state, size, address):
    """Return the ascending lists of blocks of all chunks below an address that are not empty, by their starts."""
    inside = {}
    for block in state:
        first = block[0] // size * size
        for start in range(first, min(block[0] + block[1], address), size):
            if start not in inside:
                inside[start] = []
            inside[start].append(block)
    return inside
