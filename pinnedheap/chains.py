"""Chains of block sizes, each a multiple of the one before."""

from pinnedheap.errors import BadSize
from pinnedheap.integers import is_integer

MOST_SIZES = 12
LARGEST_SIZE = 1000000000
LARGEST_PAGE = 4096


def is_chain(value):
    """Return True if any value is a chain, otherwise False."""
    if not isinstance(value, tuple) or not 1 <= len(value) <= MOST_SIZES:
        return False
    if not all([is_integer(size) for size in value]):
        return False
    if value[0] != 1 or value[-1] > LARGEST_SIZE:
        return False
    return all([may_follow(larger, size) for size, larger in zip(value, value[1:])])


def may_follow(larger, size):
    """Return True if `larger` may stand behind `size` in a chain."""
    # A size of 0 may come from any value; it must not become a divisor.
    return 0 < size < larger and larger % size == 0


def is_size(chain, value):
    """Return True if any value is a size of the chain."""
    # True == 1, so `in` alone would take a bool for a size.
    return is_integer(value) and value in chain


def class_of(chain, size):
    """Return the index of a size in the chain."""
    if not is_size(chain, size):
        raise BadSize(size)
    return chain.index(size)


def rounded(chain, words):
    """Return the smallest size of the chain that is at least `words`."""
    if not is_integer(words) or not 1 <= words <= chain[-1]:
        raise BadSize(words)
    return min([size for size in chain if size >= words])


def chains_of(page):
    """Return all chains with this page, ascending."""
    if not is_integer(page) or not 1 <= page <= LARGEST_PAGE:
        raise BadSize(page)
    divisors = [size for size in range(1, page + 1) if page % size == 0]
    followers = {size: [larger for larger in divisors if may_follow(larger, size)] for size in divisors}
    return tuple(chains_from((1,), page, followers))


def chains_from(begun, page, followers):
    """Return the list of all chains with this page that begin so, ascending."""
    if begun[-1] == page:
        return [begun]
    if len(begun) == MOST_SIZES:
        return []
    found = []
    # Every chain ends with the page, so none is the beginning of another one,
    # and ascending followers give the chains in ascending order.
    for size in followers[begun[-1]]:
        found.extend(chains_from((*begun, size), page, followers))
    return found
