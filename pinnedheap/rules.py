"""Rules by which an allocator chooses among the places for a size."""

from pinnedheap.errors import BadRule
from pinnedheap.states import places

RULES = ("lowest", "highest", "tight", "loose")


def is_rule(value):
    """Return True if any value is a rule."""
    return value in RULES


def place(rule, chain, pages, state, size):
    """Return the place that the rule chooses for a size, or None if there is none."""
    if not is_rule(rule):
        raise BadRule(rule)
    found = places(chain, pages, state, size)
    if not found:
        return None
    if rule == "lowest":
        return found[0]
    if rule == "highest":
        return found[-1]
    return place_by_page(rule, chain, found, free_words(chain, pages, state))


def place_by_page(rule, chain, found, free):
    """Return the lowest place in the page with the fewest free words, or with the most."""
    def free_around(address):
        return free[address // chain[-1]]

    # The places ascend, and of several that tie Python takes the first one.
    if rule == "tight":
        return min(found, key=free_around)
    return max(found, key=free_around)


def free_words(chain, pages, state):
    """Return the list of the numbers of free words in all pages."""
    free = [chain[-1]] * pages
    for address, size in state:
        free[address // chain[-1]] -= size
    return free


def allocator(rule, chain, pages):
    """Return a function that chooses, by the rule, a place for a size in a state."""
    if not is_rule(rule):
        raise BadRule(rule)

    def allocate(state, size):
        return place(rule, chain, pages, state, size)

    return allocate
