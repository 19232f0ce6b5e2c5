"""Rules by which an allocator chooses among the places for a size."""

from pinnedheap.errors import BadRule
from pinnedheap.states import gaps

RULES = ("lowest", "highest", "tight", "loose")


def is_rule(value):
    """Return True if any value is a rule."""
    return value in RULES


def place(rule, chain, pages, state, size):
    """Return the place that the rule chooses for a size, or None if there is none."""
    if not is_rule(rule):
        raise BadRule(rule)
    found = gaps(chain, pages, state, size)
    if not found:
        return None
    if rule == "lowest":
        return found[0][0]
    if rule == "highest":
        return found[-1][1]
    return place_by_page(rule, chain, state, found)


def place_by_page(rule, chain, state, found):
    """Return the lowest place in the page with the fewest free words, or with the most."""
    page = chain[-1]
    taken = taken_words(chain, state)
    candidates = []
    for first, last in found:
        candidates.extend(lowest_by_page(first, last, page))

    def taken_around(address):
        return taken.get(address // page, 0)

    # The candidates ascend, and of several that tie Python takes the first one.
    if rule == "tight":
        return max(candidates, key=taken_around)
    return min(candidates, key=taken_around)


def lowest_by_page(first, last, page):
    """Return the list of the lowest places of a gap in its first page, in its second one and in its last one."""
    # The pages between the second and the last one are as empty as the second, so they never come first.
    starts = [(first // page + 1) * page, last // page * page]
    return [first] + [start for start in starts if first < start <= last]


def taken_words(chain, state):
    """Return the numbers of words in blocks, of each page that has a block."""
    taken = {}
    for address, size in state:
        number = address // chain[-1]
        taken[number] = taken.get(number, 0) + size
    return taken


def allocator(rule, chain, pages):
    """Return a function that chooses, by the rule, a place for a size in a state."""
    if not is_rule(rule):
        raise BadRule(rule)

    def allocate(state, size):
        return place(rule, chain, pages, state, size)

    return allocate
