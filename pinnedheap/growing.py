"""Growing heaps: a page more is opened whenever the rule finds no place.

A growing heap is a pair (number of open pages, state) here.
"""

from pinnedheap.chains import is_size
from pinnedheap.errors import BadEvent, BadRule
from pinnedheap.heaps import has_form_of_event
from pinnedheap.integers import is_integer
from pinnedheap.rules import is_rule, place
from pinnedheap.states import check_many, has_block, live_words, with_block, without_block


def open_after(chain, limit, rule, history):
    """Return the number of open pages after a history."""
    check_rule(rule)
    if not isinstance(history, tuple):
        raise BadEvent(0)
    heap = (0, ())
    for number, item in enumerate(history):
        if not can_come_next(chain, limit, rule, heap, item):
            raise BadEvent(number)
        heap = heap_after(chain, heap, item)
    return heap[0]


def can_come_next(chain, limit, rule, heap, value):
    """Return True if any value is an event that a growing heap can do next."""
    if not has_form_of_event(value):
        return False
    if value[0] == "free":
        return has_block(heap[1], value[1])
    word, size, address = value
    if not is_size(chain, size) or not is_integer(address) or live_words(heap[1]) + size > limit:
        return False
    return address == place_or_next(chain, rule, heap, size)


def heap_after(chain, heap, event):
    """Return the growing heap after an event that can come next."""
    pages, state = heap
    if event[0] == "free":
        return (pages, without_block(state, event[1]))
    word, size, address = event
    return (max(pages, address // chain[-1] + 1), with_block(state, address, size))


def place_or_next(chain, rule, heap, size):
    """Return the place that the rule chooses on the open pages, or the first word of the next page."""
    pages, state = heap
    address = place(rule, chain, pages, state, size)
    if address is None:
        return pages * chain[-1]
    return address


def worst_pages(chain, limit, rule):
    """Return the largest number of open pages after any history."""
    check_rule(rule)
    return max([pages for pages, state in reached_heaps(chain, limit, rule)])


def worst_history(chain, limit, rule):
    """Return a shortest history after which as many pages are open as after any."""
    check_rule(rule)
    reached = reached_heaps(chain, limit, rule)
    most = max([pages for pages, state in reached])
    # The heaps stand in the order of the lengths of their shortest histories.
    heap = [other for other in reached if other[0] == most][0]
    events = []
    while reached[heap] is not None:
        heap, event = reached[heap]
        events.append(event)
    return tuple(reversed(events))


def check_rule(rule):
    """Raise an error if any value is no rule."""
    if not is_rule(rule):
        raise BadRule(rule)


def reached_heaps(chain, limit, rule):
    """Return, of each growing heap after any history, the heap before it and the event between them."""
    reached = {(0, ()): None}
    newest = [(0, ())]
    while newest:
        found = []
        for heap in newest:
            for event in next_events(chain, limit, rule, heap):
                after = heap_after(chain, heap, event)
                if after not in reached:
                    reached[after] = (heap, event)
                    found.append(after)
                    check_many(len(reached))
        newest = found
    return reached


def next_events(chain, limit, rule, heap):
    """Return the list of all events that can come next."""
    left = limit - live_words(heap[1])
    frees = [("free", address) for address, size in heap[1]]
    return frees + [("get", size, place_or_next(chain, rule, heap, size)) for size in chain if size <= left]
