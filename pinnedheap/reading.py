"""Chains, states and histories that are read from their texts."""

from pinnedheap.chains import is_chain, is_size
from pinnedheap.errors import BadText
from pinnedheap.states import is_state

DIGITS = "0123456789"
MOST_DIGITS = 20


def read_chain(text):
    """Return the chain that any value is the text of."""
    lines = lines_of(text)
    chain = chain_in(lines[0])
    check_row(0, chain is not None)
    check_row(1, len(lines) == 1)
    return chain


def read_state(chain, pages, text):
    """Return the state of a heap with so many pages that any value is the text of."""
    lines = lines_of(text)
    state = state_in(lines[0])
    check_row(0, is_state(chain, pages, state))
    check_row(1, len(lines) == 1)
    return state


def read_history(chain, text):
    """Return the history that any value is the text of."""
    lines = lines_of(text)
    if lines[0] == "-":
        check_row(1, len(lines) == 1)
        return ()
    events = []
    for row, line in enumerate(lines):
        # The address of a get that failed is None, and no event comes after it.
        check_row(row, not events or events[-1][-1] is not None)
        event = event_in(chain, line)
        check_row(row, event is not None)
        events.append(event)
    return tuple(events)


def check_row(row, right):
    """Raise an error with this row if something is not right there."""
    if not right:
        raise BadText(row)


def lines_of(text):
    """Return the list of the lines of any value."""
    if not isinstance(text, str):
        raise BadText(0)
    return text.split("\n")


def number_in(text):
    """Return the number that is so written, None if there is none."""
    if not 1 <= len(text) <= MOST_DIGITS or not all([sign in DIGITS for sign in text]):
        return None
    if text[0] == "0" and len(text) > 1:
        return None
    return int(text)


def numbers_in(text, sign):
    """Return the tuple of the numbers that are so written with this sign between them, None for each that is none."""
    return tuple([number_in(part) for part in text.split(sign)])


def chain_in(line):
    """Return the chain that is so written, None if there is none."""
    chain = numbers_in(line, "/")
    if is_chain(chain):
        return chain
    return None


def state_in(line):
    """Return what is so written as a state; it is none if the line is not written so."""
    if line == "-":
        return ()
    return tuple([numbers_in(part, ":") for part in line.split(" ")])


def event_in(chain, line):
    """Return the event that is so written, None if there is none."""
    words = line.split(" ")
    if len(words) == 2 and words[0] == "free":
        address = number_in(words[1])
        return None if address is None else ("free", address)
    if len(words) < 3 or words[0] != "get":
        return None
    size = number_in(words[1])
    if not is_size(chain, size):
        return None
    if words[2:] == ["fails"]:
        return ("get", size, None)
    if len(words) != 4 or words[2] != "at":
        return None
    address = number_in(words[3])
    if address is None or address % size != 0:
        return None
    return ("get", size, address)
