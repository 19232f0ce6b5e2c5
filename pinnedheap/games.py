"""Whether an allocator can go on forever from a state, and evidence for either answer."""

from pinnedheap.chains import is_size
from pinnedheap.errors import BadState, Safe, Unsafe
from pinnedheap.integers import is_integer
from pinnedheap.states import (all_states, check_heap, has_block, is_place, is_state, live_words, places, with_block,
                               without_block)


def is_safe(chain, limit, pages, state):
    """Return True if the allocator can answer so that it never fails."""
    return moves_to_fail(chain, limit, pages, state) is None


def moves_to_fail(chain, limit, pages, state):
    """Return the fewest moves with which the requester makes every allocator fail, None if there are none."""
    check_state(chain, limit, pages, state)
    unsafe = unsafe_states(chain, limit, pages)
    if state not in unsafe:
        return None
    return unsafe[state][0]


def plan(chain, limit, pages, state):
    """Return answers for a safe state and for every state that they lead to."""
    check_state(chain, limit, pages, state)
    unsafe = unsafe_states(chain, limit, pages)
    if state in unsafe:
        raise Unsafe()
    listed = {}
    waiting = [state]
    while waiting:
        current = waiting.pop()
        if current not in listed:
            listed[current] = safe_answers(chain, limit, pages, current, unsafe)
            waiting.extend([without_block(current, address) for address, size in current])
            waiting.extend([with_block(current, address, size) for size, address in listed[current]])
    return tuple(sorted(listed.items()))


def safe_answers(chain, limit, pages, state, unsafe):
    """Return pairs (size, address), one for each allowed size, that lead from a safe state to safe ones."""
    answers = []
    for size in allowed_sizes(chain, limit, state):
        found = places(chain, pages, state, size)
        # A safe state has a safe answer to every get, otherwise this get would make it unsafe.
        answers.append((size, min([place for place in found if with_block(state, place, size) not in unsafe])))
    return tuple(answers)


def strategy(chain, limit, pages, state):
    """Return requests for an unsafe state and for every state that the answers can lead to."""
    check_state(chain, limit, pages, state)
    unsafe = unsafe_states(chain, limit, pages)
    if state not in unsafe:
        raise Safe()
    listed = {}
    waiting = [state]
    while waiting:
        current = waiting.pop()
        if current not in listed:
            moves, request = unsafe[current]
            listed[current] = (current, moves, request)
            waiting.extend(states_behind(chain, pages, current, request))
    return tuple([listed[current] for current in sorted(listed)])


def states_behind(chain, pages, state, request):
    """Return the list of all states to which the answers to a request can lead."""
    word, number = request
    if word == "free":
        return [without_block(state, number)]
    return [with_block(state, place, number) for place in places(chain, pages, state, number)]


def check_state(chain, limit, pages, state):
    """Raise an error if any value is no state within the limit, or if the heap has too many states."""
    if not is_state(chain, pages, state) or live_words(state) > limit:
        raise BadState(state)
    check_heap(chain, pages)


def allowed_sizes(chain, limit, state):
    """Return the ascending list of all sizes that the limit allows in a state."""
    left = limit - live_words(state)
    return [size for size in chain if size <= left]


def unsafe_states(chain, limit, pages):
    """Return pairs (moves, request) of all unsafe states: the fewest moves, and the request to begin with."""
    unsafe = {}
    # Of each state and size: how many places lead to a state that is not known to be unsafe.
    escapes = {}
    for state in all_states(chain, pages, limit):
        for size in allowed_sizes(chain, limit, state):
            escapes[(state, size)] = len(places(chain, pages, state, size))
            if escapes[(state, size)] == 0:
                unsafe[state] = (1, ("get", size))
    moves = 1
    newest = list(unsafe)
    while newest:
        moves += 1
        # Every round has all states that need so many moves, so none gets a greater number than it must.
        newest = states_before(chain, limit, pages, newest, moves, unsafe, escapes)
    return unsafe


def states_before(chain, limit, pages, newest, moves, unsafe, escapes):
    """Enter the states from which one request leads to the newest unsafe ones, and return the list of them."""
    found = []
    for state in newest:
        for before, request in requests_into(chain, limit, pages, state, escapes):
            if before not in unsafe:
                unsafe[before] = (moves, request)
                found.append(before)
    return found


def requests_into(chain, limit, pages, state, escapes):
    """Return pairs (state before, request) of all requests whose answers all lead to this or other unsafe states."""
    found = []
    for size in allowed_sizes(chain, limit, state):
        for place in places(chain, pages, state, size):
            found.append((with_block(state, place, size), ("free", place)))
    for address, size in state:
        before = without_block(state, address)
        escapes[(before, size)] -= 1
        if escapes[(before, size)] == 0:
            found.append((before, ("get", size)))
    return found


def shows_plan(chain, limit, pages, state, value):
    """Return True if any value is a plan for a state."""
    check_state(chain, limit, pages, state)
    if not lists_states(chain, limit, pages, value, 2):
        return False
    listed = {item[0]: item[1] for item in value}
    return state in listed and all([plans_for(chain, limit, pages, current, listed) for current in listed])


def plans_for(chain, limit, pages, state, listed):
    """Return True if the answers that are listed for a state, any value, stay among the listed states."""
    answers = listed[state]
    sizes = allowed_sizes(chain, limit, state)
    if not isinstance(answers, tuple) or len(answers) != len(sizes):
        return False
    for size, answer in zip(sizes, answers):
        if not is_answer(chain, pages, state, size, answer) or with_block(state, answer[1], size) not in listed:
            return False
    return all([without_block(state, address) in listed for address, size in state])


def is_answer(chain, pages, state, size, value):
    """Return True if any value is a pair of this size and a place for it."""
    if not isinstance(value, tuple) or len(value) != 2:
        return False
    return is_integer(value[0]) and value[0] == size and is_place(chain, pages, state, value[1], size)


def shows_strategy(chain, limit, pages, state, value):
    """Return True if any value is a strategy for a state."""
    check_state(chain, limit, pages, state)
    if not lists_states(chain, limit, pages, value, 3):
        return False
    if not all([is_integer(item[1]) and item[1] >= 1 for item in value]):
        return False
    moves = {item[0]: item[1] for item in value}
    return state in moves and all([comes_nearer(chain, limit, pages, item, moves) for item in value])


def comes_nearer(chain, limit, pages, item, moves):
    """Return True if the request of a triple can be made and leads only to listed states with fewer moves."""
    state, many, request = item
    if not is_request(chain, limit, state, request):
        return False
    behind = states_behind(chain, pages, state, request)
    return all([after in moves and moves[after] < many for after in behind])


def is_request(chain, limit, state, value):
    """Return True if any value is a request that can be made in a state."""
    if not isinstance(value, tuple) or len(value) != 2:
        return False
    if value[0] == "get":
        return is_size(chain, value[1]) and live_words(state) + value[1] <= limit
    return value[0] == "free" and has_block(state, value[1])


def lists_states(chain, limit, pages, value, parts):
    """Return True if any value is a tuple of tuples of so many parts, ascending by states within the limit."""
    if not isinstance(value, tuple) or not all([isinstance(item, tuple) and len(item) == parts for item in value]):
        return False
    if not all([is_state(chain, pages, item[0]) and live_words(item[0]) <= limit for item in value]):
        return False
    return all([item[0] < later[0] for item, later in zip(value, value[1:])])
