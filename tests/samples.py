"""Values of every kind, and states to try things on."""

import random

from pinnedheap.errors import TooMany

RULES = ("lowest", "highest", "tight", "loose")


def nested_list(depth):
    value = 1
    for turn in range(depth):
        value = [value]
    return value


def nested_tuple(depth):
    value = 1
    for turn in range(depth):
        value = (value,)
    return value


def nested_dict(depth):
    value = True
    for turn in range(depth):
        value = {"deeper": value, turn: None}
    return value


def values():
    """Return values of every kind, new ones with each call."""
    return [
        0, 1, -1, 2, 3, 4, 5, 6, 7, 8, -2, 4096, 4097, 10**9, 10**9 + 1, 10**30, -10**30, 10**5000,
        True, False, None,
        "", "1", "2", "lowest", "a\nb", "1/2", "get 1",
        (), (1,), (2,), (1, 2), (0, 1), ((0, 1),), ((0, 1), (2, 2)), (True,), (None,), ("get", 1, 0), ((),), ([],), ({},),
        [], [1], [1, 2], [0, 1], [(0, 1)], [[0, 1]], [None, True, "x"], [[], {}, ()],
        {}, {1: 2}, {"size": 1}, {0: [1, {"a": (1, [2])}]}, {(1, 2): None},
        nested_list(20), nested_tuple(20), nested_dict(20), [nested_tuple(9), nested_dict(9), nested_list(9)],
    ]


def is_plain_integer(value):
    return type(value) is int


def assert_error(case, error, attribute, value, function, /, *arguments, **named):
    """Assert that the call raises the very error with the very value and leaves the value as it was."""
    before = shown(value)
    with case.assertRaises(error) as caught:
        function(*arguments, **named)
    case.assertIs(type(caught.exception), error)
    case.assertIs(getattr(caught.exception, attribute), value)
    case.assertEqual(shown(value), before)


def assert_too_many(case, function, /, *arguments, **named):
    """Assert that the call raises TooMany(20000)."""
    with case.assertRaises(TooMany) as caught:
        function(*arguments, **named)
    case.assertIs(type(caught.exception), TooMany)
    case.assertEqual(shown(caught.exception.limit), shown(20000))


def shown(value):
    """Return a text that tells True from 1 and a list from a tuple, also of very long integers."""
    if type(value) is int:
        return hex(value)
    if isinstance(value, (list, tuple)):
        return f"{type(value).__name__}({', '.join(shown(item) for item in value)})"
    if isinstance(value, dict):
        return f"dict({', '.join(f'{shown(key)}: {shown(value[key])}' for key in value)})"
    return repr(value)


def random_state(chain, pages, tries, seed):
    """Return a state, found by putting blocks wherever they fit."""
    chance = random.Random(seed)
    taken = set()
    blocks = []
    words = pages * chain[-1]
    for turn in range(tries):
        size = chance.choice(chain)
        if words < size:
            continue
        address = chance.randrange(words // size) * size
        span = set(range(address, address + size))
        if not span & taken:
            taken |= span
            blocks.append((address, size))
    return tuple(sorted(blocks))


def owners(state):
    """Return the block of each word that has one."""
    return {word: block for block in state for word in range(block[0], block[0] + block[1])}


def places_by_word(chain, pages, state, size):
    taken = owners(state)
    words = pages * chain[-1]
    return tuple(start for start in range(0, words - size + 1, size)
                 if not any(word in taken for word in range(start, start + size)))


def place_by_word(rule, chain, pages, state, size):
    """Sort all places as the rule prefers them, and return the first one."""
    taken = owners(state)
    found = []
    for start in places_by_word(chain, pages, state, size):
        number = start // chain[-1]
        free = sum(word not in taken for word in range(number * chain[-1], (number + 1) * chain[-1]))
        order = {"lowest": (start,), "highest": (-start,), "tight": (free, number, start), "loose": (-free, number, start)}
        found.append((order[rule], start))
    return min(found)[1] if found else None


def keepers_by_word(chain, pages, state, size):
    taken = owners(state)
    kept = set()
    for start in range(0, pages * chain[-1], size):
        inside = {taken[word] for word in range(start, start + size) if word in taken}
        if inside:
            kept.add(min(inside, key=lambda block: (block[1], block[0])))
    return tuple(sorted(kept))


def reaches_by_word(chain, state):
    taken = owners(state)
    return tuple(max((word + 1 for word in taken if taken[word][1] <= size), default=0) for size in chain)


def random_history(chain, pages, limit, many, seed):
    """Return a history of so many events, with blocks at any of their places."""
    chance = random.Random(seed)
    taken = {}
    live = {}
    history = []
    while len(history) < many:
        size = chance.choice(chain)
        address = chance.randrange(pages * chain[-1] // size) * size
        span = range(address, address + size)
        if live and chance.random() < 0.3:
            address = chance.choice(sorted(live))
            for word in range(address, address + live.pop(address)):
                del taken[word]
            history.append(("free", address))
        elif len(taken) + size <= limit and not any(word in taken for word in span):
            live[address] = size
            taken.update((word, address) for word in span)
            history.append(("get", size, address))
    return tuple(history)


def first_bad_event(chain, pages, limit, history):
    """Return the index of the first item that no heap can do, found by marking words; None if all can be done."""
    taken = {}
    for number, item in enumerate(history):
        if type(item) is not tuple or any(type(part) is not int for part in item[1:]):
            return number
        if len(item) == 3 and item[0] == "get" and item[1] in chain:
            size, address = item[1:]
            span = range(address, address + size)
            inside = 0 <= address and address + size <= pages * chain[-1] and address % size == 0
            if not inside or any(word in taken for word in span) or len(taken) + size > limit:
                return number
            taken.update((word, address) for word in span)
        elif len(item) == 2 and item[0] == "free" and taken.get(item[1]) == item[1]:
            taken = {word: start for word, start in taken.items() if start != item[1]}
        else:
            return number
    return None


def expected_requests(chain, limit, answers):
    """Return the request, the phase and the state that stand behind these answers, all done from the beginning."""
    live = {}
    left = list(answers)
    for phase, size in enumerate(chain):
        kept = keepers_by_word(chain, max(live, default=0) // chain[-1] + 1, live.items(), size) if phase else live.items()
        for address in sorted(set(live) - {address for address, kept_size in kept}):
            if not left:
                return ("free", address), phase, tuple(sorted(live.items()))
            left.pop(0)
            del live[address]
        while sum(live.values()) + size <= limit:
            if not left:
                return ("get", size), phase, tuple(sorted(live.items()))
            live[left.pop(0)] = size
    return None, len(chain) - 1, tuple(sorted(live.items()))


def busy_chunks(state, size):
    """Return the number of chunks of this size that are not empty."""
    return len({word // size for word in owners(state)})


def replaced(value):
    """Return other values to put in the place of a value."""
    others = [None, True, False, 0, 1, 2, -1, 3, 4, 6, 8, 10**30, "", "get", "free", "1", (), [], {}]
    if isinstance(value, tuple):
        others.extend([list(value), value[:-1], value[1:], value[::-1], value + value[-1:], (*value, None), (value,)])
    if type(value) is int:
        others.extend([value + 1, value - 1, 2 * value, -value, str(value), (value,), [value]])
    if isinstance(value, str):
        others.extend([value.upper(), value + " ", value[:-1], [value], (value,)])
    return [other for other in others if shown(other) != shown(value)]


def changed_events(history):
    """Return histories that differ in one item or in one part of an item."""
    found = []
    for number, item in enumerate(history):
        head, tail = history[:number], history[number + 1:]
        found.append((*head, *tail))
        found.append((*head, item, item, *tail))
        found.extend((*head, other, *tail) for other in replaced(item))
        for place, part in enumerate(item):
            found.extend((*head, (*item[:place], other, *item[place + 1:]), *tail) for other in replaced(part))
    return found


def changed(value):
    """Return values that differ from a value in one thing, at any depth."""
    found = replaced(value)
    if isinstance(value, tuple):
        for number, item in enumerate(value):
            head, tail = value[:number], value[number + 1:]
            found.append((*head, *tail))
            found.append((*head, item, item, *tail))
            if tail:
                found.append((*head, tail[0], item, *tail[1:]))
            found.extend((*head, other, *tail) for other in changed(item))
    return found


def is_state_by_word(chain, pages, value):
    """Look at a value as is_state should, by marking words."""
    if type(value) is not tuple or any(type(block) is not tuple or len(block) != 2 for block in value):
        return False
    taken = []
    for address, size in value:
        if type(address) is not int or type(size) is not int or size not in chain or address % size:
            return False
        taken.extend(range(address, address + size))
    return taken == sorted(set(taken)) and all(0 <= word < pages * chain[-1] for word in taken)


def words_in_blocks(state):
    return sum(size for address, size in state)


def added(state, address, size):
    return tuple(sorted((*state, (address, size))))


def removed(state, address):
    return tuple(block for block in state if block[0] != address)


def states_by_word(chain, pages, limit):
    """Return all states with at most so many live words, found by adding block after block."""
    seen = {()}
    left = [()]
    while left:
        state = left.pop()
        for size in chain:
            for address in places_by_word(chain, pages, state, size):
                larger = added(state, address, size)
                if words_in_blocks(larger) <= limit and larger not in seen:
                    seen.add(larger)
                    left.append(larger)
    return sorted(seen)


def moves_by_rounds(chain, limit, pages):
    """Return the fewest moves of each unsafe state: round after round, a look at every state that is left."""
    left = states_by_word(chain, pages, limit)
    moves = {}
    newest = [None]
    while newest:
        newest = [state for state in left if fails_next(chain, limit, pages, state, moves)]
        number = max(moves.values(), default=0) + 1
        moves.update((state, number) for state in newest)
        left = [state for state in left if state not in moves]
    return moves


def fails_next(chain, limit, pages, state, moves):
    """Return True if a move leads to nothing but states that have moves."""
    if any(removed(state, address) in moves for address, size in state):
        return True
    sizes = [size for size in chain if words_in_blocks(state) + size <= limit]
    return any(all(added(state, address, size) in moves for address in places_by_word(chain, pages, state, size))
               for size in sizes)


HEAPS = (
    ((1,), 0), ((1,), 1), ((1,), 9), ((1, 2), 0), ((1, 2), 1), ((1, 2), 5), ((1, 3), 4), ((1, 2, 4), 3), ((1, 2, 6), 3),
    ((1, 3, 6, 12), 2), ((1, 4, 8), 3), ((1, 5, 10, 20), 4), ((1, 2, 4, 8, 16), 5),
)
LARGE_HEAPS = (
    ((1,), 2000), ((1, 2), 1000), ((1, 2, 4, 8, 40, 200, 1000), 2), ((1, 2000), 1), ((1, 5, 50), 40),
    ((1, 2, 4, 8, 16, 32, 64, 128, 256, 512, 1024), 1),
)


def random_states():
    """Return triples (chain, pages, state), from sparse states to full ones."""
    triples = []
    for chain, pages in HEAPS:
        for seed, tries in enumerate((0, 1, 2, 3, 5, 8, 12, 20, 40, 100)):
            triples.append((chain, pages, random_state(chain, pages, tries, seed)))
    for chain, pages in LARGE_HEAPS:
        for seed, tries in enumerate((10, 100, 1000, 5000)):
            triples.append((chain, pages, random_state(chain, pages, tries, seed)))
    return triples
