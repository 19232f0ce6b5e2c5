"""Values of every kind, and states to try things on."""

import random

RULES = ("lowest", "highest", "tight", "loose")


def nested_list(depth):
    value = 1
    for turn in range(depth):
        value = [value]
    return value


def nested_tuple(depth):
    value = 1
    for turn in range(depth):
        value = (value,)
    return value


def nested_dict(depth):
    value = True
    for turn in range(depth):
        value = {"deeper": value, turn: None}
    return value


def values():
    """Return values of every kind, new ones with each call."""
    return [
        0, 1, -1, 2, 3, 4, 5, 6, 7, 8, -2, 4096, 4097, 10**9, 10**9 + 1, 10**30, -10**30, 10**5000,
        True, False, None,
        "", "1", "2", "lowest", "a\nb", "1/2", "get 1",
        (), (1,), (2,), (1, 2), (0, 1), ((0, 1),), ((0, 1), (2, 2)), (True,), (None,), ("get", 1, 0), ((),), ([],), ({},),
        [], [1], [1, 2], [0, 1], [(0, 1)], [[0, 1]], [None, True, "x"], [[], {}, ()],
        {}, {1: 2}, {"size": 1}, {0: [1, {"a": (1, [2])}]}, {(1, 2): None},
        nested_list(20), nested_tuple(20), nested_dict(20), [nested_tuple(9), nested_dict(9), nested_list(9)],
    ]


def is_plain_integer(value):
    return type(value) is int


def assert_error(case, error, attribute, value, function, *arguments, **named):
    """Assert that the call raises the very error with the very value and leaves the value as it was."""
    before = shown(value)
    with case.assertRaises(error) as caught:
        function(*arguments, **named)
    case.assertIs(type(caught.exception), error)
    case.assertIs(getattr(caught.exception, attribute), value)
    case.assertEqual(shown(value), before)


def shown(value):
    """Return a text that tells True from 1 and a list from a tuple, also of very long integers."""
    if type(value) is int:
        return hex(value)
    if isinstance(value, (list, tuple)):
        return f"{type(value).__name__}({', '.join(shown(item) for item in value)})"
    if isinstance(value, dict):
        return f"dict({', '.join(f'{shown(key)}: {shown(value[key])}' for key in value)})"
    return repr(value)


def random_state(chain, pages, tries, seed):
    """Return a state, found by putting blocks wherever they fit."""
    chance = random.Random(seed)
    taken = set()
    blocks = []
    words = pages * chain[-1]
    for turn in range(tries):
        size = chance.choice(chain)
        if words < size:
            continue
        address = chance.randrange(words // size) * size
        span = set(range(address, address + size))
        if not span & taken:
            taken |= span
            blocks.append((address, size))
    return tuple(sorted(blocks))


def owners(state):
    """Return the block of each word that has one."""
    return {word: block for block in state for word in range(block[0], block[0] + block[1])}


def places_by_word(chain, pages, state, size):
    taken = owners(state)
    words = pages * chain[-1]
    return tuple(start for start in range(0, words - size + 1, size)
                 if not any(word in taken for word in range(start, start + size)))


def place_by_word(rule, chain, pages, state, size):
    """Sort all places as the rule prefers them, and return the first one."""
    taken = owners(state)
    found = []
    for start in places_by_word(chain, pages, state, size):
        number = start // chain[-1]
        free = sum(word not in taken for word in range(number * chain[-1], (number + 1) * chain[-1]))
        order = {"lowest": (start,), "highest": (-start,), "tight": (free, number, start), "loose": (-free, number, start)}
        found.append((order[rule], start))
    return min(found)[1] if found else None


def keepers_by_word(chain, pages, state, size):
    taken = owners(state)
    kept = set()
    for start in range(0, pages * chain[-1], size):
        inside = {taken[word] for word in range(start, start + size) if word in taken}
        if inside:
            kept.add(min(inside, key=lambda block: (block[1], block[0])))
    return tuple(sorted(kept))


def reaches_by_word(chain, state):
    taken = owners(state)
    return tuple(max((word + 1 for word in taken if taken[word][1] <= size), default=0) for size in chain)


def random_history(chain, pages, limit, many, seed):
    """Return a history of so many events, with blocks at any of their places."""
    chance = random.Random(seed)
    taken = {}
    live = {}
    history = []
    while len(history) < many:
        size = chance.choice(chain)
        address = chance.randrange(pages * chain[-1] // size) * size
        span = range(address, address + size)
        if live and chance.random() < 0.3:
            address = chance.choice(sorted(live))
            for word in range(address, address + live.pop(address)):
                del taken[word]
            history.append(("free", address))
        elif len(taken) + size <= limit and not any(word in taken for word in span):
            live[address] = size
            taken.update((word, address) for word in span)
            history.append(("get", size, address))
    return tuple(history)


def first_bad_event(chain, pages, limit, history):
    """Return the index of the first item that no heap can do, found by marking words; None if all can be done."""
    taken = {}
    for number, item in enumerate(history):
        if type(item) is not tuple or any(type(part) is not int for part in item[1:]):
            return number
        if len(item) == 3 and item[0] == "get" and item[1] in chain:
            size, address = item[1:]
            span = range(address, address + size)
            inside = 0 <= address and address + size <= pages * chain[-1] and address % size == 0
            if not inside or any(word in taken for word in span) or len(taken) + size > limit:
                return number
            taken.update((word, address) for word in span)
        elif len(item) == 2 and item[0] == "free" and taken.get(item[1]) == item[1]:
            taken = {word: start for word, start in taken.items() if start != item[1]}
        else:
            return number
    return None


def expected_requests(chain, limit, answers):
    """Return the request, the phase and the state that stand behind these answers, all done from the beginning."""
    live = {}
    left = list(answers)
    for phase, size in enumerate(chain):
        kept = keepers_by_word(chain, max(live, default=0) // chain[-1] + 1, live.items(), size) if phase else live.items()
        for address in sorted(set(live) - {address for address, kept_size in kept}):
            if not left:
                return ("free", address), phase, tuple(sorted(live.items()))
            left.pop(0)
            del live[address]
        while sum(live.values()) + size <= limit:
            if not left:
                return ("get", size), phase, tuple(sorted(live.items()))
            live[left.pop(0)] = size
    return None, len(chain) - 1, tuple(sorted(live.items()))


def busy_chunks(state, size):
    """Return the number of chunks of this size that are not empty."""
    return len({word // size for word in owners(state)})


def replaced(value):
    """Return other values to put in the place of a value."""
    others = [None, True, False, 0, 1, 2, -1, 3, 4, 6, 8, 10**30, "", "get", "free", "1", (), [], {}]
    if isinstance(value, tuple):
        others.extend([list(value), value[:-1], value[1:], value[::-1], value + value[-1:], (*value, None), (value,)])
    if type(value) is int:
        others.extend([value + 1, value - 1, 2 * value, -value, str(value), (value,), [value]])
    if isinstance(value, str):
        others.extend([value.upper(), value + " ", value[:-1], [value], (value,)])
    return [other for other in others if shown(other) != shown(value)]


def changed_events(history):
    """Return histories that differ in one item or in one part of an item."""
    found = []
    for number, item in enumerate(history):
        head, tail = history[:number], history[number + 1:]
        found.append((*head, *tail))
        found.append((*head, item, item, *tail))
        found.extend((*head, other, *tail) for other in replaced(item))
        for place, part in enumerate(item):
            found.extend((*head, (*item[:place], other, *item[place + 1:]), *tail) for other in replaced(part))
    return found


HEAPS = (
    ((1,), 0), ((1,), 1), ((1,), 9), ((1, 2), 0), ((1, 2), 1), ((1, 2), 5), ((1, 3), 4), ((1, 2, 4), 3), ((1, 2, 6), 3),
    ((1, 3, 6, 12), 2), ((1, 4, 8), 3), ((1, 5, 10, 20), 4), ((1, 2, 4, 8, 16), 5),
)
LARGE_HEAPS = (
    ((1,), 2000), ((1, 2), 1000), ((1, 2, 4, 8, 40, 200, 1000), 2), ((1, 2000), 1), ((1, 5, 50), 40),
    ((1, 2, 4, 8, 16, 32, 64, 128, 256, 512, 1024), 1),
)


def random_states():
    """Return triples (chain, pages, state), from sparse states to full ones."""
    triples = []
    for chain, pages in HEAPS:
        for seed, tries in enumerate((0, 1, 2, 3, 5, 8, 12, 20, 40, 100)):
            triples.append((chain, pages, random_state(chain, pages, tries, seed)))
    for chain, pages in LARGE_HEAPS:
        for seed, tries in enumerate((10, 100, 1000, 5000)):
            triples.append((chain, pages, random_state(chain, pages, tries, seed)))
    return triples
