"""Values of every kind, and states to try things on."""

import random


def nested_list(depth):
    value = 1
    for turn in range(depth):
        value = [value]
    return value


def nested_tuple(depth):
    value = 1
    for turn in range(depth):
        value = (value,)
    return value


def nested_dict(depth):
    value = True
    for turn in range(depth):
        value = {"deeper": value, turn: None}
    return value


def values():
    """Return values of every kind, new ones with each call."""
    return [
        0, 1, -1, 2, 3, 4, 5, 6, 7, 8, -2, 4096, 4097, 10**9, 10**9 + 1, 10**30, -10**30, 10**5000,
        True, False, None,
        "", "1", "2", "lowest", "a\nb", "1/2", "get 1",
        (), (1,), (2,), (1, 2), (0, 1), ((0, 1),), ((0, 1), (2, 2)), (True,), (None,), ("get", 1, 0), ((),), ([],), ({},),
        [], [1], [1, 2], [0, 1], [(0, 1)], [[0, 1]], [None, True, "x"], [[], {}, ()],
        {}, {1: 2}, {"size": 1}, {0: [1, {"a": (1, [2])}]}, {(1, 2): None},
        nested_list(20), nested_tuple(20), nested_dict(20), [nested_tuple(9), nested_dict(9), nested_list(9)],
    ]


def is_plain_integer(value):
    return type(value) is int


def assert_error(case, error, attribute, value, function, *arguments, **named):
    """Assert that the call raises the very error with the very value and leaves the value as it was."""
    before = shown(value)
    with case.assertRaises(error) as caught:
        function(*arguments, **named)
    case.assertIs(type(caught.exception), error)
    case.assertIs(getattr(caught.exception, attribute), value)
    case.assertEqual(shown(value), before)


def shown(value):
    """Return a text that tells True from 1 and a list from a tuple, also of very long integers."""
    if type(value) is int:
        return hex(value)
    if isinstance(value, (list, tuple)):
        return f"{type(value).__name__}({', '.join(shown(item) for item in value)})"
    if isinstance(value, dict):
        return f"dict({', '.join(f'{shown(key)}: {shown(value[key])}' for key in value)})"
    return repr(value)


def random_state(chain, pages, tries, seed):
    """Return a state, found by putting blocks wherever they fit."""
    chance = random.Random(seed)
    taken = set()
    blocks = []
    words = pages * chain[-1]
    for turn in range(tries):
        size = chance.choice(chain)
        if words < size:
            continue
        address = chance.randrange(words // size) * size
        span = set(range(address, address + size))
        if not span & taken:
            taken |= span
            blocks.append((address, size))
    return tuple(sorted(blocks))


HEAPS = (
    ((1,), 0), ((1,), 1), ((1,), 9), ((1, 2), 0), ((1, 2), 1), ((1, 2), 5), ((1, 3), 4), ((1, 2, 4), 3), ((1, 2, 6), 3),
    ((1, 3, 6, 12), 2), ((1, 4, 8), 3), ((1, 5, 10, 20), 4), ((1, 2, 4, 8, 16), 5),
)
LARGE_HEAPS = (
    ((1,), 2000), ((1, 2), 1000), ((1, 2, 4, 8, 40, 200, 1000), 2), ((1, 2000), 1), ((1, 5, 50), 40),
    ((1, 2, 4, 8, 16, 32, 64, 128, 256, 512, 1024), 1),
)


def random_states():
    """Return triples (chain, pages, state), from sparse states to full ones."""
    triples = []
    for chain, pages in HEAPS:
        for seed, tries in enumerate((0, 1, 2, 3, 5, 8, 12, 20, 40, 100)):
            triples.append((chain, pages, random_state(chain, pages, tries, seed)))
    for chain, pages in LARGE_HEAPS:
        for seed, tries in enumerate((10, 100, 1000, 5000)):
            triples.append((chain, pages, random_state(chain, pages, tries, seed)))
    return triples
