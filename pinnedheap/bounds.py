"""How far the blocks of each class can reach, and how many pages that takes."""

from pinnedheap.integers import divided_up
from pinnedheap.states import reaches


def bounds(chain, limit):
    """Return, for each class, how far its blocks reach at the worst."""
    return numbers_from(chain, limit, reaches(chain, ()))


def outlook(chain, limit, state):
    """Return, for each class, how far its blocks can still reach from a state."""
    return numbers_from(chain, limit, reaches(chain, state))


def numbers_from(chain, limit, reached):
    """Return one number for each class, none below what is reached already."""
    numbers = [max(limit, reached[0])]
    for index in range(1, len(chain)):
        size = chain[index]
        # A reach may lie so far out that the limit cannot keep all chunks before it busy.
        left = max(0, limit - least_words(chain, numbers, size))
        chunks = divided_up(numbers[-1], size) + left // size
        numbers.append(max(reached[index], size * chunks))
    return tuple(numbers)


def least_words(chain, numbers, size):
    """Return the fewest live words that leave no chunk of this size empty before the last number."""
    words = 0
    before = 0
    for smaller, number in zip(chain, numbers):
        # Blocks of a smaller class do not reach the chunks behind their own number.
        chunks = divided_up(number, size)
        words += smaller * (chunks - before)
        before = chunks
    return words


def pages_needed(chain, limit):
    """Return the number of pages with which the rule "lowest" never fails."""
    return bounds(chain, limit)[-1] // chain[-1]


def careless_pages(chain, limit):
    """Return the number of pages that no rule exceeds on a growing heap."""
    page = chain[-1]
    return max([1 + (limit - size) // (page // size) for size in chain if size <= limit], default=0)
