"""Requests of any size: how many words live for so many requested ones, and which chain needs the fewest pages."""

from pinnedheap.bounds import pages_needed
from pinnedheap.chains import chains_of


def most_live(chain, words):
    """Return the largest number of words in live blocks for so many requested words."""
    return best_requests(chain, words)[words][0]


def request_mix(chain, words):
    """Return the rising tuple of requests whose blocks have the most words."""
    best = best_requests(chain, words)
    mix = []
    left = words
    while left > 0:
        request = best[left][1]
        mix.append(request)
        left -= request
    return tuple(sorted(mix))


def best_requests(chain, words):
    """Return pairs (most live words, last request of a best mix), one for each number of words from 0 on."""
    requests = least_requests(chain)
    best = [(0, 0)]
    for total in range(1, words + 1):
        best.append(max([(best[total - request][0] + size, request) for request, size in requests if request <= total]))
    return best


def least_requests(chain):
    """Return pairs (request, size), one for each size: the fewest requested words that get a block of this size."""
    return [(smaller + 1, size) for smaller, size in zip((0, *chain), chain)]


def enough_pages(chain, words):
    """Return the number of pages with which no request fails."""
    return pages_needed(chain, most_live(chain, words))


def best_chain(page, words):
    """Return the chain with this page that needs the fewest pages."""
    best = None
    rows = [(fewest_pages(chain, words), len(chain), chain) for chain in chains_of(page)]
    for fewest, many, candidate in sorted(rows):
        # Neither this chain nor a later one can come before the best one.
        if best is not None and best < (fewest, many, candidate):
            break
        found = (enough_pages(candidate, words), many, candidate)
        if best is None or found < best:
            best = found
    return best[2]


def fewest_pages(chain, words):
    """Return a number of pages that `enough_pages` is not below, and that takes less time."""
    # A lower limit never needs more pages.
    return pages_needed(chain, some_live(chain, words))


def some_live(chain, words):
    """Return a number of live words for so many requested ones, by the requests first that gain the most a word."""
    live = 0
    left = words
    for request, size in sorted(least_requests(chain), key=gain, reverse=True):
        live += left // request * size
        left -= left // request * request
    return live


def gain(pair):
    """Return a number that is larger if a request gets more words for each word."""
    request, size = pair
    return size * 1000 // request
