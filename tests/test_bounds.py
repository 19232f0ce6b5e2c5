"""Bounds: bounds, pages_needed, outlook, careless_pages."""

import math
import random
import unittest
from fractions import Fraction

from pinnedheap.bounds import bounds, careless_pages, outlook, pages_needed
from pinnedheap.chains import chains_of
from pinnedheap.states import live_words
from tests.samples import random_state, random_states, reaches_by_word

TWELVE = tuple(2**k for k in range(12))
LARGE_TWELVE = (1, 2, 6, 30, 60, 300, 600, 3000, 30000, 300000, 3000000, 900000000)
LARGE_CHAINS = (
    (1, 2), (1, 3), (1, 1000), (1, 10**9), (1, 999999937), (1, 2, 10**9), (1, 5 * 10**8, 10**9), (1, 10**3, 10**6, 10**9),
    (1, 7, 49, 343, 2401, 16807), TWELVE, LARGE_TWELVE, (1, 2, 4, 12, 36, 180, 1260, 2520, 27720, 360360, 720720, 144144000),
)
LARGE_LIMITS = (0, 1, 2, 999, 10**6, 10**9 - 1, 10**9, 10**9 + 1, 123456789012345678, 10**18 - 1, 10**18)


def small_chains(page):
    """Return all chains with at most this page."""
    return [chain for number in range(1, page + 1) for chain in chains_of(number)]


def numbers_by(counted, chain, limit, reached):
    """Return one number for each class, each one counted from those before it."""
    numbers = [max(limit, reached[0])]
    for size, reach in list(zip(chain, reached))[1:]:
        numbers.append(max(reach, counted(chain, limit, numbers, size)))
    return tuple(numbers)


def count_chunks(chain, limit, numbers, size):
    """Go through all chunks one by one, and look for the class before whose number each starts."""
    words = 0
    start = 0
    while start < numbers[-1]:
        words += next(smaller for smaller, end in zip(chain, numbers) if start < end)
        start += size
    while words + size <= limit:
        words += size
        start += size
    return start


def count_ranges(chain, limit, numbers, size):
    """Count the chunks by the lengths of ranges, which may be large."""
    words = 0
    first = 0
    for smaller, end in zip(chain, numbers):
        starts = range(first, end, size)
        words += smaller * len(starts)
        first += size * len(starts)
    return first + len(range(words + size, limit + 1, size)) * size


def numbers_by_chunks(chain, limit, reached):
    return numbers_by(count_chunks, chain, limit, reached)


def numbers_by_ranges(chain, limit, reached):
    return numbers_by(count_ranges, chain, limit, reached)


def careless_by_counting(chain, limit):
    """Add pages as long as the limit pays for a word in each chunk of all but one page, and one block more."""
    most = 0
    for size in chain:
        pages = 0
        while pages * len(range(0, chain[-1], size)) + size <= limit:
            pages += 1
        most = max(most, pages)
    return most


def zeros(chain):
    return tuple(0 for size in chain)


def near_multiples(page, most):
    """Return the limits at most 1 away from a multiple of the page."""
    return sorted({page * times + step for times in range(most) for step in (-1, 0, 1)} - {-1})


class Bounds(unittest.TestCase):
    def test_examples(self):
        found = (bounds((1, 2, 4), 8), bounds((1, 2), 5), bounds((1, 2), 3), bounds((1,), 7))
        self.assertEqual(found, ((8, 12, 16), (5, 8), (3, 4), (7,)))

    def test_by_name(self):
        self.assertEqual(bounds(limit=8, chain=(1, 2, 4)), (8, 12, 16))
        self.assertEqual(bounds(chain=(1, 2), limit=5), (5, 8))

    def test_against_counting_chunks(self):
        for chain in small_chains(24):
            for limit in range(60):
                self.assertEqual(bounds(chain, limit), numbers_by_chunks(chain, limit, zeros(chain)), (chain, limit))

    def test_near_multiples_of_the_page(self):
        for chain in small_chains(36)[::3]:
            for limit in near_multiples(chain[-1], 9):
                self.assertEqual(bounds(chain, limit), numbers_by_chunks(chain, limit, zeros(chain)), (chain, limit))

    def test_limits_0_and_1(self):
        for chain in (*small_chains(12), *LARGE_CHAINS):
            self.assertEqual(bounds(chain, 0), zeros(chain))
            self.assertEqual(bounds(chain, 1), chain)

    def test_one_size(self):
        for limit in (*range(50), *LARGE_LIMITS):
            self.assertEqual(bounds((1,), limit), (limit,))

    def test_two_large_sizes(self):
        chance = random.Random(1)
        for turn in range(300):
            page = chance.randint(2, 10 ** chance.randint(1, 9))
            limit = chance.randint(0, 10 ** chance.randint(0, 18))
            chunks = math.ceil(Fraction(limit, page))
            self.assertEqual(bounds((1, page), limit), (limit, page * (chunks + (limit - chunks) // page)))
        self.assertEqual(bounds((1, 10**9), 10**18), (10**18, 10**18 + 10**18 - 10**9))

    def test_large_chains_against_ranges(self):
        for chain in LARGE_CHAINS:
            for limit in LARGE_LIMITS:
                self.assertEqual(bounds(chain, limit), numbers_by_ranges(chain, limit, zeros(chain)), (chain, limit))

    def test_twelve_sizes_against_counting_chunks(self):
        for chain in (TWELVE, (*TWELVE[:11], 3072)):
            for limit in (0, 1, 2, 100, 1023, 1024, 2047, 2048, 2049, 6000, 6143, 6144):
                self.assertEqual(bounds(chain, limit), numbers_by_chunks(chain, limit, zeros(chain)), (chain, limit))

    def test_multiples_of_the_page_times_each_ratio(self):
        for chain in (*small_chains(16), *LARGE_CHAINS):
            ratios = [larger // size for size, larger in zip(chain, chain[1:])]
            unit = math.lcm(chain[-1], *[chain[-1] * ratio for ratio in ratios])
            factor = 1 + sum(1 - Fraction(1, ratio) for ratio in ratios)
            for times in (0, 1, 2, 3, 10, 997):
                self.assertEqual(bounds(chain, unit * times)[-1], unit * times * factor, (chain, times))

    def test_kinds_of_values(self):
        for chain in LARGE_CHAINS:
            found = bounds(chain, 1000)
            self.assertIs(type(found), tuple)
            self.assertEqual([type(number) for number in found], [int for size in chain])

    def test_numbers_are_multiples_and_never_fall(self):
        for chain in (*small_chains(20), *LARGE_CHAINS):
            for limit in (0, 1, 17, 100, 10**18):
                found = bounds(chain, limit)
                self.assertEqual(list(found), sorted(found))
                self.assertEqual([number % size for number, size in zip(found, chain)], [0 for size in chain])


class PagesNeeded(unittest.TestCase):
    def test_examples(self):
        found = (pages_needed((1, 2, 4), 8), pages_needed((1, 2), 5), pages_needed((1, 3), 9), pages_needed((1, 2), 0))
        self.assertEqual(found, (4, 4, 5, 0))

    def test_by_name(self):
        self.assertEqual(pages_needed(limit=8, chain=(1, 2, 4)), 4)
        self.assertIs(type(pages_needed(chain=(1, 2), limit=5)), int)

    def test_against_counting_chunks(self):
        for chain in small_chains(20):
            for limit in (*range(25), *near_multiples(chain[-1], 5)):
                expected = Fraction(numbers_by_chunks(chain, limit, zeros(chain))[-1], chain[-1])
                self.assertEqual(pages_needed(chain, limit), expected, (chain, limit))

    def test_one_size_and_two(self):
        for limit in (*range(20), *LARGE_LIMITS):
            self.assertEqual(pages_needed((1,), limit), limit)
        self.assertEqual(pages_needed((1, 10**9), 10**18), 2 * 10**9 - 1)
        self.assertEqual(pages_needed((1, 10**9), 1), 1)

    def test_large_chains(self):
        for chain in LARGE_CHAINS:
            for limit in LARGE_LIMITS:
                expected = Fraction(numbers_by_ranges(chain, limit, zeros(chain))[-1], chain[-1])
                self.assertEqual(pages_needed(chain, limit), expected, (chain, limit))


class Outlook(unittest.TestCase):
    def assert_outlook(self, chain, limit, state):
        found = outlook(chain, limit, state)
        self.assertEqual(found, numbers_by_chunks(chain, limit, reaches_by_word(chain, state)), (chain, limit, state))
        self.assertEqual(outlook(state=state, limit=limit, chain=chain), found)
        self.assertIs(type(found), tuple)

    def test_examples(self):
        chain = (1, 2, 4)
        found = (outlook(chain, 8, ()), outlook(chain, 8, ((20, 4),)), outlook(chain, 8, ((13, 1),)))
        self.assertEqual(found, ((8, 12, 16), (8, 12, 24), (14, 14, 20)))

    def test_the_empty_state(self):
        for chain in (*small_chains(12), *LARGE_CHAINS):
            for limit in (*range(12), *LARGE_LIMITS):
                self.assertEqual(outlook(chain, limit, ()), bounds(chain, limit))
                self.assertEqual(outlook(state=(), chain=chain, limit=limit), bounds(chain, limit))

    def test_random_states(self):
        for chain, pages, state in random_states():
            live = live_words(state)
            for limit in (live, live + 1, live + chain[-1], 2 * live + 3):
                self.assert_outlook(chain, limit, state)

    def test_large_gaps(self):
        for chain in ((1, 2), (1, 3), (1, 2, 4), (1, 2, 4, 8), (1, 5, 10)):
            for first in (0, 40, 200):
                for size in chain:
                    for last in (800, 1960):
                        state = ((first, 1), (last, size))
                        for limit in (1 + size, 2 + size, 20, 100, 1000, 2000):
                            self.assert_outlook(chain, limit, state)

    def test_what_is_reached_may_be_more_than_the_limit_pays_for(self):
        # L is 25 chunks of one word, far above the limit.
        self.assertEqual(outlook((1, 2), 1, ((49, 1),)), (50, 50))
        self.assertEqual(outlook((1, 2, 4), 3, ((49, 1), (60, 2))), (50, 62, 64))
        self.assertEqual(outlook((1, 2, 4), 7, ((5, 1), (60, 2), (100, 4))), (7, 62, 104))
        self.assertEqual(outlook((1,), 3, ((9, 1),)), (10,))

    def test_some_hundred_words(self):
        for seed, chain in enumerate(((1, 2, 4, 8, 16), (1, 3, 9, 27), (1, 10, 100), (1, 2, 6, 24, 120))):
            for tries in (20, 100, 400):
                state = random_state(chain, 600 // chain[-1], tries, seed)
                for limit in (live_words(state), 300, 600, 2000):
                    self.assert_outlook(chain, max(limit, live_words(state)), state)


class CarelessPages(unittest.TestCase):
    def test_examples(self):
        found = (careless_pages((1, 2, 4), 8), careless_pages((1, 2, 4), 4), careless_pages((1, 2), 0))
        self.assertEqual(found, (5, 2, 0))

    def test_by_name(self):
        self.assertEqual(careless_pages(limit=8, chain=(1, 2, 4)), 5)
        self.assertIs(type(careless_pages(chain=(1, 2), limit=0)), int)

    def test_against_counting(self):
        for chain in small_chains(24):
            for limit in (*range(40), *near_multiples(chain[-1], 5)):
                self.assertEqual(careless_pages(chain, limit), careless_by_counting(chain, limit), (chain, limit))

    def test_limits_0_and_1(self):
        for chain in (*small_chains(12), *LARGE_CHAINS):
            self.assertEqual(careless_pages(chain, 0), 0)
            self.assertEqual(careless_pages(chain, 1), 1)

    def test_large_numbers(self):
        self.assertEqual(careless_pages((1,), 10**18), 10**18)
        self.assertEqual(careless_pages((1, 10**9), 10**18), 1 + 10**18 - 10**9)
        self.assertEqual(careless_pages((1, 10**9), 10**9 - 1), 1)
        self.assertEqual(careless_pages((1, 10**9), 10**9), 1)
        self.assertEqual(careless_pages((1, 10**9), 10**9 + 1), 2)
        self.assertEqual(careless_pages((1, 10**3, 10**9), 2 * 10**6), 1 + (2 * 10**6 - 1000) // 10**6)

    def test_large_chains(self):
        for chain in LARGE_CHAINS:
            for limit in LARGE_LIMITS:
                found = careless_pages(chain, limit)
                # Some size pays for so many pages, and none for one more.
                costs = [[(pages - 1) * (chain[-1] // size) + size for size in chain] for pages in (found, found + 1)]
                self.assertTrue(found == 0 or min(costs[0]) <= limit, (chain, limit))
                self.assertGreater(min(costs[1]), limit, (chain, limit))


if __name__ == "__main__":
    unittest.main()
