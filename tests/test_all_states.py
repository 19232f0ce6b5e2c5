"""States: count_states, all_states."""

import itertools
import unittest

from pinnedheap.chains import chains_of
from pinnedheap.errors import TooMany
from pinnedheap.states import all_states, count_states, is_state, live_words

SMALL = (
    ((1,), 0), ((1,), 1), ((1,), 2), ((1,), 10), ((1, 2), 0), ((1, 2), 1), ((1, 2), 2), ((1, 2), 4), ((1, 3), 1),
    ((1, 3), 3), ((1, 4), 2), ((1, 2, 4), 1), ((1, 2, 4), 2), ((1, 2, 6), 1), ((1, 3, 6), 1), ((1, 2, 4, 8), 1), ((1, 7), 1),
)


def states_by_hand(chain, pages):
    """Try every choice of blocks, and look at their words."""
    words = pages * chain[-1]
    blocks = sorted((start, size) for size in chain for start in range(0, words, size))
    found = []
    for choice in itertools.product((False, True), repeat=len(blocks)):
        state = tuple(block for block, chosen in zip(blocks, choice) if chosen)
        covered = [word for address, size in state for word in range(address, address + size)]
        if len(covered) == len(set(covered)):
            found.append(state)
    return sorted(found)


def small_heaps(words):
    """Return all pairs (chain, pages) of heaps with at most so many words, but at least one."""
    return [(chain, pages) for page in range(1, words + 1) for chain in chains_of(page)
            for pages in range(1, words // page + 1)]


class CountStates(unittest.TestCase):
    def test_examples(self):
        found = (count_states((1, 2), 1), count_states((1, 2), 2), count_states((1, 2, 4), 1))
        self.assertEqual(found, (5, 25, 26))

    def test_against_counting_by_hand(self):
        for chain, pages in SMALL:
            self.assertEqual(count_states(chain, pages), len(states_by_hand(chain, pages)))
            self.assertEqual(count_states(pages=pages, chain=chain), len(states_by_hand(chain, pages)))

    def test_no_pages(self):
        for chain in ((1,), (1, 2), (1, 2, 4), (1, 2000), (1, 10**9), (1, 10**4, 10**9)):
            self.assertEqual(count_states(chain, 0), 1)

    def test_large_heaps(self):
        self.assertEqual(count_states((1,), 2000), 2**2000)
        self.assertEqual(count_states((1, 2), 1000), 5**1000)
        self.assertEqual(count_states((1, 2000), 1), 2**2000 + 1)
        self.assertEqual(count_states((1, 5, 50), 40), (33**10 + 1)**40)
        self.assertEqual(count_states((1, 2, 4, 8, 40, 1000), 2), ((677**5 + 1)**25 + 1)**2)


class AllStates(unittest.TestCase):
    def test_example(self):
        self.assertEqual(all_states((1, 2), 1, 1), ((), ((0, 1),), ((1, 1),)))

    def test_against_trying_by_hand(self):
        for chain, pages in SMALL:
            by_hand = states_by_hand(chain, pages)
            for limit in (*range(pages * chain[-1] + 2), 2000, 10**18):
                expected = tuple(state for state in by_hand if sum(size for address, size in state) <= limit)
                self.assertEqual(all_states(chain, pages, limit), expected)
                self.assertEqual(all_states(limit=limit, pages=pages, chain=chain), expected)

    def test_no_pages(self):
        for chain in ((1,), (1, 2, 4), (1, 2000), (1, 10**9)):
            for limit in (0, 1, 2000):
                self.assertEqual(all_states(chain, 0, limit), ((),))

    def test_limit_0(self):
        for chain, pages in SMALL:
            self.assertEqual(all_states(chain, pages, 0), ((),))

    def assert_complete(self, chain, pages):
        found = all_states(chain, pages, pages * chain[-1])
        self.assertEqual(len(found), count_states(chain, pages))
        self.assertEqual(list(found), sorted(set(found)))
        self.assertTrue(all(is_state(chain, pages, state) for state in found))
        self.assertEqual(all_states(chain, pages, 10**18), found)
        self.assertEqual(all_states(chain, pages, 3), tuple(state for state in found if live_words(state) <= 3))

    def assert_too_many(self, chain, pages, limit):
        with self.assertRaises(TooMany) as caught:
            all_states(limit=limit, pages=pages, chain=chain)
        self.assertEqual(caught.exception.limit, 20000)

    def test_the_most_states_that_are_not_too_many(self):
        # No heap has exactly 20000 states; these come closest from below.
        counts = sorted((count_states(chain, pages), chain, pages) for chain, pages in small_heaps(15))
        below = [item for item in counts if item[0] <= 20000]
        self.assertEqual(below[-2:], [(17576, (1, 2, 4), 3), (17577, (1, 2, 4, 12), 1)])
        for count, chain, pages in below[-6:]:
            self.assert_complete(chain, pages)

    def test_all_small_heaps_are_done_or_refused(self):
        for chain, pages in small_heaps(16):
            if count_states(chain, pages) > 20000:
                self.assert_too_many(chain, pages, 10**18)
            else:
                self.assertEqual(len(all_states(chain, pages, 10**18)), count_states(chain, pages))

    def test_too_many_whatever_the_limit(self):
        for chain, pages in (((1,), 15), ((1, 5), 3), ((1, 2), 7), ((1, 2, 14), 1), ((1, 2, 4), 4), ((1,), 2000),
                             ((1, 2000), 1), ((1, 5, 50), 40)):
            for limit in (0, 1, 14, 15, 2000, 10**18):
                self.assert_too_many(chain, pages, limit)


if __name__ == "__main__":
    unittest.main()
