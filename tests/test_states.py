"""States: is_state, live_words, places, with_block, without_block, used_pages, reaches, keepers."""

import unittest

from pinnedheap.errors import BadSize, NoBlock
from pinnedheap.states import (is_state, keepers, live_words, places, reaches, used_pages, with_block,
                               without_block)
from tests.samples import (assert_error, is_plain_integer, keepers_by_word, owners, places_by_word, random_states,
                           reaches_by_word, shown, values)

STATE = ((0, 1), (2, 2), (4, 4))


class IsState(unittest.TestCase):
    def assert_state(self, chain, pages, value, expected):
        before = shown(value)
        self.assertIs(is_state(chain, pages, value), expected, (chain, pages, before))
        self.assertIs(is_state(value=value, pages=pages, chain=chain), expected, (chain, pages, before))
        self.assertEqual(shown(value), before)

    def test_examples(self):
        chain = (1, 2, 4)
        found = (is_state(chain, 2, STATE), is_state(chain, 2, ((1, 2),)), is_state(chain, 1, ((4, 4),)))
        self.assertEqual(found, (True, False, False))

    def test_no_pages(self):
        for chain in ((1,), (1, 2), (1, 10**9)):
            self.assert_state(chain, 0, (), True)
            self.assert_state(chain, 0, ((0, 1),), False)
            self.assert_state(chain, 0, ((-1, 1),), False)

    def test_end_of_the_heap(self):
        self.assert_state((1, 2, 4), 3, ((11, 1),), True)
        self.assert_state((1, 2, 4), 3, ((12, 1),), False)
        self.assert_state((1, 2, 4), 3, ((8, 4),), True)
        self.assert_state((1, 2, 4), 3, ((12, 4),), False)
        self.assert_state((1, 2, 4), 3, ((0, 1), (12, 1)), False)

    def test_addresses_below_the_heap(self):
        for block in ((-1, 1), (-2, 2), (-4, 4), (-4, 1)):
            self.assert_state((1, 2, 4), 3, (block,), False)
            self.assert_state((1, 2, 4), 3, (block, (0, 1)), False)

    def test_addresses_that_are_no_multiples(self):
        for block in ((1, 2), (3, 2), (2, 4), (6, 4), (1, 4), (5, 2)):
            self.assert_state((1, 2, 4), 3, (block,), False)
            self.assert_state((1, 2, 4), 3, ((0, 1), block), False)

    def test_sizes_that_are_none_of_the_chain(self):
        for size in (0, -1, -2, 3, 5, 6, 8, 10**30, True, None, "1", (1,), [1], {}):
            self.assert_state((1, 2, 4), 3, ((0, size),), False)
        self.assert_state((1, 4), 3, ((0, 2),), False)

    def test_blocks_that_overlap(self):
        for value in (((0, 2), (1, 1)), ((0, 4), (2, 2)), ((0, 4), (3, 1)), ((0, 1), (0, 2)), ((0, 1), (0, 4)),
                      ((4, 4), (6, 1)), ((0, 1), (4, 4), (6, 2)), ((0, 4), (2, 1), (4, 1))):
            self.assert_state((1, 2, 4), 3, value, False)
        self.assert_state((1, 2, 4), 3, ((0, 2), (2, 1), (3, 1), (4, 4)), True)

    def test_another_order(self):
        self.assert_state((1, 2, 4), 3, ((2, 2), (0, 1)), False)
        self.assert_state((1, 2, 4), 3, ((0, 1), (4, 4), (2, 2)), False)
        self.assert_state((1, 2, 4), 3, ((8, 1), (4, 4), (0, 1)), False)

    def test_the_same_block_twice(self):
        self.assert_state((1, 2, 4), 3, ((0, 1), (0, 1)), False)
        self.assert_state((1, 2, 4), 3, ((0, 1), (4, 4), (4, 4)), False)

    def test_booleans_are_no_integers(self):
        for value in (((False, 1),), ((True, 1),), ((0, True),), ((0, 1), (True, 1)), ((1, 1), (2, True))):
            self.assert_state((1, 2, 4), 3, value, False)

    def test_lists_are_no_tuples(self):
        for value in ([], [(0, 1)], ([0, 1],), [[0, 1]], ((0, 1), [2, 2])):
            self.assert_state((1, 2, 4), 3, value, False)

    def test_blocks_that_are_no_pairs(self):
        for block in ((), (0,), (0, 1, 1), 0, None, "01", {0: 1}, {0: 1, 1: 1}, ((0, 1),)):
            self.assert_state((1, 2, 4), 3, (block,), False)
            self.assert_state((1, 2, 4), 3, ((0, 1), block), False)

    def test_values_of_every_kind(self):
        for value in values():
            expected = isinstance(value, tuple) and value in ((), ((0, 1),), ((0, 1), (2, 2)))
            self.assert_state((1, 2, 4), 3, value, expected)
            self.assert_state((1, 2, 4), 3, (value,), isinstance(value, tuple) and value == (0, 1))
            self.assert_state((1, 2, 4), 3, ((value, 1),), is_plain_integer(value) and 0 <= value < 12)
            self.assert_state((1, 2, 4), 3, ((0, value),), is_plain_integer(value) and value in (1, 2, 4))

    def test_random_states_and_damaged_ones(self):
        for chain, pages, state in random_states():
            self.assert_state(chain, pages, state, True)
            self.assert_state(chain, pages, list(state), False)
            self.assert_state(chain, pages, state + ((pages * chain[-1], 1),), False)
            if len(state) > 1:
                self.assert_state(chain, pages, state[::-1], False)
                self.assert_state(chain, pages, state + state[-1:], False)


class LiveWords(unittest.TestCase):
    def test_example(self):
        self.assertEqual(live_words(STATE), 7)

    def test_against_words(self):
        for chain, pages, state in random_states():
            self.assertEqual(live_words(state), len(owners(state)))
            self.assertEqual(live_words(state=state), len(owners(state)))


class Places(unittest.TestCase):
    def test_example(self):
        self.assertEqual(places((1, 2, 4), 2, ((0, 1), (5, 1)), 2), (2, 6))

    def test_no_pages(self):
        for size in (1, 2, 4):
            self.assertEqual(places((1, 2, 4), 0, (), size), ())
        self.assertEqual(places((1, 10**9), 0, (), 10**9), ())

    def test_full_and_empty_heaps(self):
        self.assertEqual(places((1, 2, 4), 2, ((0, 4), (4, 4)), 1), ())
        self.assertEqual(places((1, 2, 4), 2, (), 1), tuple(range(8)))
        self.assertEqual(places((1, 2, 4), 2, (), 4), (0, 4))
        self.assertEqual(places((1, 2, 4), 1, ((1, 1),), 4), ())

    def test_against_words(self):
        for chain, pages, state in random_states():
            for size in chain:
                expected = places_by_word(chain, pages, state, size)
                self.assertEqual(places(chain, pages, state, size), expected)
                self.assertEqual(places(size=size, state=state, pages=pages, chain=chain), expected)

    def test_bad_sizes(self):
        for value in values() + [3, 0, -4, 5, 8]:
            if is_plain_integer(value) and value in (1, 2, 4):
                continue
            for pages, state in ((0, ()), (2, ()), (2, STATE)):
                assert_error(self, BadSize, "size", value, places, (1, 2, 4), pages, state, value)
                assert_error(self, BadSize, "size", value, places, size=value, state=state, pages=pages, chain=(1, 2, 4))


class WithAndWithoutBlock(unittest.TestCase):
    def test_examples(self):
        found = (with_block(((4, 4),), 2, 2), without_block(((0, 1), (4, 4)), 0))
        self.assertEqual(found, (((2, 2), (4, 4)), ((4, 4),)))

    def test_first_and_last_block(self):
        self.assertEqual(with_block((), 0, 1), ((0, 1),))
        self.assertEqual(with_block(STATE, 8, 4), STATE + ((8, 4),))
        self.assertEqual(without_block(((3, 1),), 3), ())
        self.assertEqual(without_block(STATE, 4), STATE[:2])

    def test_against_words(self):
        for chain, pages, state in random_states():
            for size in chain:
                for address in places_by_word(chain, pages, state, size)[::37]:
                    more = with_block(state, address, size)
                    self.assertEqual(more, with_block(size=size, address=address, state=state))
                    self.assertIs(is_state(chain, pages, more), True)
                    self.assertEqual(owners(more), owners(state) | owners(((address, size),)))
                    self.assertEqual(without_block(more, address), state)

    def test_every_block_can_go(self):
        for chain, pages, state in random_states():
            for address, size in state[::11]:
                less = without_block(state, address)
                self.assertEqual(less, without_block(address=address, state=state))
                self.assertEqual(less, tuple(block for block in state if block != (address, size)))

    def test_no_block(self):
        for state in ((), STATE, ((4, 4),), ((0, 1), (1, 1), (2, 1))):
            addresses = [address for address, size in state]
            for value in values() + [1, 3, 5, 6, 7, -1, (0, 1), [0], "0"]:
                if is_plain_integer(value) and value in addresses:
                    continue
                assert_error(self, NoBlock, "address", value, without_block, state, value)
                assert_error(self, NoBlock, "address", value, without_block, address=value, state=state)


class UsedPages(unittest.TestCase):
    def test_example(self):
        self.assertEqual(used_pages((1, 2, 4), ((1, 1), (8, 4))), (0, 2))

    def test_several_blocks_in_a_page(self):
        self.assertEqual(used_pages((1, 2, 4), ()), ())
        self.assertEqual(used_pages((1, 2, 4), ((4, 1), (5, 1), (6, 2), (8, 1), (11, 1))), (1, 2))
        self.assertEqual(used_pages((1,), ((0, 1), (3, 1))), (0, 3))

    def test_against_words(self):
        for chain, pages, state in random_states():
            expected = tuple(sorted({word // chain[-1] for word in owners(state)}))
            self.assertEqual(used_pages(chain, state), expected)
            self.assertEqual(used_pages(state=state, chain=chain), expected)


class Reaches(unittest.TestCase):
    def test_examples(self):
        found = (reaches((1, 2, 4), ((0, 1), (4, 4))), reaches((1, 2, 4), ((0, 4), (4, 1), (6, 2))))
        self.assertEqual(found, ((1, 1, 8), (5, 8, 8)))

    def test_classes_without_a_block(self):
        self.assertEqual(reaches((1, 2, 4), ()), (0, 0, 0))
        self.assertEqual(reaches((1, 2, 4), ((4, 4),)), (0, 0, 8))
        self.assertEqual(reaches((1, 2, 4), ((2, 2),)), (0, 4, 4))
        self.assertEqual(reaches((1, 2, 4), ((5, 1),)), (6, 6, 6))
        self.assertEqual(reaches((1,), ((5, 1),)), (6,))

    def test_a_small_block_behind_a_large_one(self):
        self.assertEqual(reaches((1, 2, 4), ((0, 4), (8, 1))), (9, 9, 9))
        self.assertEqual(reaches((1, 2, 4), ((0, 1), (4, 2), (8, 4), (13, 1))), (14, 14, 14))

    def test_against_words(self):
        for chain, pages, state in random_states():
            expected = reaches_by_word(chain, state)
            self.assertEqual(reaches(chain, state), expected)
            self.assertEqual(reaches(state=state, chain=chain), expected)


class Keepers(unittest.TestCase):
    def test_example(self):
        state = ((0, 2), (2, 1), (3, 1), (5, 1), (8, 4))
        self.assertEqual(keepers((1, 2, 4), state, 4), ((2, 1), (5, 1), (8, 4)))

    def test_several_smallest_blocks_in_a_chunk(self):
        self.assertEqual(keepers((1, 2, 4), ((0, 1), (1, 1), (2, 1), (3, 1)), 4), ((0, 1),))
        self.assertEqual(keepers((1, 2, 4), ((0, 2), (2, 2)), 4), ((0, 2),))
        self.assertEqual(keepers((1, 2, 4), ((1, 1), (2, 2), (5, 1), (7, 1)), 4), ((1, 1), (5, 1)))

    def test_a_smaller_block_behind_larger_ones(self):
        self.assertEqual(keepers((1, 2, 4), ((0, 2), (3, 1)), 4), ((3, 1),))
        self.assertEqual(keepers((1, 2, 4, 8), ((0, 4), (4, 2), (7, 1)), 8), ((7, 1),))

    def test_blocks_larger_than_the_chunk(self):
        state = ((0, 4), (4, 1), (5, 1), (8, 4))
        self.assertEqual(keepers((1, 2, 4), state, 2), ((0, 4), (4, 1), (8, 4)))
        self.assertEqual(keepers((1, 2, 4, 8), ((0, 8), (8, 8)), 2), ((0, 8), (8, 8)))

    def test_one_word_keeps_all(self):
        for chain, pages, state in random_states():
            self.assertEqual(keepers(chain, state, 1), state)

    def test_against_words(self):
        for chain, pages, state in random_states():
            for size in chain:
                expected = keepers_by_word(chain, pages, state, size)
                self.assertEqual(keepers(chain, state, size), expected)
                self.assertEqual(keepers(size=size, state=state, chain=chain), expected)

    def test_bad_sizes(self):
        for value in values() + [3, 0, -4, 5, 8]:
            if is_plain_integer(value) and value in (1, 2, 4):
                continue
            for state in ((), STATE):
                assert_error(self, BadSize, "size", value, keepers, (1, 2, 4), state, value)
                assert_error(self, BadSize, "size", value, keepers, size=value, state=state, chain=(1, 2, 4))


if __name__ == "__main__":
    unittest.main()
