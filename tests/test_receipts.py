"""Receipts: receipt, shows_receipt, shown_words."""

import unittest

from pinnedheap.errors import BadPlace, BadSize
from pinnedheap.receipts import receipt, shown_words, shows_receipt
from pinnedheap.states import all_states, places
from tests.samples import assert_error, changed, is_plain_integer, owners, random_states, shown, values

CHAIN = (1, 2, 4)
STATE = ((0, 1), (1, 1), (2, 2), (4, 4), (9, 1), (10, 1))


def chunks(state, size, address):
    """Return pairs (start, ascending list of the blocks that overlap) of all chunks below an address, by each word."""
    taken = owners(state)
    found = []
    for start in range(0, address, size):
        found.append((start, sorted({taken[word] for word in range(start, start + size) if word in taken})))
    return found


def receipt_by_word(state, size, address):
    found = chunks(state, size, address)
    if not all(blocks for start, blocks in found):
        return None
    return tuple((start, blocks[0][0]) for start, blocks in found)


def shows_by_word(state, size, address, value):
    found = chunks(state, size, address)
    if type(value) is not tuple or len(value) != len(found):
        return False
    for (start, blocks), item in zip(found, value):
        if type(item) is not tuple or len(item) != 2 or type(item[0]) is not int or type(item[1]) is not int:
            return False
        if item[0] != start or item[1] not in [block[0] for block in blocks]:
            return False
    return True


def words_by_word(state, size, address):
    found = chunks(state, size, address)
    return sum(min(size, min(block[1] for block in blocks)) for start, blocks in found if blocks)


def addresses(pages, page, size):
    """Return addresses from 0 to beyond the last page."""
    end = pages * page
    picked = {0, size, 2 * size, 3 * size, 7 * size, end // 2 // size * size, end - size, end, end + size, end + 3 * page}
    return sorted(address for address in picked if address >= 0)


def no_sizes():
    return [value for value in values() if not is_plain_integer(value) or value not in CHAIN]


def no_addresses(size):
    """Return values that are no addresses for a size."""
    found = [value for value in values() if not is_plain_integer(value) or value < 0 or value % size]
    return found + [-size, -4 * size, (0,), [0], "0"]


class Receipt(unittest.TestCase):
    def assert_receipt(self, chain, state, size, address):
        expected = receipt_by_word(state, size, address)
        found = receipt(chain, state, size, address)
        self.assertEqual(shown(found), shown(expected), (chain, state, size, address))
        self.assertEqual(receipt(address=address, size=size, state=state, chain=chain), expected)
        if found is not None:
            self.assertIs(shows_receipt(chain, state, size, address, found), True)

    def test_examples(self):
        self.assertEqual(receipt(CHAIN, ((0, 1), (2, 2), (4, 1)), 2, 6), ((0, 0), (2, 2), (4, 4)))
        self.assertIs(receipt(CHAIN, ((0, 1), (4, 1)), 2, 6), None)
        self.assertEqual(receipt(CHAIN, (), 4, 0), ())

    def test_random_states_against_words(self):
        for chain, pages, state in random_states():
            for size in chain:
                for address in addresses(pages, chain[-1], size):
                    self.assert_receipt(chain, state, size, address)

    def test_all_small_states_against_words(self):
        for chain, pages in (((1,), 4), ((1, 2), 3), ((1, 3), 2), (CHAIN, 2), ((1, 2, 6), 1)):
            for state in all_states(chain, pages, pages * chain[-1]):
                for size in chain:
                    for address in range(0, (pages + 2) * chain[-1], size):
                        self.assert_receipt(chain, state, size, address)

    def test_address_0(self):
        for state in ((), ((0, 4),), STATE):
            for size in CHAIN:
                self.assertEqual(receipt(CHAIN, state, size, 0), ())

    def test_several_blocks_in_a_chunk(self):
        self.assertEqual(receipt(CHAIN, STATE, 4, 12), ((0, 0), (4, 4), (8, 9)))
        self.assertEqual(receipt(CHAIN, ((1, 1), (2, 1), (3, 1)), 4, 4), ((0, 1),))
        self.assertEqual(receipt(CHAIN, ((0, 2), (2, 1)), 4, 4), ((0, 0),))

    def test_blocks_larger_than_the_chunk(self):
        self.assertEqual(receipt(CHAIN, ((0, 4), (4, 4)), 1, 6), ((0, 0), (1, 0), (2, 0), (3, 0), (4, 4), (5, 4)))
        self.assertEqual(receipt(CHAIN, ((0, 4), (4, 4)), 2, 8), ((0, 0), (2, 0), (4, 4), (6, 4)))

    def test_beyond_all_blocks(self):
        full = ((0, 4), (4, 4))
        self.assertEqual(receipt(CHAIN, full, 4, 8), ((0, 0), (4, 4)))
        for address in (12, 16, 400, 4 * 10**30):
            self.assertIs(receipt(CHAIN, full, 4, address), None)
            self.assertIs(receipt(CHAIN, (), 4, address), None)

    def test_a_receipt_exists_exactly_for_the_lowest_place(self):
        for chain, pages in (((1, 2), 3), (CHAIN, 2)):
            for state in all_states(chain, pages, pages * chain[-1]):
                for size in chain:
                    found = places(chain, pages, state, size)
                    for address in found:
                        self.assertEqual(receipt(chain, state, size, address) is not None, address == found[0])


class ShowsReceipt(unittest.TestCase):
    def assert_shows(self, chain, state, size, address, value):
        before = shown(value)
        expected = shows_by_word(state, size, address, value)
        self.assertIs(shows_receipt(chain, state, size, address, value), expected, (state, size, address, before))
        named = shows_receipt(value=value, address=address, size=size, state=state, chain=chain)
        self.assertIs(named, expected)
        self.assertEqual(shown(value), before)
        return expected

    def test_examples(self):
        state = ((0, 1), (1, 1))
        self.assertIs(shows_receipt((1, 2), state, 2, 2, ((0, 1),)), True)
        self.assertIs(shows_receipt((1, 2), state, 2, 2, ()), False)

    def test_one_thing_changed_at_any_depth(self):
        many = {True: 0, False: 0}
        cases = ((STATE, 4, 12), (STATE, 2, 8), (STATE, 1, 7), (((0, 4), (4, 4)), 2, 8), (((0, 1), (1, 1)), 2, 2), ((), 4, 0))
        for state, size, address in cases:
            found = receipt(CHAIN, state, size, address)
            self.assertTrue(self.assert_shows(CHAIN, state, size, address, found))
            for value in changed(found):
                many[self.assert_shows(CHAIN, state, size, address, value)] += 1
        self.assertGreater(many[True], 5)
        self.assertGreater(many[False], 1000)

    def test_every_block_of_a_chunk_is_accepted(self):
        for block in range(16):
            self.assertIs(shows_receipt(CHAIN, STATE, 4, 4, ((0, block),)), block in (0, 1, 2))
            self.assertIs(shows_receipt(CHAIN, STATE, 4, 8, ((0, 2), (4, block))), block == 4)
            self.assertIs(shows_receipt(CHAIN, STATE, 4, 12, ((0, 1), (4, 4), (8, block))), block in (9, 10))

    def test_words_inside_a_block_are_no_addresses_of_it(self):
        for block in range(8):
            self.assertIs(shows_receipt(CHAIN, ((0, 4), (4, 4)), 2, 4, ((0, 0), (2, block))), block == 0)

    def test_an_empty_chunk_has_no_receipt(self):
        for block in range(-2, 9):
            self.assertIs(shows_receipt(CHAIN, ((0, 1), (4, 1)), 2, 4, ((0, 0), (2, block))), False)
        self.assertIs(shows_receipt(CHAIN, ((0, 1), (4, 1)), 2, 4, ((0, 0), (2, None))), False)

    def test_another_number_of_chunks(self):
        found = receipt(CHAIN, STATE, 1, 8)
        for address in range(12):
            self.assertIs(shows_receipt(CHAIN, STATE, 1, address, found), address == 8)
            self.assertIs(shows_receipt(CHAIN, STATE, 1, address, found[:address]), address <= 8)

    def test_booleans_are_no_integers(self):
        self.assertIs(shows_receipt(CHAIN, STATE, 1, 2, ((0, 0), (1, 1))), True)
        for value in (((False, 0), (1, 1)), ((0, False), (1, 1)), ((0, 0), (True, 1)), ((0, 0), (1, True))):
            self.assertIs(shows_receipt(CHAIN, STATE, 1, 2, value), False)

    def test_values_of_every_kind(self):
        for value in values():
            for size, address in ((1, 0), (2, 2), (4, 4), (4, 12), (1, 1)):
                self.assert_shows(CHAIN, STATE, size, address, value)
                self.assert_shows(CHAIN, STATE, size, address, (value,))
                self.assert_shows(CHAIN, STATE, size, address, ((0, value),))
                self.assert_shows(CHAIN, STATE, size, address, ((value, 0),))
                self.assert_shows(CHAIN, STATE, size, address, ((0, 0, value),))

    def test_far_beyond_all_blocks(self):
        for value in ((), ((0, 0),), receipt(CHAIN, STATE, 4, 12)):
            self.assertIs(shows_receipt(CHAIN, STATE, 4, 4 * 10**30, value), False)

    def test_random_states(self):
        for chain, pages, state in random_states():
            for size in chain:
                for address in addresses(pages, chain[-1], size)[:5]:
                    highest = tuple((start, blocks[-1][0] if blocks else start) for start, blocks in chunks(state, size, address))
                    self.assert_shows(chain, state, size, address, highest)


class ShownWords(unittest.TestCase):
    def assert_words(self, chain, state, size, address):
        expected = words_by_word(state, size, address)
        self.assertEqual(shown(shown_words(chain, state, size, address)), shown(expected), (chain, state, size, address))
        self.assertEqual(shown_words(address=address, size=size, state=state, chain=chain), expected)

    def test_example(self):
        self.assertEqual(shown_words(CHAIN, ((0, 1), (2, 2), (4, 4)), 2, 8), 7)

    def test_random_states_against_words(self):
        for chain, pages, state in random_states():
            for size in chain:
                for address in addresses(pages, chain[-1], size):
                    self.assert_words(chain, state, size, address)

    def test_all_small_states_against_words(self):
        for chain, pages in (((1,), 4), ((1, 2), 3), ((1, 3), 2), (CHAIN, 2), ((1, 2, 6), 1)):
            for state in all_states(chain, pages, pages * chain[-1]):
                for size in chain:
                    for address in range(0, (pages + 2) * chain[-1], size):
                        self.assert_words(chain, state, size, address)

    def test_address_0(self):
        for state in ((), ((0, 4),), STATE):
            self.assertEqual(shown_words(CHAIN, state, 4, 0), 0)

    def test_empty_chunks_count_nothing(self):
        self.assertEqual(shown_words(CHAIN, ((4, 1),), 2, 8), 1)
        self.assertEqual(shown_words(CHAIN, (), 2, 8), 0)

    def test_a_larger_block_counts_as_one_chunk_each_time(self):
        self.assertEqual([shown_words(CHAIN, ((0, 4),), 1, address) for address in range(6)], [0, 1, 2, 3, 4, 4])
        self.assertEqual([shown_words(CHAIN, ((0, 4),), 2, address) for address in (0, 2, 4, 6)], [0, 2, 4, 4])

    def test_the_smallest_block_of_a_chunk_counts(self):
        self.assertEqual(shown_words(CHAIN, ((0, 2), (2, 1)), 4, 4), 1)
        self.assertEqual(shown_words(CHAIN, ((0, 2), (2, 2)), 4, 4), 2)
        self.assertEqual(shown_words(CHAIN, ((0, 1), (1, 1), (2, 2)), 4, 4), 1)

    def test_far_beyond_all_blocks(self):
        self.assertEqual(shown_words(CHAIN, STATE, 4, 4 * 10**30), 1 + 4 + 1)


class Errors(unittest.TestCase):
    def calls(self):
        """Return pairs (function, further arguments by name)."""
        return ((receipt, {}), (shown_words, {}), (shows_receipt, {"value": ()}), (shows_receipt, {"value": None}))

    def test_bad_sizes(self):
        for function, more in self.calls():
            for value in no_sizes():
                for address in (0, 4, -1, None, True, "0", [], 3):
                    assert_error(self, BadSize, "size", value, function, CHAIN, STATE, value, address, *more.values())
                    assert_error(self, BadSize, "size", value, function, **more, address=address, size=value, state=(),
                                 chain=CHAIN)

    def test_bad_places(self):
        for function, more in self.calls():
            for size in CHAIN:
                for value in no_addresses(size):
                    for state in ((), STATE):
                        assert_error(self, BadPlace, "address", value, function, CHAIN, state, size, value, *more.values())
                    assert_error(self, BadPlace, "address", value, function, **more, address=value, size=size, state=STATE,
                                 chain=CHAIN)


if __name__ == "__main__":
    unittest.main()
