"""Chains: is_chain, class_of, rounded, chains_of."""

import itertools
import unittest

from pinnedheap.chains import chains_of, class_of, is_chain, rounded
from pinnedheap.errors import BadSize
from tests.samples import assert_error, is_plain_integer, shown, values

TWELVE = tuple(2**k for k in range(12))
CHAINS = ((1,), (1, 2), (1, 2, 6), (1, 3, 12, 24), TWELVE, (1, 10**9), (1, 10**4, 10**9))


class IsChain(unittest.TestCase):
    def assert_chain(self, value, expected):
        before = shown(value)
        self.assertIs(is_chain(value), expected, before)
        self.assertIs(is_chain(value=value), expected, before)
        self.assertEqual(shown(value), before)

    def test_examples(self):
        found = (is_chain((1, 2, 6)), is_chain((1, 4, 6)), is_chain([1, 2]), is_chain((2, 4)))
        self.assertEqual(found, (True, False, False, False))

    def test_chains(self):
        for chain in CHAINS:
            self.assert_chain(chain, True)

    def test_number_of_sizes(self):
        self.assert_chain((), False)
        self.assert_chain((1,), True)
        self.assert_chain(TWELVE, True)
        self.assert_chain(TWELVE + (2**12,), False)
        self.assert_chain(TWELVE[:11] + (3 * 2**11,), True)

    def test_largest_size(self):
        self.assert_chain((1, 10**9), True)
        self.assert_chain((1, 10**9 + 1), False)
        self.assert_chain((1, 10**9, 2 * 10**9), False)
        self.assert_chain((1, 5 * 10**8, 10**9), True)
        self.assert_chain((1, 10**5000), False)

    def test_first_size(self):
        for first in (0, -1, 2, 3, 10**9):
            self.assert_chain((first,), False)
            self.assert_chain((first, 2 * 10**9), False)
            self.assert_chain((first, 6 * first), False)

    def test_sizes_that_do_not_rise(self):
        for value in ((1, 1), (1, 2, 2), (1, 4, 2), (1, 2, 1), (1, 0), (1, 0, 5), (1, -2), (1, -2, -4), (1, 0, 0)):
            self.assert_chain(value, False)

    def test_sizes_that_are_no_multiples(self):
        for value in ((1, 2, 3), (1, 4, 6), (1, 2, 4, 6), (1, 3, 7), (1, 2, 10**9 - 1)):
            self.assert_chain(value, False)

    def test_booleans_are_no_sizes(self):
        for value in ((True,), (True, 2), (False,), (1, True), (False, 1), (1, 2, True)):
            self.assert_chain(value, False)

    def test_other_kinds(self):
        for value in ([1], [1, 2], ["1"], "12", "1", ("1",), ("1", "2"), (1, "2"), (1, None), (None,), (1, (2,)), (1, [2]),
                      ((1,),), {1: 2}, {1: 1, 2: 2}, (1, {2: 2}), ([1], 2)):
            self.assert_chain(value, False)

    def test_values_of_every_kind(self):
        for value in values():
            is_one = isinstance(value, tuple) and value in ((1,), (1, 2)) and type(value[0]) is int
            self.assert_chain(value, is_one)
            self.assert_chain((1, value), is_plain_integer(value) and 1 < value <= 10**9)
            self.assert_chain((value, 10**9), is_plain_integer(value) and value == 1)

    def test_all_small_tuples(self):
        for length in range(4):
            for value in itertools.product(range(-1, 9), repeat=length):
                rising = all(a < b for a, b in zip(value, value[1:]))
                multiples = all(a != 0 and b % a == 0 for a, b in zip(value, value[1:]))
                self.assert_chain(value, length > 0 and value[0] == 1 and rising and multiples)


class ClassOf(unittest.TestCase):
    def test_example(self):
        self.assertEqual(class_of((1, 2, 6), 6), 2)

    def test_every_size(self):
        for chain in CHAINS:
            for index, size in enumerate(chain):
                self.assertEqual(class_of(chain, size), index)
                self.assertEqual(class_of(size=size, chain=chain), index)
                self.assertIs(type(class_of(chain, size)), int)

    def test_numbers_beside_the_sizes(self):
        for chain in CHAINS:
            near = {size + step for size in chain for step in (-1, 1)} | {0, -1, -chain[-1], chain[-1] + 1, 2 * chain[-1]}
            for number in sorted(near - set(chain)):
                assert_error(self, BadSize, "size", number, class_of, chain, number)

    def test_values_of_every_kind(self):
        for chain in CHAINS:
            for value in values():
                if is_plain_integer(value) and value in chain:
                    self.assertEqual(chain[class_of(chain, value)], value)
                else:
                    assert_error(self, BadSize, "size", value, class_of, chain, value)
                    assert_error(self, BadSize, "size", value, class_of, size=value, chain=chain)


class Rounded(unittest.TestCase):
    def test_examples(self):
        found = (rounded((1, 2, 6), 2), rounded((1, 2, 6), 3), rounded((1, 2, 6), 6))
        self.assertEqual(found, (2, 6, 6))

    def test_every_number_up_to_the_page(self):
        for chain in ((1,), (1, 2), (1, 2, 6), (1, 3, 12, 24), TWELVE):
            for words in range(1, chain[-1] + 1):
                self.assertEqual(rounded(chain, words), next(size for size in chain if size >= words))

    def test_numbers_beside_large_sizes(self):
        chain = (1, 10**4, 10**9)
        pairs = ((1, 1), (2, 10**4), (10**4 - 1, 10**4), (10**4, 10**4), (10**4 + 1, 10**9), (10**9, 10**9))
        for words, size in pairs:
            self.assertEqual(rounded(chain, words), size)
            self.assertEqual(rounded(words=words, chain=chain), size)

    def test_numbers_outside(self):
        for chain in CHAINS:
            for words in (0, -1, -chain[-1], chain[-1] + 1, 2 * chain[-1], 10**5000):
                assert_error(self, BadSize, "size", words, rounded, chain, words)

    def test_values_of_every_kind(self):
        for chain in CHAINS:
            for value in values():
                if is_plain_integer(value) and 1 <= value <= chain[-1]:
                    self.assertEqual(rounded(chain, value), next(size for size in chain if size >= value))
                else:
                    assert_error(self, BadSize, "size", value, rounded, chain, value)
                    assert_error(self, BadSize, "size", value, rounded, words=value, chain=chain)


class ChainsOf(unittest.TestCase):
    def by_hand(self, page):
        """All chains of a small page: every choice among its divisors that is one."""
        between = [size for size in range(2, page) if page % size == 0]
        found = []
        for many in range(len(between) + 1):
            for choice in itertools.combinations(between, many):
                chain = (1, *choice, page) if page > 1 else (1,)
                if is_chain(chain):
                    found.append(chain)
        return tuple(sorted(found))

    def test_examples(self):
        self.assertEqual((chains_of(1), chains_of(6)), (((1,),), ((1, 2, 6), (1, 3, 6), (1, 6))))

    def test_primes(self):
        for page in (2, 3, 5, 7, 101, 4093):
            self.assertEqual(chains_of(page), ((1, page),))
            self.assertEqual(chains_of(page=page), ((1, page),))

    def test_small_pages_against_every_choice_of_divisors(self):
        for page in (*range(1, 61), 64, 72, 128, 210, 256):
            self.assertEqual(chains_of(page), self.by_hand(page))

    def test_the_largest_page_has_one_tuple_that_is_too_long(self):
        found = chains_of(4096)
        self.assertEqual(len(found), 2**11 - 1)
        self.assertEqual(max(len(chain) for chain in found), 12)
        self.assertEqual(found, self.by_hand(4096))

    def test_twelve_sizes_are_not_too_many(self):
        self.assertEqual(len(chains_of(2048)), 2**10)
        self.assertIn(TWELVE, chains_of(2048))

    def test_results_ascend_and_are_chains(self):
        for page in (1, 12, 360, 2880, 3456, 3840, 4095, 4096):
            found = chains_of(page)
            self.assertIsInstance(found, tuple)
            self.assertEqual(list(found), sorted(set(found)))
            self.assertTrue(all(is_chain(chain) and chain[-1] == page for chain in found))

    def test_number_of_chains(self):
        # A chain is an ordered way to write the page as a product of factors above 1.
        counts = {1: 1}
        for page in range(2, 2049):
            counts[page] = sum(counts[size] for size in range(1, page // 2 + 1) if page % size == 0)
        for page in (720, 1260, 1440, 2000, 2048):
            self.assertEqual(len(chains_of(page)), counts[page])

    def test_numbers_outside(self):
        for page in (0, -1, -6, 4097, 8192, 10**9, 10**5000):
            assert_error(self, BadSize, "size", page, chains_of, page)

    def test_values_of_every_kind(self):
        for value in values():
            if is_plain_integer(value) and 1 <= value <= 4096:
                self.assertTrue(chains_of(value))
            else:
                assert_error(self, BadSize, "size", value, chains_of, value)
                assert_error(self, BadSize, "size", value, chains_of, page=value)


if __name__ == "__main__":
    unittest.main()
