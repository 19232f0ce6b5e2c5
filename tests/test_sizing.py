"""Requests of any size: most_live, request_mix, enough_pages, best_chain."""

import random
import unittest

from pinnedheap.bounds import pages_needed
from pinnedheap.chains import chains_of
from pinnedheap.errors import BadSize
from pinnedheap.heaps import Heap
from pinnedheap.sizing import best_chain, enough_pages, most_live, request_mix
from tests.samples import assert_error, is_plain_integer, shown, values

CHAINS = ((1,), (1, 2), (1, 3), (1, 4), (1, 7), (1, 2, 4), (1, 2, 6), (1, 3, 6), (1, 4, 8), (1, 2, 4, 8), (1, 5, 10, 30))
LARGE = ((1, 200), (1, 2, 4, 8, 40, 200), (1, 10, 100), (1, 13, 169), (1, 2, 6, 18, 54, 162), (1, 7, 14, 196))


def block_words(chain, request):
    """Return the words of the block that a request gets, by trying one size after the other."""
    for size in chain:
        if size >= request:
            return size
    raise AssertionError((chain, request))


def all_mixes(page, words, least=1):
    """Yield every rising tuple of requests that add up to at most so many words."""
    yield ()
    for request in range(least, min(page, words) + 1):
        for rest in all_mixes(page, words - request, request):
            yield (request, *rest)


def most_by_mixes(chain, words):
    return max(sum(block_words(chain, request) for request in mix) for mix in all_mixes(chain[-1], words))


def most_by_requests(chain, words):
    """Return the most live words for each number of requested words, by trying every request as the last one."""
    blocks = [(request, block_words(chain, request)) for request in range(1, min(chain[-1], words) + 1)]
    most = [0]
    for total in range(1, words + 1):
        most.append(max([most[-1]] + [most[total - request] + block for request, block in blocks if request <= total]))
    return most


class Numbers(unittest.TestCase):
    def assert_numbers(self, chain, words, live):
        where = (chain, words)
        self.assertEqual(shown(most_live(chain, words)), shown(live), where)
        self.assertEqual(most_live(words=words, chain=chain), live, where)
        self.assertEqual(shown(enough_pages(chain, words)), shown(pages_needed(chain, live)), where)
        self.assertEqual(enough_pages(words=words, chain=chain), pages_needed(chain, live), where)
        self.assert_mix(chain, words, live)

    def assert_mix(self, chain, words, live):
        mix = request_mix(chain, words)
        self.assertIs(type(mix), tuple)
        self.assertTrue(all(is_plain_integer(request) and 1 <= request <= chain[-1] for request in mix), mix)
        self.assertEqual(list(mix), sorted(mix))
        self.assertLessEqual(sum(mix), words)
        self.assertEqual(sum(block_words(chain, request) for request in mix), live)
        self.assertEqual(shown(request_mix(words=words, chain=chain)), shown(mix))

    def test_examples(self):
        self.assertEqual((most_live((1, 2, 4), 6), most_live((1, 4), 6), most_live((1, 4), 1)), (8, 12, 1))
        self.assertEqual(request_mix((1, 4), 4), (2, 2))
        self.assertEqual((enough_pages((1, 2, 4), 6), enough_pages((1, 4), 6)), (4, 5))

    def test_every_mix_of_requests(self):
        for chain in CHAINS:
            for words in range(13):
                self.assert_numbers(chain, words, most_by_mixes(chain, words))

    def test_every_number_of_words(self):
        for chain in CHAINS:
            for words, live in enumerate(most_by_requests(chain, 80)):
                self.assert_numbers(chain, words, live)

    def test_many_words(self):
        for chain in LARGE:
            most = most_by_requests(chain, 2000)
            for words in (0, 1, 2, 3, 50, 199, 200, 201, 777, 1000, 1500, 1998, 1999, 2000):
                self.assert_numbers(chain, words, most[words])

    def test_no_words_and_one(self):
        for chain in (*CHAINS, *LARGE, (1, 10**9)):
            self.assert_numbers(chain, 0, 0)
            self.assert_numbers(chain, 1, 1)
            self.assertEqual((request_mix(chain, 0), request_mix(chain, 1)), ((), (1,)))

    def test_a_great_page(self):
        self.assert_numbers((1, 10**9), 2, 10**9)
        self.assert_numbers((1, 10**9), 2000, 1000 * 10**9)
        self.assert_numbers((1, 5000, 10**9), 2000, 1000 * 5000)
        self.assert_numbers((1, 1999, 10**9 // 1999 * 1999), 2000, 10**9 // 1999 * 1999)

    def test_one_word_more_never_lowers_the_numbers(self):
        for chain in (*CHAINS, *LARGE):
            live = [most_live(chain, words) for words in range(0, 160)]
            pages = [enough_pages(chain, words) for words in range(0, 160)]
            self.assertEqual(live, sorted(live))
            self.assertEqual(pages, sorted(pages))

    def assert_never_fails(self, chain, words, turns, seed):
        """Make requests of any size within the words, and free any of them."""
        chance = random.Random(seed)
        heap = Heap(chain, enough_pages(chain, words), most_live(chain, words))
        requested = {}
        largest = chain[-1]
        for turn in range(turns):
            if chance.random() < 0.1:
                largest = chance.choice(chain)
            request = chance.randint(1, largest)
            if chance.random() < 0.5:
                # Such requests waste the most words.
                request = min(chance.choice((0, *chain)) + 1, chain[-1])
            if sum(requested.values()) + request <= words and chance.random() < 0.8:
                requested[heap.get(block_words(chain, request))] = request
            elif requested:
                address = chance.choice(sorted(requested))
                del requested[address]
                heap.free(address)
        self.assertGreater(len(heap), turns // 2)

    def test_enough_pages_never_fail(self):
        for seed in range(3):
            for chain, words in (((1,), 20), ((1, 2), 25), ((1, 4), 30), ((1, 2, 4), 40), ((1, 2, 6), 33), ((1, 3, 9), 50),
                                 ((1, 2, 4, 8, 16), 100), ((1, 5, 10, 30), 70)):
                self.assert_never_fails(chain, words, 600, seed)

    def test_the_best_mix_fits_exactly(self):
        for chain in CHAINS:
            for words in (1, 5, 17, 40):
                heap = Heap(chain, enough_pages(chain, words), most_live(chain, words))
                for request in request_mix(chain, words):
                    heap.get(block_words(chain, request))
                self.assertEqual(heap.live(), most_live(chain, words))


class BestChain(unittest.TestCase):
    def assert_best(self, page, words):
        """Hold the best chain against all chains, and return how many tie in pages, and in pages and sizes."""
        rows = []
        for chain in chains_of(page):
            rows.append((pages_needed(chain, most_by_steps(chain, words)), len(chain), chain))
        best = min(rows)
        self.assertEqual(shown(best_chain(page, words)), shown(best[2]), (page, words))
        self.assertEqual(best_chain(words=words, page=page), best[2])
        return sum(row[0] == best[0] for row in rows), sum(row[:2] == best[:2] for row in rows)

    def test_example(self):
        self.assertEqual(best_chain(4, 6), (1, 2, 4))

    def test_small_pages(self):
        in_pages = in_sizes = 0
        for page in range(1, 49):
            for words in (0, 1, 2, 3, 5, 8, 13, 21, 34, 55):
                pages, sizes = self.assert_best(page, words)
                in_pages += pages > sizes
                in_sizes += sizes > 1
        # There are ties in the pages that the number of sizes settles, and ties in both that the tuples settle.
        self.assertGreater(in_pages, 20)
        self.assertGreater(in_sizes, 20)

    def test_pages_with_many_divisors(self):
        for page, numbers in ((120, (7, 100, 333, 2000)), (144, (50, 500, 1999)), (360, (40, 200)), (720, (77,)), (2520, (11,))):
            for words in numbers:
                self.assert_best(page, words)

    def test_powers_of_two(self):
        for page, words in ((64, 2000), (256, 300), (1024, 60), (4096, 20)):
            self.assert_best(page, words)

    def test_the_page_with_the_most_chains(self):
        found = best_chain(3456, 2000)
        self.assertIn(found, chains_of(3456))
        for chain in ((1, 3456), (1, 2, 8, 16, 32, 64, 192, 576, 1728, 3456), chains_of(3456)[0], chains_of(3456)[777]):
            self.assertLessEqual((enough_pages(found, 2000), len(found), found), (enough_pages(chain, 2000), len(chain), chain))

    def test_primes(self):
        for page in (2, 3, 13, 199, 4093):
            for words in (0, 1, 50, 2000):
                self.assertEqual(best_chain(page, words), (1, page))

    def test_page_1(self):
        for words in (0, 1, 2000):
            self.assertEqual(best_chain(1, words), (1,))

    def test_no_words_and_one(self):
        for page in (2, 4, 12, 360, 4096):
            self.assertEqual((best_chain(page, 0), best_chain(page, 1)), ((1, page), (1, page)))

    def test_bad_sizes(self):
        for value in [*values(), 0, -1, 4097, 4098, 10**9, True, False, "4", (4,), [4]]:
            if not is_plain_integer(value) or not 1 <= value <= 4096:
                for words in (0, 6, 2000):
                    assert_error(self, BadSize, "size", value, best_chain, value, words)
                    assert_error(self, BadSize, "size", value, best_chain, words=words, page=value)


def most_by_steps(chain, words):
    """Return the most live words, by adding one size after the other."""
    most = list(range(words + 1))
    for smaller, size in zip(chain, chain[1:]):
        for total in range(smaller + 1, words + 1):
            most[total] = max(most[total], most[total - smaller - 1] + size)
    return most[words]


if __name__ == "__main__":
    unittest.main()
