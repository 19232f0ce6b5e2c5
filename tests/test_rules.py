"""Rules: place, allocator."""

import unittest

from pinnedheap.errors import BadRule, BadSize
from pinnedheap.rules import allocator, place
from pinnedheap.states import all_states
from tests.samples import RULES, assert_error, is_plain_integer, place_by_word, random_states, values

NO_RULES = ("", "Lowest", "LOWEST", "lowest ", " lowest", "low", "best", "tight\n", "loosest", "lowesthighest")
CHAIN = (1, 2, 4)
STATE = ((0, 1), (4, 2))


def no_rules():
    return [value for value in values() if not isinstance(value, str)] + ["", "1", "a\nb", *NO_RULES, ("lowest",), ["tight"]]


def no_sizes():
    return [value for value in values() if not is_plain_integer(value) or value not in CHAIN]


class Place(unittest.TestCase):
    def assert_places(self, chain, pages, state):
        for rule in RULES:
            for size in chain:
                expected = place_by_word(rule, chain, pages, state, size)
                self.assertEqual(place(rule, chain, pages, state, size), expected, (rule, chain, pages, state, size))
                named = place(size=size, state=state, pages=pages, chain=chain, rule=rule)
                self.assertEqual(named, expected)

    def test_examples(self):
        found = tuple(place(rule, CHAIN, 2, STATE, 1) for rule in RULES)
        self.assertEqual(found, (1, 7, 6, 1))
        self.assertIs(place("lowest", CHAIN, 2, STATE, 4), None)

    def test_random_states_against_words(self):
        for chain, pages, state in random_states():
            self.assert_places(chain, pages, state)

    def test_all_small_states_against_words(self):
        for chain, pages in (((1,), 4), ((1, 2), 3), ((1, 3), 2), ((1, 2, 4), 2), ((1, 2, 6), 1)):
            for state in all_states(chain, pages, pages * chain[-1]):
                self.assert_places(chain, pages, state)

    def test_no_pages(self):
        for chain in ((1,), (1, 2), CHAIN, (1, 10**9)):
            for rule in RULES:
                for size in chain:
                    self.assertIs(place(rule, chain, 0, (), size), None)

    def test_full_heaps(self):
        for state in (((0, 4), (4, 4)), tuple((word, 1) for word in range(8)), ((0, 2), (2, 2), (4, 1), (5, 1), (6, 2))):
            for rule in RULES:
                for size in CHAIN:
                    self.assertIs(place(rule, CHAIN, 2, state, size), None)

    def test_empty_heaps(self):
        for size in CHAIN:
            self.assertEqual([place(rule, CHAIN, 3, (), size) for rule in RULES], [0, 12 - size, 0, 0])

    def test_a_great_heap(self):
        words = 4 * 10**20
        for size in CHAIN:
            self.assertEqual([place(rule, CHAIN, 10**20, (), size) for rule in RULES], [0, words - size, 0, 0])
        state = ((0, 4), (5, 1), (words - 8, 1), (words - 4, 2))
        self.assertEqual([place(rule, CHAIN, 10**20, state, 1) for rule in RULES], [4, words - 1, words - 2, 8])
        self.assertEqual([place(rule, CHAIN, 10**20, state, 4) for rule in RULES], [8, words - 12, 8, 8])

    def test_pages_that_tie(self):
        state = ((1, 1), (4, 1), (8, 4), (12, 1), (18, 2), (22, 2))
        self.assertEqual(place("tight", CHAIN, 7, state, 1), 16)
        self.assertEqual(place("tight", CHAIN, 7, state, 2), 16)
        self.assertEqual(place("loose", CHAIN, 7, state, 1), 24)
        self.assertEqual(place("loose", CHAIN, 6, state, 1), 0)
        self.assertEqual(place("loose", CHAIN, 6, state, 2), 2)

    def test_a_fitting_page_may_not_be_the_fullest_one(self):
        # Page 0 has the fewest free words, but no two of them stand together.
        self.assertEqual(place("tight", CHAIN, 3, ((0, 1), (3, 1), (4, 1)), 2), 6)
        self.assertEqual(place("tight", CHAIN, 2, ((0, 1), (2, 1), (4, 1)), 2), 6)
        # Page 0 has as many free words as page 1, but no place for two.
        self.assertEqual(place("loose", CHAIN, 2, ((0, 1), (2, 1), (4, 2)), 2), 6)

    def test_bad_rules(self):
        for value in no_rules():
            assert_error(self, BadRule, "rule", value, place, value, CHAIN, 2, STATE, 1)
            assert_error(self, BadRule, "rule", value, place, size=2, state=(), pages=0, chain=CHAIN, rule=value)

    def test_bad_sizes(self):
        for rule in RULES:
            for value in no_sizes():
                for pages, state in ((0, ()), (2, ()), (2, STATE), (1, ((0, 4),))):
                    assert_error(self, BadSize, "size", value, place, rule, CHAIN, pages, state, value)
                    assert_error(self, BadSize, "size", value, place, size=value, state=state, pages=pages, chain=CHAIN,
                                 rule=rule)

    def test_bad_rules_come_before_bad_sizes(self):
        for rule in no_rules():
            for size in (0, 3, True, None, "1", [], {}):
                assert_error(self, BadRule, "rule", rule, place, rule, CHAIN, 2, STATE, size)


class Allocator(unittest.TestCase):
    def test_example(self):
        allocate = allocator("highest", CHAIN, 2)
        self.assertEqual((allocate((), 4), allocate(((4, 4),), 2)), (4, 2))

    def test_against_words(self):
        for chain, pages, state in random_states():
            for rule in RULES:
                allocate = allocator(rule, chain, pages)
                named = allocator(pages=pages, chain=chain, rule=rule)
                for size in chain:
                    expected = place_by_word(rule, chain, pages, state, size)
                    self.assertEqual(allocate(state, size), expected)
                    self.assertEqual(named(state, size), expected)

    def test_one_allocator_remembers_nothing(self):
        for rule in RULES:
            allocate = allocator(rule, CHAIN, 2)
            first = [allocate(STATE, size) for size in CHAIN]
            self.assertEqual([allocate((), size) for size in CHAIN],
                             [place_by_word(rule, CHAIN, 2, (), size) for size in CHAIN])
            self.assertEqual([allocate(STATE, size) for size in CHAIN], first)

    def test_no_place(self):
        for rule in RULES:
            self.assertIs(allocator(rule, CHAIN, 0)((), 1), None)
            self.assertIs(allocator(rule, CHAIN, 2)(STATE, 4), None)

    def test_bad_rules_at_once(self):
        for value in no_rules():
            assert_error(self, BadRule, "rule", value, allocator, value, CHAIN, 2)
            assert_error(self, BadRule, "rule", value, allocator, pages=0, chain=CHAIN, rule=value)

    def test_bad_sizes(self):
        for rule in RULES:
            allocate = allocator(rule, CHAIN, 2)
            for value in no_sizes():
                assert_error(self, BadSize, "size", value, allocate, STATE, value)
                assert_error(self, BadSize, "size", value, allocate, (), value)


if __name__ == "__main__":
    unittest.main()
