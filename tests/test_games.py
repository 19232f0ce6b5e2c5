"""Games: is_safe, moves_to_fail, and the errors of all six functions."""

import unittest

from pinnedheap.bounds import outlook, pages_needed
from pinnedheap.errors import BadState, Safe, Unsafe
from pinnedheap.games import is_safe, moves_to_fail, plan, shows_plan, shows_strategy, strategy
from tests.samples import (assert_error, assert_too_many, is_state_by_word, moves_by_rounds, shown, states_by_word,
                           values)

# Heaps that are small enough for a call with each of their states.
TINY = (
    ((1,), 0), ((1,), 1), ((1,), 3), ((1, 2), 0), ((1, 2), 1), ((1, 2), 2), ((1, 3), 1), ((1, 3), 2), ((1, 4), 1),
    ((1, 2, 4), 0), ((1, 2, 4), 1), ((1, 10**9), 0),
)
# For these, a call with some of their states.
SMALL = (((1, 2), 3, 3), ((1, 2), 3, 4), ((1, 2), 3, 5), ((1, 3), 3, 6), ((1, 2, 4), 2, 4), ((1, 2, 4), 2, 5),
         ((1, 2, 6), 1, 6), ((1, 2, 4), 2, 7), ((1, 2), 4, 6), ((1,), 6, 5), ((1, 2), 4, 5))
TOO_LARGE = (((1,), 15), ((1,), 2000), ((1, 2), 7), ((1, 2), 8), ((1, 2), 1000), ((1, 2, 4), 4), ((1, 3), 5), ((1, 15), 1),
             ((1, 2, 6, 18), 1), ((1, 2000), 1))


def functions():
    """Return pairs (function, further arguments)."""
    return ((is_safe, ()), (moves_to_fail, ()), (plan, ()), (shows_plan, ((),)), (shows_plan, (None,)), (strategy, ()),
            (shows_strategy, ((),)), (shows_strategy, ([],)))


def names(more):
    return {"value": more[0]} if more else {}


class Answers(unittest.TestCase):
    def assert_moves(self, chain, limit, pages, state, expected):
        where = (chain, limit, pages, state)
        self.assertEqual(shown(moves_to_fail(chain, limit, pages, state)), shown(expected), where)
        self.assertEqual(moves_to_fail(state=state, pages=pages, limit=limit, chain=chain), expected, where)
        self.assertIs(is_safe(chain, limit, pages, state), expected is None, where)
        self.assertIs(is_safe(state=state, pages=pages, limit=limit, chain=chain), expected is None, where)

    def test_examples(self):
        self.assertIs(is_safe((1, 2), 6, 4, ()), True)
        self.assertIs(is_safe((1, 2), 6, 3, ()), False)
        self.assertIs(is_safe((1, 2), 6, 4, ((0, 1), (2, 1), (4, 1), (6, 1))), False)
        self.assertEqual(moves_to_fail((1, 2), 4, 2, ((0, 1), (1, 1), (2, 1))), 2)
        self.assertEqual(moves_to_fail((1, 2), 3, 1, ()), 2)
        self.assertIs(moves_to_fail((1, 2), 3, 2, ()), None)

    def test_each_state_of_tiny_heaps(self):
        for chain, pages in TINY:
            for limit in (0, 1, 2, 3, 4, 5, 6, 8):
                moves = moves_by_rounds(chain, limit, pages)
                for state in states_by_word(chain, pages, limit):
                    self.assert_moves(chain, limit, pages, state, moves.get(state))

    def test_some_states_of_small_heaps(self):
        for chain, pages, limit in SMALL:
            moves = moves_by_rounds(chain, limit, pages)
            states = states_by_word(chain, pages, limit)
            for state in states[::len(states) // 12 + 1]:
                self.assert_moves(chain, limit, pages, state, moves.get(state))

    def test_long_strategies(self):
        self.assert_moves((1, 2), 9, 6, (), 15)
        self.assert_moves((1, 2), 5, 3, (), moves_by_rounds((1, 2), 5, 3)[()])

    def test_heaps_without_pages(self):
        for chain in ((1,), (1, 2), (1, 10**9)):
            self.assert_moves(chain, 0, 0, (), None)
            for limit in (1, 2, 2000):
                self.assert_moves(chain, limit, 0, (), 1)

    def test_limit_0(self):
        for chain, pages in TINY:
            self.assert_moves(chain, 0, pages, (), None)

    def test_the_empty_state_is_safe_exactly_with_the_pages_needed(self):
        for chain, most in (((1,), 12), ((1, 2), 8), ((1, 3), 9), ((1, 2, 4), 6), ((1, 2, 6), 7), ((1, 3, 6), 7), ((1, 5), 10)):
            for limit in range(most + 1):
                for pages in range(14 // chain[-1]):
                    self.assertIs(is_safe(chain, limit, pages, ()), pages >= pages_needed(chain, limit), (chain, limit, pages))

    def test_a_state_whose_outlook_ends_within_the_heap_is_safe(self):
        many = 0
        for chain, pages, limits in (((1, 2), 3, (1, 2, 3)), ((1, 3), 3, (3, 4)), ((1, 2, 4), 2, (2, 3, 4)), ((1,), 4, (2, 3))):
            for limit in limits:
                for state in states_by_word(chain, pages, limit):
                    if outlook(chain, limit, state)[-1] <= pages * chain[-1]:
                        many += 1
                        self.assertIs(is_safe(chain, limit, pages, state), True, (chain, limit, pages, state))
        self.assertGreater(many, 100)

    def test_a_get_without_a_place_fails_in_one_move(self):
        self.assert_moves((1, 2), 4, 2, ((0, 1), (2, 1)), 1)
        self.assert_moves((1, 2), 3, 2, ((0, 1), (2, 1)), None)
        self.assert_moves((1, 2, 4), 6, 1, ((3, 1),), 1)
        self.assert_moves((1, 2, 4), 4, 1, ((3, 1),), moves_by_rounds((1, 2, 4), 4, 1).get(((3, 1),)))
        self.assert_moves((1,), 3, 2, ((0, 1), (1, 1)), 1)

    def test_the_largest_heaps(self):
        for chain, pages in (((1,), 14), ((1, 2), 6), ((1, 2, 4), 3), ((1, 14), 1), ((1, 3), 4)):
            self.assertIs(is_safe(chain, 1, pages, ()), True)
            self.assertEqual(moves_to_fail(chain, 15, pages, tuple((word, 1) for word in range(pages * chain[-1]))), 1)

    def test_a_great_limit(self):
        self.assert_moves((1, 2), 2000, 1, (), 2)
        self.assert_moves((1, 2), 2000, 1, ((0, 2),), 1)


class Errors(unittest.TestCase):
    def assert_bad_state(self, chain, limit, pages, value):
        for function, more in functions():
            assert_error(self, BadState, "value", value, function, chain, limit, pages, value, *more)
            assert_error(self, BadState, "value", value, function, **names(more), state=value, pages=pages, limit=limit,
                         chain=chain)

    def assert_too_many(self, chain, limit, pages, state):
        for function, more in functions():
            assert_too_many(self, function, chain, limit, pages, state, *more)
            assert_too_many(self, function, **names(more), state=state, pages=pages, limit=limit, chain=chain)

    def test_values_of_every_kind(self):
        many = 0
        for chain, pages, limit in (((1, 2), 2, 3), ((1, 2, 4), 1, 4), ((1,), 0, 0), ((1, 2), 1000, 2000), ((1,), 15, 3)):
            for value in [*values(), [()], "()", ((0, True),), ((False, 1),), (((0, 1),),), ((0, 1, 1),)]:
                if not is_state_by_word(chain, pages, value):
                    many += 1
                    self.assert_bad_state(chain, limit, pages, value)
        self.assertGreater(many, 200)

    def test_states_that_are_none(self):
        for value in (((1, 2),), ((0, 1), (0, 1)), ((0, 2), (1, 1)), ((2, 1), (0, 1)), ((-1, 1),), ((0, 3),), ((0, 0),)):
            self.assert_bad_state((1, 2), 4, 2, value)

    def test_states_beyond_the_last_page(self):
        for pages in (0, 1, 2, 3):
            self.assert_bad_state((1, 2), 4, pages, ((2 * pages, 1),))
            self.assert_bad_state((1, 2), 4, pages, ((2 * pages, 2),))

    def test_states_with_more_live_words_than_the_limit(self):
        self.assert_bad_state((1, 2), 0, 2, ((0, 1),))
        self.assert_bad_state((1, 2), 1, 2, ((0, 2),))
        self.assert_bad_state((1, 2), 2, 2, ((0, 1), (2, 2)))
        self.assertIs(is_safe((1, 2), 3, 3, ((0, 1), (2, 2))), True)

    def test_too_many_states(self):
        for chain, pages in TOO_LARGE:
            for limit in (0, 1, 5, 2000):
                self.assert_too_many(chain, limit, pages, ())
            self.assert_too_many(chain, 1, pages, ((0, 1),))

    def test_bad_states_come_before_too_many(self):
        for chain, pages in TOO_LARGE:
            self.assert_bad_state(chain, 5, pages, ((0, 1), (0, 1)))
            self.assert_bad_state(chain, 5, pages, [])
            self.assert_bad_state(chain, 0, pages, ((0, 1),))
            self.assert_bad_state(chain, 2000, pages, ((pages * chain[-1], 1),))

    def test_too_many_states_in_a_heap_far_beyond_the_limits(self):
        for chain, pages in (((1, 2), 10**20 - 1), ((1, 10**9), 10**9), ((1, 10**9), 1)):
            self.assert_too_many(chain, 5, pages, ())

    def test_safe_and_unsafe(self):
        for chain, limit, pages, state in (((1, 2), 3, 2, ()), ((1, 2), 0, 0, ()), ((1,), 3, 3, ((1, 1),))):
            with self.assertRaises(Safe) as caught:
                strategy(chain, limit, pages, state)
            self.assertIs(type(caught.exception), Safe)
            self.assertIs(shows_plan(chain, limit, pages, state, plan(chain, limit, pages, state)), True)
        for chain, limit, pages, state in (((1, 2), 3, 1, ()), ((1, 2), 1, 0, ()), ((1,), 3, 2, ((1, 1),))):
            with self.assertRaises(Unsafe) as caught:
                plan(chain, limit, pages, state)
            self.assertIs(type(caught.exception), Unsafe)
            self.assertIs(shows_strategy(chain, limit, pages, state, strategy(chain, limit, pages, state)), True)


if __name__ == "__main__":
    unittest.main()
