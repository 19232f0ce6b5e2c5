"""Heaps: replay."""

import random
import unittest

from pinnedheap.errors import BadEvent
from pinnedheap.heaps import Heap, replay
from tests.samples import RULES, changed_events, first_bad_event, place_by_word, random_history, shown, values

CHAIN = (1, 2, 4)
HISTORY = (("get", 2, 2), ("get", 1, 0), ("get", 4, 4), ("free", 2), ("get", 1, 3), ("free", 4), ("free", 0))


class Replay(unittest.TestCase):
    def assert_bad(self, number, chain, pages, limit, history):
        before = shown(history)
        for arguments, named in (((chain, pages, limit, history), {}),
                                 ((), {"history": history, "limit": limit, "pages": pages, "chain": chain})):
            with self.assertRaises(BadEvent, msg=before) as caught:
                replay(*arguments, **named)
            self.assertIs(type(caught.exception), BadEvent)
            self.assertEqual(shown(caught.exception.number), shown(number), before)
        self.assertEqual(shown(history), before)

    def assert_done(self, chain, pages, limit, history):
        heap = replay(chain, pages, limit, history)
        self.assertIs(type(heap), Heap)
        self.assertEqual(shown(heap.history()), shown(history))
        self.assertEqual(len(heap), len(history))
        named = replay(history=history, limit=limit, pages=pages, chain=chain)
        self.assertEqual((named.history(), named.state()), (heap.history(), heap.state()))
        return heap

    def test_example(self):
        heap = replay((1, 2), 2, 4, (("get", 2, 2), ("get", 1, 0), ("free", 2)))
        self.assertEqual(heap.state(), ((0, 1),))

    def test_no_events(self):
        for chain, pages, limit in (((1,), 0, 0), (CHAIN, 2, 8), ((1, 10**9), 0, 10**18)):
            self.assertEqual(self.assert_done(chain, pages, limit, ()).state(), ())

    def test_each_beginning_of_a_history(self):
        states = ((), ((2, 2),), ((0, 1), (2, 2)), ((0, 1), (2, 2), (4, 4)), ((0, 1), (4, 4)), ((0, 1), (3, 1), (4, 4)),
                  ((0, 1), (3, 1)), ((3, 1),))
        for many, state in enumerate(states):
            self.assertEqual(self.assert_done(CHAIN, 2, 8, HISTORY[:many]).state(), state)

    def test_the_heap_goes_on_with_the_rule_lowest(self):
        heap = replay(CHAIN, 2, 8, HISTORY)
        self.assertEqual((heap.get(1), heap.get(2), heap.get(1)), (0, 4, 1))
        for turn in range(3 + len(HISTORY)):
            heap.undo()
        self.assertEqual(heap.state(), ())

    def test_the_heap_keeps_its_limit_and_its_pages(self):
        heap = replay(CHAIN, 2, 5, (("get", 4, 4),))
        self.assertEqual((heap.get(1), heap.live(), heap.outlook()), (0, 5, (5, 8, 8)))
        self.assert_bad(1, CHAIN, 2, 5, (("get", 4, 4), ("get", 2, 0)))
        self.assert_bad(0, CHAIN, 2, 5, (("get", 4, 8),))
        self.assert_done(CHAIN, 3, 5, (("get", 4, 8),))

    def test_values_that_are_no_tuples(self):
        for value in [*values(), list(HISTORY), [], {}, "get", None]:
            if not isinstance(value, tuple):
                self.assert_bad(0, CHAIN, 2, 8, value)

    def test_items_of_every_kind(self):
        for many in range(len(HISTORY) + 1):
            for value in values():
                if shown(value) == shown(("get", 1, 0)) and many not in (2, 3, 4, 5, 6):
                    continue
                self.assert_bad(many, CHAIN, 2, 8, (*HISTORY[:many], value))
                self.assert_bad(many, CHAIN, 2, 8, (*HISTORY[:many], value, *HISTORY[many:]))
                self.assert_bad(many, CHAIN, 2, 8, (*HISTORY[:many], value, value))

    def test_parts_of_every_kind(self):
        for value in values():
            if shown(value) not in (shown(1), shown(2), shown(4)):
                self.assert_bad(0, CHAIN, 2, 8, (("get", value, 0),))
            if not isinstance(value, int) or isinstance(value, bool) or not 0 <= value < 8:
                self.assert_bad(0, CHAIN, 2, 8, (("get", 1, value),))
            if shown(value) != shown(0):
                self.assert_bad(1, CHAIN, 2, 8, (("get", 1, 0), ("free", value)))
            self.assert_bad(0, CHAIN, 2, 8, ((value, 1, 0),))
            self.assert_bad(1, CHAIN, 2, 8, (("get", 1, 0), (value, 0)))
            self.assert_bad(1, CHAIN, 2, 8, (("get", 1, 0), ("free", 0, value)))
            self.assert_bad(1, CHAIN, 2, 8, (("get", 1, 0), ("get", 1, 1, value)))

    def test_a_get_that_failed(self):
        for size in CHAIN:
            self.assert_bad(0, CHAIN, 0, 8, (("get", size, None),))
            self.assert_bad(0, CHAIN, 2, 8, (("get", size, None),))
            self.assert_bad(2, CHAIN, 2, 8, (("get", 4, 0), ("get", 4, 4), ("get", size, None)))

    def test_wrong_words_and_lengths(self):
        for item in (("Get", 1, 0), ("get",), ("get", 1), ("get", 0), ("free",), ("free", 1, 0), ("put", 0, 1), ("free", None),
                     ("undo",), (), ["get", 1, 0], "get", ("get", 0, 1), ("GET", 1, 0), ("free ", 0)):
            self.assert_bad(0, CHAIN, 2, 8, (item,))
            self.assert_bad(1, CHAIN, 2, 8, (("get", 1, 0), item))

    def test_calls_that_raise(self):
        self.assert_bad(2, CHAIN, 2, 8, (("get", 1, 0), ("get", 1, 1), ("get", 2, 0)))
        self.assert_bad(2, CHAIN, 2, 8, (("get", 1, 0), ("free", 0), ("free", 0)))
        self.assert_bad(1, CHAIN, 2, 8, (("get", 4, 0), ("free", 1)))
        self.assert_bad(1, CHAIN, 2, 3, (("get", 2, 0), ("get", 2, 2)))
        self.assert_bad(0, CHAIN, 2, 8, (("get", 3, 0),))
        self.assert_bad(0, CHAIN, 2, 8, (("get", 2, 1),))
        self.assert_bad(0, CHAIN, 0, 8, (("get", 1, 0),))

    def test_the_first_bad_item_counts(self):
        self.assert_bad(1, CHAIN, 2, 8, (("get", 1, 0), None, ("free", 7), "x"))
        self.assert_bad(1, CHAIN, 2, 8, (("get", 1, 0), ("free", 7), None, "x"))

    def test_histories_with_one_thing_changed(self):
        for chain, pages, limit, history in ((CHAIN, 2, 8, HISTORY), ((1, 3), 3, 6, random_history((1, 3), 3, 6, 12, 1))):
            for value in changed_events(history):
                number = first_bad_event(chain, pages, limit, value)
                if number is None:
                    self.assert_done(chain, pages, limit, value)
                else:
                    self.assert_bad(number, chain, pages, limit, value)

    def test_histories_of_all_rules(self):
        for seed, (chain, pages, limit) in enumerate((((1,), 5, 4), ((1, 2), 5, 7), (CHAIN, 4, 8), ((1, 3, 6), 4, 14))):
            for rule in RULES:
                heap = Heap(chain, pages, limit, rule=rule)
                chance = random.Random(seed)
                for turn in range(60):
                    size = chance.choice(chain)
                    free = place_by_word(rule, chain, pages, heap.state(), size)
                    if heap.live() + size <= limit and free is not None and chance.random() < 0.6:
                        heap.get(size)
                    elif heap.state():
                        heap.free(chance.choice(heap.state())[0])
                again = self.assert_done(chain, pages, limit, heap.history())
                self.assertEqual((again.state(), again.live(), again.outlook()), (heap.state(), heap.live(), heap.outlook()))

    def test_a_long_history(self):
        history = random_history((1, 2, 10, 50), 40, 1900, 2000, 3)
        self.assertEqual(len(history), 2000)
        self.assert_done((1, 2, 10, 50), 40, 1900, history)
        self.assert_bad(2000, (1, 2, 10, 50), 40, 1900, (*history, ("free", 2000)))


if __name__ == "__main__":
    unittest.main()
