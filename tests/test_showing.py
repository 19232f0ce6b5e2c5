"""Texts: show_chain, show_state, show_history."""

import unittest

from pinnedheap.heaps import Heap
from pinnedheap.pressure import exhaust
from pinnedheap.rules import allocator
from pinnedheap.showing import show_chain, show_history, show_state
from tests.samples import random_history, random_states


def line_by_parts(event):
    if event[0] == "free":
        return "free " + str(event[1])
    return "get " + str(event[1]) + (" fails" if event[2] is None else " at " + str(event[2]))


class Show(unittest.TestCase):
    def test_example(self):
        self.assertEqual(show_chain((1, 2, 4)), "1/2/4")
        self.assertEqual((show_state(((0, 1), (12, 4))), show_state(())), ("0:1 12:4", "-"))
        self.assertEqual(show_history((("get", 1, 0), ("free", 0), ("get", 2, None))), "get 1 at 0\nfree 0\nget 2 fails")

    def test_chains(self):
        for chain, text in (((1,), "1"), ((1, 10**9), "1/1000000000"), ((1, 10, 100), "1/10/100"),
                            (tuple(2**k for k in range(12)), "1/2/4/8/16/32/64/128/256/512/1024/2048")):
            self.assertEqual(show_chain(chain), text)
            self.assertEqual(show_chain(chain=chain), text)

    def test_states(self):
        for state, text in (((), "-"), (((0, 1),), "0:1"), (((0, 2), (2, 1), (4, 4)), "0:2 2:1 4:4"),
                            (((0, 10**9), (10**9, 1)), "0:1000000000 1000000000:1")):
            self.assertEqual(show_state(state), text)
            self.assertEqual(show_state(state=state), text)

    def test_random_states(self):
        for chain, pages, state in random_states():
            expected = " ".join(str(address) + ":" + str(size) for address, size in state) if state else "-"
            self.assertEqual(show_state(state), expected)

    def test_histories(self):
        for history, text in (((), "-"), ((("free", 0),), "free 0"), ((("get", 4, 8),), "get 4 at 8"),
                              ((("get", 1, None),), "get 1 fails"), ((("get", 1, 0), ("free", 0)), "get 1 at 0\nfree 0"),
                              ((("get", 10**9, 10**19), ("free", 10**20 - 1)),
                               "get 1000000000 at 10000000000000000000\nfree 99999999999999999999")):
            self.assertEqual(show_history(history), text)
            self.assertEqual(show_history(history=history), text)

    def test_a_history_whose_last_event_failed(self):
        for chain, limit, pages in (((1, 2), 4, 2), ((1, 2, 4), 8, 3), ((1,), 1, 0)):
            events = exhaust(chain, limit, pages, allocator("lowest", chain, pages))
            lines = show_history(events).split("\n")
            self.assertEqual(lines, [line_by_parts(event) for event in events])
            self.assertEqual(lines[-1], f"get {events[-1][1]} fails")

    def test_the_history_of_a_heap(self):
        heap = Heap((1, 2), 3, 4)
        self.assertEqual((show_history(heap.history()), show_state(heap.state())), ("-", "-"))
        heap.get(1)
        heap.put(4, 2)
        heap.free(0)
        self.assertEqual((show_history(heap.history()), show_state(heap.state())), ("get 1 at 0\nget 2 at 4\nfree 0", "4:2"))

    def test_long_histories(self):
        history = random_history((1, 2, 10, 50), 40, 1900, 2000, 3) * 2
        self.assertEqual(show_history(history).split("\n"), [line_by_parts(event) for event in history])


if __name__ == "__main__":
    unittest.main()
