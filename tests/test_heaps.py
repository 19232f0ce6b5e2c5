"""Heaps: class Heap."""

import random
import unittest

from pinnedheap.bounds import outlook
from pinnedheap.errors import (BadChain, BadLimit, BadPages, BadPlace, BadRule, BadSize, HeapError, NoBlock, NoRoom,
                               NothingToUndo, OverLimit)
from pinnedheap.heaps import Heap
from tests.samples import RULES, assert_error, is_plain_integer, place_by_word, places_by_word, shown, values

CHAIN = (1, 2, 4)
HEAPS = (
    ((1,), 0, 0), ((1,), 3, 2), ((1,), 5, 9), ((1, 2), 0, 3), ((1, 2), 3, 4), ((1, 2), 4, 6), ((1, 3), 3, 6), ((1, 2, 4), 2, 8),
    ((1, 2, 4), 4, 8), ((1, 2, 6), 3, 12), ((1, 2, 4, 8), 3, 17), ((1, 4), 5, 0), ((1, 5, 10), 3, 30),
)


class Record:
    """What a heap should know, computed anew from its events each time."""

    def __init__(self, chain, pages, limit, rule):
        self.chain, self.pages, self.limit, self.rule = chain, pages, limit, rule
        self.events = []

    def blocks(self):
        live = {}
        for event in self.events:
            if event[0] == "get":
                live[event[2]] = event[1]
            else:
                del live[event[1]]
        return live

    def state(self):
        return tuple(sorted(self.blocks().items()))

    def live(self):
        return sum(self.blocks().values())

    def refused(self, size):
        if not is_plain_integer(size) or size not in self.chain:
            return (BadSize, "size", size)
        if self.live() + size > self.limit:
            return (OverLimit, "size", size)
        return None

    def get(self, size):
        wrong = self.refused(size)
        if wrong:
            return wrong
        address = place_by_word(self.rule, self.chain, self.pages, self.state(), size)
        if address is None:
            return (NoRoom, "size", size)
        self.events.append(("get", size, address))
        return address

    def put(self, address, size):
        wrong = self.refused(size)
        if wrong:
            return wrong
        if not is_plain_integer(address) or address not in places_by_word(self.chain, self.pages, self.state(), size):
            return (BadPlace, "address", address)
        self.events.append(("get", size, address))
        return None

    def free(self, address):
        if not is_plain_integer(address) or address not in self.blocks():
            return (NoBlock, "address", address)
        self.events.append(("free", address))
        return None

    def undo(self):
        if not self.events:
            return (NothingToUndo, None, None)
        self.events.pop()
        return None


def outcome(function, *arguments):
    """Return what a call returned, or its error with its only attribute."""
    try:
        return function(*arguments)
    except HeapError as error:
        attributes = vars(error)
        return (type(error), *(list(attributes.items())[0] if attributes else (None, None)))


def some_calls(chance, chain, pages, many):
    """Return calls, as names with arguments, of which some are wrong."""
    words = pages * chain[-1]
    wrong = (None, True, False, "1", -1, 3, 7, words, (0, 1), [1])
    calls = []
    for turn in range(many):
        size = chance.choice((*chain, *chain, chance.choice(wrong)))
        address = chance.choice((chance.randrange(words + 1), chance.randrange(words + 1), chance.choice(wrong)))
        name = chance.choice(("get", "get", "put", "put", "free", "free", "free", "undo"))
        calls.append((name, *{"get": (size,), "put": (address, size), "free": (address,), "undo": ()}[name]))
    return calls


def grown(chain, pages, limit, rule, seed, many=60):
    """Return a heap and its record after some calls."""
    heap = Heap(chain, pages, limit, rule=rule)
    record = Record(chain, pages, limit, rule)
    for name, *arguments in some_calls(random.Random(seed), chain, pages, many):
        outcome(getattr(heap, name), *arguments)
        getattr(record, name)(*arguments)
    return heap, record


class HeapCase(unittest.TestCase):
    def assert_same_outcome(self, heap, record, name, arguments):
        found = outcome(getattr(heap, name), *arguments)
        expected = getattr(record, name)(*arguments)
        self.assertEqual(shown(found), shown(expected), (record.events, name, arguments))
        if isinstance(expected, tuple):
            self.assertIs(found[2], expected[2])

    def assert_as_recorded(self, heap, record):
        state = record.state()
        self.assertEqual(shown(heap.state()), shown(state))
        self.assertEqual(shown(heap.live()), shown(record.live()))
        self.assertEqual(heap.outlook(), outlook(record.chain, record.limit, state))
        self.assertEqual(shown(heap.history()), shown(tuple(record.events)))
        self.assertEqual(len(heap), len(record.events))


class Constructor(HeapCase):
    def test_a_new_heap_is_empty(self):
        for chain, pages, limit in HEAPS:
            for rule in RULES:
                self.assert_as_recorded(Heap(chain, pages, limit, rule=rule), Record(chain, pages, limit, rule))

    def test_by_name(self):
        heap = Heap(rule="highest", limit=4, pages=3, chain=(1, 2))
        self.assertEqual((heap.get(1), heap.get(2), heap.get(1)), (5, 2, 4))
        with self.assertRaises(OverLimit):
            heap.get(1)

    def test_the_rule_left_out_is_lowest(self):
        heap = Heap((1, 2), 3, 6)
        self.assertEqual((heap.get(1), heap.get(2), heap.get(1), heap.get(2)), (0, 2, 1, 4))

    def test_the_rule_is_passed_by_name_only(self):
        with self.assertRaises(TypeError):
            Heap((1, 2), 3, 4, "lowest")

    def test_each_rule_is_used(self):
        for rule in RULES:
            heap = Heap(CHAIN, 3, 9, rule=rule)
            for address in (0, 4, 5, 8):
                heap.put(address, 1)
            self.assertEqual(heap.get(1), {"lowest": 1, "highest": 11, "tight": 6, "loose": 1}[rule])

    def test_bad_chains(self):
        for value in [*values(), (1, 4, 6), [1, 2], (2, 4), tuple(range(5000)), (1,) * 5000, (1, 10**5000)]:
            if isinstance(value, tuple) and shown(value) in (shown((1,)), shown((1, 2))):
                Heap(value, 1, 1)
                continue
            assert_error(self, BadChain, "chain", value, Heap, value, 3, 4)
            assert_error(self, BadChain, "chain", value, Heap, limit=4, pages=3, chain=value, rule="tight")

    def test_bad_pages(self):
        for value in values():
            if is_plain_integer(value) and value >= 0:
                self.assertEqual(Heap(CHAIN, value, 4).state(), ())
                continue
            assert_error(self, BadPages, "pages", value, Heap, CHAIN, value, 4)
            assert_error(self, BadPages, "pages", value, Heap, limit=4, pages=value, chain=CHAIN, rule="tight")

    def test_bad_limits(self):
        for value in values():
            if is_plain_integer(value) and value >= 0:
                self.assertEqual(Heap(CHAIN, 3, value).state(), ())
                continue
            assert_error(self, BadLimit, "limit", value, Heap, CHAIN, 3, value)
            assert_error(self, BadLimit, "limit", value, Heap, limit=value, pages=3, chain=CHAIN, rule="tight")

    def test_bad_rules(self):
        for value in [*values(), "Lowest", "lowest ", "", ("lowest",), ["lowest"]]:
            if isinstance(value, str) and value in RULES:
                continue
            assert_error(self, BadRule, "rule", value, Heap, CHAIN, 3, 4, rule=value)
            assert_error(self, BadRule, "rule", value, Heap, rule=value, limit=4, pages=3, chain=CHAIN)

    def test_the_first_error_that_applies(self):
        bad = ((1, 4, 6), -1, None, "fastest")
        good = (CHAIN, 3, 4, "loose")
        kinds = ((BadChain, "chain"), (BadPages, "pages"), (BadLimit, "limit"), (BadRule, "rule"))
        for mask in range(1, 16):
            chain, pages, limit, rule = [bad[k] if mask >> k & 1 else good[k] for k in range(4)]
            first = next(k for k in range(4) if mask >> k & 1)
            error, attribute = kinds[first]
            assert_error(self, error, attribute, bad[first], Heap, chain, pages, limit, rule=rule)

    def test_values_of_every_kind_in_all_places(self):
        for value in values():
            if isinstance(value, tuple) and shown(value) in (shown((1,)), shown((1, 2))):
                continue
            assert_error(self, BadChain, "chain", value, Heap, value, value, value, rule=value)

    def test_large_numbers(self):
        heap = Heap((1, 10**9), 10**18, 10**5000, rule="highest")
        self.assertEqual((heap.state(), heap.live(), heap.history(), len(heap)), ((), 0, (), 0))


class Examples(unittest.TestCase):
    def test_first(self):
        h = Heap((1, 2), 3, 4)
        found = (h.get(1), h.get(1), h.get(1), h.get(1), h.free(1), h.free(3), h.get(2), h.state(), h.outlook())
        self.assertEqual(found, (0, 1, 2, 3, None, None, 4, ((0, 1), (2, 1), (4, 2)), (4, 6)))

    def test_second(self):
        h = Heap((1, 2), 1, 4)
        self.assertEqual((h.put(1, 1), h.undo(), h.history(), h.get(2), len(h)), (None, None, (), 0, 1))

    def test_third(self):
        h = Heap((1, 2), 1, 4)
        self.assertIs(h.put(1, 1), None)
        assert_error(self, NoRoom, "size", 2, h.get, 2)


class Calls(HeapCase):
    def test_against_a_record(self):
        for seed, (chain, pages, limit) in enumerate(HEAPS * 3):
            for rule in RULES:
                heap = Heap(chain, pages, limit, rule=rule)
                record = Record(chain, pages, limit, rule)
                for name, *arguments in some_calls(random.Random(seed), chain, pages, 80):
                    self.assert_same_outcome(heap, record, name, arguments)
                    self.assert_as_recorded(heap, record)

    def test_a_put_is_the_event_of_a_get(self):
        heap = Heap(CHAIN, 2, 8)
        heap.put(6, 2)
        heap.get(1)
        heap.free(6)
        self.assertEqual(heap.history(), (("get", 2, 6), ("get", 1, 0), ("free", 6)))

    def test_what_the_calls_return(self):
        heap = Heap(CHAIN, 2, 8)
        self.assertEqual(shown([heap.get(4), heap.put(4, 1), heap.free(4), heap.undo()]), shown([0, None, None, None]))

    def test_a_limit_is_reached_exactly(self):
        for limit in range(9):
            heap = Heap(CHAIN, 9, limit)
            for turn in range(limit):
                heap.get(1)
            assert_error(self, OverLimit, "size", 1, heap.get, 1)
            assert_error(self, OverLimit, "size", 1, heap.put, 30, 1)
            self.assertEqual((heap.live(), len(heap)), (limit, limit))

    def test_errors_in_their_order(self):
        heap = Heap(CHAIN, 1, 4)
        heap.put(1, 1)
        before = (heap.state(), heap.history())
        assert_error(self, BadSize, "size", 8, heap.get, 8)
        assert_error(self, OverLimit, "size", 4, heap.get, 4)
        assert_error(self, BadSize, "size", 8, heap.put, 1, 8)
        assert_error(self, OverLimit, "size", 4, heap.put, "x", 4)
        assert_error(self, BadPlace, "address", "x", heap.put, "x", 1)
        self.assertEqual((heap.state(), heap.history()), before)
        heap.put(3, 1)
        assert_error(self, NoRoom, "size", 2, heap.get, 2)
        assert_error(self, OverLimit, "size", 4, heap.get, 4)

    def assert_unchanged_by(self, heap, record, name, arguments):
        before = (heap.state(), heap.history(), heap.live(), len(heap), heap.outlook())
        self.assert_same_outcome(heap, record, name, arguments)
        self.assertEqual((heap.state(), heap.history(), heap.live(), len(heap), heap.outlook()), before)

    def test_values_of_every_kind(self):
        for rule in RULES:
            heap, record = grown(CHAIN, 3, 9, rule, 5)
            for value in values():
                if not is_plain_integer(value):
                    self.assert_unchanged_by(heap, record, "get", (value,))
                if not is_plain_integer(value) or not 0 <= value < 12:
                    for size in (*CHAIN, 3, None, value):
                        self.assert_unchanged_by(heap, record, "put", (value, size))
                if not is_plain_integer(value) or value not in record.blocks():
                    self.assert_unchanged_by(heap, record, "free", (value,))

    def test_booleans_are_no_addresses_and_no_sizes(self):
        heap = Heap(CHAIN, 2, 8)
        assert_error(self, BadSize, "size", True, heap.get, True)
        assert_error(self, BadPlace, "address", False, heap.put, False, 1)
        assert_error(self, BadPlace, "address", True, heap.put, True, 1)
        heap.put(0, 1)
        heap.put(1, 1)
        assert_error(self, NoBlock, "address", False, heap.free, False)
        assert_error(self, NoBlock, "address", True, heap.free, True)

    def test_places_at_the_edges(self):
        heap = Heap(CHAIN, 2, 8)
        heap.put(2, 2)
        for address, size in ((-1, 1), (-2, 2), (-4, 4), (8, 1), (8, 2), (8, 4), (1, 2), (5, 2), (2, 4), (6, 4), (0, 4), (2, 1),
                              (3, 1), (2, 2), (10**30, 1)):
            assert_error(self, BadPlace, "address", address, heap.put, address, size)
        for address, size in ((0, 1), (0, 2), (1, 1), (4, 4), (7, 1), (6, 2), (4, 1)):
            heap.put(address, size)
            heap.undo()

    def test_addresses_inside_blocks(self):
        heap = Heap(CHAIN, 2, 8)
        heap.put(4, 4)
        for address in (0, 5, 6, 7, 8, -4):
            assert_error(self, NoBlock, "address", address, heap.free, address)
        heap.free(4)
        assert_error(self, NoBlock, "address", 4, heap.free, 4)

    def test_two_thousand_words(self):
        heap = Heap((1, 2, 4, 8, 40, 200, 1000), 2, 2000)
        for number in range(1500):
            self.assertEqual(heap.get(1), number)
        for number in range(0, 1000, 2):
            heap.free(number)
        self.assertEqual((heap.live(), len(heap)), (1000, 2000))
        assert_error(self, NoRoom, "size", 1000, heap.get, 1000)
        for number in range(2000):
            heap.undo()
        self.assertEqual((heap.state(), heap.history()), ((), ()))


class Undo(HeapCase):
    def test_nothing_to_undo(self):
        for chain, pages, limit in HEAPS:
            with self.assertRaises(NothingToUndo) as caught:
                Heap(chain, pages, limit).undo()
            self.assertIs(type(caught.exception), NothingToUndo)

    def test_to_the_beginning_and_on(self):
        for seed, (chain, pages, limit) in enumerate(HEAPS):
            for rule in RULES:
                heap, record = grown(chain, pages, limit, rule, seed)
                while record.events:
                    self.assert_same_outcome(heap, record, "undo", ())
                    self.assert_as_recorded(heap, record)
                self.assert_same_outcome(heap, record, "undo", ())
                for name, *arguments in some_calls(random.Random(seed + 100), chain, pages, 40):
                    self.assert_same_outcome(heap, record, name, arguments)
                    self.assert_as_recorded(heap, record)

    def test_a_call_that_raised_is_not_taken_back(self):
        heap = Heap((1, 2), 1, 4)
        heap.put(1, 1)
        for call, argument in ((heap.get, 2), (heap.get, 3), (heap.free, 0)):
            with self.assertRaises(HeapError):
                call(argument)
        heap.undo()
        self.assertEqual((heap.state(), len(heap)), ((), 0))

    def test_a_free_and_what_came_behind_it(self):
        heap = Heap(CHAIN, 2, 8)
        heap.put(4, 2)
        heap.free(4)
        heap.put(4, 4)
        heap.undo()
        heap.undo()
        self.assertEqual((heap.state(), heap.history()), (((4, 2),), (("get", 2, 4),)))

    def test_a_heap_answers_as_a_new_one_with_the_same_history(self):
        for seed, (chain, pages, limit) in enumerate(HEAPS * 2):
            for rule in RULES:
                heap, record = grown(chain, pages, limit, rule, seed, 90)
                new = Heap(chain, pages, limit, rule=rule)
                for event in heap.history():
                    if event[0] == "get":
                        new.put(event[2], event[1])
                    else:
                        new.free(event[1])
                self.assertEqual(new.history(), heap.history())
                for name, *arguments in some_calls(random.Random(seed + 7), chain, pages, 60):
                    found = [shown(outcome(getattr(each, name), *arguments)) for each in (heap, new)]
                    self.assertEqual(found[0], found[1])
                    self.assertEqual((heap.state(), heap.live(), heap.outlook(), heap.history(), len(heap)),
                                     (new.state(), new.live(), new.outlook(), new.history(), len(new)))


class Copies(HeapCase):
    def test_each_goes_on_independently(self):
        for seed, (chain, pages, limit) in enumerate(HEAPS):
            for rule in RULES:
                heap, record = grown(chain, pages, limit, rule, seed)
                other, other_record = heap.copy(), Record(chain, pages, limit, rule)
                other_record.events = list(record.events)
                self.assertIs(type(other), Heap)
                self.assert_as_recorded(other, other_record)
                calls = some_calls(random.Random(seed + 50), chain, pages, 40)
                for turn, (name, *arguments) in enumerate(calls):
                    pair = (heap, record) if turn % 3 else (other, other_record)
                    self.assert_same_outcome(*pair, name, arguments)
                    self.assert_as_recorded(heap, record)
                    self.assert_as_recorded(other, other_record)

    def test_undo_works_on_the_copy(self):
        heap, record = grown(CHAIN, 3, 9, "tight", 8)
        other = heap.copy()
        many = len(heap)
        self.assertGreater(many, 3)
        for turn in range(many):
            other.undo()
        self.assertEqual((other.state(), len(other), len(heap)), ((), 0, many))
        self.assert_as_recorded(heap, record)
        with self.assertRaises(NothingToUndo):
            other.undo()

    def test_what_was_returned_does_not_change(self):
        heap = Heap(CHAIN, 2, 8)
        heap.get(1)
        state, history, many = heap.state(), heap.history(), heap.outlook()
        heap.get(2)
        heap.free(0)
        self.assertEqual((state, history, many), (((0, 1),), (("get", 1, 0),), outlook(CHAIN, 8, ((0, 1),))))


class Equality(unittest.TestCase):
    def test_two_heaps_are_never_equal(self):
        for first, second in ((Heap(CHAIN, 2, 8), Heap(CHAIN, 2, 8)), (Heap((1,), 0, 0), Heap((1,), 0, 0))):
            for one, other in ((first, second), (first, first.copy()), (second.copy(), second)):
                self.assertFalse(one == other)
                self.assertTrue(one != other)

    def test_a_heap_equals_itself(self):
        heap = Heap(CHAIN, 2, 8)
        same = heap
        heap.get(1)
        self.assertTrue(heap == same)
        self.assertFalse(heap != same)
        self.assertFalse(heap == ((0, 1),))


if __name__ == "__main__":
    unittest.main()
