"""What the package guarantees: (a) enough, (b) not fewer, (c) outlook, and where games, rules and texts meet them."""

import random
import unittest

from pinnedheap.bounds import bounds, outlook, pages_needed
from pinnedheap.chains import class_of
from pinnedheap.desk import Desk
from pinnedheap.games import is_safe, moves_to_fail, plan, shows_plan, shows_strategy, strategy
from pinnedheap.growing import open_after, worst_history, worst_pages
from pinnedheap.heaps import Heap, replay
from pinnedheap.pressure import Pressure, exhaust, shows_exhaustion
from pinnedheap.reading import read_chain, read_history, read_state
from pinnedheap.receipts import receipt, shown_words, shows_receipt
from pinnedheap.rules import allocator, place
from pinnedheap.showing import show_chain, show_history, show_state
from pinnedheap.states import all_states, live_words, places, reaches, with_block, without_block
from tests.samples import RULES, busy_chunks, random_state

TINY = (
    ((1,), 4), ((1, 2), 1), ((1, 2), 2), ((1, 2), 3), ((1, 2), 4), ((1, 2), 5), ((1, 2), 6), ((1, 3), 3), ((1, 3), 5),
    ((1, 3), 6), ((1, 4), 5), ((1, 2, 4), 4), ((1, 2, 4), 5), ((1, 2, 4), 6), ((1, 2, 6), 6), ((1, 3, 6), 6),
)
SMALL = (
    ((1, 2), 9), ((1, 2), 16), ((1, 3), 12), ((1, 7), 25), ((1, 2, 4), 8), ((1, 2, 4), 16), ((1, 2, 4), 23), ((1, 2, 6), 24),
    ((1, 3, 6), 19), ((1, 4, 8), 32), ((1, 2, 4, 8), 16), ((1, 2, 4, 8), 40), ((1, 2, 4, 8, 16), 64), ((1, 5, 10, 30), 90),
)


def moves_of_lowest(chain, limit, pages, state):
    """Return pairs (block or None, state behind the move) of all moves; the block is what was placed."""
    found = [(None, without_block(state, address)) for address, size in state]
    for size in chain:
        if live_words(state) + size <= limit:
            address = place("lowest", chain, pages, state, size)
            found.append(((address, size), None if address is None else with_block(state, address, size)))
    return found


def random_walk(heap, chain, limit, turns, seed):
    """Do many gets and frees, in spells that prefer one size, and yield the block of each get."""
    chance = random.Random(seed)
    size = 1
    for turn in range(turns):
        if chance.random() < 0.1:
            size = chance.choice(chain)
        if heap.live() + size <= limit and chance.random() < 0.8:
            yield (heap.get(size), size)
        elif heap.state():
            heap.free(chance.choice(heap.state())[0])


class Enough(unittest.TestCase):
    def assert_within(self, chain, limit, address, size):
        for number in bounds(chain, limit)[class_of(chain, size):]:
            self.assertLessEqual(address + size, number, (chain, limit, address, size))

    def test_every_history_of_tiny_heaps(self):
        for chain, limit in TINY:
            pages = pages_needed(chain, limit)
            seen = {()}
            left = [()]
            while left:
                state = left.pop()
                for block, behind in moves_of_lowest(chain, limit, pages, state):
                    self.assertIsNotNone(behind, (chain, limit, state, block))
                    if block:
                        self.assert_within(chain, limit, *block)
                    if behind not in seen:
                        seen.add(behind)
                        left.append(behind)

    def test_long_histories_of_small_heaps(self):
        for seed, (chain, limit) in enumerate(SMALL):
            heap = Heap(chain, pages_needed(chain, limit), limit)
            for address, size in random_walk(heap, chain, limit, 1500, seed):
                self.assert_within(chain, limit, address, size)

    def test_the_bounds_are_reached(self):
        for chain, limit in SMALL:
            program = Pressure(chain, limit)
            reached = [0 for size in chain]
            while program.request() is not None:
                kind, number = program.request()
                address = place("lowest", chain, pages_needed(chain, limit), program.state(), number) if kind == "get" else None
                program.answer(address)
                reached = [max(pair) for pair in zip(reached, reaches(chain, program.state()))]
            self.assertEqual(tuple(reached), bounds(chain, limit))


class NotFewer(unittest.TestCase):
    def assert_phases(self, chain, limit, allocate):
        """Run all requests, and count the chunks behind each phase."""
        program = Pressure(chain, limit)
        ends = [() for size in chain]
        while program.request() is not None:
            kind, number = program.request()
            before = program.phase()
            program.answer(allocate(program.state(), number) if kind == "get" else None)
            for phase in range(before, program.phase() if program.request() else len(chain)):
                ends[phase] = program.state()
        for size, number, state in zip(chain, bounds(chain, limit), ends):
            self.assertGreaterEqual(busy_chunks(state, size) * size, number, (chain, limit, size))

    def test_chunks_behind_each_phase(self):
        for chain, limit in (*TINY, *SMALL):
            pages = 3 * limit
            for rule in RULES:
                self.assert_phases(chain, limit, allocator(rule, chain, pages))
            for seed in range(5):
                chance = random.Random(seed)
                self.assert_phases(chain, limit, lambda state, size: chance.choice(places(chain, 2 * limit, state, size)))

    def test_one_page_fewer_ends_in_a_get_that_fails(self):
        for chain, limit in (*TINY, *SMALL):
            pages = pages_needed(chain, limit) - 1
            chance = random.Random(limit)
            allocators = [allocator(rule, chain, pages) for rule in RULES]
            allocators.append(lambda state, size: chance.choice(places(chain, pages, state, size) or (None,)))
            for allocate in allocators:
                found = exhaust(chain, limit, pages, allocate)
                self.assertEqual((found[-1][0], found[-1][2]), ("get", None))
                self.assertIs(shows_exhaustion(chain, limit, pages, found), True)

    def test_every_allocator_fails_on_tiny_heaps(self):
        for chain, limit in (((1,), 3), ((1, 2), 2), ((1, 2), 3), ((1, 2), 4), ((1, 3), 4), ((1, 2, 4), 4)):
            for pages in range(pages_needed(chain, limit)):
                left = [()]
                while left:
                    answers = left.pop()
                    program = Pressure(chain, limit)
                    for answer in answers:
                        program.answer(answer)
                    self.assertIsNotNone(program.request(), (chain, limit, pages, answers))
                    kind, number = program.request()
                    tried = places(chain, pages, program.state(), number) if kind == "get" else (None,)
                    left.extend((*answers, answer) for answer in tried)


class Outlook(unittest.TestCase):
    def assert_step(self, chain, limit, before, block, after):
        """Check a move of the rule "lowest" between two states with these outlooks."""
        for number, later in zip(before, after):
            self.assertLessEqual(later, number)
        if block:
            self.assertLessEqual(sum(block), min(before[class_of(chain, block[1]):]), (chain, limit, block))

    def test_every_move_from_every_state_of_tiny_heaps(self):
        for chain, pages in (((1,), 5), ((1, 2), 4), ((1, 3), 3), ((1, 2, 4), 2), ((1, 2, 6), 1), ((1, 3, 6), 1)):
            for limit in (1, 2, 3, 4, 6, 8):
                enough = pages + 3 * limit
                for state in all_states(chain, pages, limit):
                    before = outlook(chain, limit, state)
                    for block, behind in moves_of_lowest(chain, limit, enough, state):
                        self.assert_step(chain, limit, before, block, outlook(chain, limit, behind))

    def test_long_runs_from_random_states(self):
        for seed, (chain, limit) in enumerate(SMALL):
            for tries in (3, 10, 40):
                start = [block for block in random_state(chain, 12, tries, seed)]
                while live_words(start) > limit:
                    start.pop(0)
                heap = Heap(chain, 12 + 2 * limit, limit)
                for address, size in start:
                    heap.put(address, size)
                before = first = heap.outlook()
                for block in random_walk(heap, chain, limit, 300, seed):
                    self.assert_step(chain, limit, before, block, heap.outlook())
                    self.assert_step(chain, limit, first, block, heap.outlook())
                    before = heap.outlook()

    def test_the_empty_state(self):
        for chain, limit in (*TINY, *SMALL):
            self.assertEqual(Heap(chain, 0, limit).outlook(), bounds(chain, limit))
            self.assertEqual(outlook(chain, limit, ()), bounds(chain, limit))


class Receipts(unittest.TestCase):
    def test_lowest_has_a_receipt_for_every_block(self):
        for seed, (chain, limit) in enumerate(SMALL):
            heap = Heap(chain, pages_needed(chain, limit), limit)
            for address, size in random_walk(heap, chain, limit, 150, seed):
                before = without_block(heap.state(), address)
                found = receipt(chain, before, size, address)
                self.assertIs(shows_receipt(chain, before, size, address, found), True)
                self.assertLessEqual(shown_words(chain, before, size, address), live_words(before))


class Games(unittest.TestCase):
    CASES = (((1, 2), 4), ((1, 2), 5), ((1, 3), 5), ((1, 3), 6), ((1, 2, 4), 5), ((1, 2, 4), 6), ((1,), 5), ((1, 2, 6), 6))

    def test_a_state_has_one_kind_of_evidence(self):
        for chain, limit in self.CASES:
            for pages in range(pages_needed(chain, limit) + 1):
                states = all_states(chain, pages, limit)
                for state in states[::len(states) // 9 + 1]:
                    moves = moves_to_fail(chain, limit, pages, state)
                    if moves is None:
                        found = plan(chain, limit, pages, state)
                    else:
                        found = strategy(chain, limit, pages, state)
                        self.assertEqual([item[1] for item in found if item[0] == state], [moves])
                    self.assertIs(shows_plan(chain, limit, pages, state, found), moves is None)
                    self.assertIs(shows_strategy(chain, limit, pages, state, found), moves is not None)

    def test_pressure_makes_no_allocator_fail_sooner_than_the_fewest_moves(self):
        for chain, limit in self.CASES:
            pages = pages_needed(chain, limit) - 1
            fewest = moves_to_fail(chain, limit, pages, ())
            found = [exhaust(chain, limit, pages, allocator(rule, chain, pages)) for rule in RULES]
            self.assertLessEqual(fewest, max(len(events) for events in found))

    def test_lowest_reaches_safe_states_only(self):
        for seed, (chain, limit) in enumerate(self.CASES[:6]):
            pages = pages_needed(chain, limit)
            heap = Heap(chain, pages, limit)
            for block in random_walk(heap, chain, limit, 15, seed):
                self.assertIs(is_safe(chain, limit, pages, heap.state()), True)

    def test_a_worst_history_of_a_growing_heap_is_one_of_a_heap(self):
        for chain, limit in self.CASES:
            for rule in RULES:
                history = worst_history(chain, limit, rule)
                most = worst_pages(chain, limit, rule)
                self.assertEqual(open_after(chain, limit, rule, history), most)
                self.assertEqual(replay(chain, most, limit, history).history(), history)


class Texts(unittest.TestCase):
    def test_texts_are_read_back_and_desks_answer_as_heaps(self):
        for seed, (chain, limit) in enumerate(SMALL):
            for rule in RULES:
                pages = 2 * pages_needed(chain, limit)
                heap = Heap(chain, pages, limit, rule=rule)
                desk = Desk(f"chain {show_chain(chain)}\npages {pages}\nlimit {limit}\nrule {rule}")
                self.assertGreater(len(list(random_walk(heap, chain, limit, 60, seed))), 10)
                for event in heap.history():
                    line = f"free {event[1]}" if event[0] == "free" else f"get {event[1]}"
                    self.assertEqual(desk.say(line), "done" if event[0] == "free" else str(event[2]))
                self.assertEqual(desk.say("state"), show_state(heap.state()))
                self.assertEqual(desk.say("history").split(" / "), show_history(heap.history()).split("\n"))
                self.assertEqual(read_chain(show_chain(chain)), chain)
                self.assertEqual(read_state(chain, pages, show_state(heap.state())), heap.state())
                self.assertEqual(read_history(chain, show_history(heap.history())), heap.history())
                again = replay(chain, pages, limit, read_history(chain, show_history(heap.history())))
                self.assertEqual(again.state(), heap.state())


if __name__ == "__main__":
    unittest.main()
