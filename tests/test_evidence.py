"""Games: plan, shows_plan, strategy, shows_strategy."""

import random
import unittest

from pinnedheap.errors import Safe, Unsafe
from pinnedheap.games import plan, shows_plan, shows_strategy, strategy
from tests.samples import (added, changed, is_state_by_word, moves_by_rounds, places_by_word, removed, shown, states_by_word,
                           values, words_in_blocks)

# Triples (chain, pages, limits) of heaps that are small enough for a call with each of their states.
TINY = (
    ((1,), 0, (0, 1)), ((1,), 3, (1, 2, 3, 4)), ((1, 2), 1, (0, 1, 2, 3, 5)), ((1, 2), 2, (1, 2, 3, 4)), ((1, 2), 3, (3, 4)),
    ((1, 3), 2, (2, 3, 4, 6)), ((1, 4), 1, (1, 3, 4, 5)), ((1, 2, 4), 1, (1, 2, 3, 4, 5)),
)


def sizes_allowed(chain, limit, state):
    return [size for size in chain if words_in_blocks(state) + size <= limit]


def is_listing(chain, limit, pages, state, value, parts):
    """Return True if a value is a tuple of tuples of so many parts, ascending by states, with one for the given state."""
    if type(value) is not tuple or any(type(item) is not tuple or len(item) != parts for item in value):
        return False
    if not all(is_state_by_word(chain, pages, item[0]) and words_in_blocks(item[0]) <= limit for item in value):
        return False
    listed = [item[0] for item in value]
    return listed == sorted(set(listed)) and state in listed


def is_plan(chain, limit, pages, state, value):
    """Look at a value as shows_plan should."""
    if not is_listing(chain, limit, pages, state, value, 2):
        return False
    listed = {item[0] for item in value}
    for now, answers in value:
        if type(answers) is not tuple or any(type(answer) is not tuple or len(answer) != 2 for answer in answers):
            return False
        if any(type(part) is not int for answer in answers for part in answer):
            return False
        if [answer[0] for answer in answers] != sizes_allowed(chain, limit, now):
            return False
        for size, address in answers:
            if address not in places_by_word(chain, pages, now, size) or added(now, address, size) not in listed:
                return False
        if not all(removed(now, address) in listed for address, size in now):
            return False
    return True


def is_strategy(chain, limit, pages, state, value):
    """Look at a value as shows_strategy should."""
    if not is_listing(chain, limit, pages, state, value, 3):
        return False
    if not all(type(moves) is int and moves >= 1 for listed, moves, request in value):
        return False
    numbers = {item[0]: item[1] for item in value}
    for now, moves, request in value:
        if type(request) is not tuple or len(request) != 2 or type(request[1]) is not int:
            return False
        if request[0] == "get" and request[1] in sizes_allowed(chain, limit, now):
            behind = [added(now, address, request[1]) for address in places_by_word(chain, pages, now, request[1])]
        elif request[0] == "free" and request[1] in [address for address, size in now]:
            behind = [removed(now, request[1])]
        else:
            return False
        if any(numbers.get(after, moves) >= moves for after in behind):
            return False
    return True


class Evidence(unittest.TestCase):
    def assert_plan(self, chain, limit, pages, state, value):
        return self.assert_same(shows_plan, is_plan, chain, limit, pages, state, value)

    def assert_strategy(self, chain, limit, pages, state, value):
        return self.assert_same(shows_strategy, is_strategy, chain, limit, pages, state, value)

    def assert_same(self, function, own, chain, limit, pages, state, value):
        before = shown(value)
        expected = own(chain, limit, pages, state, value)
        self.assertIs(function(chain, limit, pages, state, value), expected, (chain, limit, pages, state, before))
        self.assertIs(function(value=value, state=state, pages=pages, limit=limit, chain=chain), expected)
        self.assertEqual(shown(value), before)
        return expected


class Plans(Evidence):
    def test_examples(self):
        found = plan((1, 2), 1, 1, ((1, 1),))
        self.assertIs(shows_plan((1, 2), 1, 1, ((1, 1),), found), True)
        self.assertIs(shows_plan((1, 2), 1, 1, ((1, 1),), (((), ((1, 1),)), (((1, 1),), ()))), True)

    def test_each_state_of_tiny_heaps(self):
        many = {True: 0, False: 0}
        for chain, pages, limits in TINY:
            for limit in limits:
                unsafe = moves_by_rounds(chain, limit, pages)
                for state in states_by_word(chain, pages, limit):
                    many[state in unsafe] += 1
                    if state in unsafe:
                        self.assertRaises(Unsafe, plan, chain, limit, pages, state)
                        self.assertRaises(Unsafe, plan, state=state, pages=pages, limit=limit, chain=chain)
                        continue
                    found = plan(chain, limit, pages, state)
                    self.assertTrue(self.assert_plan(chain, limit, pages, state, found))
                    self.assertEqual(shown(plan(state=state, pages=pages, limit=limit, chain=chain)), shown(found))
        self.assertGreater(min(many.values()), 100)

    def test_larger_heaps(self):
        for chain, limit, pages, state in (((1, 2), 6, 4, ()), ((1, 2, 4), 6, 3, ()), ((1, 2, 4), 5, 3, ((3, 1), (8, 4))),
                                           ((1,), 6, 8, ((7, 1),)), ((1, 2), 6, 4, ((0, 2), (7, 1)))):
            self.assertTrue(self.assert_plan(chain, limit, pages, state, plan(chain, limit, pages, state)))

    def test_who_follows_a_plan_always_has_an_answer(self):
        for seed, (chain, limit, pages, state) in enumerate((((1, 2), 6, 4, ()), ((1, 2, 4), 6, 3, ()), ((1, 3), 5, 3, ((0, 1),)),
                                                             ((1, 2), 5, 5, ((3, 1), (8, 2))), ((1,), 3, 3, ((2, 1),)))):
            answers = {now: dict(pairs) for now, pairs in plan(chain, limit, pages, state)}
            chance = random.Random(seed)
            now = state
            for turn in range(500):
                sizes = sizes_allowed(chain, limit, now)
                if sizes and (not now or chance.random() < 0.6):
                    size = chance.choice(sizes)
                    address = answers[now][size]
                    self.assertIn(address, places_by_word(chain, pages, now, size))
                    now = added(now, address, size)
                else:
                    now = removed(now, chance.choice(now)[0])

    def test_one_thing_changed_at_any_depth(self):
        many = {True: 0, False: 0}
        cases = (((1, 2), 1, 1, ((1, 1),)), ((1, 2), 2, 2, ((3, 1),)), ((1, 3), 3, 2, ()), ((1,), 0, 0, ()),
                 ((1,), 2, 2, ((0, 1), (1, 1))), ((1, 2), 2, 3, ((0, 1),)))
        for chain, limit, pages, state in cases:
            found = plan(chain, limit, pages, state)
            for value in changed(found):
                many[self.assert_plan(chain, limit, pages, state, value)] += 1
        self.assertGreater(many[False], 3000)
        self.assertGreater(many[True], 0)

    def test_what_a_plan_must_have(self):
        empty, left, right = (), ((0, 1),), ((1, 1),)
        whole = ((empty, ((1, 0),)), (left, ()), (right, ()))
        for value, expected in (
            (whole, True), (whole[1:], False), (whole[:2], False), (whole[:1] + whole[2:], False), (whole[::-1], False),
            (((empty, ((1, 1),)), (left, ()), (right, ())), True), (((empty, ((1, 1),)), (right, ())), True),
            (((empty, ((1, 1),)), (left, ())), False), (((empty, ()), (right, ())), False),
            (((empty, ((1, 0), (1, 1))), (left, ()), (right, ())), False),
            (((empty, ((1, 0), (2, 0))), (left, ()), (right, ()), (((0, 2),), ())), False),
            (((empty, ((2, 0),)), (right, ()), (((0, 2),), ())), False), (((empty, ((1, 2),)), (right, ())), False),
            (((empty, ((1, -1),)), (right, ())), False), (((empty, ((True, 1),)), (right, ())), False),
            (((empty, ((1, True),)), (right, ())), False), (((empty, ((1, None),)), (right, ())), False),
            (((empty, [(1, 1)]), (right, ())), False), (((empty, ([1, 1],)), (right, ())), False),
            (((empty, ((1, 1),)), (right, ((1, 0),))), False), (((empty, ((1, 1),)), (right, None)), False),
            (((empty, ((1, 1),)), (right, ()), (right, ())), False), (((empty, ((1, 1),)), [right, ()]), False),
            (((empty, ((1, 1),)), (right, (), ())), False), (((empty, ((1, 1),)), (((1, 1), (0, 1)), ())), False),
            (((empty, ((1, 1),)), (((0, 1), (1, 1)), ()), (right, ())), False), ((), False), (None, False),
            (list(whole), False), (dict(whole), False), (((empty, ((1, 1, 1),)), (right, ())), False),
        ):
            self.assertIs(shows_plan((1, 2), 1, 1, right, value), expected, value)

    def test_states_that_nothing_leads_to_count_too(self):
        # The state ((1, 1),) is listed without need, but its block can be freed and its answers must be there.
        whole = (((), ((1, 0),)), (((0, 1),), ()))
        self.assertIs(shows_plan((1, 2), 1, 1, (), whole), True)
        self.assertIs(shows_plan((1, 2), 1, 1, (), (*whole, (((1, 1),), ()))), True)
        self.assertIs(shows_plan((1, 2), 1, 1, (), (*whole, (((1, 1),), ((1, 0),)))), False)
        self.assertIs(shows_plan((1, 2), 1, 1, (), (*whole, (((0, 2),), ()))), False)
        self.assertIs(shows_plan((1, 2), 1, 1, (), (*whole, (((2, 1),), ()))), False)

    def test_values_of_every_kind(self):
        for value in values():
            for chain, limit, pages, state in (((1, 2), 1, 1, ((1, 1),)), ((1,), 0, 0, ())):
                for around in (value, (value,), ((value, ()),), (((), value),), ((state, value),), (((), ((1, value),)),),
                               (((), ((value, 0),)),), (((), (value,)), (((1, 1),), ())), (((), (), value),)):
                    self.assert_plan(chain, limit, pages, state, around)

    def test_never_a_plan_for_an_unsafe_state(self):
        cases = (((1, 2), 3, 1), ((1, 2), 4, 2), ((1, 3), 5, 2), ((1, 2, 4), 5, 1), ((1,), 2, 1), ((1, 2), 4, 3))
        for chain, limit, pages in cases:
            unsafe = moves_by_rounds(chain, limit, pages)
            states = states_by_word(chain, pages, limit)
            whole = []
            for now in states:
                answers = []
                for size in sizes_allowed(chain, limit, now):
                    found = places_by_word(chain, pages, now, size)
                    found = [address for address in found if added(now, address, size) not in unsafe] or found
                    answers.extend([(size, found[0])] if found else [])
                whole.append((now, tuple(answers)))
            for state in unsafe:
                self.assertIs(shows_plan(chain, limit, pages, state, tuple(whole)), False)
                kept = tuple(pair for pair in whole if pair[0] not in unsafe or pair[0] == state)
                self.assertIs(shows_plan(chain, limit, pages, state, kept), False)


class Strategies(Evidence):
    def test_examples(self):
        found = strategy((1, 2), 3, 1, ())
        self.assertIs(shows_strategy((1, 2), 3, 1, (), found), True)
        self.assertEqual(found[0][1], 2)
        self.assertIs(shows_strategy((1, 2), 3, 1, (), (((), 2, ("get", 2)), (((0, 2),), 1, ("get", 1)))), True)

    def test_each_state_of_tiny_heaps(self):
        for chain, pages, limits in TINY:
            for limit in limits:
                unsafe = moves_by_rounds(chain, limit, pages)
                for state in states_by_word(chain, pages, limit):
                    if state not in unsafe:
                        self.assertRaises(Safe, strategy, chain, limit, pages, state)
                        self.assertRaises(Safe, strategy, state=state, pages=pages, limit=limit, chain=chain)
                        continue
                    found = strategy(chain, limit, pages, state)
                    self.assertTrue(self.assert_strategy(chain, limit, pages, state, found))
                    self.assertEqual([moves for now, moves, request in found if now == state], [unsafe[state]])
                    self.assertEqual(shown(strategy(state=state, pages=pages, limit=limit, chain=chain)), shown(found))

    def test_larger_heaps(self):
        cases = (((1, 2), 6, 3, ()), ((1, 2, 4), 6, 2, ()), ((1, 2), 6, 4, ((0, 1), (2, 1), (4, 1), (6, 1))),
                 ((1, 2, 4), 9, 3, ()), ((1, 3), 7, 3, ((1, 1),)))
        for chain, limit, pages, state in cases:
            self.assertTrue(self.assert_strategy(chain, limit, pages, state, strategy(chain, limit, pages, state)))

    def test_who_follows_a_strategy_makes_any_allocator_fail(self):
        for chain, limit, pages, state in (((1, 2), 3, 1, ()), ((1, 2), 4, 2, ()), ((1, 3), 5, 2, ()), ((1, 2, 4), 5, 1, ()),
                                           ((1, 2), 6, 4, ((0, 1), (2, 1), (4, 1), (6, 1))), ((1, 2), 5, 3, ())):
            found = {now: (moves, request) for now, moves, request in strategy(chain, limit, pages, state)}
            # Pairs (state, requests that may still be made), for all answers that an allocator can give.
            left = {(state, found[state][0])}
            while left:
                now, moves = left.pop()
                self.assertGreater(moves, 0)
                word, number = found[now][1]
                if word == "free":
                    left.add((removed(now, number), moves - 1))
                else:
                    self.assertLessEqual(words_in_blocks(now) + number, limit)
                    tried = places_by_word(chain, pages, now, number)
                    left |= {(added(now, address, number), moves - 1) for address in tried}

    def test_one_thing_changed_at_any_depth(self):
        many = {True: 0, False: 0}
        for chain, limit, pages, state in (((1, 2), 3, 1, ()), ((1, 2), 4, 2, ((0, 1), (1, 1), (2, 1))), ((1,), 1, 0, ()),
                                           ((1,), 3, 2, ()), ((1, 3), 4, 1, ()), ((1, 2), 4, 2, ((0, 2), (3, 1)))):
            found = strategy(chain, limit, pages, state)
            for value in changed(found):
                many[self.assert_strategy(chain, limit, pages, state, value)] += 1
        self.assertGreater(many[False], 2000)
        self.assertGreater(many[True], 5)

    def test_what_a_strategy_must_have(self):
        empty, full = (), ((0, 2),)
        last = (full, 1, ("get", 1))
        for value, expected in (
            (((empty, 2, ("get", 2)), last), True), (((empty, 7, ("get", 2)), (full, 6, ("get", 1))), True),
            (((empty, 10**30, ("get", 2)), last), True), (((empty, 2, ("get", 2)), (full, 1, ("get", 1))), True),
            (((empty, 1, ("get", 2)), last), False), (((empty, 2, ("get", 2)), (full, 2, ("get", 1))), False),
            (((empty, 2, ("get", 2)), (full, 0, ("get", 1))), False), (((empty, 2, ("get", 2)), (full, -1, ("get", 1))), False),
            (((empty, 2, ("get", 2)),), False), ((last,), False), ((last, (empty, 2, ("get", 2))), False),
            (((empty, 2, ("get", 2)), last, last), False), (((empty, 3, ("get", 2)), (full, True, ("get", 1))), False),
            (((empty, 2, ("get", 2)), (full, 1, ("get", True))), False), (((empty, 2, ("get", 2)), (full, 1, ("get", 2))), False),
            (((empty, 2, ("get", 1)), last), False), (((empty, 2, ("get", 3)), last), False),
            (((empty, 2, ("free", 0)), last), False), (((empty, 2, ("get", 2)), (full, 1, ("free", 0))), False),
            (((empty, 2, ("get", 2)), (full, 3, ("free", 0))), False), (((empty, 2, ("put", 2)), last), False),
            (((empty, 2, ["get", 2]), last), False), (((empty, 2, ("get", 2, 0)), last), False),
            (((empty, 2, None), last), False),
            (((empty, 2, ("get", 2)), [full, 1, ("get", 1)]), False), (((empty, 2), last), False), ((), False), (None, False),
            ([(empty, 2, ("get", 2)), last], False), (((empty, "2", ("get", 2)), last), False),
            (((empty, None, ("get", 2)), last), False),
            (((empty, 2, ("get", 2)), (((0, 2), (2, 2)), 1, ("get", 1)), last), False),
        ):
            self.assertIs(shows_strategy((1, 2), 3, 1, (), value), expected, value)

    def test_a_free_must_lead_to_fewer_moves(self):
        state, behind = ((0, 1), (1, 1), (2, 1)), ((0, 1), (2, 1))
        last = (behind, 1, ("get", 2))
        for moves, address, expected in ((2, 1, True), (1, 1, False), (2, 0, False), (2, True, False), (2, 3, False),
                                         (5, 1, True), (2, None, False), (2, "1", False), (2, [1], False), (2, -1, False)):
            first = (state, moves, ("free", address))
            self.assertIs(shows_strategy((1, 2), 4, 2, state, (first, last)), expected, first)
        self.assertIs(shows_strategy((1, 2), 4, 2, state, ((state, 2, ("free", 1)),)), False)

    def test_every_place_of_a_get_must_be_listed(self):
        # In a heap of two pages, a get of one word has two places here; both lead to a get of two words without a place.
        start, left, right = ((0, 1), (1, 1)), ((0, 1), (1, 1), (2, 1)), ((0, 1), (1, 1), (3, 1))
        whole = ((start, 2, ("get", 1)), (left, 1, ("get", 2)), (right, 1, ("get", 2)))
        self.assertIs(shows_strategy((1, 2), 5, 2, start, whole), True)
        for number in range(3):
            self.assertIs(shows_strategy((1, 2), 5, 2, start, whole[:number] + whole[number + 1:]), False)
        self.assertIs(shows_strategy((1, 2), 5, 2, start, (*whole[:2], (right, 2, ("get", 2)))), False)
        self.assertIs(shows_strategy((1, 2), 4, 2, start, whole), False)

    def test_a_needless_state_must_be_right_too(self):
        whole = (((), 2, ("get", 2)), (((0, 2),), 1, ("get", 1)))
        self.assertIs(shows_strategy((1, 2), 3, 1, (), (*whole, (((1, 1),), 1, ("get", 2)))), True)
        self.assertIs(shows_strategy((1, 2), 3, 1, (), (*whole, (((1, 1),), 3, ("free", 1)))), True)
        self.assertIs(shows_strategy((1, 2), 3, 1, (), (*whole, (((1, 1),), 2, ("free", 1)))), False)
        self.assertIs(shows_strategy((1, 2), 3, 1, (), (*whole, (((2, 1),), 1, ("get", 2)))), False)

    def test_values_of_every_kind(self):
        for value in values():
            for chain, limit, pages, state in (((1, 2), 3, 1, ()), ((1,), 1, 0, ())):
                for around in (value, (value,), ((value, 1, ("get", 1)),), (((), value, ("get", 1)),), (((), 1, value),),
                               (((), 1, ("get", value)),), (((), 1, (value, 1)),), (((), 1, ("free", value)),),
                               (((), 2, ("get", 2)), (((0, 2),), value, ("get", 1))),
                               (((), 2, ("get", 2)), (((0, 2),), 1, ("get", value))), (((), 1, ("get", 1), value),)):
                    self.assert_strategy(chain, limit, pages, state, around)

    def test_never_a_strategy_for_a_safe_state(self):
        cases = (((1, 2), 3, 2), ((1, 2), 4, 2), ((1, 3), 3, 2), ((1, 2, 4), 4, 2), ((1,), 2, 2), ((1, 2), 4, 3))
        for chain, limit, pages in cases:
            unsafe = moves_by_rounds(chain, limit, pages)
            states = states_by_word(chain, pages, limit)
            known = {now: row for state in unsafe for now, *row in strategy(chain, limit, pages, state)}
            for state in [state for state in states if state not in unsafe]:
                requests = [("get", size) for size in sizes_allowed(chain, limit, state)]
                requests += [("free", address) for address, size in state]
                for request in requests:
                    for moves in (1, 2, 1000):
                        rows = {**known, state: [moves, request]}
                        value = tuple((now, *rows[now]) for now in sorted(rows))
                        self.assertIs(shows_strategy(chain, limit, pages, state, value), False)


if __name__ == "__main__":
    unittest.main()
