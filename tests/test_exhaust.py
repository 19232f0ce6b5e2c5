"""Pressure: exhaust, shows_exhaustion."""

import unittest

from pinnedheap.bounds import pages_needed
from pinnedheap.errors import BadPlace
from pinnedheap.pressure import exhaust, shows_exhaustion
from pinnedheap.rules import allocator
from tests.samples import (RULES, assert_error, changed_events, expected_requests, first_bad_event, is_plain_integer,
                           place_by_word, places_by_word, random_history, shown, values)

CASES = (
    ((1,), 0), ((1,), 1), ((1,), 5), ((1, 2), 0), ((1, 2), 1), ((1, 2), 3), ((1, 2), 4), ((1, 2), 7), ((1, 3), 9), ((1, 5), 11),
    ((1, 2, 4), 3), ((1, 2, 4), 8), ((1, 2, 4), 13), ((1, 2, 6), 12), ((1, 3, 6), 18), ((1, 2, 4, 8), 16), ((1, 4, 8), 17),
)


def run_by_hand(chain, limit, allocate):
    """Return the events of all requests, up to a get that was answered by None."""
    answers = []
    events = []
    while True:
        request, phase, state = expected_requests(chain, limit, answers)
        if request is None:
            return None
        if request[0] == "free":
            answers.append(None)
            events.append(request)
            continue
        answers.append(allocate(state, request[1]))
        events.append((*request, answers[-1]))
        if answers[-1] is None:
            return tuple(events)


def by_word(rule, chain, pages):
    return lambda state, size: place_by_word(rule, chain, pages, state, size)


def odd_choice(chain, pages):
    """Return an allocator that takes a place by a sum of the addresses that are in use."""
    def allocate(state, size):
        found = places_by_word(chain, pages, state, size)
        return found[sum(address for address, taken in state) % len(found)] if found else None
    return allocate


def shows_by_word(chain, limit, pages, value):
    """Look at a value as shows_exhaustion should, by marking words."""
    if type(value) is not tuple or value == ():
        return False
    last = value[-1]
    if type(last) is not tuple or len(last) != 3 or last[0] != "get" or last[2] is not None:
        return False
    size = last[1]
    if not is_plain_integer(size) or size not in chain or first_bad_event(chain, pages, limit, value[:-1]) is not None:
        return False
    live = {}
    for event in value[:-1]:
        if event[0] == "get":
            live[event[2]] = event[1]
        else:
            del live[event[1]]
    return sum(live.values()) + size <= limit and not places_by_word(chain, pages, live.items(), size)


class Exhaust(unittest.TestCase):
    def test_examples(self):
        found = exhaust((1, 2), 4, 2, allocator("lowest", (1, 2), 2))
        self.assertEqual(found[3:], (("get", 1, 3), ("free", 1), ("free", 3), ("get", 2, None)))
        self.assertIs(exhaust((1, 2), 4, 3, allocator("lowest", (1, 2), 3)), None)

    def test_section_16(self):
        self.assertIs(exhaust((1, 2, 4), 8, 4, allocator("lowest", (1, 2, 4), 4)), None)
        found = exhaust((1, 2, 4), 8, 3, allocator("lowest", (1, 2, 4), 3))
        expected = [("get", 1, address) for address in range(8)] + [("free", address) for address in (1, 3, 5, 7)]
        expected += [("get", 2, 8), ("get", 2, 10), ("free", 2), ("free", 6), ("free", 10), ("get", 4, None)]
        self.assertEqual(found, tuple(expected))

    def assert_exhaust(self, chain, limit, pages, allocate, expected):
        found = exhaust(chain, limit, pages, allocate)
        self.assertEqual(shown(found), shown(expected), (chain, limit, pages))
        self.assertEqual(exhaust(allocate=allocate, pages=pages, limit=limit, chain=chain), expected)
        if expected is not None:
            self.assertIs(shows_exhaustion(chain, limit, pages, found), True)

    def test_each_rule_around_the_pages_needed(self):
        for chain, limit in CASES:
            needed = pages_needed(chain, limit)
            for rule in RULES:
                for pages in range(max(0, needed - 2), needed + 3):
                    expected = run_by_hand(chain, limit, by_word(rule, chain, pages))
                    self.assert_exhaust(chain, limit, pages, allocator(rule, chain, pages), expected)

    def test_just_enough_pages(self):
        for chain, limit in CASES:
            pages = pages_needed(chain, limit)
            self.assertIs(exhaust(chain, limit, pages, allocator("lowest", chain, pages)), None)

    def test_one_page_fewer(self):
        for chain, limit in CASES:
            for pages in range(pages_needed(chain, limit)):
                for allocate in (*[allocator(rule, chain, pages) for rule in RULES], odd_choice(chain, pages)):
                    found = exhaust(chain, limit, pages, allocate)
                    self.assertIs(type(found), tuple)
                    self.assertEqual(found[-1][2], None)
                    self.assertIs(shows_exhaustion(chain, limit, pages, found), True)
                    self.assertTrue(shows_by_word(chain, limit, pages, found))

    def test_limit_0(self):
        for chain in ((1,), (1, 2), (1, 2, 4), (1, 10**9)):
            for pages in (0, 1):
                self.assertIs(exhaust(chain, 0, pages, lambda state, size: self.fail("there is no get")), None)

    def test_no_pages(self):
        self.assertEqual(exhaust((1, 2), 3, 0, allocator("tight", (1, 2), 0)), (("get", 1, None),))

    def test_the_allocator_is_called_for_each_get(self):
        for chain, limit in CASES:
            for pages in (pages_needed(chain, limit), max(0, pages_needed(chain, limit) - 1)):
                calls = []
                answers = []

                def allocate(state, size, /, calls=calls, answers=answers, chain=chain, pages=pages):
                    calls.append((state, size))
                    answers.append(place_by_word("lowest", chain, pages, state, size))
                    return answers[-1]

                found = exhaust(chain, limit, pages, allocate)
                expected = []
                run_by_hand(chain, limit, lambda state, size: expected.append((state, size)) or answers[len(expected) - 1])
                self.assertEqual(shown(calls), shown(expected))
                if found is not None:
                    self.assertEqual([event[1:] for event in found if event[0] == "get"],
                                     [(call[1], answer) for call, answer in zip(calls, answers)])

    def test_an_allocator_that_gives_up_early(self):
        for chain, limit in CASES:
            pages = pages_needed(chain, limit)
            for turns in range(6):
                calls = []

                def allocate(state, size, calls=calls, chain=chain, pages=pages, turns=turns):
                    calls.append(size)
                    return None if len(calls) > turns else place_by_word("highest", chain, pages, state, size)

                expected = run_by_hand(chain, limit, allocate)
                calls.clear()
                found = exhaust(chain, limit, pages, allocate)
                self.assertEqual(shown(found), shown(expected))
                if found is not None:
                    self.assertIs(shows_exhaustion(chain, limit, pages, found), shows_by_word(chain, limit, pages, found))

    def test_an_early_none_shows_nothing(self):
        found = exhaust((1, 2), 4, 3, lambda state, size: None)
        self.assertEqual(found, (("get", 1, None),))
        self.assertIs(shows_exhaustion((1, 2), 4, 3, found), False)

    def test_answers_of_every_kind(self):
        for value in values():
            if value is None or is_plain_integer(value) and 0 <= value < 6:
                continue
            assert_error(self, BadPlace, "address", value, exhaust, (1, 2), 4, 3, lambda state, size: value)
            assert_error(self, BadPlace, "address", value, exhaust, allocate=lambda state, size: value, pages=3, limit=4,
                         chain=(1, 2))

    def test_answers_of_every_kind_to_a_later_get(self):
        for value in values():
            # The live blocks are (0, 1) and (2, 1); places for two words are 4 and 6.
            if value is None or is_plain_integer(value) and value in (4, 6):
                continue
            assert_error(self, BadPlace, "address", value, exhaust, (1, 2), 4, 4,
                         lambda state, size: len(state) if size == 1 else value)

    def test_addresses_that_are_no_places(self):
        for address in (0, 1, 2, 3, 5, 7, 8, 9, 10, -2, -1, 10**30):
            assert_error(self, BadPlace, "address", address, exhaust, (1, 2), 4, 4,
                         lambda state, size: len(state) if size == 1 else address)
        for address in (6, 7, 8, -1):
            assert_error(self, BadPlace, "address", address, exhaust, (1, 2), 4, 3, lambda state, size: address)

    def test_an_address_beyond_the_last_page_is_no_place(self):
        # The request program itself would take it.
        for pages in range(4):
            assert_error(self, BadPlace, "address", 2 * pages, exhaust, (1, 2), 4, pages, lambda state, size: 2 * pages)

    def test_a_taken_address(self):
        assert_error(self, BadPlace, "address", 0, exhaust, (1, 2), 4, 3, lambda state, size: 0)


class ShowsExhaustion(unittest.TestCase):
    def assert_shows(self, chain, limit, pages, value):
        before = shown(value)
        expected = shows_by_word(chain, limit, pages, value)
        self.assertIs(shows_exhaustion(chain, limit, pages, value), expected, before)
        self.assertIs(shows_exhaustion(value=value, pages=pages, limit=limit, chain=chain), expected, before)
        self.assertEqual(shown(value), before)
        return expected

    def test_examples(self):
        value = (("get", 1, 1), ("get", 2, None))
        self.assertEqual((shows_exhaustion((1, 2), 3, 1, value), shows_exhaustion((1, 2), 2, 1, value)), (True, False))

    def test_what_exhaust_returned(self):
        for chain, limit in CASES:
            for pages in range(pages_needed(chain, limit)):
                for rule in RULES:
                    found = exhaust(chain, limit, pages, allocator(rule, chain, pages))
                    self.assertTrue(self.assert_shows(chain, limit, pages, found))

    def test_other_heaps(self):
        found = exhaust((1, 2, 4), 8, 3, allocator("lowest", (1, 2, 4), 3))
        results = {(limit, pages): self.assert_shows((1, 2, 4), limit, pages, found) for limit in range(12) for pages in range(6)}
        self.assertEqual([key for key in results if results[key]], [(8, 3), (9, 3), (10, 3), (11, 3)])

    def test_one_thing_changed_at_any_depth(self):
        many = {True: 0, False: 0}
        for chain, limit, rule in (((1,), 2, "lowest"), ((1, 2), 4, "lowest"), ((1, 2), 5, "highest"), ((1, 3), 6, "tight"),
                                   ((1, 2, 4), 8, "loose"), ((1, 2, 4), 8, "lowest")):
            pages = pages_needed(chain, limit) - 1
            found = exhaust(chain, limit, pages, allocator(rule, chain, pages))
            for value in changed_events(found):
                many[self.assert_shows(chain, limit, pages, value)] += 1
        self.assertGreater(min(many.values()), 10)

    def test_other_kinds_around_it(self):
        found = exhaust((1, 2), 4, 2, allocator("lowest", (1, 2), 2))
        for value in (list(found), [found], (found,), {0: found}, str(found), tuple(list(event) for event in found), found[:-1],
                      found[1:], found[::-1], found + found[-1:], (*found, ("free", 0)), (*found[:-1], None), ()):
            self.assertFalse(self.assert_shows((1, 2), 4, 2, value))

    def test_values_of_every_kind(self):
        for value in values():
            for chain, limit, pages in (((1,), 1, 0), ((1, 2), 4, 2), ((1, 2, 4), 0, 0)):
                self.assertFalse(self.assert_shows(chain, limit, pages, value))
                self.assertFalse(self.assert_shows(chain, limit, pages, (value,)))
                self.assertFalse(self.assert_shows(chain, limit, pages, (value, ("get", value, None))))
                self.assertFalse(self.assert_shows(chain, limit, pages, (value, ("get", 1, None))))
            self.assert_shows((1, 2), 4, 0, (("get", value, None),))
            self.assert_shows((1,), 1, 0, (("get", 1, value),))
            self.assert_shows((1,), 1, 0, ((value, 1, None),))
            self.assert_shows((1,), 1, 0, (("get", 1, None, value),))

    def test_a_get_that_fails_at_once(self):
        self.assertIs(shows_exhaustion((1, 2), 2, 0, (("get", 2, None),)), True)
        self.assertIs(shows_exhaustion((1, 2), 1, 0, (("get", 2, None),)), False)
        self.assertIs(shows_exhaustion((1, 2), 1, 0, (("get", 1, None),)), True)
        self.assertIs(shows_exhaustion((1, 2), 0, 0, (("get", 1, None),)), False)
        self.assertIs(shows_exhaustion((1, 2), 4, 0, (("get", True, None),)), False)
        self.assertIs(shows_exhaustion((1, 2), 4, 0, (("get", 3, None),)), False)
        self.assertIs(shows_exhaustion((1, 2), 4, 1, (("get", 2, None),)), False)

    def test_a_failed_get_before_the_end(self):
        self.assertIs(shows_exhaustion((1, 2), 4, 0, (("get", 2, None), ("get", 2, None))), False)
        self.assertIs(shows_exhaustion((1, 2), 4, 1, (("get", 2, 0), ("get", 1, None), ("get", 1, None))), False)

    def test_the_limit_is_looked_at_on_the_way(self):
        events = (*[("get", 1, address) for address in range(6)], ("free", 1), ("free", 3), ("free", 5), ("get", 2, None))
        self.assertIs(shows_exhaustion((1, 2), 6, 3, events), True)
        # The last get would be within a limit of 5, but the sixth block is not.
        self.assertIs(shows_exhaustion((1, 2), 5, 3, events), False)
        self.assertIs(shows_exhaustion((1, 2), 5, 3, (*events[:5], *events[6:8], events[-1])), True)

    def test_histories_with_a_failed_get_behind_them(self):
        many = {True: 0, False: 0}
        for seed in range(60):
            for chain, pages, limit in (((1, 2), 3, 5), ((1, 2, 4), 2, 8), ((1, 3), 2, 6)):
                history = random_history(chain, pages, limit, 4 + seed % 9, seed)
                for size in chain:
                    many[self.assert_shows(chain, limit, pages, (*history, ("get", size, None)))] += 1
        self.assertGreater(min(many.values()), 20)

    def test_a_long_history(self):
        history = tuple(("get", 1, address) for address in range(0, 2000, 2))
        self.assertIs(shows_exhaustion((1, 2), 1002, 1000, (*history, ("get", 2, None))), True)
        self.assertIs(shows_exhaustion((1, 2), 1001, 1000, (*history, ("get", 2, None))), False)
        self.assertIs(shows_exhaustion((1, 2), 1002, 1000, (*history[:-1], ("get", 2, None))), False)


if __name__ == "__main__":
    unittest.main()
