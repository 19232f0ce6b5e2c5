"""Growing heaps: open_after, worst_pages, worst_history."""

import random
import unittest

from pinnedheap.bounds import careless_pages, pages_needed
from pinnedheap.errors import BadEvent, BadRule
from pinnedheap.growing import open_after, worst_history, worst_pages
from tests.samples import (RULES, added, assert_error, assert_too_many, changed_events, place_by_word, removed, shown, values,
                           words_in_blocks)

CHAIN = (1, 2, 4)
# Chains and limits for which all histories can be looked at.
WORST = (
    ((1,), 0), ((1,), 1), ((1,), 4), ((1,), 7), ((1, 2), 0), ((1, 2), 1), ((1, 2), 2), ((1, 2), 3), ((1, 2), 4), ((1, 2), 5),
    ((1, 2), 6), ((1, 3), 2), ((1, 3), 3), ((1, 3), 4), ((1, 3), 5), ((1, 3), 6), ((1, 4), 4), ((1, 4), 5), ((1, 4), 6),
    ((1, 2, 4), 3), ((1, 2, 4), 4), ((1, 2, 4), 5), ((1, 2, 6), 5), ((1, 2, 6), 6), ((1, 3, 6), 6), ((1, 50), 3), ((1, 10**9), 0),
)
TOO_MANY = (((1,), 15), ((1, 2), 20), ((1, 2000), 2000), ((1, 5, 10), 1000))


class Record:
    """A growing heap that marks its pages and blocks."""

    def __init__(self, chain, limit, rule):
        self.chain, self.limit, self.rule = chain, limit, rule
        self.pages = 0
        self.state = ()
        self.history = []

    def address(self, size):
        found = place_by_word(self.rule, self.chain, self.pages, self.state, size)
        return self.pages * self.chain[-1] if found is None else found

    def allows(self, size):
        return words_in_blocks(self.state) + size <= self.limit

    def get(self, size):
        address = self.address(size)
        self.pages = max(self.pages, (address + size - 1) // self.chain[-1] + 1)
        self.state = added(self.state, address, size)
        self.history.append(("get", size, address))

    def free(self, address):
        self.state = removed(self.state, address)
        self.history.append(("free", address))


def random_record(chain, limit, rule, many, seed):
    """Return a record after so many events."""
    chance = random.Random(seed)
    record = Record(chain, limit, rule)
    while len(record.history) < many:
        size = chance.choice(chain)
        if record.allows(size) and (not record.state or chance.random() < 0.6):
            record.get(size)
        elif record.state:
            record.free(chance.choice(record.state)[0])
    return record


def first_bad_item(chain, limit, rule, history):
    """Return the index of the first item that a growing heap does not do so, None if all are right."""
    record = Record(chain, limit, rule)
    for number, item in enumerate(history):
        if type(item) is not tuple or any(type(part) is not int for part in item[1:]):
            return number
        if len(item) == 2 and item[0] == "free" and item[1] in [address for address, size in record.state]:
            record.free(item[1])
        elif (len(item) == 3 and item[0] == "get" and item[1] in chain and record.allows(item[1])
              and record.address(item[1]) == item[2]):
            record.get(item[1])
        else:
            return number
    return None


def search(chain, limit, rule):
    """Return pairs (most open pages, fewest events) of all histories, by steps of a record."""
    lengths = {(0, ()): 0}
    left = [(0, ())]
    for pages, state in left:
        record = Record(chain, limit, rule)
        for step in [("free", address) for address, size in state] + [("get", size) for size in chain]:
            record.pages, record.state = pages, state
            if step[0] == "free":
                record.free(step[1])
            elif record.allows(step[1]):
                record.get(step[1])
            after = (record.pages, record.state)
            if after not in lengths:
                lengths[after] = lengths[pages, state] + 1
                left.append(after)
    most = max(pages for pages, state in lengths)
    return most, min(lengths[pages, state] for pages, state in lengths if pages == most)


def no_rules():
    return [value for value in values() if value != "lowest"] + ["Lowest", "lowest ", "tight\n", ("lowest",), ["tight"], "best"]


class OpenAfter(unittest.TestCase):
    def assert_open(self, expected, chain, limit, rule, history):
        self.assertEqual(shown(open_after(chain, limit, rule, history)), shown(expected), (chain, limit, rule, history))
        self.assertEqual(open_after(history=history, rule=rule, limit=limit, chain=chain), expected)

    def assert_bad(self, number, chain, limit, rule, history):
        before = shown(history)
        for arguments, named in (((chain, limit, rule, history), {}),
                                 ((), {"history": history, "rule": rule, "limit": limit, "chain": chain})):
            with self.assertRaises(BadEvent, msg=before) as caught:
                open_after(*arguments, **named)
            self.assertIs(type(caught.exception), BadEvent)
            self.assertEqual(shown(caught.exception.number), shown(number), before)
        self.assertEqual(shown(history), before)

    def test_example(self):
        self.assertEqual(open_after((1, 2), 4, "lowest", (("get", 1, 0), ("get", 2, 2), ("free", 2))), 2)

    def test_no_events(self):
        for rule in RULES:
            for chain, limit in (((1,), 0), (CHAIN, 8), ((1, 10**9), 10**18)):
                self.assert_open(0, chain, limit, rule, ())

    def test_each_rule_against_a_record(self):
        for seed in range(12):
            for chain, limit in (((1,), 5), ((1, 2), 6), ((1, 3), 9), (CHAIN, 9), ((1, 2, 6), 14), ((1, 4, 8), 20)):
                for rule in RULES:
                    record = random_record(chain, limit, rule, 30, seed)
                    self.assert_open(record.pages, chain, limit, rule, tuple(record.history))

    def test_each_beginning_of_a_history(self):
        for rule in RULES:
            history = tuple(random_record(CHAIN, 9, rule, 25, 3).history)
            for many in range(26):
                record = Record(CHAIN, 9, rule)
                for event in history[:many]:
                    record.get(event[1]) if event[0] == "get" else record.free(event[1])
                self.assert_open(record.pages, CHAIN, 9, rule, history[:many])

    def test_pages_stay_open(self):
        history = (("get", 4, 0), ("get", 4, 4), ("free", 0), ("free", 4))
        for rule in RULES:
            self.assert_open(2, CHAIN, 8, rule, history)
        self.assert_open(2, CHAIN, 8, "highest", (*history, ("get", 4, 4)))
        self.assert_bad(4, CHAIN, 8, "highest", (*history, ("get", 4, 0)))
        for rule in ("lowest", "tight", "loose"):
            self.assert_open(2, CHAIN, 8, rule, (*history, ("get", 4, 0)))

    def test_the_rules_differ(self):
        start = (("get", 4, 0), ("get", 4, 4), ("free", 0), ("free", 4), ("get", 1, 0))
        self.assert_open(2, CHAIN, 8, "lowest", (*start, ("get", 1, 1)))
        self.assert_open(2, CHAIN, 8, "tight", (*start, ("get", 1, 1)))
        self.assert_open(2, CHAIN, 8, "loose", (*start, ("get", 1, 4)))
        self.assert_bad(5, CHAIN, 8, "loose", (*start, ("get", 1, 1)))
        self.assert_bad(5, CHAIN, 8, "tight", (*start, ("get", 1, 4)))
        self.assert_bad(4, CHAIN, 8, "highest", start)
        self.assert_open(2, CHAIN, 8, "highest", (*start[:4], ("get", 1, 7), ("get", 1, 6)))

    def test_a_new_page_is_used_from_its_first_word(self):
        for rule in RULES:
            self.assert_open(1, CHAIN, 8, rule, (("get", 1, 0),))
            for address in (1, 2, 3, 4):
                self.assert_bad(0, CHAIN, 8, rule, (("get", 1, address),))
            self.assert_bad(1, CHAIN, 8, rule, (("get", 4, 0), ("get", 1, 7)))
            self.assert_open(2, CHAIN, 8, rule, (("get", 4, 0), ("get", 1, 4)))

    def test_one_page_is_opened_at_a_time(self):
        for rule in RULES:
            self.assert_bad(0, CHAIN, 8, rule, (("get", 4, 4),))
            self.assert_bad(1, CHAIN, 8, rule, (("get", 4, 0), ("get", 4, 8)))

    def test_bad_rules(self):
        for value in no_rules():
            for history in ((), (("get", 1, 0),), None, (("free", 9),), [], (None,)):
                assert_error(self, BadRule, "rule", value, open_after, CHAIN, 8, value, history)
                assert_error(self, BadRule, "rule", value, open_after, history=history, rule=value, limit=8, chain=CHAIN)

    def test_values_that_are_no_tuples(self):
        for value in [*values(), [("get", 1, 0)], [], {}, "get", None]:
            if not isinstance(value, tuple):
                for rule in RULES:
                    self.assert_bad(0, CHAIN, 8, rule, value)

    def test_items_of_every_kind(self):
        history = (("get", 1, 0), ("get", 4, 4), ("free", 0))
        for rule in RULES:
            for many in range(4):
                for value in values():
                    right = shown(value) == shown(("get", 1, 0)) and (many == 0 or many == 3 and rule != "highest")
                    if not right:
                        self.assert_bad(many, CHAIN, 8, rule, (*history[:many], value))
                        self.assert_bad(many, CHAIN, 8, rule, (*history[:many], value, *history[many:]))

    def test_parts_of_every_kind(self):
        for rule in RULES:
            for value in values():
                self.assert_bad(0, CHAIN, 8, rule, ((value, 1, 0),))
                if shown(value) not in (shown(1), shown(2), shown(4)):
                    self.assert_bad(0, CHAIN, 8, rule, (("get", value, 0),))
                if shown(value) != shown(0):
                    self.assert_bad(0, CHAIN, 8, rule, (("get", 1, value),))
                    self.assert_bad(1, CHAIN, 8, rule, (("get", 1, 0), ("free", value)))
                self.assert_bad(1, CHAIN, 8, rule, (("get", 1, 0), (value, 0)))
                self.assert_bad(1, CHAIN, 8, rule, (("get", 1, 0), ("free", 0, value)))
                self.assert_bad(0, CHAIN, 8, rule, (("get", 1, 0, value),))

    def test_a_get_that_failed(self):
        for rule in RULES:
            for size in CHAIN:
                self.assert_bad(0, CHAIN, 8, rule, (("get", size, None),))
                self.assert_bad(1, CHAIN, 4, rule, (("get", 4, 0), ("get", size, None)))

    def test_the_limit(self):
        for rule in RULES:
            self.assert_bad(0, CHAIN, 0, rule, (("get", 1, 0),))
            self.assert_bad(0, CHAIN, 3, rule, (("get", 4, 0),))
            self.assert_open(1, CHAIN, 4, rule, (("get", 4, 0),))
            self.assert_bad(1, CHAIN, 4, rule, (("get", 4, 0), ("get", 1, 4)))
            self.assert_open(2, CHAIN, 5, rule, (("get", 4, 0), ("get", 1, 4)))

    def test_the_first_bad_item_counts(self):
        self.assert_bad(1, CHAIN, 8, "lowest", (("get", 1, 0), None, ("free", 7), "x"))
        self.assert_bad(1, CHAIN, 8, "lowest", (("get", 1, 0), ("free", 7), None, "x"))
        self.assert_bad(1, CHAIN, 8, "lowest", (("get", 4, 0), ("free", 1)))
        self.assert_bad(2, CHAIN, 8, "lowest", (("get", 4, 0), ("free", 0), ("free", 0)))

    def test_histories_with_one_thing_changed(self):
        many = 0
        for rule in RULES:
            for chain, limit in ((CHAIN, 8), ((1, 3), 7)):
                for value in changed_events(tuple(random_record(chain, limit, rule, 9, 5).history)):
                    number = first_bad_item(chain, limit, rule, value)
                    if number is None:
                        many += 1
                        self.assertIs(type(open_after(chain, limit, rule, value)), int)
                    else:
                        self.assert_bad(number, chain, limit, rule, value)
        self.assertGreater(many, 5)

    def test_long_histories(self):
        for rule in RULES:
            record = random_record((1, 2, 10), 300, rule, 2000, 7)
            self.assert_open(record.pages, (1, 2, 10), 300, rule, tuple(record.history))
            self.assert_bad(2000, (1, 2, 10), 300, rule, (*record.history, ("free", 10**6)))


class Worst(unittest.TestCase):
    def test_examples(self):
        self.assertEqual((worst_pages((1, 2), 4, "lowest"), worst_pages((1, 2), 0, "loose")), (3, 0))
        self.assertEqual(open_after((1, 2), 3, "lowest", worst_history((1, 2), 3, "lowest")), 2)

    def test_against_a_search(self):
        for chain, limit in WORST:
            for rule in RULES:
                most, fewest = search(chain, limit, rule)
                where = (chain, limit, rule)
                self.assertEqual(shown(worst_pages(chain, limit, rule)), shown(most), where)
                self.assertEqual(worst_pages(rule=rule, limit=limit, chain=chain), most, where)
                history = worst_history(chain, limit, rule)
                self.assertIs(type(history), tuple)
                self.assertEqual(len(history), fewest, where)
                self.assertEqual(first_bad_item(chain, limit, rule, history), None, where)
                self.assertEqual(open_after(chain, limit, rule, history), most, where)
                self.assertEqual(shown(worst_history(rule=rule, limit=limit, chain=chain)), shown(history), where)

    def test_limit_0(self):
        for chain in ((1,), CHAIN, (1, 10**9)):
            for rule in RULES:
                self.assertEqual((worst_pages(chain, 0, rule), worst_history(chain, 0, rule)), (0, ()))

    def test_lowest_opens_the_pages_needed(self):
        for chain, limit in (*WORST, ((1, 2), 8), ((1, 2), 9), ((1, 3), 9), ((1, 2, 4), 8), ((1, 5), 11), ((1, 2, 6), 9)):
            self.assertEqual(worst_pages(chain, limit, "lowest"), pages_needed(chain, limit), (chain, limit))

    def test_no_rule_opens_fewer_and_none_more_than_careless_pages(self):
        seen = set()
        for chain, limit in (*WORST, ((1, 2), 7), ((1, 3), 7)):
            for rule in RULES:
                found = worst_pages(chain, limit, rule)
                self.assertGreaterEqual(found, pages_needed(chain, limit))
                self.assertLessEqual(found, careless_pages(chain, limit))
                seen.add((rule, found > pages_needed(chain, limit)))
        self.assertIn(("highest", True), seen)
        self.assertIn(("loose", True), seen)

    def test_bad_rules(self):
        for value in no_rules():
            for chain, limit in (((1, 2), 3), ((1, 2), 0), *TOO_MANY[:2]):
                for function in (worst_pages, worst_history):
                    assert_error(self, BadRule, "rule", value, function, chain, limit, value)
                    assert_error(self, BadRule, "rule", value, function, rule=value, limit=limit, chain=chain)

    def test_too_many_pairs(self):
        for chain, limit in TOO_MANY:
            for rule in RULES:
                assert_too_many(self, worst_pages, chain, limit, rule)
                assert_too_many(self, worst_history, rule=rule, limit=limit, chain=chain)

    def test_just_few_enough_pairs(self):
        # With pages of one word, the pairs are the states of the open pages without the last ones that were never used.
        for rule in RULES:
            self.assertEqual(worst_pages((1,), 13, rule), 13)
            self.assertEqual(len(worst_history((1,), 13, rule)), 13)
        # All states of 14 words, and those on which fewer pages are open: 2**14 + 2**13 + ... + 1 pairs.
        assert_too_many(self, worst_pages, (1,), 14, "lowest")

    def test_closest_to_the_most_pairs(self):
        # No chain with a page of up to 30 words has exactly 20000 pairs: 19935 are the most below, 20215 the fewest above.
        self.assertEqual(worst_pages((1, 6, 12), 10, "loose"), 2)
        self.assertEqual(open_after((1, 6, 12), 10, "loose", worst_history((1, 6, 12), 10, "loose")), 2)
        for rule in ("lowest", "tight", "loose"):
            assert_too_many(self, worst_pages, (1, 9, 27), 14, rule)
        assert_too_many(self, worst_history, (1, 2), 10, "lowest")

    def test_the_rule_decides_whether_there_are_too_many(self):
        self.assertEqual(worst_pages((1, 2), 8, "lowest"), 6)
        self.assertEqual(worst_pages((1, 2), 8, "loose"), 7)
        assert_too_many(self, worst_pages, (1, 2), 8, "highest")


if __name__ == "__main__":
    unittest.main()
