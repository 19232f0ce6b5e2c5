"""Pressure: class Pressure."""

import copy
import unittest

from pinnedheap.bounds import bounds
from pinnedheap.errors import BadAnswer, Finished
from pinnedheap.pressure import Pressure
from pinnedheap.states import is_state
from tests.samples import (assert_error, busy_chunks, expected_requests, is_plain_integer, places_by_word, shown,
                           values)

CHAINS = ((1,), (1, 2), (1, 3), (1, 2, 4), (1, 2, 6), (1, 10**9), tuple(2**k for k in range(12)))


def answered(chain, limit, answers):
    """Return a request program that was given these answers."""
    program = Pressure(chain, limit)
    for answer in answers:
        program.answer(answer)
    return program


class PressureCase(unittest.TestCase):
    def assert_program(self, program, request, phase, state):
        found = (program.request(), program.phase(), program.state())
        self.assertEqual(shown(found), shown((request, phase, state)))
        self.assertEqual(shown((program.request(), program.phase(), program.state())), shown(found))

    def assert_refused(self, program, value):
        before = (program.request(), program.phase(), program.state())
        assert_error(self, BadAnswer, "value", value, program.answer, value)
        self.assertEqual((program.request(), program.phase(), program.state()), before)


class Examples(PressureCase):
    def test_first(self):
        a = Pressure((1, 2), 4)
        found = (a.request(), a.answer(0), a.answer(1), a.answer(2), a.answer(3))
        self.assertEqual(found, (("get", 1), None, None, None, None))

    def test_second(self):
        a = Pressure((1, 2), 2)
        found = (a.answer(0), a.answer(1), a.request(), a.phase(), a.answer(None), a.request(), a.state())
        self.assertEqual(found, (None, None, ("free", 1), 1, None, None, ((0, 1),)))

    def test_by_name(self):
        program = Pressure(limit=2, chain=(1, 2))
        self.assert_program(program, ("get", 1), 0, ())

    def test_section_16(self):
        program = Pressure((1, 2, 4), 8)
        script = [(("get", 1), 0, address) for address in range(8)]
        script += [(("free", address), 1, None) for address in (1, 3, 5, 7)]
        script += [(("get", 2), 1, 8), (("get", 2), 1, 10)]
        script += [(("free", address), 2, None) for address in (2, 6, 10)]
        script += [(("get", 4), 2, 12)]
        for request, phase, answer in script:
            self.assertEqual((program.request(), program.phase()), (request, phase))
            self.assertIs(program.answer(answer), None)
        self.assert_program(program, None, 2, ((0, 1), (4, 1), (8, 2), (12, 4)))

    def test_the_keepers_are_those_of_the_beginning_of_the_phase(self):
        # In phase 1 words 0 and 1 are free, so a block of two words goes there; nothing else is freed for it.
        program = answered((1, 2), 6, (2, 3, 4, 5, 6, 7, None, None, None, 0))
        self.assert_program(program, None, 1, ((0, 2), (2, 1), (4, 1), (6, 1)))

    def test_the_smallest_block_of_a_chunk_is_kept(self):
        # Chunk 0 has a block of two words before one of one word.
        program = answered((1, 2, 4), 4, (2, 3, 6, 7, None, None, 0))
        self.assert_program(program, ("free", 0), 2, ((0, 2), (2, 1), (6, 1)))
        program.answer(None)
        self.assert_program(program, None, 2, ((2, 1), (6, 1)))


class EveryAnswer(PressureCase):
    def walk(self, chain, limit, pages):
        """Try every answer on a heap with so many pages, and return how many states were looked at."""
        many = 0
        left = [(Pressure(chain, limit), ())]
        while left:
            program, answers = left.pop()
            many += 1
            request, phase, state = expected_requests(chain, limit, answers)
            self.assert_program(program, request, phase, state)
            self.assertIs(is_state(chain, 10**9, program.state()), True)
            if request is not None:
                tried = places_by_word(chain, pages, state, request[1]) if request[0] == "get" else (None,)
                self.refuse_the_others(program, pages * chain[-1], tried)
                left.extend((self.after(program, answer), (*answers, answer)) for answer in tried)
        return many

    def after(self, program, answer):
        other = copy.deepcopy(program)
        self.assertIs(other.answer(answer), None)
        return other

    def refuse_the_others(self, program, words, tried):
        for value in (None, False, True, "0", (0,), -1, -2, *range(words)):
            if shown(value) not in [shown(answer) for answer in tried]:
                self.assert_refused(program, value)

    def test_one_size(self):
        for limit in range(4):
            self.assertGreater(self.walk((1,), limit, 5), limit)

    def test_two_sizes(self):
        for limit in range(5):
            self.assertGreater(self.walk((1, 2), limit, 3), limit)

    def test_thirds(self):
        for limit in range(5):
            self.assertGreater(self.walk((1, 3), limit, 2), limit)

    def test_three_sizes(self):
        for limit in range(5):
            self.assertGreater(self.walk((1, 2, 4), limit, 2), limit)


class Phases(PressureCase):
    def test_phases_without_requests_are_left_out(self):
        self.assert_program(answered((1, 2, 4), 1, (5,)), None, 2, ((5, 1),))
        self.assert_program(answered((1, 2), 2, (0, 2)), None, 1, ((0, 1), (2, 1)))
        self.assert_program(answered((1, 2, 4), 2, (0, 2)), ("free", 2), 2, ((0, 1), (2, 1)))
        self.assert_program(answered((1, 2, 4, 8), 2, (0, 4)), ("free", 4), 3, ((0, 1), (4, 1)))

    def test_limit_0(self):
        for chain in CHAINS:
            program = Pressure(chain, 0)
            self.assert_program(program, None, len(chain) - 1, ())
            for value in values():
                with self.assertRaises(Finished) as caught:
                    program.answer(value)
                self.assertIs(type(caught.exception), Finished)
            self.assert_program(program, None, len(chain) - 1, ())

    def test_limit_1(self):
        for chain in CHAINS:
            self.assert_program(Pressure(chain, 1), ("get", 1), 0, ())
            self.assert_program(answered(chain, 1, (7,)), None, len(chain) - 1, ((7, 1),))

    def test_finished_at_the_end(self):
        program = answered((1, 2), 4, (0, 1, 2, 3, None, None, 4))
        self.assert_program(program, None, 1, ((0, 1), (2, 1), (4, 2)))
        for value in [*values(), 6, None]:
            with self.assertRaises(Finished):
                program.answer(value)
            self.assert_program(program, None, 1, ((0, 1), (2, 1), (4, 2)))

    def test_two_programs_are_independent(self):
        first, second = Pressure((1, 2), 2), Pressure((1, 2), 2)
        first.answer(0)
        first.answer(1)
        self.assert_program(first, ("free", 1), 1, ((0, 1), (1, 1)))
        self.assert_program(second, ("get", 1), 0, ())

    def test_what_was_returned_does_not_change(self):
        program = answered((1, 2), 2, (0, 1))
        request, state = program.request(), program.state()
        program.answer(None)
        self.assertEqual((request, state), (("free", 1), ((0, 1), (1, 1))))

    def test_nearly_two_thousand_words(self):
        chain = (1, 2, 10, 50)
        needed = bounds(chain, 600)[-1]
        program = Pressure(chain, 600)
        while program.request() is not None:
            kind, number = program.request()
            if kind == "get":
                program.answer(places_by_word(chain, needed // 50, program.state(), number)[0])
            else:
                program.answer(None)
        self.assertEqual(busy_chunks(program.state(), 50), needed // 50)
        self.assertEqual(max(address + size for address, size in program.state()), needed)


class Answers(PressureCase):
    def test_values_of_every_kind_for_a_get_of_one_word(self):
        for value in values():
            program = answered((1, 2), 6, (5, 1))
            if is_plain_integer(value) and value >= 0 and value not in (1, 5):
                self.assertIs(program.answer(value), None)
                self.assert_program(program, ("get", 1), 0, tuple(sorted(((1, 1), (5, 1), (value, 1)))))
            else:
                self.assert_refused(program, value)

    def test_values_of_every_kind_for_a_get_of_more_words(self):
        for value in values():
            program = answered((1, 4), 8, (0, 1, 2, 3, 8, 9, 10, 11, *[None] * 6))
            self.assertEqual((program.request(), program.state()), (("get", 4), ((0, 1), (8, 1))))
            if is_plain_integer(value) and value >= 0 and value % 4 == 0 and value not in (0, 8):
                self.assertIs(program.answer(value), None)
                self.assertEqual(program.state(), tuple(sorted(((0, 1), (8, 1), (value, 4)))))
            else:
                self.assert_refused(program, value)

    def test_values_of_every_kind_for_a_free(self):
        for value in [*values(), ("free", 1), ((0, 1),)]:
            program = answered((1, 2), 2, (0, 1))
            if value is None:
                self.assertIs(program.answer(value), None)
                self.assert_program(program, None, 1, ((0, 1),))
            else:
                self.assert_refused(program, value)

    def test_none_for_a_get(self):
        self.assert_refused(Pressure((1, 2), 2), None)

    def test_blocks_that_would_overlap(self):
        program = answered((1, 2, 4), 8, (0, 1, 2, 3, 4, 5, 6, 7, *[None] * 4))
        self.assertEqual((program.request(), program.state()), (("get", 2), ((0, 1), (2, 1), (4, 1), (6, 1))))
        for value in (0, 1, 2, 3, 4, 5, 6, 7, 9, 11, -2, -1):
            self.assert_refused(program, value)
        program.answer(10)
        for value in (10, 11, 9):
            self.assert_refused(program, value)
        program.answer(8)
        self.assertEqual(program.request(), ("free", 2))

    def test_a_block_between_others(self):
        program = answered((1, 2), 8, (0, 1, 4, 5, 8, 9, 10, 11, *[None] * 4))
        self.assertEqual(program.request(), ("get", 2))
        program.answer(2)
        program.answer(6)
        self.assert_program(program, None, 1, ((0, 1), (2, 2), (4, 1), (6, 2), (8, 1), (10, 1)))

    def test_there_is_no_last_page(self):
        program = answered((1, 2), 2, (10**30, 10**30 + 1))
        self.assert_program(program, ("free", 10**30 + 1), 1, ((10**30, 1), (10**30 + 1, 1)))


if __name__ == "__main__":
    unittest.main()
