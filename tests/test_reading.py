"""Texts: read_chain, read_state, read_history."""

import unittest

from pinnedheap.chains import chains_of
from pinnedheap.errors import BadText
from pinnedheap.pressure import exhaust
from pinnedheap.reading import read_chain, read_history, read_state
from pinnedheap.rules import allocator
from pinnedheap.showing import show_chain, show_history, show_state
from pinnedheap.states import all_states
from tests.samples import RULES, random_history, random_states, shown, values
from tests.texts import Wrong, chain_by_pattern, changed_texts, history_by_pattern, state_by_pattern

CHAIN = (1, 2, 4)
TWENTY = "99999999999999999999"
DIGITS_OF_OTHERS = ("\u0661", "\u00b2", "\uff11", "\u0967", "\u2460")
BLANKS_OF_OTHERS = ("\t", "\u00a0", "\u2003", "\r", "\x0b", "\x0c", "\x1c", "\x85", "\u2028", "\u3000")


class Read(unittest.TestCase):
    def assert_read(self, expected, function, **named):
        """Assert what a call with all arguments, the text as the last one, returns."""
        before = shown(named["text"])
        for found in (function(*named.values()), function(**dict(reversed(named.items())))):
            self.assertEqual(shown(found), shown(expected), before)

    def assert_bad(self, row, function, **named):
        before = shown(named["text"])
        for arguments, by_name in ((tuple(named.values()), {}), ((), dict(reversed(named.items())))):
            with self.assertRaises(BadText, msg=before) as caught:
                function(*arguments, **by_name)
            self.assertIs(type(caught.exception), BadText)
            self.assertEqual(shown(caught.exception.row), shown(row), before)
        self.assertEqual(shown(named["text"]), before)

    def assert_same(self, function, by_pattern, **named):
        """Hold a reader against the one by patterns, and return True if the text is right."""
        try:
            expected = by_pattern(*named.values())
        except Wrong as wrong:
            self.assert_bad(wrong.args[0], function, **named)
            return False
        self.assert_read(expected, function, **named)
        return True

    def assert_changes(self, text, function, by_pattern, **named):
        """Hold a reader against the one by patterns for all texts that differ in one thing."""
        right = wrong = 0
        for other in changed_texts(text):
            if self.assert_same(function, by_pattern, **named, text=other):
                right += 1
            else:
                wrong += 1
        self.assertGreater(right, 0)
        self.assertGreater(wrong, 250)


class Chains(Read):
    def test_example(self):
        self.assertEqual(read_chain("1/3"), (1, 3))

    def test_what_was_shown(self):
        for page in (1, 2, 12, 64, 360, 4096):
            for chain in chains_of(page)[::7]:
                self.assert_read(chain, read_chain, text=show_chain(chain))
        self.assert_read((1, 10**9), read_chain, text="1/1000000000")

    def test_texts_with_one_thing_changed(self):
        for text in ("1", "1/2", "1/2/4", "1/3/30", "1/1000000000"):
            self.assert_changes(text, read_chain, chain_by_pattern)

    def test_what_is_no_chain(self):
        for text in ("", "-", "0", "2", "2/4", "1/1", "1/2/2", "1/4/6", "1/4/2", "4/2/1", "1/0", "0/1", "1/1000000001",
                     "1/2000000000", "/".join(str(2**k) for k in range(13)), "1/", "/1", "1//2", "/", "1 2", "1,2", "1:2",
                     "(1, 2)"):
            self.assert_bad(0, read_chain, text=text)
        self.assert_read(tuple(2**k for k in range(12)), read_chain, text="/".join(str(2**k) for k in range(12)))

    def test_numbers_that_are_not_so_written(self):
        for number in ("01", "001", "00", "+1", "-1", "1.0", "1_0", "0x1", "", " 1", "1 ", "one", "1e0"):
            self.assert_bad(0, read_chain, text=number)
        for number in ("02", "+2", "2.", " 2", "2 ", "0_2", "-2", TWENTY, "1" + "0" * 20, "0" * 20 + "2", "2" * 5000):
            self.assert_bad(0, read_chain, text="1/" + number)
        for digit in DIGITS_OF_OTHERS:
            self.assert_bad(0, read_chain, text=digit)
            self.assert_bad(0, read_chain, text="1/" + digit)
        for blank in (" ", *BLANKS_OF_OTHERS):
            for text in (blank + "1/2", "1/2" + blank, "1" + blank + "/2", "1/" + blank + "2"):
                self.assert_bad(0, read_chain, text=text)

    def test_a_second_line(self):
        for rest in ("", "1/2", "x", " ", "\n", "\n\n1/2"):
            self.assert_bad(1, read_chain, text="1/2\n" + rest)
            self.assert_bad(0, read_chain, text="1/3/2\n" + rest)
            self.assert_bad(0, read_chain, text="\n" + rest)

    def test_values_of_every_kind(self):
        for value in [*values(), (1, 2), ["1/2"], ("1/2",), b"1/2"]:
            self.assert_same(read_chain, chain_by_pattern, text=value)
            if not isinstance(value, str):
                self.assert_bad(0, read_chain, text=value)


class States(Read):
    def test_example(self):
        self.assertEqual(read_state((1, 2), 2, "0:1 2:2"), ((0, 1), (2, 2)))

    def test_what_was_shown(self):
        for chain, pages, state in random_states():
            self.assert_read(state, read_state, chain=chain, pages=pages, text=show_state(state))
        for state in all_states(CHAIN, 2, 8):
            self.assert_read(state, read_state, chain=CHAIN, pages=2, text=show_state(state))

    def test_texts_with_one_thing_changed(self):
        for text in ("-", "0:1", "0:1 2:2", "2:2 4:4 9:1", "0:4 10:2"):
            self.assert_changes(text, read_state, state_by_pattern, chain=CHAIN, pages=3)

    def test_what_is_no_state(self):
        for text in ("", "--", "- ", " -", "- 0:1", "0:1 -", "0:3", "0:0", "1:2", "2:4", "0:1 0:1", "0:2 1:1", "4:4 5:1",
                     "2:1 0:1", "0", "0:", ":1", "0:1:1", ":", "0:1,2:2", "0:1  2:2", " 0:1", "0:1 ", "0 :1", "0: 1",
                     "(0, 1)", "0/1", "-1:1", "8:1", "8:4", "7:2", "0:1 8:1", "0:8"):
            self.assert_bad(0, read_state, chain=CHAIN, pages=2, text=text)

    def test_behind_the_last_page(self):
        for pages in range(4):
            for size in CHAIN:
                self.assert_bad(0, read_state, chain=CHAIN, pages=pages, text=f"{4 * pages}:{size}")
                self.assert_read(((4 * pages, size),), read_state, chain=CHAIN, pages=pages + 1, text=f"{4 * pages}:{size}")

    def test_no_pages(self):
        self.assert_read((), read_state, chain=CHAIN, pages=0, text="-")
        self.assert_bad(0, read_state, chain=CHAIN, pages=0, text="0:1")

    def test_numbers_that_are_not_so_written(self):
        for number in ("00", "01", "+1", "-0", "1.0", "0_1", "", "0x0", TWENTY, "1" + "0" * 20, "0" * 21, *DIGITS_OF_OTHERS):
            self.assert_bad(0, read_state, chain=CHAIN, pages=2, text=number + ":1")
            self.assert_bad(0, read_state, chain=CHAIN, pages=2, text="0:" + number if number != "1" else "0:01")
        for blank in ("  ", *BLANKS_OF_OTHERS):
            self.assert_bad(0, read_state, chain=CHAIN, pages=2, text="0:1" + blank + "2:2")

    def test_twenty_digits(self):
        self.assert_read(((10**20 - 1, 1),), read_state, chain=CHAIN, pages=10**20, text=TWENTY + ":1")
        self.assert_bad(0, read_state, chain=CHAIN, pages=10**21, text="1" + "0" * 20 + ":1")

    def test_a_second_line(self):
        for rest in ("", "-", "0:1", "x", "\n"):
            self.assert_bad(1, read_state, chain=CHAIN, pages=2, text="-\n" + rest)
            self.assert_bad(1, read_state, chain=CHAIN, pages=2, text="0:1 2:2\n" + rest)
            self.assert_bad(0, read_state, chain=CHAIN, pages=2, text="0:1 1:2\n" + rest)
            self.assert_bad(0, read_state, chain=CHAIN, pages=2, text="\n" + rest)

    def test_values_of_every_kind(self):
        for value in [*values(), ((0, 1),), ["-"], ("-",)]:
            self.assert_same(read_state, state_by_pattern, chain=CHAIN, pages=2, text=value)
            if not isinstance(value, str):
                self.assert_bad(0, read_state, chain=CHAIN, pages=2, text=value)


class Histories(Read):
    def test_examples(self):
        self.assertEqual(read_history((1, 2), "get 2 at 0\nfree 0"), (("get", 2, 0), ("free", 0)))
        self.assert_bad(1, read_history, chain=(1, 2), text="get 2 at 0\nget 2 at 1")

    def test_what_was_shown(self):
        for seed, (chain, pages, limit) in enumerate((((1,), 5, 4), ((1, 2), 5, 7), (CHAIN, 4, 8), ((1, 3, 6), 4, 14))):
            for many in (0, 1, 2, 3, 10, 60):
                history = random_history(chain, pages, limit, many, seed)
                self.assert_read(history, read_history, chain=chain, text=show_history(history))

    def test_what_exhaust_returned(self):
        for chain, limit, pages in (((1, 2), 4, 2), (CHAIN, 8, 3), ((1,), 1, 0), ((1, 2, 4, 8, 16), 64, 5)):
            for rule in RULES:
                events = exhaust(chain, limit, pages, allocator(rule, chain, pages))
                self.assert_read(events, read_history, chain=chain, text=show_history(events))

    def test_long_histories(self):
        history = random_history((1, 2, 10, 50), 40, 1900, 2000, 3) * 2
        text = show_history(history)
        self.assert_read(history, read_history, chain=(1, 2, 10, 50), text=text)
        self.assert_bad(4000, read_history, chain=(1, 2, 10, 50), text=text + "\n")
        self.assert_bad(4000, read_history, chain=(1, 2, 10, 50), text=text + "\nget 3 at 0")

    def test_texts_with_one_thing_changed(self):
        for text in ("-", "free 0", "get 1 fails", "get 2 at 2", "get 2 at 0\nfree 0", "get 4 at 8\nget 1 at 3\nget 2 fails"):
            self.assert_changes(text, read_history, history_by_pattern, chain=CHAIN)

    def test_whether_the_events_can_be_done_is_not_looked_at(self):
        for text, history in (("free 7\nfree 7", (("free", 7), ("free", 7))),
                              ("get 4 at 4000\nget 4 at 4000", (("get", 4, 4000), ("get", 4, 4000))),
                              ("get 1 fails", (("get", 1, None),)), (f"free {TWENTY}", (("free", 10**20 - 1),)),
                              (f"get 1 at {TWENTY}", (("get", 1, 10**20 - 1),))):
            self.assert_read(history, read_history, chain=CHAIN, text=text)

    def test_lines_that_are_none(self):
        lines = (
            "", " ", "--", "get", "free", "get 1", "get 1 at", "get 1 at ", "get at 0", "free 0 0", "free at 0", "get 1 0",
            "get 1 at 0 0", "get 1 at 0 fails", "get 1 fails 0", "get fails", "get 1 fail", "Get 1 at 0", "FREE 0", "put 0 1",
            "undo", "get 3 at 0", "get 0 at 0", "get 3 fails", "get 0 fails", "get 8 fails", "get 2 at 1", "get 4 at 2",
            "get 4 at 6", "free -1", "free None", "get 1 at None", "get 1 at -1", "get  1 at 0", "get 1  at 0", "get 1 at  0",
            " get 1 at 0", "get 1 at 0 ", "free  0", " free 0", "free 0 ", "get 1 fails ", " get 1 fails", "get 1  fails",
            "free 00", "free 01", "get 01 at 0", "get 1 at 00", "get 01 fails", "free 1" + "0" * 20, "get 1 at 1" + "0" * 20,
            "free " + "0" * 21, "free +1", "free 1.0", "free 1_0", "fre 0", "get 1 at 0\r", "free 0\r", "free 0/free 0",
            "free x", "get x at 0", "get 1 in 0", "free:0",
        )
        for line in lines:
            self.assert_bad(0, read_history, chain=CHAIN, text=line)
            self.assert_bad(1, read_history, chain=CHAIN, text="free 3\n" + line)
            self.assert_bad(2, read_history, chain=CHAIN, text="get 1 at 3\nfree 3\n" + line + "\nfree 3")

    def test_other_blanks_and_digits(self):
        for blank in BLANKS_OF_OTHERS:
            for line in (f"free{blank}0", f"get{blank}1 at 0", f"get 1{blank}at 0", f"get 1 at{blank}0", f"get 1{blank}fails",
                         f"free 0{blank}", f"{blank}free 0", f"free 0{blank}free 0"):
                self.assert_bad(0, read_history, chain=CHAIN, text=line)
        for digit in DIGITS_OF_OTHERS:
            for line in (f"free {digit}", f"get {digit} at 0", f"get 1 at {digit}", f"get {digit} fails"):
                self.assert_bad(1, read_history, chain=CHAIN, text="free 0\n" + line)

    def test_a_line_behind_the_sign_of_no_events(self):
        for rest in ("", "-", "free 0", "x", "get 1 at 0\nfree 0"):
            self.assert_bad(1, read_history, chain=CHAIN, text="-\n" + rest)
        self.assert_bad(1, read_history, chain=CHAIN, text="free 0\n-")
        self.assert_read((), read_history, chain=CHAIN, text="-")

    def test_a_line_behind_a_get_that_failed(self):
        for rest in ("", "-", "free 0", "x", "get 1 fails", "get 1 at 0\nfree 0"):
            self.assert_bad(1, read_history, chain=CHAIN, text="get 2 fails\n" + rest)
            self.assert_bad(3, read_history, chain=CHAIN, text="get 1 at 0\nfree 0\nget 2 fails\n" + rest)
            self.assert_bad(0, read_history, chain=CHAIN, text="get 3 fails\n" + rest)

    def test_a_line_feed_at_the_end(self):
        self.assert_bad(1, read_history, chain=CHAIN, text="free 0\n")
        self.assert_bad(2, read_history, chain=CHAIN, text="free 0\nfree 0\n")
        self.assert_bad(0, read_history, chain=CHAIN, text="\n")
        self.assert_bad(0, read_history, chain=CHAIN, text="\nfree 0")

    def test_sizes_of_another_chain(self):
        self.assert_read((("get", 3, 6),), read_history, chain=(1, 3), text="get 3 at 6")
        self.assert_bad(0, read_history, chain=(1, 2), text="get 3 at 6")
        self.assert_bad(0, read_history, chain=(1, 3), text="get 3 at 7")

    def test_values_of_every_kind(self):
        for value in [*values(), (), ("free 0",), ["free 0"], (("free", 0),)]:
            self.assert_same(read_history, history_by_pattern, chain=CHAIN, text=value)
            if not isinstance(value, str):
                self.assert_bad(0, read_history, chain=CHAIN, text=value)


if __name__ == "__main__":
    unittest.main()
