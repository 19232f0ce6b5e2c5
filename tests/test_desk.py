"""A desk: class Desk with say."""

import random
import re
import unittest

from pinnedheap.bounds import careless_pages, pages_needed
from pinnedheap.desk import Desk
from pinnedheap.errors import BadLine, BadPlace, BadSize, BadText, HeapError, NoBlock, NoRoom, NothingToUndo, OverLimit
from pinnedheap.games import moves_to_fail
from pinnedheap.heaps import Heap
from tests.samples import RULES, assert_error, assert_too_many, shown, values
from tests.texts import NUMBER, SIGNS, WORDS, Wrong, chain_by_pattern, changed_texts, joined

TEXT = "chain 1/2\npages 3\nlimit 4\nrule lowest"
FORM = re.compile(f"get {NUMBER}|put {NUMBER} {NUMBER}|free {NUMBER}|undo|state|history|live|outlook|needed|safe")
LINES = ("get 1", "put 0 1", "free 0", "undo", "state", "history", "live", "outlook", "needed", "safe")
QUESTIONS = ("state", "history", "live", "outlook", "needed")
NO_NUMBERS = ("", "00", "01", "-1", "+1", "1.0", "1_0", "x", "None", "1" + "0" * 20, "0" * 21, "9" * 5000, "\u0661", "\u00b2",
              "1\t", "\uff11")
HEAPS = (((1, 2), 3, 4), ((1,), 4, 3), ((1, 2, 4), 3, 6), ((1, 3), 2, 6), ((1, 2), 1, 5), ((1, 2, 6), 1, 6), ((1, 2), 0, 4))


def text_of(chain, pages, limit, rule):
    return f"chain {'/'.join(str(size) for size in chain)}\npages {pages}\nlimit {limit}\nrule {rule}"


def settings_by_pattern(value):
    """Return the chain, the pages, the limit and the rule that a text has."""
    lines = value.split("\n") if isinstance(value, str) else [""]
    found = []
    for row, head in enumerate(("chain ", "pages ", "limit ", "rule ")):
        if row >= len(lines) or lines[row][:len(head)] != head:
            raise Wrong(row)
        rest = lines[row][len(head):]
        if row == 0:
            try:
                found.append(chain_by_pattern(rest))
            except Wrong:
                raise Wrong(0) from None
        elif row < 3 and re.fullmatch(NUMBER, rest):
            found.append(int(rest))
        elif row == 3 and rest in RULES:
            found.append(rest)
        else:
            raise Wrong(row)
    if len(lines) > 4:
        raise Wrong(4)
    return tuple(found)


def line_of(event):
    if event[0] == "free":
        return f"free {event[1]}"
    return f"get {event[1]} at {event[2]}"


def answer_of(heap, chain, pages, limit, line):
    """Return what a desk should answer to a line that has one of the forms, by a heap of one's own."""
    word, *numbers = line.split(" ")
    numbers = [int(number) for number in numbers]
    if word == "get":
        return str(heap.get(*numbers))
    if word in ("put", "free", "undo"):
        {"put": heap.put, "free": heap.free, "undo": heap.undo}[word](*numbers)
        return "done"
    if word == "state":
        return " ".join(f"{address}:{size}" for address, size in heap.state()) or "-"
    if word == "history":
        return " / ".join(line_of(event) for event in heap.history()) or "-"
    if word == "live":
        return f"{sum(size for address, size in heap.state())} {limit}"
    if word == "outlook":
        return " ".join(str(number) for number in heap.outlook())
    if word == "needed":
        return f"{pages_needed(chain, limit)} {careless_pages(chain, limit)}"
    moves = moves_to_fail(chain, limit, pages, heap.state())
    return "safe" if moves is None else str(moves)


def random_lines(chain, pages, many, seed):
    """Return lines of all forms; many of them cannot be done."""
    chance = random.Random(seed)
    words = pages * chain[-1]
    found = []
    for turn in range(many):
        size = chance.choice((*chain, *chain, 0, 3, 99))
        address = chance.randrange(words + 2)
        found.append(chance.choice((f"get {size}", f"get {size}", f"get {chain[0]}", f"put {address} {size}", f"free {address}",
                                    f"free {address}", "undo", "state", "history", "live", "outlook", "needed", "safe")))
    return found


class Texts(unittest.TestCase):
    def assert_bad(self, row, value):
        before = shown(value)
        for arguments, named in (((value,), {}), ((), {"text": value})):
            with self.assertRaises(BadText, msg=before) as caught:
                Desk(*arguments, **named)
            self.assertIs(type(caught.exception), BadText)
            self.assertEqual(shown(caught.exception.row), shown(row), before)
        self.assertEqual(shown(value), before)

    def assert_desk(self, value):
        """Hold the text of a desk against a look at its lines, and return True if it is right."""
        try:
            chain, pages, limit, rule = settings_by_pattern(value)
        except Wrong as wrong:
            self.assert_bad(wrong.args[0], value)
            return False
        heap = Heap(chain, pages, limit, rule=rule)
        for desk in (Desk(value), Desk(text=value)):
            for line in QUESTIONS:
                self.assertEqual(desk.say(line), answer_of(heap, chain, pages, limit, line), (value, line))
        return True

    def test_right_texts(self):
        for chain, pages, limit in (*HEAPS, ((1, 10**9), 10**20 - 1, 10**20 - 1), ((1,), 0, 0), ((1, 7, 14), 10, 10**18)):
            for rule in RULES:
                self.assertTrue(self.assert_desk(text_of(chain, pages, limit, rule)))

    def test_a_new_desk_is_empty(self):
        for rule in RULES:
            desk = Desk(text_of((1, 2, 4), 2, 8, rule))
            self.assertEqual((desk.say("state"), desk.say("history"), desk.say("live")), ("-", "-", "0 8"))
            self.assertRaises(NothingToUndo, desk.say, "undo")

    def test_missing_lines(self):
        lines = TEXT.split("\n")
        for many in range(1, 4):
            self.assert_bad(many, "\n".join(lines[:many]))
            self.assert_bad(many, "\n".join(lines[:many]) + "\n")
        self.assert_bad(0, "")
        self.assert_bad(0, "\n")

    def test_a_line_left_out_doubled_or_swapped(self):
        for value in joined(TEXT.split("\n"), ("", "x", "pages 3", "rule tight", " "), "\n"):
            self.assert_desk(value)
        for row in range(4):
            lines = TEXT.split("\n")
            del lines[row]
            self.assert_bad(row, "\n".join(lines))

    def test_a_line_too_many(self):
        for rest in ("", "rule lowest", "chain 1/2", "x", "\n", "\n\nx"):
            self.assert_bad(4, TEXT + "\n" + rest)

    def test_texts_with_one_thing_changed(self):
        many = {True: 0, False: 0}
        for value in [*changed_texts(TEXT), *changed_texts("chain 1\npages 0\nlimit 10\nrule loose")]:
            many[self.assert_desk(value)] += 1
        self.assertGreater(many[True], 30)
        self.assertGreater(many[False], 2000)

    def test_the_first_wrong_line_counts(self):
        self.assert_bad(0, "chain 1/3/4\npages x\nlimit\nrule")
        self.assert_bad(1, "chain 1/3\npages x\nlimit\nrule")
        self.assert_bad(2, "chain 1/3\npages 0\nlimit\nrule")
        self.assert_bad(3, "chain 1/3\npages 0\nlimit 0\nrule\n")

    def test_chains(self):
        for text in ("", "2", "0", "1/", "1/4/6", "1/2/2", "1/1", "01", "1/02", "-", "1/1000000001", " 1", "1 ", "(1, 2)", "1 2"):
            self.assert_bad(0, f"chain {text}\npages 3\nlimit 4\nrule lowest")

    def test_numbers(self):
        for number in (*NO_NUMBERS, " 1", "1 ", "1 1"):
            self.assert_bad(1, f"chain 1/2\npages {number}\nlimit 4\nrule lowest")
            self.assert_bad(2, f"chain 1/2\npages 3\nlimit {number}\nrule lowest")
        self.assertTrue(self.assert_desk(f"chain 1/2\npages {10**20 - 1}\nlimit {10**20 - 1}\nrule tight"))

    def test_rules(self):
        for rule in ("", "Lowest", "lowest ", " lowest", "best", "lowest\t", "low", "LOOSE", "tight loose", '"lowest"'):
            self.assert_bad(3, f"chain 1/2\npages 3\nlimit 4\nrule {rule}")

    def test_values_of_every_kind(self):
        for value in [*values(), (TEXT,), [TEXT], TEXT.split("\n"), {TEXT: 1}, TEXT.encode()]:
            self.assert_bad(0, value)


class Say(unittest.TestCase):
    def test_examples(self):
        desk = Desk(TEXT)
        found = tuple(desk.say(line) for line in ("get 1", "get 2", "outlook", "state", "safe", "needed", "live"))
        self.assertEqual(found, ("0", "2", "4 6", "0:1 2:2", "safe", "3 3", "3 4"))
        assert_error(self, BadLine, "line", "get 01", Desk(TEXT).say, "get 01")

    def test_each_form(self):
        desk = Desk("chain 1/2/4\npages 3\nlimit 9\nrule highest")
        for line, expected in (
            ("state", "-"), ("history", "-"), ("live", "0 9"), ("outlook", "9 14 20"), ("needed", "5 6"), ("safe", "8"),
            ("get 1", "11"), ("put 0 2", "done"), ("state", "0:2 11:1"), ("history", "get 1 at 11 / get 2 at 0"), ("live", "3 9"),
            ("free 11", "done"), ("history", "get 1 at 11 / get 2 at 0 / free 11"), ("state", "0:2"), ("undo", "done"),
            ("state", "0:2 11:1"), ("undo", "done"), ("state", "11:1"), ("undo", "done"), ("state", "-"), ("history", "-"),
        ):
            self.assertEqual(desk.say(line), expected, line)

    def assert_answers(self, desk, heap, settings, line):
        """Hold an answer, or the error, against those of a heap of one's own."""
        try:
            expected = answer_of(heap, *settings, line)
        except HeapError as error:
            with self.assertRaises(HeapError, msg=line) as caught:
                desk.say(line)
            self.assertIs(type(caught.exception), type(error), line)
            self.assertEqual(shown(vars(caught.exception)), shown(vars(error)), line)
            return type(error).__name__
        self.assertEqual(shown(desk.say(line)), shown(expected), line)
        return "done"

    def test_as_a_heap_does_line_by_line(self):
        seen = set()
        for seed, (chain, pages, limit) in enumerate(HEAPS):
            for rule in RULES:
                desk = Desk(text_of(chain, pages, limit, rule))
                heap = Heap(chain, pages, limit, rule=rule)
                for line in random_lines(chain, pages, 120, seed):
                    seen.add(self.assert_answers(desk, heap, (chain, pages, limit), line))
                    for question in QUESTIONS:
                        self.assert_answers(desk, heap, (chain, pages, limit), question)
        self.assertEqual(seen, {"done", "BadSize", "OverLimit", "NoRoom", "BadPlace", "NoBlock", "NothingToUndo"})

    def test_the_rule_is_used(self):
        for rule, address in (("lowest", "1"), ("highest", "7"), ("tight", "6"), ("loose", "1")):
            desk = Desk(text_of((1, 2, 4), 2, 8, rule))
            self.assertEqual((desk.say("put 0 1"), desk.say("put 4 2"), desk.say("get 1")), ("done", "done", address))

    def test_what_cannot_be_done(self):
        desk = Desk("chain 1/2\npages 1\nlimit 3\nrule lowest")
        desk.say("put 1 1")
        for line, error, attribute, value in (
            ("get 0", BadSize, "size", 0), ("get 3", BadSize, "size", 3), (f"get {10**20 - 1}", BadSize, "size", 10**20 - 1),
            ("get 2", NoRoom, "size", 2), ("put 0 3", BadSize, "size", 3), ("put 1 1", BadPlace, "address", 1),
            ("put 1 2", BadPlace, "address", 1), ("put 2 1", BadPlace, "address", 2), ("free 0", NoBlock, "address", 0),
            ("free 2", NoBlock, "address", 2), (f"free {10**20 - 1}", NoBlock, "address", 10**20 - 1),
        ):
            before = [desk.say(question) for question in QUESTIONS]
            with self.assertRaises(error) as caught:
                desk.say(line)
            self.assertIs(type(caught.exception), error)
            self.assertEqual(shown(getattr(caught.exception, attribute)), shown(value))
            self.assertEqual([desk.say(question) for question in QUESTIONS], before)
        desk.say("get 1")
        for line in ("get 2", "put 0 2", "put 9 2"):
            with self.assertRaises(OverLimit) as caught:
                desk.say(line)
            self.assertEqual(caught.exception.size, 2)
        desk.say("undo")
        desk.say("undo")
        self.assertRaises(NothingToUndo, desk.say, "undo")

    def test_a_size_comes_before_an_address(self):
        desk = Desk(TEXT)
        desk.say("get 2")
        for line, error in (("put 99 3", BadSize), ("put 1 2", BadPlace), ("put 0 1", BadPlace)):
            self.assertRaises(error, desk.say, line)
        self.assertEqual(desk.say("put 4 1"), "done")

    def test_safe(self):
        heaps = (((1, 2), 3, 4), ((1, 2), 2, 4), ((1, 2), 1, 3), ((1, 3), 2, 4), ((1, 2), 0, 1), ((1, 2), 0, 0))
        for chain, pages, limit in heaps:
            desk = Desk(text_of(chain, pages, limit, "lowest"))
            heap = Heap(chain, pages, limit)
            for line in ("safe", "get 1", "safe", "get 1", "safe", "free 0", "safe", "get 2", "safe"):
                self.assert_answers(desk, heap, (chain, pages, limit), line)
        desk = Desk("chain 1/2\npages 1\nlimit 3\nrule lowest")
        self.assertEqual((desk.say("safe"), desk.say("get 2"), desk.say("safe")), ("2", "0", "1"))

    def test_safe_with_too_many_states(self):
        for chain, pages in (((1,), 15), ((1, 2), 7), ((1, 2, 4), 4), ((1, 2), 1000), ((1, 2), 10**20 - 1)):
            desk = Desk(text_of(chain, pages, 4, "lowest"))
            for line, state in (("get 1", "0:1"), ("put 2 1", "0:1 2:1"), ("free 0", "2:1")):
                assert_too_many(self, desk.say, "safe")
                desk.say(line)
                self.assertEqual(desk.say("state"), state)

    def test_a_long_history(self):
        desk = Desk("chain 1/2\npages 500\nlimit 900\nrule lowest")
        for word in range(400):
            self.assertEqual(desk.say("get 1"), str(word))
        lines = [f"get 1 at {word}" for word in range(400)]
        self.assertEqual(desk.say("history"), " / ".join(lines))
        self.assertEqual(desk.say("state"), " ".join(f"{word}:1" for word in range(400)))

    def test_two_desks_are_independent(self):
        first, second = Desk(TEXT), Desk(TEXT)
        first.say("get 1")
        self.assertEqual((first.say("state"), second.say("state")), ("0:1", "-"))


class BadLines(unittest.TestCase):
    def assert_line(self, desk, value):
        """Assert BadLine exactly if a value has none of the forms; the desk stays as it is."""
        if isinstance(value, str) and FORM.fullmatch(value):
            try:
                desk.say(value)
            except BadLine:
                self.fail(shown(value))
            except HeapError:
                pass
            return True
        before = [desk.say(question) for question in QUESTIONS]
        assert_error(self, BadLine, "line", value, desk.say, value)
        self.assertEqual([desk.say(question) for question in QUESTIONS], before)
        return False

    def test_one_sign_changed(self):
        many = {True: 0, False: 0}
        for line in (*LINES, "put 12 2", "get 10"):
            for at in range(len(line) + 1):
                for sign in SIGNS:
                    many[self.assert_line(Desk(TEXT), line[:at] + sign + line[at:])] += 1
                    many[self.assert_line(Desk(TEXT), line[:at] + sign + line[at + 1:])] += 1
        self.assertGreater(many[True], 50)
        self.assertGreater(many[False], 2000)

    def test_one_word_changed(self):
        many = {True: 0, False: 0}
        for line in LINES:
            for other in joined(line.split(" "), (*WORDS, *LINES), " "):
                many[self.assert_line(Desk(TEXT), other)] += 1
        self.assertGreater(many[True], 20)
        self.assertGreater(many[False], 500)

    def test_numbers(self):
        desk = Desk(TEXT)
        for number in NO_NUMBERS:
            for line in (f"get {number}", f"put {number} 1", f"put 0 {number}", f"free {number}"):
                self.assertFalse(self.assert_line(desk, line))
        for number in ("0", "7", "9" * 20):
            for line in (f"get {number}", f"put {number} 3", f"put 0 {number}", f"free {number}"):
                self.assertTrue(self.assert_line(Desk(TEXT), line))

    def test_blanks_and_line_feeds(self):
        desk = Desk(TEXT)
        for line in LINES:
            for other in (line + " ", " " + line, line + "\n", "\n" + line, line.replace(" ", "  "), line.replace(" ", "\t"),
                          line + "\r", line + " 0 0", line + "\n" + line, line + " / " + line, line.upper(), line + " x",
                          line[:-1]):
                if other != line:
                    self.assertFalse(FORM.fullmatch(other))
                    self.assertFalse(self.assert_line(desk, other))
        for line in ("", " ", "\n", "get", "put", "put 0", "free", "undo 1", "state 0", "0", "1 1", "copy", "get get", "say",
                     "get 1 at 0"):
            self.assertFalse(self.assert_line(desk, line))

    def test_values_of_every_kind(self):
        desk = Desk(TEXT)
        for value in [*values(), ("get", 1), ["get", 1], ["undo"], ("undo",), {"get": 1}, b"undo"]:
            if not (isinstance(value, str) and FORM.fullmatch(value)):
                self.assertFalse(self.assert_line(desk, value))


if __name__ == "__main__":
    unittest.main()
