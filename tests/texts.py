"""Readers of texts by patterns, and texts that differ in one thing."""

import re

NUMBER = "(0|[1-9][0-9]{0,19})"
EVENT = re.compile(f"free {NUMBER}|get {NUMBER} (?:fails|at {NUMBER})")
SIGNS = (
    "", " ", "  ", "0", "1", "2", "9", "-", "+", "/", ":", "\n", "\t", "\r", "x", "G", ".", ",", "\u00a0", "\u0661", "\u00b2",
    "\uff11", "\x0b", "\x0c", "\x1c", "\x85", "\u2028", "_", "\x00",
)
WORDS = (
    "", "0", "1", "2", "3", "00", "01", "-1", "+1", "1_0", "get", "free", "at", "fails", "-", "GET", "at ", "get  1", "put",
    "99999999999999999999", "100000000000000000000", "099999999999999999999", "1.0", "1e1", "0x1", "None", "\u0661", "1/2",
    "0:1",
)
LINES = ("", "-", " ", "get 1 at 0", "free 0", "get 1 fails", "get 2 fails", "x", "get 1 at 0 ", " free 0")


class Wrong(Exception):
    """The row of a text that is wrong."""


def is_right_chain(sizes):
    if not 1 <= len(sizes) <= 12 or sizes[0] != 1 or max(sizes) > 10**9:
        return False
    return all(0 < size < larger and larger % size == 0 for size, larger in zip(sizes, sizes[1:]))


def chain_by_pattern(text):
    if not isinstance(text, str):
        raise Wrong(0)
    lines = text.split("\n")
    if not re.fullmatch(f"{NUMBER}(/{NUMBER})*", lines[0]):
        raise Wrong(0)
    sizes = tuple(int(part) for part in lines[0].split("/"))
    if not is_right_chain(sizes):
        raise Wrong(0)
    if len(lines) > 1:
        raise Wrong(1)
    return sizes


def state_by_pattern(chain, pages, text):
    if not isinstance(text, str):
        raise Wrong(0)
    lines = text.split("\n")
    blocks = []
    if lines[0] != "-":
        if not re.fullmatch(f"{NUMBER}:{NUMBER}( {NUMBER}:{NUMBER})*", lines[0]):
            raise Wrong(0)
        end = 0
        for part in lines[0].split(" "):
            address, size = [int(number) for number in part.split(":")]
            if size not in chain or address % size or address < end or address + size > pages * chain[-1]:
                raise Wrong(0)
            end = address + size
            blocks.append((address, size))
    if len(lines) > 1:
        raise Wrong(1)
    return tuple(blocks)


def history_by_pattern(chain, text):
    if not isinstance(text, str):
        raise Wrong(0)
    lines = text.split("\n")
    if lines[0] == "-":
        if len(lines) > 1:
            raise Wrong(1)
        return ()
    events = []
    for row, line in enumerate(lines):
        found = EVENT.fullmatch(line)
        if not found or events and events[-1][0] == "get" and events[-1][2] is None:
            raise Wrong(row)
        freed, size, address = [None if part is None else int(part) for part in found.groups()]
        if line.startswith("free"):
            events.append(("free", freed))
            continue
        if size not in chain or address is not None and address % size:
            raise Wrong(row)
        events.append(("get", size, address))
    return tuple(events)


def changed_texts(text):
    """Return texts with one sign, one word or one line changed, left out, doubled or put in."""
    found = []
    for at in range(len(text) + 1):
        for sign in SIGNS:
            found.append(text[:at] + sign + text[at:])
            found.append(text[:at] + sign + text[at + 1:])
        found.append(text[:at] + text[at:at + 1] + text[at:])
    found.extend(joined(text.split("\n"), LINES, "\n"))
    lines = text.split("\n")
    for row, line in enumerate(lines):
        for sign in (" ", "/", ":"):
            others = joined(line.split(sign), WORDS, sign)
            found.extend("\n".join((*lines[:row], other, *lines[row + 1:])) for other in others)
    return list(dict.fromkeys(found))


def joined(parts, others, sign):
    """Return texts of parts of which one was changed, left out, doubled, swapped or put in."""
    rows = []
    for at in range(len(parts) + 1):
        head, tail = parts[:at], parts[at:]
        rows.append([*head, *tail[1:]])
        rows.append([*head, *tail[:1], *tail])
        rows.append([*head, *tail[1:2], *tail[:1], *tail[2:]])
        rows.extend([*head, other, *tail] for other in others)
        rows.extend([*head, other, *tail[1:]] for other in others)
    return [sign.join(row) for row in rows]
