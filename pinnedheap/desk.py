"""A desk: a heap that is asked and answers by lines of text."""

from pinnedheap.bounds import careless_pages, pages_needed
from pinnedheap.errors import BadLine
from pinnedheap.games import moves_to_fail
from pinnedheap.heaps import Heap
from pinnedheap.reading import chain_in, check_row, lines_of, number_in
from pinnedheap.rules import is_rule
from pinnedheap.showing import show_history, show_state


class Desk:
    """Holds a heap, empty at first, that a text of four lines describes."""

    def __init__(self, text):
        lines = lines_of(text)
        chain = chain_in(rest_of(lines, 0, "chain "))
        check_row(0, chain is not None)
        pages = number_in(rest_of(lines, 1, "pages "))
        check_row(1, pages is not None)
        limit = number_in(rest_of(lines, 2, "limit "))
        check_row(2, limit is not None)
        rule = rest_of(lines, 3, "rule ")
        check_row(3, is_rule(rule))
        check_row(4, len(lines) == 4)
        self.heap = Heap(chain, pages, limit, rule=rule)

    def say(self, line):
        """Return the answer to a line."""
        heap = self.heap
        match words_in(line):
            case ["get", size]:
                return str(heap.get(size))
            case ["put", address, size]:
                heap.put(address, size)
                return "done"
            case ["free", address]:
                heap.free(address)
                return "done"
            case ["undo"]:
                heap.undo()
                return "done"
            case ["state"]:
                return show_state(heap.state())
            case ["history"]:
                return show_history(heap.history()).replace("\n", " / ")
            case ["live"]:
                return f"{heap.live()} {heap.limit}"
            case ["outlook"]:
                return " ".join([str(number) for number in heap.outlook()])
            case ["needed"]:
                return f"{pages_needed(heap.chain, heap.limit)} {careless_pages(heap.chain, heap.limit)}"
            case ["safe"]:
                return show_safety(heap)
            case _:
                raise BadLine(line)


def rest_of(lines, row, head):
    """Return what stands behind the head of a line."""
    check_row(row, row < len(lines) and lines[row].startswith(head))
    return lines[row].removeprefix(head)


def words_in(line):
    """Return the list of the first word of a line and the numbers behind it, None if any value is no such line."""
    if not isinstance(line, str):
        return None
    word, *rest = line.split(" ")
    numbers = [number_in(text) for text in rest]
    if None in numbers:
        return None
    return [word, *numbers]


def show_safety(heap):
    """Return whether the state of a heap is safe, otherwise the fewest moves after which it fails."""
    moves = moves_to_fail(heap.chain, heap.limit, heap.pages, heap.state())
    if moves is None:
        return "safe"
    return str(moves)
