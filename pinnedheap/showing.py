"""Texts of chains, states and histories."""


def show_chain(chain):
    """Return the text of a chain."""
    return "/".join([str(size) for size in chain])


def show_state(state):
    """Return the text of a state."""
    if not state:
        return "-"
    return " ".join([f"{address}:{size}" for address, size in state])


def show_history(history):
    """Return the text of a history."""
    if not history:
        return "-"
    return "\n".join([show_event(event) for event in history])


def show_event(event):
    """Return the line of an event."""
    if event[0] == "free":
        return f"free {event[1]}"
    word, size, address = event
    if address is None:
        return f"get {size} fails"
    return f"get {size} at {address}"
