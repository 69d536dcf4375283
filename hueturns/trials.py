"""Trials: what is changed within the rows of a `with` statement is taken back when they end."""

from hueturns.errors import NothingToUndo


class Entry:
    """What a trial keeps of one time that it was entered, above what it keeps of the times before."""

    def __init__(self, states, below):
        self.states = states
        self.below = below


class Trial:
    """For a `with` statement over something that keeps all that it was and is in the tuple `states`."""

    def __init__(self, held):
        self.held = held
        self.entry = None

    def __enter__(self):
        self.entry = Entry(self.held.states, self.entry)
        return self.held

    def __exit__(self, kind, value, trace):
        self.held.states = self.entry.states
        self.entry = self.entry.below


def states_before(states):
    """The states without the last one; NothingToUndo if there is only one."""
    if len(states) == 1:
        raise NothingToUndo()
    return states[:-1]
