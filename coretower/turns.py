"""Turns: which of the able callers a chooser lets by."""


class Turns:
    """A chooser, with what it told before."""

    def __init__(self, chooser):
        self._chooser = chooser
        self._let_by = {}
        self._after = {}

    def let_by(self, state, able):
        """The ascending tuple of the callers that it lets by."""
        if (state, able) not in self._let_by:
            chooser = self._chooser
            self._let_by[(state, able)] = chooser(state, able)
        return self._let_by[(state, able)]

    def after(self, state, caller):
        """The next state, when a caller has made a deed."""
        if (state, caller) not in self._after:
            self._after[(state, caller)] = self._chooser.after(state, caller)
        return self._after[(state, caller)]
