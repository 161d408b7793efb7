"""What stands in for pools and choosers, by their interface, as long as their modules are not there."""


class PlainPool:
    def __init__(self, rule, size):
        self.rule = rule
        self.size = size


class PlainChooser:
    def __init__(self, callers, states):
        self.callers = callers
        self._states = states

    def __len__(self):
        return len(self._states)

    def __call__(self, state, able):
        for group in self._states[state][0]:
            chosen = tuple(caller for caller in able if caller in group)
            if chosen:
                return chosen

    def after(self, state, caller):
        return self._states[state][1][caller]

    def states(self):
        return list(self._states)
