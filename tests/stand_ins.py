"""What stands in for pools and choosers, by their interface, as long as their modules are not there."""


class PlainPool:
    def __init__(self, rule, size):
        self.rule = rule
        self.size = size


class PlainChooser:
    def __init__(self, callers, states):
        self.callers = callers
        self._states = states

    def __len__(self):
        return len(self._states)

    def __call__(self, state, able):
        for group in self._states[state][0]:
            chosen = tuple(caller for caller in able if caller in group)
            if chosen:
                return chosen

    def after(self, state, caller):
        return self._states[state][1][caller]

    def states(self):
        return list(self._states)


class PlainRecipe:
    def __init__(self, source, target, rows=None):
        self.source = source
        self.target = target
        self._rows = {kind: ((), kind, ()) for kind in ("read", "acquire", "write", "release", "both")}
        self._rows["return"] = ()
        for fence in source.fences():
            self._rows[fence] = (fence,) if fence in target.fences() else ("full",)
        self._rows.update(rows or {})

    def __getitem__(self, name):
        return self._rows[name]

    def __iter__(self):
        return iter(sorted(self._rows))
