"""What a caller is at, apart from its menus, while one of its deeds is made."""

from coretower.books import KINDS
from coretower.steps import holds, worth_of
from coretower.ways import fences_of

# A caller at its beginning, as Draft.told tells it; the last part is that of no call.
IDLE = ((), ((),), (), (None, 0, 0, (), None))


class Draft:
    """A caller's pending entries and its call; `told` gives them as a tuple that another draft can begin with.

    An entry is a tuple of its kind, the name of its place, the node of its place or to be dropped (0 without one),
    its worths, the local to be set and the number of its section. The gaps are the fences ahead of each entry and
    behind the last one. The name of a ready call is "", that of no call None.
    """

    def __init__(self, told, scripts):
        entries, gaps, held, call = told
        self.entries = list(entries)
        self.gaps = list(gaps)
        self.held = list(held)
        self.name, self.turn, self.at, values, self.answer = call
        self.known = {}
        if self.name and self.answer is None:
            self.known = dict(zip(scripts[self.name].slots, values))

    def told(self):
        """A tuple that differs exactly if callers differ as point 25 tells."""
        call = (self.name, self.turn, self.at, tuple(list(self.known.values())), self.answer)
        return (tuple(self.entries), tuple(self.gaps), tuple(self.held), call)

    def start(self, name, script):
        """Open a call."""
        self.name = name
        self.turn = 0
        self.at = 0
        self.answer = None
        self.known = {local: 0 for local in script.slots}

    def settle(self, at, value):
        """Perform an entry, which tells its local the value."""
        kind, place, _, _, local, _ = self.entries[at]
        del self.entries[at]
        # Fences ahead of what is now the oldest entry, or of none, keep nothing back any more.
        joint = () if at == 0 else fences_of(self.gaps[at:at + 2])
        self.gaps[at:at + 2] = [joint]
        if kind == "lock":
            self.held = sorted(self.held + [place])
        elif kind == "free":
            self.held = [name for name in self.held if name != place]
        if local is not None and local in self.known:
            self.known[local] = value

    def put_fences(self, names):
        """Put fences behind the pending entries, if there are any."""
        if self.entries and names:
            self.gaps[-1] = fences_of([self.gaps[-1], names])

    def issued(self, entry):
        """Put an entry behind the pending ones."""
        self.entries.append(entry)
        self.gaps.append(())

    def is_alone(self):
        """Whether an entry is pending beside which nothing is issued."""
        return len(self.entries) > 0 and self.entries[0][0] not in KINDS

    def awaits(self, names):
        """Whether one of the locals is awaited."""
        return any([entry[4] in names for entry in self.entries if entry[4] is not None])


class Issuer:
    """Lets calls issue their steps, by the scripts of a build and a way to run."""

    def __init__(self, scripts, way, joined):
        self._scripts = scripts
        self._way = way
        self._joined = joined

    def issue(self, draft):
        """Let the open call, if there is one, issue steps until it must wait or is ready."""
        going = True
        while going and draft.name and not draft.is_alone():
            lines = self._scripts[draft.name].lines
            if draft.answer is not None:
                going = self._unwind(draft, lines)
            elif draft.at == len(lines):
                going = self._end_turn(draft)
            else:
                going = self._go(draft, lines[draft.at])

    def _unwind(self, draft, lines):
        """Pass over steps behind the answer, up to one that frees a held lock; returns whether to go on."""
        if not draft.held:
            self._make_ready(draft, draft.answer)
            return False
        while lines[draft.at].verb != "free" or lines[draft.at].name not in draft.held:
            draft.at += 1
        return self._go_alone(draft, lines[draft.at])

    def _make_ready(self, draft, answer):
        draft.put_fences(self._way.fence_row("return"))
        draft.name = ""
        draft.turn = 0
        draft.at = 0
        draft.known = {}
        draft.answer = answer

    def _end_turn(self, draft):
        script = self._scripts[draft.name]
        if draft.turn + 1 == script.turns:
            self._make_ready(draft, script.otherwise)
            return False
        if draft.entries:
            return False
        draft.issued(("again", None, 0, (), None, None))
        # Nothing is issued before this entry is performed, so the next turn may be told already.
        draft.turn += 1 if script.turns else 0
        draft.at = 0
        return True

    def _go(self, draft, line):
        """Issue or pass over the next step; returns whether to go on."""
        if draft.awaits(line.named):
            return False
        if not holds(line.guard, draft.known, line.guard_base):
            draft.at += 1
        elif line.verb == "give":
            draft.answer = worth_of(line.worths[0], draft.known, line.worth_base)
            draft.known = {}
            draft.at += 1
        elif line.verb == "fence":
            draft.put_fences(self._way.fence_row(line.name))
            draft.at += 1
        elif line.place is None:
            return self._go_alone(draft, line)
        else:
            return self._go_access(draft, line)
        return True

    def _go_alone(self, draft, line):
        """Go on to a lock, free, take or drop step, which waits for all pending entries."""
        node = draft.known[line.local] if line.verb == "drop" else 0
        if line.verb == "drop" and node == 0 or line.verb in ("lock", "free") and self._joined:
            draft.at += 1
            return True
        if draft.entries:
            return False
        local = line.local if line.verb == "take" else None
        draft.issued((line.verb, line.name, node, (), local, line.section))
        draft.at += 1
        return True

    def _go_access(self, draft, line):
        """Go on to an access, which waits while as many are pending as the window tells."""
        node = 0 if line.holder is None else draft.known[line.holder]
        if line.holder is not None and node == 0:
            if line.local is not None:
                draft.known[line.local] = 0
            draft.at += 1
            return True
        if len(draft.entries) == self._way.window:
            return False
        ahead, kind, behind = self._way.kind_row(line.access)
        worths = tuple([worth_of(worth, draft.known, line.worth_base) for worth in line.worths])
        draft.put_fences(ahead)
        draft.issued((kind, line.place, node, worths, line.local, line.section))
        draft.put_fences(behind)
        draft.at += 1
        return True
