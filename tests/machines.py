"""Machines as points 15 to 26 and 36 to 38 tell them, in the plainest way, to compare Space with.

What a caller has issued is one list of entries and fences as they were put; a standing is a dict that is copied as a
whole; fresh nodes that are not found are kept, and standings are compared under all renamings.
"""

import copy
import itertools

from coretower.books import KINDS, READS, WRITES

ALONE = ("lock", "free", "take", "drop", "again")


class TooMany(Exception):
    pass


def base_value(worth, values, base):
    total = 0
    for part in worth:
        total += values[part] if isinstance(part, str) else part
    return total if base is None else total % base


class PlainMachine:
    """One machine; `web` gives the moves of its standings, and the standings."""

    def __init__(self, build, client, joined=False, pool=None, book=None, recipe=None, window=2, chooser=None):
        self.build, self.client, self.joined, self.pool, self.chooser = build, client, joined, pool, chooser
        self.recipe = recipe
        self.book = recipe.target if recipe else book
        self.in_order = self.book is None
        self.window = 1 if self.in_order else window
        self.links = build.links()

    def begin(self):
        nodes = {}
        if self.pool:
            nodes = {node: self.new_node(False) for node in range(1, self.pool.size + 1)}
        return {"cells": self.build.cells(), "locks": {}, "nodes": nodes, "row": sorted(nodes), "taken": 0,
                "waits": {node: set() for node in nodes}, "mark": 0,
                "callers": [{"menu": 0, "items": [], "call": None} for _ in self.client]}

    def new_node(self, out):
        return {"out": out, "fields": {name: 0 for name in self.build.fields()}}

    # Reading a standing

    def pending(self, caller):
        return [item for item in caller["items"] if item["kind"] != "fence"]

    def fences_between(self, caller, first, second):
        """The fences between two entries; second is None for what stands behind the first."""
        items = caller["items"]
        at = place_of(items, first)
        end = len(items) if second is None else place_of(items, second)
        return tuple(sorted({item["name"] for item in items[at:end] if item["kind"] == "fence"}))

    def ready(self, at, standing):
        call = standing["callers"][at]["call"]
        return call is not None and call["answer"] is not None and at not in standing["locks"].values()

    def found(self, standing):
        held = [worth for name, worth in standing["cells"].items() if name in self.links]
        for caller in standing["callers"]:
            call = caller["call"]
            if call is not None and call["answer"] is None:
                held += [worth for name, worth in call["locals"].items() if name in self.links]
            for entry in self.pending(caller):
                held.append(entry["node"])
                if entry["place"] in self.links:
                    held += entry["worths"]
        found = set()
        while held:
            node = held.pop()
            if node and node not in found:
                found.add(node)
                held += [worth for name, worth in standing["nodes"][node]["fields"].items() if name in self.links]
        return found

    def out(self, standing):
        return sum(node["out"] for node in standing["nodes"].values())

    def eligible(self, standing):
        row = standing["row"]
        if not self.pool:
            return []
        return {"last": row[-1:], "first": row[:1],
                "quiet": [node for node in row if not standing["waits"][node]],
                "unheld": [node for node in row if node not in self.found(standing)]}[self.pool.rule]

    def described(self, standing, names):
        """What standings must agree in (point 25), with other names for the nodes."""
        def named(name, worth):
            return names[worth] if name in self.links else worth
        callers = []
        for at, caller in enumerate(standing["callers"]):
            call = caller["call"]
            told = None
            if self.ready(at, standing):
                told = ("ready", call["answer"])
            elif call is not None:
                turn = call["turn"] if self.build[call["name"]].turns else None
                rest = call["answer"]
                if rest is None:
                    rest = sorted((name, named(name, worth)) for name, worth in call["locals"].items())
                told = (call["name"], turn, call["at"], rest)
            entries = [(entry["kind"], entry["place"], names[entry["node"]],
                        [named(entry["place"], worth) for worth in entry["worths"]], entry["local"], entry["section"],
                        self.ahead(caller, entry)) for entry in self.pending(caller)]
            callers.append((caller["menu"], told, entries, self.behind(caller)))
        nodes = sorted((names[node], standing["nodes"][node]["out"],
                        [(name, named(name, worth)) for name, worth in standing["nodes"][node]["fields"].items()])
                       for node in names if node)
        cells = [(name, named(name, worth)) for name, worth in standing["cells"].items()]
        row = [(node, sorted(standing["waits"][node])) for node in standing["row"]]
        return repr((cells, sorted(standing["locks"].items()), self.out(standing), standing["mark"], callers, nodes,
                     row))

    def key(self, standing):
        if self.pool:
            return self.described(standing, {node: node for node in [0] + sorted(standing["nodes"])})
        found = sorted(self.found(standing))
        if len(found) > 4:
            raise TooMany()
        rows = itertools.permutations(range(1, len(found) + 1))
        return min(self.described(standing, dict(zip([0] + found, (0,) + row))) for row in rows)

    def ahead(self, caller, entry):
        at = place_of(self.pending(caller), entry)
        return self.fences_between(caller, self.pending(caller)[at - 1], entry) if at else ()

    def behind(self, caller):
        entries = self.pending(caller)
        return self.fences_between(caller, entries[-1], None) if entries else ()

    # Issuing

    def row(self, name):
        return self.recipe[name] if self.recipe else ((), name, ()) if name in KINDS else ()

    def put(self, caller, fences):
        if self.pending(caller) and not self.in_order:
            caller["items"] += [{"kind": "fence", "name": name} for name in fences]

    def issue(self, at, standing):
        """Point 18 and 22, until the call must wait or is ready."""
        caller = standing["callers"][at]
        while caller["call"] is not None and not self.ready(at, standing):
            call = caller["call"]
            if any(entry["kind"] in ALONE for entry in self.pending(caller)):
                return
            operation = self.build[call["name"]]
            if call["at"] == len(operation.steps()):
                if operation.turns and call["turn"] + 1 == operation.turns:
                    call["answer"] = operation.otherwise
                elif self.pending(caller):
                    return
                else:
                    self.enter(caller, "again")
                continue
            if not self.issue_step(at, standing, operation.steps()[call["at"]]):
                return
            call["at"] += 1
        call = caller["call"]
        if call is not None and not call.get("told"):
            call["told"] = True
            self.put(caller, self.row("return"))

    def enter(self, caller, kind, place=None, node=0, worths=(), local=None):
        call = caller["call"]
        section = None
        if self.joined and kind != "again":
            for number, (first, last) in enumerate(self.build[call["name"]].sections()):
                if first <= call["at"] <= last:
                    section = number
        caller["items"].append({"kind": kind, "place": place, "node": node, "worths": list(worths), "local": local,
                                "section": section, "turn": call["turn"]})

    def issue_step(self, at, standing, step):
        """Whether the step is issued or passed over, and not waited for."""
        caller = standing["callers"][at]
        call = caller["call"]
        if step[0] in ("lock", "free"):
            if self.joined or call["answer"] is not None and (
                    step[0] == "lock" or standing["locks"].get(step[1]) != at):
                return True
            if self.pending(caller):
                return False
            self.enter(caller, step[0], place=step[1])
            return True
        if call["answer"] is not None:
            return True
        values = call["locals"]
        awaited = [entry["local"] for entry in self.pending(caller) if entry["local"]]
        if set(awaited) & set(names_in(step)):
            return False
        guard = step[-1]
        if guard is not None:
            worth = base_value(guard[2], values, None if guard[0] in self.links else self.build.base)
            mine = values[guard[0]]
            if not {"=": mine == worth, "!": mine != worth, "<": mine < worth}[guard[1]]:
                return True
        if step[0] == "give":
            call["answer"] = base_value(step[1], values, self.build.base)
            return True
        if step[0] == "fence":
            self.put(caller, () if self.in_order else self.row(step[1]) if self.recipe else (step[1],))
            return True
        if step[0] in ("take", "drop"):
            if step[0] == "drop" and values[step[1]] == 0:
                return True
            if self.pending(caller):
                return False
            if step[0] == "take":
                self.enter(caller, "take", local=step[1])
            else:
                self.enter(caller, "drop", node=values[step[1]])
            return True
        return self.issue_access(caller, step, values)

    def issue_access(self, caller, step, values):
        local = None if step[0] in ("write", "release") else step[1]
        place, *worths = step[1:-1] if local is None else step[2:-1]
        node = 0
        if isinstance(place, tuple):
            node = values[place[1]]
            place = place[0]
            if node == 0:
                if local is not None:
                    values[local] = 0
                return True
        if len(self.pending(caller)) >= self.window:
            return False
        ahead, kind, behind = self.row(step[0] if step[0] in KINDS else "both")
        base = None if place in self.links else self.build.base
        self.put(caller, ahead)
        self.enter(caller, kind, place, node, [base_value(worth, values, base) for worth in worths], local)
        self.put(caller, behind)
        return True

    # Deeds

    def held_back(self, at, standing, entry):
        caller = standing["callers"][at]
        if entry["kind"] == "lock":
            return standing["locks"].get(entry["place"], at) != at
        if entry["kind"] == "take":
            return self.out(standing) < self.build.limit and bool(self.pool) and not self.eligible(standing)
        for older in self.pending(caller):
            if older is entry:
                return False
            if (older["place"], older["node"]) == (entry["place"], entry["node"]):
                return True
            if self.book.keeps(older["kind"], entry["kind"], between=self.fences_between(caller, older, entry)):
                return True

    def return_waits(self, at, standing):
        caller = standing["callers"][at]
        for entry in self.pending(caller):
            if self.in_order or entry["kind"] not in WRITES:
                return True
            if self.book.keeps(entry["kind"], "return", between=self.fences_between(caller, entry, None)):
                return True
        return False

    def deeds(self, standing):
        rows = []
        for at, caller in enumerate(standing["callers"]):
            menus, _ = self.client[at]
            row = []
            if caller["call"] is None:
                if caller["menu"] is not None:
                    row += [(at, "call", name) for name in sorted(menus[caller["menu"]])]
            elif self.ready(at, standing) and not self.return_waits(at, standing):
                row.append((at, "return", caller["call"]["answer"]))
            for number, entry in enumerate(self.pending(caller)):
                if not self.held_back(at, standing, entry):
                    row.append((at, "step", number))
            rows.append(row)
        able = tuple(at for at, row in enumerate(rows) if row)
        if self.chooser and able:
            able = self.chooser(standing["mark"], able)
        return sorted(deed for at in able for deed in rows[at])

    def after(self, standing, deed):
        standing = copy.deepcopy(standing)
        at, word, what = deed
        caller = standing["callers"][at]
        menus, again = self.client[at]
        if word == "call":
            names = set().union(*[set(names_in(step)) for step in self.build[what].steps()])
            caller["call"] = {"name": what, "turn": 0, "at": 0, "locals": {name: 0 for name in sorted(names)},
                              "answer": None}
            caller["menu"] += 1
            if caller["menu"] == len(menus):
                caller["menu"] = 0 if again else None
            self.issue(at, standing)
        elif word == "return":
            caller["call"] = None
            for waits in standing["waits"].values():
                waits.discard(at)
        else:
            entry = self.pending(caller)[what]
            self.perform(at, standing, entry)
            while entry["section"] is not None:
                following = self.pending(caller)
                if not following or (following[0]["section"], following[0]["turn"]) != (
                        entry["section"], entry["turn"]):
                    break
                self.perform(at, standing, following[0])
        if self.chooser:
            standing["mark"] = self.chooser.after(standing["mark"], at)
        return standing

    def perform(self, at, standing, entry):
        caller = standing["callers"][at]
        call = caller["call"]
        value = self.effect(at, standing, entry)
        del caller["items"][place_of(caller["items"], entry)]
        while caller["items"] and caller["items"][0]["kind"] == "fence":
            del caller["items"][0]
        if entry["local"] is not None and call is not None and call["answer"] is None:
            call["locals"][entry["local"]] = value
        self.issue(at, standing)

    def effect(self, at, standing, entry):
        kind, place, node, worths = entry["kind"], entry["place"], entry["node"], entry["worths"]
        caller = standing["callers"][at]
        if kind == "lock":
            standing["locks"][place] = at
        elif kind == "free":
            del standing["locks"][place]
        elif kind == "again":
            caller["call"]["at"] = 0
            caller["call"]["turn"] += 1 if self.build[caller["call"]["name"]].turns else 0
        elif kind == "take":
            return self.take(standing)
        elif kind == "drop":
            if standing["nodes"][node]["out"]:
                standing["nodes"][node]["out"] = False
                standing["row"].append(node)
                if self.pool and self.pool.rule == "quiet":
                    standing["waits"][node] = {
                        number for number, other in enumerate(standing["callers"]) if other["call"] is not None}
                else:
                    standing["waits"][node] = set()
        else:
            memory = standing["nodes"][node]["fields"] if node else standing["cells"]
            old = memory[place]
            if kind in READS:
                return old
            if kind in WRITES:
                memory[place] = worths[0]
            elif len(worths) == 1:
                memory[place] = worths[0]
                return old
            else:
                if old == worths[0]:
                    memory[place] = worths[1]
                return int(old == worths[0])
        return None

    def take(self, standing):
        if self.out(standing) == self.build.limit:
            return 0
        if self.pool:
            node = self.eligible(standing)[0]
        else:
            node = standing["taken"] = standing["taken"] + 1
        standing["nodes"][node] = self.new_node(True)
        if self.pool:
            standing["row"].remove(node)
        return node

    def forget(self, standing):
        """Drops what standings need not agree in, to keep the copies small."""
        if not self.pool:
            found = self.found(standing)
            for node in list(standing["nodes"]):
                if node not in found and not standing["nodes"][node]["out"]:
                    del standing["nodes"][node]
            standing["row"] = []
            standing["waits"] = {}

    def web(self, most):
        """The moves of all standings, and the standings; raises TooMany for more than so many."""
        first = self.begin()
        standings, numbers, rows = [first], {self.key(first): 0}, []
        while len(rows) < len(standings):
            standing = standings[len(rows)]
            rows.append([])
            for deed in self.deeds(standing):
                goal = self.after(standing, deed)
                self.forget(goal)
                key = self.key(goal)
                if key not in numbers:
                    numbers[key] = len(standings)
                    standings.append(goal)
                    if len(standings) > most:
                        raise TooMany()
                rows[-1].append((deed, numbers[key]))
        return rows, standings


def place_of(items, item):
    """The place of this very item; others may be equal to it."""
    return [at for at, other in enumerate(items) if other is item][0]


def names_in(step):
    """The locals that a step names anywhere."""
    if step[0] in ("lock", "free"):
        return []
    guard = step[-1]
    found = []
    if step[0] in ("read", "acquire", "swap", "cas", "take", "drop"):
        found.append(step[1])
    for part in step[1:-1]:
        if isinstance(part, tuple):
            if step[0] not in ("give",) and is_pair_place(step, part):
                found.append(part[1])
            else:
                found += [item for item in part if isinstance(item, str)]
    if guard is not None:
        found += [guard[0]] + [item for item in guard[2] if isinstance(item, str)]
    return found


def is_pair_place(step, part):
    place = step[1] if step[0] in ("write", "release") else step[2] if len(step) > 2 else None
    return step[0] != "give" and part is place
