"""Towers: a table, a build, and the machines between them, each of which must answer as the one above it."""

from coretower.clients import check_client
from coretower.errors import NoRung, NotAtOnce
from coretower.games import Game
from coretower.papers import lockstep
from coretower.plain import plain_web
from coretower.recipes import added
from coretower.spaces import Space, check_settings
from coretower.webs import shown

TABLE = "table"
WHOLE = "whole"
BY_RULE = ("pool", "recipe", "chooser")


class Tower:
    """The rungs of a table, a build, a client and what else a machine can be made of."""

    def __init__(self, table, build, client, *, pool=None, book=None, recipe=None, window=2, chooser=None):
        check_client(client, build.names())
        check_settings(build, client, pool, book, recipe, window, chooser)
        self.build = build
        self._table = table
        self._client = list(client)
        # Later changes of the recipe do not change what the tower is made of.
        own = None if recipe is None else added(recipe, [])
        self._settings = {"pool": pool, "book": book, "recipe": own, "window": window, "chooser": chooser}
        machines = machines_of(build, self._settings)
        # The plain web comes first: it refuses a client whose operations the table does not have.
        self._webs = {TABLE: plain_web(table, client)}
        self._spaces = {}
        for name in machines:
            settings = machines[name]
            self._spaces[name] = Space(build, client, **settings)
            self._webs[name] = self._spaces[name].web
        self._names = list(self._webs)
        self._games = {}

    def rungs(self):
        """The list of the names of the rungs, from the top."""
        return list(self._names)

    def __iter__(self):
        return iter(self._names)

    def __getitem__(self, at):
        if at not in self._names:
            raise NoRung(at)
        return self._webs[at]

    def space(self, name):
        """The Space of a rung below the table."""
        self._check_below(name)
        return self._spaces[name]

    def game(self, name):
        """The Game of a rung below the table and the one above, or that of the whole tower."""
        if name != WHOLE:
            self._check_below(name)
        if name not in self._games:
            low, high = self._names[-1], TABLE
            if name != WHOLE:
                low, high = name, self._above(name)
            self._games[name] = Game(self._webs[low], self._webs[high])
        return self._games[name]

    def word(self, name):
        """The word of a rung below the table."""
        self._check_below(name)
        return self.game(name).word()

    def whole(self):
        """The word of the tower."""
        return self.game(WHOLE).word()

    def papers(self):
        """The list of the papers of the rungs, from the lowest one up."""
        names = self._names[:0:-1]
        games = [self.game(name) for name in names]
        for name, game in zip(names, games):
            if game.word() != "at once":
                raise NotAtOnce(name)
        return [game.paper() for game in games]

    def paper(self):
        """The papers of the rungs, put together."""
        papers = self.papers()
        joint = papers[0]
        for upper in papers[1:]:
            joint = joint.then(upper)
        return joint

    def blame(self, run):
        """The rung on which the history of a run of the lowest web is blamed; None if the plain web has it."""
        self._webs[self._names[-1]].go(run)
        history = shown(run)
        if history in self._webs[TABLE]:
            return None
        return [name for name in self._names[:0:-1] if history not in self._webs[self._above(name)]][0]

    def rebuilt(self, build):
        """The tower that has another build, other things being equal."""
        settings = self._settings
        return Tower(self._table, build, self._client, **settings)

    def _above(self, name):
        return self._names[self._names.index(name) - 1]

    def _check_below(self, name):
        """Raise NoRung unless this, any value, is the name of a rung below the table."""
        if name not in self._names[1:]:
            raise NoRung(name)


def machines_of(build, settings):
    """A dict from the rungs of machines, from the top, to what makes a Space of each."""
    nodes = {"pool": settings["pool"]}
    recipe = settings["recipe"]
    book = settings["book"] if recipe is None else recipe.source
    machines = {"joined": {"joined": True}}
    if build.locks():
        machines["opened"] = {}
    if settings["pool"] is not None:
        machines["pool"] = nodes
    if book is not None:
        machines["book"] = {**nodes, "book": book, "window": settings["window"]}
    if recipe is not None:
        machines["recipe"] = {**nodes, "recipe": recipe, "window": settings["window"]}
    if settings["chooser"] is not None:
        lowest = list(machines.values())[-1]
        machines["chooser"] = {**lowest, "chooser": settings["chooser"]}
    return machines


def by_rule(tower, name):
    """The lockstep of the web of a rung that follows from rules alone and the web above; None if it has more runs."""
    if name not in BY_RULE:
        raise NoRung(name)
    low, names = tower[name], tower.rungs()
    return lockstep(low, tower[names[names.index(name) - 1]])
