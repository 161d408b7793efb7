"""The errors of the package, each with the fields that tell what is wrong."""


class CoreError(ValueError):
    """The base class of all errors of the package."""


class BadName(CoreError):
    """This value cannot be a name here: it is none, or it is in use already."""

    def __init__(self, name):
        super().__init__("no name that can stand here")
        self.name = name


class BadNumber(CoreError):
    """This value is no number, or it is out of its bounds."""

    def __init__(self, number):
        super().__init__("no number that can stand here")
        self.number = number


class TooLarge(CoreError):
    """There is more of something than this bound allows, or nothing where something must be."""

    def __init__(self, bound):
        super().__init__(f"not within the bound of {bound}")
        self.bound = bound


class BadWeb(CoreError):
    """The moves of this standing are wrong."""

    def __init__(self, at):
        super().__init__(f"the moves of standing {at} are wrong")
        self.at = at


class NoStanding(CoreError):
    """This value is not the number of a standing."""

    def __init__(self, at):
        super().__init__("not the number of a standing")
        self.at = at


class BadRun(CoreError):
    """The deed with this index cannot be made."""

    def __init__(self, at):
        super().__init__(f"deed {at} of the run cannot be made")
        self.at = at


class NotMet(CoreError):
    """This move of this pair is not met."""

    def __init__(self, pair, deed):
        super().__init__("a move of a pair is not met")
        self.pair = pair
        self.deed = deed


class OtherWeb(CoreError):
    """Two webs that must have the same moves have not."""

    def __init__(self):
        super().__init__("the webs do not have the same moves")


class BadReply(CoreError):
    """This value is no reply."""

    def __init__(self, at):
        super().__init__("not a reply")
        self.at = at


class BadTable(CoreError):
    """This operation of a table is wrong; without a name, the table as a whole."""

    def __init__(self, name):
        super().__init__("the table, or an operation of it, is wrong")
        self.name = name


class NoOperation(CoreError):
    """There is no operation of this name."""

    def __init__(self, name):
        super().__init__("no operation has this name")
        self.name = name


class SameName(CoreError):
    """This name stands twice."""

    def __init__(self, name):
        super().__init__("a name stands twice")
        self.name = name


class OtherNames(CoreError):
    """Two tables that must have the same operation names have not."""

    def __init__(self):
        super().__init__("the tables do not have the same operation names")


class BadStep(CoreError):
    """This step of the operation of this name is wrong."""

    def __init__(self, name, at):
        super().__init__(f"step {at} of operation {name} is wrong")
        self.name = name
        self.at = at


class NoCell(CoreError):
    """There is no cell or field of this name."""

    def __init__(self, name):
        super().__init__("no cell or field has this name")
        self.name = name


class NoEnd(CoreError):
    """A call of this operation that runs alone does not end."""

    def __init__(self, name):
        super().__init__("a call that runs alone does not end")
        self.name = name


class BadClient(CoreError):
    """This caller of a client is wrong."""

    def __init__(self, caller):
        super().__init__(f"caller {caller} of the client is wrong")
        self.caller = caller


class BadSetting(CoreError):
    """This setting cannot be."""

    def __init__(self, setting):
        super().__init__("a setting that cannot be")
        self.setting = setting


class BadPair(CoreError):
    """This value is not a pair that can stand here."""

    def __init__(self, pair):
        super().__init__("not a pair that can stand here")
        self.pair = pair


class BadFence(CoreError):
    """A further fence cannot have this name."""

    def __init__(self, name):
        super().__init__("no name for a further fence")
        self.name = name


class NoFence(CoreError):
    """There is no fence of this name."""

    def __init__(self, name):
        super().__init__("no fence has this name")
        self.name = name


class NoRow(CoreError):
    """There is no row of this name."""

    def __init__(self, name):
        super().__init__("no row has this name")
        self.name = name


class BadRow(CoreError):
    """The row of this name is wrong."""

    def __init__(self, name):
        super().__init__("a row is wrong")
        self.name = name


class OtherBook(CoreError):
    """Two books that must agree do not."""

    def __init__(self):
        super().__init__("the books do not agree")


class BadEntry(CoreError):
    """This entry of a rule is wrong."""

    def __init__(self, entry):
        super().__init__("not an entry of a rule")
        self.entry = entry


class OtherLocks(CoreError):
    """Two rules that must have the same locks have not."""

    def __init__(self):
        super().__init__("the rules do not have the same locks in the same order")


class BadPool(CoreError):
    """A pool cannot have this size."""

    def __init__(self, size):
        super().__init__("a pool cannot have this size")
        self.size = size


class BadChooser(CoreError):
    """This state of a chooser is wrong, or it has none of this number."""

    def __init__(self, state):
        super().__init__("a state of the chooser is wrong")
        self.state = state


class NotRegular(CoreError):
    """The web is not regular."""

    def __init__(self):
        super().__init__("the web is not regular")


class BadTrace(CoreError):
    """The deed with this index cannot stand in the trace."""

    def __init__(self, at):
        super().__init__(f"deed {at} of the trace is wrong")
        self.at = at


class NoRung(CoreError):
    """There is no rung of this name."""

    def __init__(self, name):
        super().__init__("no rung has this name")
        self.name = name


class NotAtOnce(CoreError):
    """The word of the rung of this name is not "at once"."""

    def __init__(self, name):
        super().__init__("the word of a rung is not: at once")
        self.name = name


class BadPlace(CoreError):
    """This place is not valid, or it stands twice."""

    def __init__(self, place):
        super().__init__("not a place to mend, or one that stands twice")
        self.place = place


class BadText(CoreError):
    """This line of a text is wrong."""

    def __init__(self, line):
        super().__init__(f"line {line} of the text is wrong")
        self.line = line


class NoThing(CoreError):
    """There is no thing of this name."""

    def __init__(self, name):
        super().__init__("no thing has this name")
        self.name = name


class BadAsk(CoreError):
    """This line asks for nothing that can be asked for."""

    def __init__(self, line):
        super().__init__("nothing that can be asked for")
        self.line = line
