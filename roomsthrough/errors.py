"""All errors of the package. Their texts name no values, as a value may be too long to be written out."""


class MazeError(ValueError):
    """Something was not as the document asks for."""


class BadRules(MazeError):
    """What stands for rules, or for a part of them, is not as it has to be."""

    def __init__(self, value):
        super().__init__("not as rules have to be")
        self.value = value


class BadBag(MazeError):
    """What stands for a bag is not a bag of the rules."""

    def __init__(self, value):
        super().__init__("not a bag of the rules")
        self.value = value


class BadRoom(MazeError):
    """What stands for a room, or for a row of one, is not as it has to be."""

    def __init__(self, value):
        super().__init__("not as a room has to be")
        self.value = value


class BadCell(MazeError):
    """A room has no cell of this number."""

    def __init__(self, index):
        super().__init__("no cell of this number")
        self.index = index


class BadMouth(MazeError):
    """A room has no mouth of this number."""

    def __init__(self, number):
        super().__init__("no mouth of this number")
        self.number = number


class BadLevel(MazeError):
    """What stands for a level, or for the children of one, is not as it has to be."""

    def __init__(self, value):
        super().__init__("not as a level has to be")
        self.value = value


class BadPath(MazeError):
    """A path leads to no part of a level."""

    def __init__(self, path):
        super().__init__("a path that leads to no part")
        self.path = path


class BadPlay(MazeError):
    """A play has a letter that is not possible, or is no string."""

    def __init__(self, at):
        super().__init__("not a play that is possible")
        self.at = at


class BadOutcome(MazeError):
    """What stands for an outcome, or for a row of them, is none."""

    def __init__(self, value):
        super().__init__("not an outcome")
        self.value = value


class BadTable(MazeError):
    """What stands for a table, or for the rows of one, is not as it has to be."""

    def __init__(self, value):
        super().__init__("not as a table has to be")
        self.value = value


class BadFrail(MazeError):
    """What stands for a frailty is not as it has to be."""

    def __init__(self, value):
        super().__init__("not as a frailty has to be")
        self.value = value


class BadFull(MazeError):
    """What stands for a full table is not as it has to be."""

    def __init__(self, value):
        super().__init__("not as a full table has to be")
        self.value = value


class BadGrammar(MazeError):
    """What stands for a grammar, or for a production, is not as it has to be."""

    def __init__(self, value):
        super().__init__("not as a grammar has to be")
        self.value = value


class BadDerivation(MazeError):
    """What stands for a derivation is none of the grammar."""

    def __init__(self, value):
        super().__init__("not a derivation of the grammar")
        self.value = value


class BadName(MazeError):
    """What stands for a name is not a name of the grammar."""

    def __init__(self, value):
        super().__init__("not a name of the grammar")
        self.value = value


class BadCount(MazeError):
    """What stands for a number of things is not one that is let."""

    def __init__(self, value):
        super().__init__("not a number that is let here")
        self.value = value


class BadWish(MazeError):
    """What stands for a wish is none."""

    def __init__(self, value):
        super().__init__("not a wish")
        self.value = value


class BadPrices(MazeError):
    """A row of prices, or one of them, is not as it has to be."""

    def __init__(self, at):
        super().__init__("not as prices have to be")
        self.at = at


class BadNumber(MazeError):
    """There is no derivation of this number."""

    def __init__(self, value):
        super().__init__("nothing has this number")
        self.value = value


class BadIndex(MazeError):
    """There is no production at this index."""

    def __init__(self, at):
        super().__init__("no production at this index")
        self.at = at


class BadText(MazeError):
    """A text has a line that is not as it has to be."""

    def __init__(self, at):
        super().__init__("not a text that can be read")
        self.at = at


class BadPaper(MazeError):
    """A paper is not right."""


class NoPaper(MazeError):
    """There is no such paper."""


class NothingDone(MazeError):
    """Nothing is left to be taken back."""


class TooMany(MazeError):
    """There are more rooms, states or tables than are let."""
