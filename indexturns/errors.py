"""The errors of the package, one class for each kind of failure."""


class TurnError(ValueError):
    """The base of all errors of the package."""


class InvalidTargets(TurnError):
    """The targets make no turn: `item` is the number of the first wrong one, None if there is no list of them."""

    def __init__(self, item):
        self.item = item


class InvalidPlaces(TurnError):
    """The list of places is wrong: `item` is the number of the first wrong one, None if there is no such list."""

    def __init__(self, item):
        self.item = item


class InvalidTurns(TurnError):
    """The list of turns is wrong: `item` is the number of the first wrong one, None if there is no such list."""

    def __init__(self, item):
        self.item = item


class InvalidSeen(TurnError):
    """The list of seen items is wrong: `item` is the number of the first wrong one, None if there is no such list."""

    def __init__(self, item):
        self.item = item


class InvalidText(TurnError):
    """The text is not that of a turn: `part` is the number of the first wrong part, None if it is no string."""

    def __init__(self, part):
        self.part = part


class OverBudget(TurnError):
    """The call would spend more than the budget: `total` is what would be spent in all."""

    def __init__(self, total):
        self.total = total


class InvalidTurn(TurnError):
    """A value is not a Turn."""


class InvalidFlips(TurnError):
    """The flips are no integer from 0, less than 2 ** n."""


class InvalidBits(TurnError):
    """A number of bits is out of its range."""


class InvalidPlace(TurnError):
    """A value is not a place of the array."""


class InvalidNumber(TurnError):
    """A value is not an integer."""


class InvalidPages(TurnError):
    """The bits of pages or of the memory are out of their range."""


class InvalidWord(TurnError):
    """A value is not a word of 1 to 100 letters from a to z."""


class InvalidBudget(TurnError):
    """A budget is no integer from 0 on."""


class UnlikeBits(TurnError):
    """Two values that belong together have unlike numbers of bits."""


class UnlikeWords(TurnError):
    """Two words do not have each letter equally often."""


class InvalidOperation(TurnError):
    """A value is not an operation of a script."""


class Nothing(TurnError):
    """There is no call left to take back."""


class InvalidCommand(TurnError):
    """A value has none of the forms of a command."""
