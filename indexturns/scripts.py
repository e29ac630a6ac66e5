"""Scripts: arrays that are turned again and again, call by call, and what it costs."""

from indexturns.checks import check_bits, check_page_bits, is_integer
from indexturns.errors import InvalidBudget, InvalidOperation, Nothing, OverBudget
from indexturns.pages import page_pairs
from indexturns.turns import check_alike, identity, leaves_all, power, then


class Script:
    """An array that is turned again and again, at first with all items at home."""

    def __init__(self, bits, page_bits):
        check_bits(bits)
        check_page_bits(page_bits, bits)
        self._bits = bits
        self._page_bits = page_bits
        self._whole = identity(bits)
        self._spent = 0
        # For each call that is not taken back, what it was, and the turn and the number that it found.
        self._calls = []

    @property
    def bits(self):
        """How many bits a place has."""
        return self._bits

    @property
    def page_bits(self):
        """How many bits a place within a page has."""
        return self._page_bits

    @property
    def whole(self):
        """The turn that brings all items from home to where they are."""
        return self._whole

    @property
    def spent(self):
        """How many page transfers it took."""
        return self._spent

    def __eq__(self, other):
        return isinstance(other, Script) and not isinstance(other, BudgetScript) and _state(self) == _state(other)

    def add(self, turn):
        """Does a turn."""
        self._do(("add", turn), None)

    def again(self, number):
        """Does the turn `whole` so many times more, also 0 or less."""
        self._do(("again", number), None)

    def undo(self):
        """Takes back the last call that is not taken back yet."""
        if not self._calls:
            raise Nothing("no call is left to take back")
        _, self._whole, self._spent = self._calls.pop()

    def log(self):
        """The list of the calls that are not taken back."""
        return [call[0] for call in self._calls]

    def preview(self, *operations):
        """What would be spent behind these operations."""
        return self._total(operations, None)

    def _do(self, operation, most):
        """Does an operation, unless more than the most would be spent then; None stands for no bound."""
        whole, spent = self._behind(operation, self._whole, self._spent, most)
        self._calls.append((operation, self._whole, self._spent))
        self._whole = whole
        self._spent = spent

    def _total(self, operations, most):
        """What would be spent behind these operations, never more than the most."""
        for operation in operations:
            _check_operation(operation)
        whole = self._whole
        spent = self._spent
        for operation in operations:
            whole, spent = self._behind(operation, whole, spent, most)
        return spent

    def _behind(self, operation, whole, spent, most):
        """The tuple (whole, spent) behind an operation, of those ahead of it."""
        turn = _turn_done(operation, whole)
        total = spent if leaves_all(turn) else spent + page_pairs(turn, self._page_bits)
        if most is not None and total > most:
            raise OverBudget(total)
        return (then(whole, turn), total)


class BudgetScript(Script):
    """A script that spends no more than its budget."""

    def __init__(self, bits, page_bits, budget):
        super().__init__(bits, page_bits)
        if not is_integer(budget) or budget < 0:
            raise InvalidBudget("budget: not an integer from 0 on")
        self._budget = budget

    @property
    def budget(self):
        """The most page transfers that it may take."""
        return self._budget

    def __eq__(self, other):
        return isinstance(other, BudgetScript) and self._budget == other._budget and _state(self) == _state(other)

    def add(self, turn):
        """Does a turn, unless it costs too much."""
        self._do(("add", turn), self._budget)

    def again(self, number):
        """Does the turn `whole` so many times more, unless it costs too much."""
        self._do(("again", number), self._budget)

    def preview(self, *operations):
        """What would be spent behind these operations, unless one of them costs too much."""
        return self._total(operations, self._budget)


def _state(script):
    """What two scripts have in common if they are equal; the whole turn tells the bits, too."""
    return (script._page_bits, script._whole, script._spent)


def _check_operation(operation):
    """Raises InvalidOperation unless the value is a tuple as the log has them."""
    if not isinstance(operation, tuple) or len(operation) != 2:
        raise InvalidOperation("operation: not a tuple of a word and one more item")
    if not isinstance(operation[0], str) or operation[0] not in ("add", "again"):
        raise InvalidOperation("operation: its word is not add or again")


def _turn_done(operation, whole):
    """The turn that an operation does where the turn `whole` is done already."""
    word, told = operation
    if word == "again":
        return power(whole, told)
    check_alike(whole, told)
    return told
