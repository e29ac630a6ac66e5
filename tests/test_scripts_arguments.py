"""What scripts refuse, in which sequence, and that what is refused changes nothing."""

import itertools
import unittest

from indexturns.errors import (
    InvalidBits, InvalidBudget, InvalidNumber, InvalidOperation, InvalidPages, InvalidTurn, OverBudget, UnlikeBits)
from indexturns.makers import backwards
from indexturns.scripts import BudgetScript, Script
from indexturns.turns import Turn, identity
from tests.helpers import GREAT_NUMBERS, NO_BITS, NO_INTEGERS, NO_TURNS, ErrorCase, odd, three, tiles

NO_BUDGETS = NO_INTEGERS + [-1, -2, -10 ** 100]
# Values that are no tuple of `add` or `again` and one more item.
NO_OPERATIONS = NO_INTEGERS + [
    0, "add", "again", (), ("add",), ("again",), ("undo",), ("undo", 1), ("add", three(), 1), ("again", 1, 2),
    ("Add", three()), ("AGAIN", 1), ("add ", three()), ("", 1), (b"add", three()), (None, 1), (0, 1), (three(), "add"),
    (1, "again"), (["add"], three()), (("add",), three()), ["add", three()], ["again", 1], [("again", 1)],
    (("again", 1),), (("again", 1), ("again", 1)), {"again": 1}, {"again", "add"}, "ad", three()]


def state(script):
    return [script.bits, script.page_bits, script.whole, script.spent, script.log()]


class StartTest(ErrorCase):
    def test_wrong_bits(self):
        for wrong in NO_BITS:
            for page_bits in (0, 1, -1, 101, None):
                self.assert_error(InvalidBits, Script, wrong, page_bits)
                for budget in (0, -1, None):
                    self.assert_error(InvalidBits, BudgetScript, wrong, page_bits, budget)

    def test_wrong_page_bits(self):
        for bits in (1, 2, 3, 64, 100):
            for wrong in NO_INTEGERS + [-1, -2, bits + 1, bits + 2, 10 ** 100, -10 ** 100]:
                self.assert_error(InvalidPages, Script, bits, wrong)
                for budget in (0, -1, None):
                    self.assert_error(InvalidPages, BudgetScript, bits, wrong, budget)

    def test_wrong_budgets(self):
        for wrong in NO_BUDGETS:
            for bits, page_bits in ((1, 0), (3, 1), (100, 100)):
                self.assert_error(InvalidBudget, BudgetScript, bits, page_bits, wrong)

    def test_the_ends_of_the_ranges(self):
        for bits in (1, 2, 64, 99, 100):
            for page_bits in (0, 1, bits):
                self.assertEqual(state(Script(bits, page_bits)), [bits, page_bits, identity(bits), 0, []])
                self.assertEqual(state(BudgetScript(bits, page_bits, 0)), [bits, page_bits, identity(bits), 0, []])


class CallsTest(ErrorCase):
    def scripts(self):
        """Scripts of three bits; those with a budget can't afford anything any more."""
        found = [Script(3, 1), BudgetScript(3, 1, 0), Script(3, 1), BudgetScript(3, 1, 8)]
        for script in found[2:]:
            script.add(three())
        return found

    def test_wrong_turns(self):
        for script in self.scripts():
            ahead = state(script)
            for wrong in NO_TURNS:
                self.assert_error(InvalidTurn, script.add, wrong)
                self.assert_error(InvalidTurn, script.preview, ("add", wrong))
                self.assertEqual(state(script), ahead)

    def test_turns_of_other_bits(self):
        for script in self.scripts():
            ahead = state(script)
            for other in [Turn([0], 0), Turn([0], 1), odd(), tiles(), identity(2), identity(4), backwards(100)]:
                self.assert_error(UnlikeBits, script.add, other)
                self.assert_error(UnlikeBits, script.preview, ("add", other))
                self.assertEqual(state(script), ahead)

    def test_wrong_numbers(self):
        for script in self.scripts():
            ahead = state(script)
            for wrong in NO_INTEGERS:
                self.assert_error(InvalidNumber, script.again, wrong)
                self.assert_error(InvalidNumber, script.preview, ("again", wrong))
                self.assertEqual(state(script), ahead)

    def test_great_numbers_are_right(self):
        for number in GREAT_NUMBERS:
            script = Script(3, 1)
            script.add(three())
            self.assertIsNone(script.again(number))
            self.assertEqual(script.log()[1], ("again", number))

    def test_a_refused_call_is_not_taken_back(self):
        script = Script(3, 1)
        script.add(three())
        for call, wrong in ((script.add, None), (script.add, odd()), (script.again, None)):
            self.assertRaises(ValueError, call, wrong)
        script.undo()
        self.assertEqual(state(script), [3, 1, identity(3), 0, []])


class PreviewTest(ErrorCase):
    def test_wrong_operations(self):
        for script in (Script(3, 1), BudgetScript(3, 1, 0), BudgetScript(3, 1, 100)):
            script.again(1)
            ahead = state(script)
            for wrong in NO_OPERATIONS:
                self.assert_error(InvalidOperation, script.preview, wrong)
                self.assert_error(InvalidOperation, script.preview, ("again", 1), wrong)
                self.assert_error(InvalidOperation, script.preview, wrong, ("again", 1))
                self.assert_error(InvalidOperation, script.preview, *([("again", 1)] * 11), wrong)
                self.assertEqual(state(script), ahead)

    def test_wrong_operations_go_ahead_of_the_errors_of_the_calls(self):
        script = BudgetScript(3, 1, 0)
        for wrong in NO_OPERATIONS:
            for call in (("add", None), ("add", odd()), ("again", None), ("add", three())):
                self.assert_error(InvalidOperation, script.preview, call, wrong)
                self.assert_error(InvalidOperation, script.preview, wrong, call)

    def test_the_errors_of_the_calls_in_their_sequence(self):
        faults = [(("add", None), InvalidTurn), (("add", odd()), UnlikeBits), (("again", "1"), InvalidNumber)]
        for script in (Script(3, 1), BudgetScript(3, 1, 100)):
            script.add(three())
            ahead = state(script)
            for (first, error_class), (second, _) in itertools.product(faults, repeat=2):
                self.assert_error(error_class, script.preview, first, second)
                self.assert_error(error_class, script.preview, ("again", 1), first, ("again", 1), second)
                self.assertEqual(state(script), ahead)

    def test_budgets_in_their_sequence(self):
        script = BudgetScript(3, 1, 7)
        for call, error_class in ((("add", None), InvalidTurn), (("add", odd()), UnlikeBits),
                                  (("again", None), InvalidNumber)):
            self.assert_error(error_class, script.preview, call, ("add", three()))
            error = self.assert_error(OverBudget, script.preview, ("add", three()), call)
            self.assertEqual(error.total, 8)
        self.assertEqual(state(script), [3, 1, identity(3), 0, []])

    def test_twelve_operations(self):
        operations = [("add", three())] * 12
        self.assertEqual(Script(3, 1).preview(*operations), 96)
        self.assertEqual(BudgetScript(3, 1, 96).preview(*operations), 96)
        error = self.assert_error(OverBudget, BudgetScript(3, 1, 95).preview, *operations)
        self.assertEqual(error.total, 96)

    def test_the_operations_stay(self):
        turn = Turn([1, 2, 0], 5)
        operations = (("add", turn), ("again", -1))
        script = Script(3, 1)
        self.assertEqual([script.preview(*operations), script.preview(*operations)], [16, 16])
        self.assertEqual(operations, (("add", turn), ("again", -1)))
        self.assert_turn(turn, [1, 2, 0], 5)


if __name__ == "__main__":
    unittest.main()
