"""Section 12: scripts, their calls one by one, and what they cost."""

import random
import unittest

from indexturns import scripts
from indexturns.errors import Nothing, OverBudget
from indexturns.makers import backwards, reversal, shuffled, transposed
from indexturns.pages import page_pairs
from indexturns.scripts import BudgetScript, Script
from indexturns.turns import Turn, identity, inverse, power, then
from tests.helpers import (
    GREAT_NUMBERS, LAST, ErrorCase, all_places, all_turns, many_cycles, odd, some_turns, three,
    turns_of_a_hundred_bits)


class Model:
    """A script of few bits that brings all items from place to place, one turn after the other."""

    def __init__(self, bits, page_bits):
        self.page_size = 2 ** page_bits
        # Where the item with each home is, and what was so ahead of each call.
        self.places = list(range(2 ** bits))
        self.spent = 0
        self.calls = []

    def do(self, operation, step, many):
        """Brings the items so many times where the step, the new places of all places, brings them."""
        self.calls.append((operation, self.places, self.spent))
        moved = list(range(len(self.places)))
        for _ in range(many):
            moved = [step[place] for place in moved]
        if moved != list(range(len(moved))):
            self.spent += len({(place // self.page_size, new // self.page_size) for place, new in enumerate(moved)})
        self.places = [moved[place] for place in self.places]

    def add(self, turn):
        self.do(("add", turn), all_places(turn), 1)

    def again(self, number):
        step = list(self.places)
        if number < 0:
            step = [self.places.index(place) for place in range(len(step))]
        self.do(("again", number), step, abs(number))

    def undo(self):
        _, self.places, self.spent = self.calls.pop()


def state(script):
    return [script.bits, script.page_bits, script.whole.targets, script.whole.flips, script.spent, log_of(script)]


def log_of(script):
    """The log with targets and flips for the turns."""
    return [(word, (item.targets, item.flips) if isinstance(item, Turn) else item) for word, item in script.log()]


def script_of(bits, page_bits, *operations):
    return done(Script(bits, page_bits), operations)


def budget_script_of(bits, page_bits, budget, *operations):
    return done(BudgetScript(bits, page_bits, budget), operations)


def done(script, operations):
    for word, item in operations:
        if word == "add":
            script.add(item)
        else:
            script.again(item)
    return script


class WhereTest(unittest.TestCase):
    def test_defined_here(self):
        for made in (Script, BudgetScript):
            self.assertEqual(made.__module__, "indexturns.scripts")
            self.assertIs(getattr(scripts, made.__name__), made)
        for name in ("bits", "page_bits", "whole", "spent", "__eq__", "add", "again", "undo", "log", "preview"):
            self.assertIn(name, vars(Script))
        for name in ("budget", "__eq__", "add", "again", "preview"):
            self.assertIn(name, vars(BudgetScript))
        self.assertTrue(issubclass(BudgetScript, Script))
        for made, name in [(Script, word) for word in ("bits", "page_bits", "whole", "spent")] + [
                (BudgetScript, "budget")]:
            self.assertIsInstance(vars(made)[name], property)


class StartTest(ErrorCase):
    def test_all_items_at_home(self):
        for bits, page_bits in ((1, 0), (1, 1), (3, 1), (100, 0), (100, 50), (100, 100)):
            for script in (Script(bits, page_bits), BudgetScript(bits, page_bits, 0)):
                self.assertEqual(state(script), [bits, page_bits, list(range(bits)), 0, 0, []])
                self.assertIs(type(script.whole), Turn)
                self.assertEqual(script.preview(), 0)
                self.assert_error(Nothing, script.undo)

    def test_the_budget(self):
        for budget in (0, 1, 7, 2 ** 100, 10 ** 100 - 1):
            self.assertEqual(BudgetScript(3, 1, budget).budget, budget)


class AgainstTheModelTest(ErrorCase):
    def run_calls(self, chance, script, model, turns):
        for _ in range(12):
            kind = chance.randrange(5)
            if kind < 2:
                turn = chance.choice(turns)
                self.assertIsNone(script.add(turn))
                model.add(turn)
            elif kind < 4:
                number = chance.randrange(-7, 8)
                self.assertIsNone(script.again(number))
                model.again(number)
            elif model.calls:
                self.assertIsNone(script.undo())
                model.undo()
            self.assertEqual(all_places(script.whole), model.places)
            self.assertEqual(script.spent, model.spent)
            self.assertEqual(script.log(), [call[0] for call in model.calls])

    def test_turn_by_turn(self):
        chance = random.Random(1)
        for bits in (1, 2, 3, 4):
            turns = some_turns(bits, 5, bits) + [identity(bits), backwards(bits)]
            for page_bits in range(bits + 1):
                for _ in range(12):
                    self.run_calls(chance, Script(bits, page_bits), Model(bits, page_bits), turns)

    def test_turn_by_turn_with_a_budget(self):
        chance = random.Random(2)
        for bits in (2, 3):
            turns = some_turns(bits, 5, bits)
            for page_bits in range(bits + 1):
                self.run_calls(chance, BudgetScript(bits, page_bits, 12 * 2 ** bits), Model(bits, page_bits), turns)

    def test_each_turn_alone(self):
        for turn in all_turns(3):
            for page_bits in range(4):
                model = Model(3, page_bits)
                model.add(turn)
                cost = 0 if turn == identity(3) else page_pairs(turn, page_bits)
                script = script_of(3, page_bits, ("add", turn))
                self.assertEqual([script.spent, script.whole == turn], [cost, True])
                self.assertEqual([script.preview(("add", turn)), model.spent], [2 * cost, cost])


class CallsTest(ErrorCase):
    def test_again_as_often_as_told(self):
        for turn in turns_of_a_hundred_bits()[::5]:
            for number in [0, -1, -2, 1, 2, 9] + GREAT_NUMBERS:
                script = script_of(100, 50, ("add", turn), ("again", number))
                self.assertEqual(script.whole, power(turn, number + 1))
                cost = 0 if turn == identity(100) else page_pairs(turn, 50)
                more = power(turn, number)
                self.assertEqual(script.spent, cost + (0 if more == identity(100) else page_pairs(more, 50)))

    def test_again_of_nothing_costs_nothing(self):
        script = script_of(3, 1, ("again", 5), ("again", 10 ** 30), ("again", -1), ("again", 0))
        self.assertEqual(state(script)[2:], [[0, 1, 2], 0, 0, [("again", 5), ("again", 10 ** 30), ("again", -1),
                                                               ("again", 0)]])

    def test_a_turn_that_leaves_all_costs_nothing(self):
        script = script_of(3, 1, ("add", identity(3)), ("add", three()), ("again", 3), ("again", 0), ("again", 300))
        self.assertEqual([script.spent, script.whole == three(), len(script.log())], [8, True, 5])
        # What was flipped moves even if each bit goes to itself.
        self.assertEqual(script_of(3, 1, ("add", Turn([0, 1, 2], 1))).spent, 4)

    def test_there_and_back(self):
        turn = transposed(40, 60)
        script = script_of(100, 30, ("add", turn), ("again", -1))
        self.assertEqual([script.whole == identity(100), script.spent], [True, 2 * page_pairs(turn, 30)])
        script = script_of(100, 30, ("add", turn), ("again", -2))
        self.assertEqual([script.whole == inverse(turn), script.spent],
                         [True, page_pairs(turn, 30) + page_pairs(power(turn, 2), 30)])

    def test_undo_of_all_calls(self):
        script = Script(100, 50)
        operations = [("add", shuffled(100)), ("again", 6), ("add", reversal(100)), ("again", -1),
                      ("add", identity(100)), ("again", 0), ("add", many_cycles(LAST)), ("again", 10 ** 99)]
        states = []
        for operation in operations:
            states.append(state(script))
            done(script, [operation])
        for told in states[::-1]:
            self.assertIsNone(script.undo())
            self.assertEqual(state(script), told)
        self.assert_error(Nothing, script.undo)
        self.assertEqual(state(script), states[0])

    def test_undo_between_calls(self):
        script = script_of(3, 1, ("add", three()), ("again", 1))
        script.undo()
        script.add(backwards(3))
        self.assertEqual(state(script), state(script_of(3, 1, ("add", three()), ("add", backwards(3)))))
        script.undo()
        script.undo()
        self.assertEqual(state(script), state(Script(3, 1)))
        self.assert_error(Nothing, script.undo)

    def test_two_hundred_calls(self):
        script = Script(100, 99)
        for number in range(100):
            script.add(shuffled(100))
            script.again(number)
        self.assertEqual(len(script.log()), 200)
        for _ in range(200):
            script.undo()
        self.assertEqual(state(script), state(Script(100, 99)))

    def test_the_log_is_a_new_list(self):
        turn = three()
        script = script_of(3, 1, ("add", turn), ("again", -1))
        first = script.log()
        self.assertEqual([type(call) for call in first], [tuple, tuple])
        self.assertEqual(first, [("add", turn), ("again", -1)])
        self.assertIsNot(script.log(), first)
        first.append(("again", 7))
        first[0] = None
        self.assertEqual(script.log(), [("add", turn), ("again", -1)])
        script.undo()
        self.assertEqual(script.log(), [("add", turn)])
        self.assertEqual(first, [None, ("again", -1), ("again", 7)])

    def test_the_turns_that_are_passed_or_returned_change_nothing(self):
        targets = [1, 2, 0]
        turn = Turn(targets, 3)
        script = script_of(3, 1, ("add", turn))
        targets[0] = 7
        turn.targets[0] = 7
        script.whole.targets[0] = 7
        script.log()[0][1].targets[0] = 7
        self.assertEqual(state(script), [3, 1, [1, 2, 0], 3, 8, [("add", ([1, 2, 0], 3))]])

    def test_scripts_apart(self):
        one, other = Script(3, 1), Script(3, 1)
        one.add(three())
        self.assertEqual(state(other), state(Script(3, 1)))

    def test_kinds_of_values(self):
        script = budget_script_of(3, 1, 100, ("add", three()))
        self.assertEqual([type(value) for value in (script.bits, script.page_bits, script.spent, script.budget,
                                                    script.preview(), script.preview(("again", 0)))], [int] * 6)


class PreviewTest(ErrorCase):
    def test_a_preview_tells_what_the_calls_then_spend(self):
        chance = random.Random(4)
        for bits, page_bits in ((1, 0), (3, 1), (4, 2), (100, 40)):
            turns = some_turns(bits, 5, 9) + [identity(bits), backwards(bits)]
            for script in (Script(bits, page_bits), BudgetScript(bits, page_bits, 13 * 2 ** bits)):
                for many in (0, 1, 2, 5, 12):
                    operations = [chance.choice([("add", chance.choice(turns)), ("again", chance.randrange(-9, 9))])
                                  for _ in range(many)]
                    ahead = state(script)
                    told = script.preview(*operations)
                    self.assertEqual(state(script), ahead)
                    done(script, operations)
                    self.assertEqual(script.spent, told)
                    for _ in operations:
                        script.undo()
                    self.assertEqual(state(script), ahead)

    def test_a_preview_goes_on_from_what_was_done(self):
        script = script_of(3, 1, ("add", three()))
        self.assertEqual([script.preview(), script.preview(("again", 1)), script.preview(("again", 2))], [8, 16, 16])
        self.assertEqual(script.preview(("again", 1), ("again", 1)), 24)
        self.assertEqual(script.preview(("again", -1), ("again", 10 ** 30)), 16)
        self.assertEqual(script.log(), [("add", three())])


class EqualTest(unittest.TestCase):
    def assert_equal(self, one, other, are_equal):
        self.assertIs(one == other, are_equal)
        self.assertIs(other == one, are_equal)
        self.assertIs(one != other, not are_equal)
        self.assertIs(other != one, not are_equal)

    def test_what_counts(self):
        script = script_of(3, 1, ("add", three()))
        self.assert_equal(script, script_of(3, 1, ("add", three())), True)
        self.assert_equal(script, script, True)
        self.assert_equal(script, script_of(3, 2, ("add", three())), False)
        self.assert_equal(script, Script(3, 1), False)
        self.assert_equal(script, script_of(3, 1, ("add", inverse(three()))), False)
        self.assert_equal(Script(3, 1), Script(4, 1), False)
        # Same whole turn, other costs.
        self.assert_equal(script, script_of(3, 1, ("add", power(three(), 2)), ("again", 1)), False)
        # Same costs, other whole turn.
        self.assertEqual(script.spent, script_of(3, 1, ("add", Turn([1, 2, 0], 1))).spent)
        self.assert_equal(script, script_of(3, 1, ("add", Turn([1, 2, 0], 1))), False)
        # The same page transfers of other pages.
        self.assert_equal(script_of(2, 0, ("add", odd())), script_of(2, 1, ("add", odd())), False)

    def test_the_calls_do_not_count(self):
        one = script_of(3, 1, ("add", three()), ("again", 1))
        other = script_of(3, 1, ("add", inverse(three())), ("again", -2))
        third = script_of(3, 1, ("add", three()), ("add", three()), ("again", 0))
        self.assertEqual([other.whole == one.whole, other.spent], [False, 16])
        self.assert_equal(one, third, True)
        third.undo()
        self.assert_equal(one, third, True)
        third.undo()
        self.assert_equal(one, third, False)

    def test_budgets(self):
        script = budget_script_of(3, 1, 20, ("add", three()))
        self.assert_equal(script, budget_script_of(3, 1, 20, ("add", three())), True)
        self.assert_equal(script, budget_script_of(3, 1, 21, ("add", three())), False)
        self.assert_equal(script, BudgetScript(3, 1, 20), False)
        self.assert_equal(script, budget_script_of(3, 2, 20, ("add", three())), False)
        self.assert_equal(script, budget_script_of(3, 1, 20, ("add", Turn([1, 2, 0], 1))), False)
        self.assert_equal(script, budget_script_of(3, 1, 20, ("add", power(three(), 2)), ("again", 0)), False)
        self.assert_equal(script, script_of(3, 1, ("add", three())), False)
        self.assert_equal(BudgetScript(3, 1, 0), Script(3, 1), False)
        self.assertIs(Script(3, 1).__eq__(BudgetScript(3, 1, 0)), False)
        self.assert_equal(BudgetScript(3, 1, 0), BudgetScript(3, 1, 0), True)

    def test_other_values(self):
        for other in (None, 0, 1, True, "", "3 1", [], (3, 1), {}, [3, 1, three(), 8], three(), identity(3), Script,
                      BudgetScript, len):
            for script in (Script(3, 1), BudgetScript(3, 1, 9), script_of(3, 1, ("add", three()))):
                self.assert_equal(script, other, False)


class BudgetTest(ErrorCase):
    def assert_over(self, total, call, *arguments):
        error = self.assert_error(OverBudget, call, *arguments)
        self.assertEqual(error.total, total)
        self.assertIs(type(error.total), int)

    def test_just_within_and_just_beyond(self):
        for turn in some_turns(5, 6) + [backwards(5)]:
            for page_bits in range(6):
                cost = page_pairs(turn, page_bits)
                script = BudgetScript(5, page_bits, cost)
                self.assertEqual(script.preview(("add", turn)), cost)
                self.assertIsNone(script.add(turn))
                self.assertEqual([script.spent, script.budget], [cost, cost])
                script = BudgetScript(5, page_bits, cost - 1)
                self.assert_over(cost, script.preview, ("add", turn))
                self.assert_over(cost, script.add, turn)
                self.assertEqual(state(script), state(BudgetScript(5, page_bits, 0)))
                self.assertEqual(script.budget, cost - 1)

    def test_again(self):
        script = budget_script_of(3, 1, 15, ("add", three()))
        for number in (1, -1, -2, 4, 10 ** 30):
            self.assert_over(16, script.again, number)
            self.assert_over(16, script.preview, ("again", number))
        for number in (0, 3, -3, 3 * 10 ** 50):
            self.assertEqual(script.preview(("again", number)), 8)
            self.assertIsNone(script.again(number))
        self.assertEqual([script.spent, script.whole == three(), len(script.log())], [8, True, 5])
        self.assertIsNone(budget_script_of(3, 1, 16, ("add", three())).again(1))

    def test_what_costs_nothing_is_always_within(self):
        script = BudgetScript(3, 1, 0)
        self.assertEqual([script.add(identity(3)), script.again(5), script.preview(("add", identity(3))), script.spent],
                         [None, None, 0, 0])
        self.assert_over(4, script.add, backwards(3))

    def test_undo_gives_the_cost_back(self):
        script = budget_script_of(3, 1, 8, ("add", three()))
        self.assert_over(12, script.add, backwards(3))
        script.undo()
        self.assertIsNone(script.add(backwards(3)))
        self.assertEqual([script.spent, script.whole == backwards(3)], [4, True])
        self.assert_over(12, script.add, three())
        script.undo()
        self.assert_error(Nothing, script.undo)

    def test_the_first_operation_of_a_preview_that_is_too_much(self):
        script = BudgetScript(3, 1, 12)
        operations = [("add", three()), ("add", backwards(3)), ("again", 0), ("again", 1), ("add", three())]
        whole = then(three(), backwards(3))
        total = 12 + page_pairs(whole, 1)
        self.assert_over(total, script.preview, *operations)
        self.assertEqual(script.preview(*operations[:3]), 12)
        # Behind it, less would be spent than the bound of another script; that does not help.
        self.assert_over(8, BudgetScript(3, 1, 7).preview, ("add", three()), ("again", 0))
        self.assertEqual(state(script), state(Script(3, 1)))

    def test_great_numbers(self):
        turn = reversal(100)
        cost = 2 ** 50 * 2 ** 50
        self.assertEqual(budget_script_of(100, 50, cost, ("add", turn)).spent, cost)
        self.assert_over(cost, BudgetScript(100, 50, cost - 1).add, turn)
        self.assert_over(2 * cost, budget_script_of(100, 50, 2 * cost - 1, ("add", turn)).again, 1)


if __name__ == "__main__":
    unittest.main()
