"""What several test files use."""

import random
import unittest

from indexturns.turns import Turn

# Values of every kind that is no integer.
NO_INTEGERS = [None, True, False, "", "1", "a", b"1", [], [1], [[1]], (), (1,), {}, {1: 1}, {1}, len, Turn,
               Turn([0], 0), ValueError("1")]


def three():
    return Turn([1, 2, 0], 0)


def odd():
    return Turn([1, 0], 1)


def tiles():
    return Turn([0, 2, 1, 3], 0)


def some_turns(bits, many, seed=1):
    """Turns of so many bits: always the same ones for equal arguments."""
    chance = random.Random(seed)
    turns = []
    for _ in range(many):
        targets = list(range(bits))
        chance.shuffle(targets)
        turns.append(Turn(targets, chance.randrange(2 ** bits)))
    return turns


def new_place(targets, flips, place):
    """f(place), told bit by bit as the document tells it."""
    digits = [None] * len(targets)
    for e in range(len(targets)):
        digit = place // 2 ** e % 2
        if flips // 2 ** targets[e] % 2 == 1:
            digit = 1 - digit
        digits[targets[e]] = digit
    return sum(digit * 2 ** e for e, digit in enumerate(digits))


def all_places(turn):
    """The new places of all items of a turn of few bits."""
    return [turn.goes_to(place) for place in range(2 ** turn.bits)]


class ErrorCase(unittest.TestCase):
    """A test case that asks for the very class of an error."""

    def assert_error(self, error_class, call, *arguments):
        try:
            call(*arguments)
        except Exception as error:
            self.assertIs(type(error), error_class, arguments)
            return error
        self.fail(f"{call.__name__}{arguments} raised nothing, instead of {error_class.__name__}")

    def assert_turn(self, turn, targets, flips):
        self.assertIs(type(turn), Turn)
        self.assertEqual((turn.bits, turn.targets, turn.flips), (len(targets), targets, flips))
