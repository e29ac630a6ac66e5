"""What several test files use."""

import itertools
import random
import unittest

from indexturns.turns import Turn

# Values of every kind that is no integer.
NO_INTEGERS = [None, True, False, "", "1", "a", b"1", [], [1], [[1]], (), (1,), {}, {1: 1}, {1}, len, Turn,
               Turn([0], 0), ValueError("1")]
NO_TURNS = [value for value in NO_INTEGERS if not isinstance(value, Turn)] + [
    0, 1, -1, 10 ** 100, [Turn([0], 0)], "1 2 0; 0", ([1, 2, 0], 0)]
NO_BITS = NO_INTEGERS + [0, -1, -2, 101, 102, 10 ** 100, -10 ** 100]
GREAT_NUMBERS = [10 ** 30, -10 ** 30, 10 ** 99 + 7, -10 ** 99 - 7, 10 ** 100 - 1, 1 - 10 ** 100, 2 ** 300 + 2 ** 7]
LAST = 2 ** 100 - 1


def three():
    return Turn([1, 2, 0], 0)


def odd():
    return Turn([1, 0], 1)


def tiles():
    return Turn([0, 2, 1, 3], 0)


def all_turns(bits):
    return [Turn(list(targets), flips) for targets in itertools.permutations(range(bits)) for flips in range(2 ** bits)]


def some_turns(bits, many, seed=1):
    """Turns of so many bits: always the same ones for equal arguments."""
    chance = random.Random(seed)
    turns = []
    for _ in range(many):
        targets = list(range(bits))
        chance.shuffle(targets)
        turns.append(Turn(targets, chance.randrange(2 ** bits)))
    return turns


def turns_of_few_bits(most=6):
    """All turns of up to 3 bits and some of up to the most bits."""
    return [turn for bits in (1, 2, 3) for turn in all_turns(bits)] + [
        turn for bits in range(4, most + 1) for turn in some_turns(bits, 12) + [
            Turn(list(range(bits)), flips) for flips in (0, 2 ** bits - 1)]]


def turn_of_cycles(lengths, flips):
    """A turn whose bit cycles have these lengths, one beside the other; each bit but the last ones goes to the next."""
    targets = []
    for length in lengths:
        start = len(targets)
        targets += [start + (e + 1) % length for e in range(length)]
    return Turn(targets, flips)


def long_cycle(flips):
    """A turn of 100 bits that are one bit cycle."""
    return turn_of_cycles([100], flips)


def many_cycles(flips):
    """A turn of 100 bits whose bit cycles have nine different lengths."""
    return turn_of_cycles([1, 3, 5, 7, 11, 13, 17, 19, 24], flips)


def turns_of_a_hundred_bits():
    """Turns of 100 bits with bit cycles of many kinds, each without flips, with some and with all of them."""
    kinds = [[1] * 100, [2] * 50, [3] * 33 + [1], [100], [99, 1], [97, 2, 1], [96, 4], [64, 32, 4], [60, 40],
             [33, 32, 25, 7, 3], [1, 3, 5, 7, 11, 13, 17, 19, 24], [3, 5, 7, 9, 11, 13, 16, 17, 19],
             list(range(1, 14)) + [1] * 9, [2, 4, 6, 8, 10, 12, 14, 16, 18, 10]]
    chance = random.Random(3)
    turns = some_turns(100, 6, 4)
    for lengths in kinds:
        for flips in (0, 1, LAST, 2 ** 99, chance.randrange(2 ** 100)):
            turns.append(turn_of_cycles(lengths, flips))
    return turns


def new_place(targets, flips, place):
    """f(place), told bit by bit as the document tells it."""
    digits = [None] * len(targets)
    for e in range(len(targets)):
        digit = place // 2 ** e % 2
        if flips // 2 ** targets[e] % 2 == 1:
            digit = 1 - digit
        digits[targets[e]] = digit
    return sum(digit * 2 ** e for e, digit in enumerate(digits))


def all_places(turn):
    """The new places of all items of a turn of few bits."""
    return [turn.goes_to(place) for place in range(2 ** turn.bits)]


def cycles_of_items(turn):
    """The cycles in which the items of a turn of few bits move, found by going through all of them."""
    ahead = all_places(turn)
    found, visited = [], set()
    for start in range(len(ahead)):
        cycle = []
        while start not in visited:
            visited.add(start)
            cycle.append(start)
            start = ahead[start]
        if cycle:
            found.append(cycle)
    return found


def primes_of(number):
    """The prime divisors of a number whose prime divisors are all below 100."""
    return [prime for prime in range(2, 100) if number % prime == 0 and all(prime % low for low in range(2, prime))]


class ErrorCase(unittest.TestCase):
    """A test case that asks for the very class of an error."""

    def assert_error(self, error_class, call, *arguments):
        try:
            call(*arguments)
        except Exception as error:
            self.assertIs(type(error), error_class, arguments)
            return error
        self.fail(f"{call.__name__}{arguments} raised nothing, instead of {error_class.__name__}")

    def assert_turn(self, turn, targets, flips):
        self.assertIs(type(turn), Turn)
        self.assertEqual((turn.bits, turn.targets, turn.flips), (len(targets), targets, flips))
