"""Point [5] and section 2: identity, then, inverse, power."""

import itertools
import math
import unittest

from indexturns import turns
from indexturns.errors import InvalidBits, InvalidNumber, InvalidTurn, UnlikeBits
from indexturns.turns import Turn, identity, inverse, power, then
from tests.helpers import (
    GREAT_NUMBERS, NO_INTEGERS, NO_TURNS, ErrorCase, all_places, all_turns, long_cycle, many_cycles, odd, some_turns,
    three, tiles)


class WhereTest(unittest.TestCase):
    def test_defined_here(self):
        for name in ("identity", "then", "power", "inverse"):
            self.assertEqual(getattr(turns, name).__module__, "indexturns.turns")


class IdentityTest(ErrorCase):
    def test_it_leaves_all_items(self):
        for bits in range(1, 6):
            self.assertEqual(all_places(identity(bits)), list(range(2 ** bits)))
        for bits in range(1, 101):
            self.assert_turn(identity(bits), list(range(bits)), 0)

    def test_wrong_bits(self):
        for bits in NO_INTEGERS + [0, -1, 101, 10 ** 100, -10 ** 100]:
            self.assert_error(InvalidBits, identity, bits)


class ThenTest(ErrorCase):
    def test_the_first_turn_is_done_first(self):
        for bits in (1, 2):
            for turn in all_turns(bits):
                for second in all_turns(bits):
                    both = then(turn, second)
                    self.assertEqual(all_places(both), [second.goes_to(place) for place in all_places(turn)])

    def test_more_bits(self):
        for bits in (3, 4, 6):
            found = some_turns(bits, 8)
            for turn in found:
                for second in found:
                    both = then(turn, second)
                    self.assertEqual(all_places(both), [second.goes_to(place) for place in all_places(turn)])

    def test_a_hundred_bits(self):
        for turn in some_turns(100, 4, 2):
            for second in some_turns(100, 4, 3):
                both = then(turn, second)
                for place in (0, 1, 10 ** 30, 2 ** 99, 2 ** 100 - 1):
                    self.assertEqual(both.goes_to(place), second.goes_to(turn.goes_to(place)))

    def test_the_arguments_stay(self):
        turn, second = Turn([1, 2, 0], 3), Turn([0, 2, 1], 4)
        then(turn, second)
        self.assert_turn(turn, [1, 2, 0], 3)
        self.assert_turn(second, [0, 2, 1], 4)

    def test_wrong_arguments(self):
        for wrong in NO_TURNS:
            self.assert_error(InvalidTurn, then, wrong, three())
            self.assert_error(InvalidTurn, then, three(), wrong)
            self.assert_error(InvalidTurn, then, wrong, wrong)

    def test_unlike_bits(self):
        for turn, second in itertools.permutations([Turn([0], 0), odd(), three(), tiles(), identity(100)], 2):
            self.assert_error(UnlikeBits, then, turn, second)


class InverseTest(ErrorCase):
    def test_it_brings_all_items_back(self):
        for bits in (1, 2, 3):
            for turn in all_turns(bits):
                back = inverse(turn)
                self.assertEqual([back.goes_to(place) for place in all_places(turn)], list(range(2 ** bits)))

    def test_a_hundred_bits(self):
        for turn in some_turns(100, 10) + [long_cycle(1), many_cycles(2 ** 100 - 1)]:
            back = inverse(turn)
            self.assertTrue(then(turn, back) == identity(100) == then(back, turn))
            self.assertTrue(inverse(back) == turn)
            self.assertTrue(back == power(turn, -1))

    def test_wrong_turn(self):
        for wrong in NO_TURNS:
            self.assert_error(InvalidTurn, inverse, wrong)


class PowerTest(ErrorCase):
    def assert_steps(self, turn, many):
        done, undone, back = identity(turn.bits), identity(turn.bits), inverse(turn)
        for number in range(many):
            self.assertTrue(power(turn, number) == done, (turn.targets, turn.flips, number))
            self.assertTrue(power(turn, -number) == undone, (turn.targets, turn.flips, -number))
            done, undone = then(done, turn), then(undone, back)

    def test_step_by_step(self):
        for bits in (1, 2, 3):
            for turn in all_turns(bits):
                self.assert_steps(turn, 14)
        for turn in some_turns(6, 20):
            self.assert_steps(turn, 30)

    def test_step_by_step_with_a_hundred_bits(self):
        for turn in (long_cycle(0), long_cycle(1), long_cycle(2 ** 99), many_cycles(10 ** 30)):
            self.assert_steps(turn, 210)

    def test_item_by_item(self):
        for turn in all_turns(2) + some_turns(4, 10):
            places = list(range(2 ** turn.bits))
            for number in range(1, 10):
                places = [turn.goes_to(place) for place in places]
                self.assertEqual(all_places(power(turn, number)), places)
                self.assertEqual([power(turn, -number).goes_to(place) for place in places], list(range(2 ** turn.bits)))

    def test_great_numbers_of_small_turns(self):
        for turn in all_turns(3) + some_turns(5, 20):
            for number in GREAT_NUMBERS:
                # 120 turns leave all items of up to 5 bits: 2 * 3 * 4 * 5 is a multiple of 2 L for each cycle.
                self.assertTrue(power(turn, number) == power(turn, number % 120))
                self.assertTrue(power(turn, 120) == identity(turn.bits))

    def test_great_numbers_of_a_hundred_bits(self):
        for turn in (long_cycle(0), long_cycle(2 ** 50)):
            for number in GREAT_NUMBERS:
                self.assertTrue(power(turn, number) == power(turn, number % 200))
        self.assertTrue(power(long_cycle(2 ** 50), 100) == Turn(list(range(100)), 2 ** 100 - 1))
        self.assertTrue(power(long_cycle(2 ** 50), 100 * (10 ** 97 + 1)) == Turn(list(range(100)), 2 ** 100 - 1))
        round_trip = 2 * math.lcm(1, 3, 5, 7, 11, 13, 17, 19, 24)
        turn = many_cycles(2 ** 100 - 1)
        self.assertTrue(power(turn, round_trip * 10 ** 80) == identity(100))
        self.assertTrue(power(turn, round_trip * 10 ** 80 + 3) == then(then(turn, turn), turn))
        self.assertTrue(power(turn, 1 - round_trip * 10 ** 80) == turn)
        # An odd number of rounds of the last bit cycle is done halfway: all its 24 bits are flipped then.
        turn = many_cycles(2 ** 99)
        self.assertTrue(power(turn, round_trip // 2) == Turn(list(range(100)), 2 ** 100 - 2 ** 76))
        self.assertTrue(power(turn, round_trip) == identity(100))

    def test_numbers_add_up_and_multiply(self):
        numbers = [0, 1, -1, 2, -5, 123] + GREAT_NUMBERS
        for turn in some_turns(100, 3) + [odd(), three(), Turn([0], 1), many_cycles(5 ** 40)]:
            for one in numbers:
                for other in numbers:
                    self.assertTrue(power(turn, one + other) == then(power(turn, one), power(turn, other)))
                    self.assertTrue(power(turn, one * other) == power(power(turn, one), other))

    def test_the_turn_stays(self):
        turn = Turn([1, 2, 0], 6)
        power(turn, 5)
        inverse(turn)
        self.assert_turn(turn, [1, 2, 0], 6)

    def test_wrong_arguments(self):
        for number in NO_INTEGERS:
            self.assert_error(InvalidNumber, power, odd(), number)
        for wrong in NO_TURNS:
            for number in (0, 1, None, "1"):
                self.assert_error(InvalidTurn, power, wrong, number)


if __name__ == "__main__":
    unittest.main()
