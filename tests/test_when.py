"""Points [7] and [9] and section 5: where items are behind how many turns."""

import math
import random
import unittest

from indexturns import when
from indexturns.cycles import cycle_counts, order
from indexturns.errors import InvalidNumber, InvalidPlace, InvalidPlaces, InvalidTurn
from indexturns.makers import backwards, reversal, shuffled
from indexturns.turns import Turn, identity, inverse, power
from indexturns.when import after, all_home, period, turns_to
from tests.helpers import (
    GREAT_NUMBERS, LAST, NO_INTEGERS, NO_TURNS, ErrorCase, all_places, cycles_of_items, long_cycle,
    many_cycles, odd, primes_of, three, tiles, turn_of_cycles, turns_of_a_hundred_bits,
    turns_of_few_bits)

NUMBERS = [0, 1, -1, 2, 7, -100, 199] + GREAT_NUMBERS
# The places of the ends of the array, single bits, and others of no pattern.
PLACES = [0, 1, 2, 3, 2 ** 50, 2 ** 99, LAST, LAST - 1, LAST - 2 ** 99, int("10" * 50, 2), int("1100" * 25, 2),
          int("00011" * 20, 2)] + [random.Random(6).randrange(2 ** 100) for _ in range(3)]
NO_PLACES = NO_INTEGERS + [-1, -2, 10 ** 100, -10 ** 100]


def turns_of_every_size():
    return [Turn([0], 0), Turn([0], 1), odd(), three(), tiles(), backwards(64), shuffled(100), many_cycles(LAST)]


class WhereTest(unittest.TestCase):
    def test_defined_here(self):
        for call in (period, after, turns_to, all_home):
            self.assertEqual(call.__module__, "indexturns.when")
            self.assertIs(getattr(when, call.__name__), call)


class FewBitsTest(unittest.TestCase):
    def test_period(self):
        for turn in turns_of_few_bits():
            for cycle in cycles_of_items(turn):
                self.assertEqual([period(turn, place) for place in cycle], [len(cycle)] * len(cycle))

    def test_after(self):
        for turn in turns_of_few_bits():
            start = list(range(2 ** turn.bits))
            places = start
            for number in range(14):
                self.assertEqual([after(turn, place, number) for place in start], places)
                self.assertEqual([after(turn, place, -number) for place in places], start)
                places = [turn.goes_to(place) for place in places]

    def test_after_great_numbers(self):
        for turn in turns_of_few_bits():
            for cycle in cycles_of_items(turn):
                for number in GREAT_NUMBERS:
                    self.assertEqual(after(turn, cycle[0], number), cycle[number % len(cycle)])

    def test_turns_to(self):
        for turn in turns_of_few_bits():
            found = {}
            for cycle in cycles_of_items(turn):
                for at, place in enumerate(cycle):
                    for steps in range(len(cycle)):
                        found[place, cycle[(at + steps) % len(cycle)]] = steps
            for place in range(2 ** turn.bits):
                for other in range(2 ** turn.bits):
                    self.assertEqual(turns_to(turn, place, other), found.get((place, other)),
                                     (turn.targets, turn.flips, place, other))

    def test_all_home(self):
        chance = random.Random(8)
        for turn in turns_of_few_bits():
            periods = {place: len(cycle) for cycle in cycles_of_items(turn) for place in cycle}
            for many in (1, 2, 3, 20):
                places = [chance.randrange(2 ** turn.bits) for _ in range(many)]
                self.assertEqual(all_home(turn, places), math.lcm(*[periods[place] for place in places]))


class HundredBitsTest(unittest.TestCase):
    def test_an_item_is_home_behind_its_period(self):
        for turn in turns_of_a_hundred_bits():
            for place in PLACES:
                turns = period(turn, place)
                self.assertEqual([after(turn, place, turns), after(turn, place, -turns * 10 ** 80)], [place] * 2)
                for prime in primes_of(turns):
                    self.assertNotEqual(after(turn, place, turns // prime), place)
                self.assertEqual(order(turn) % turns, 0)

    def test_periods_are_lengths_of_cycles(self):
        for turn in turns_of_a_hundred_bits():
            lengths = dict(cycle_counts(turn))
            for place in PLACES:
                self.assertIn(period(turn, place), lengths)

    def test_all_places_of_a_cycle_have_its_length(self):
        for turn in turns_of_a_hundred_bits()[::4]:
            for place in PLACES:
                for number in NUMBERS:
                    self.assertEqual(period(turn, after(turn, place, number)), period(turn, place))

    def test_turns_to_is_the_rest_by_the_period(self):
        for turn in turns_of_a_hundred_bits():
            for place in PLACES[::4]:
                turns = period(turn, place)
                for number in NUMBERS[::3]:
                    other = after(turn, place, number)
                    self.assertEqual(turns_to(turn, place, other), number % turns)
                    self.assertEqual(turns_to(turn, other, place), -number % turns)
                    self.assertEqual(turns_to(inverse(turn), place, other), -number % turns)

    def test_turns_to_and_after_agree(self):
        for turn in turns_of_a_hundred_bits():
            for place in PLACES[::3]:
                for other in PLACES[::2]:
                    number = turns_to(turn, place, other)
                    if number is not None:
                        self.assertIn(number, range(period(turn, place)))
                        self.assertEqual(after(turn, place, number), other)
                    else:
                        self.assertIsNone(turns_to(turn, other, place))
                        self.assertIsNone(turns_to(turn, turn.goes_to(place), other))

    def test_after_agrees_with_power(self):
        for turn in turns_of_a_hundred_bits():
            for number in NUMBERS[::2]:
                done = power(turn, number)
                self.assertEqual([after(turn, place, number) for place in PLACES],
                                 [done.goes_to(place) for place in PLACES])

    def test_after_adds_up(self):
        for turn in turns_of_a_hundred_bits()[::5]:
            for place in PLACES:
                self.assertEqual([after(turn, place, 0), after(turn, place, 1)], [place, turn.goes_to(place)])
                for number in NUMBERS:
                    there = after(turn, place, number)
                    self.assertEqual(after(turn, there, -number), place)
                    self.assertEqual(after(turn, there, 1), after(turn, place, number + 1))

    def test_all_home_is_the_least_for_all(self):
        for turn in turns_of_a_hundred_bits():
            turns = all_home(turn, PLACES)
            self.assertEqual([after(turn, place, turns) for place in PLACES], PLACES)
            for prime in primes_of(turns):
                self.assertNotEqual([after(turn, place, turns // prime) for place in PLACES], PLACES)
            self.assertEqual(all_home(turn, PLACES[::-1] + PLACES[:5]), turns)
            self.assertEqual([all_home(turn, [place]) for place in PLACES], [period(turn, place) for place in PLACES])


class KnownAnswersTest(unittest.TestCase):
    def test_no_item_moves(self):
        still = identity(100)
        for place in PLACES:
            self.assertEqual(period(still, place), 1)
            self.assertEqual([after(still, place, number) for number in NUMBERS], [place] * len(NUMBERS))
            self.assertEqual([turns_to(still, place, other) for other in PLACES],
                             [0 if place == other else None for other in PLACES])
        self.assertEqual(all_home(still, PLACES), 1)

    def test_backwards(self):
        turn = backwards(100)
        for place in PLACES:
            self.assertEqual(period(turn, place), 2)
            self.assertEqual([after(turn, place, number) for number in (10 ** 30, 10 ** 30 + 1)], [place, LAST - place])
            self.assertEqual([turns_to(turn, place, other) for other in (place, LAST - place, place ^ 1)],
                             [0, 1, None])
        self.assertEqual(all_home(turn, [0, LAST]), 2)

    def test_a_shuffle(self):
        turn = shuffled(100)
        places = [0, LAST, int("10" * 50, 2), int("1100" * 25, 2), int("10000" * 20, 2), 2 ** 50 + 1, 1, 2 ** 99]
        self.assertEqual([period(turn, place) for place in places], [1, 1, 2, 4, 5, 50, 100, 100])
        self.assertEqual([turns_to(turn, 1, 2 ** number) for number in range(100)], list(range(100)))
        self.assertEqual([turns_to(turn, 2 ** 60, 2 ** number) for number in (60, 61, 59, 0)], [0, 1, 99, 40])
        self.assertEqual([turns_to(turn, 1, other) for other in (0, 3, LAST, LAST - 1)], [None] * 4)
        self.assertEqual(after(turn, 1, 10 ** 30 + 37), 2 ** 37)
        self.assertEqual(after(turn, 3, -10 ** 30 - 1), 2 ** 99 + 1)
        self.assertEqual([all_home(turn, places[:4]), all_home(turn, places[2:5])], [4, 20])

    def test_an_odd_bit_cycle(self):
        turn = long_cycle(1)
        self.assertEqual([period(turn, place) for place in (0, LAST, 1)], [200, 200, 200])
        self.assertEqual([turns_to(turn, 0, 2 ** number - 1) for number in range(101)], list(range(101)))
        self.assertEqual([turns_to(turn, 0, LAST - 2 ** number + 1) for number in range(1, 101)],
                         list(range(101, 200)) + [0])
        self.assertEqual([after(turn, 0, number) for number in (10 ** 30, 10 ** 30 + 100, -1)], [0, LAST, 2 ** 99])
        self.assertEqual(period(turn, int("1" * 4 + "00001111" * 12, 2)), 8)
        self.assertIsNone(turns_to(turn, 0, 2))

    def test_both_remainders_must_be_kept(self):
        # Each bit cycle comes to its word, but not both at once: their periods have common divisors.
        turn = turn_of_cycles([2, 2], 0)
        self.assertEqual([turns_to(turn, 0b0101, other) for other in (0b0101, 0b1010, 0b0110, 0b1001)],
                         [0, 1, None, None])
        turn = turn_of_cycles([4, 6], 0)
        told = [(step % 4, step % 6) for step in range(12)]
        for one in range(4):
            for other in range(6):
                steps = turns_to(turn, 0b000001_0001, 2 ** one + 2 ** (4 + other))
                self.assertEqual(steps, told.index((one, other)) if (one, other) in told else None)

    def test_many_periods_at_once(self):
        turn = many_cycles(0)
        place = sum([2 ** sum((1, 3, 5, 7, 11, 13, 17, 19, 24)[:at]) for at in range(9)])
        self.assertEqual(period(turn, place), 3 * 5 * 7 * 11 * 13 * 17 * 19 * 8)
        for number in (10 ** 30, 10 ** 99 + 1, -12345678901234567890):
            self.assertEqual(turns_to(turn, place, after(turn, place, number)), number % (4849845 * 8))
        ends = [2 ** sum((1, 3, 5, 7, 11, 13, 17, 19, 24)[:at]) for at in range(9)]
        self.assertEqual([period(turn, end) for end in ends], [1, 3, 5, 7, 11, 13, 17, 19, 24])
        self.assertEqual(all_home(turn, ends), 4849845 * 8)
        self.assertEqual(all_home(turn, ends[:3] + ends[:3]), 15)

    def test_reversal(self):
        turn = reversal(100)
        self.assertEqual([period(turn, place) for place in (0, 1, 2 ** 99 + 1, LAST)], [1, 2, 1, 1])
        self.assertEqual([turns_to(turn, 1, other) for other in (1, 2 ** 99, 2)], [0, 1, None])

    def test_kinds_of_values(self):
        for turn in (three(), odd(), many_cycles(LAST)):
            self.assertEqual([type(answer) for answer in (
                period(turn, 1), after(turn, 1, -5), turns_to(turn, 1, 1), turns_to(turn, 1, turn.goes_to(1)),
                all_home(turn, [1]))], [int] * 5)


class ArgumentsTest(ErrorCase):
    def test_wrong_turns(self):
        for wrong in NO_TURNS:
            for place in (0, 1, 10 ** 100, None):
                self.assert_error(InvalidTurn, period, wrong, place)
                self.assert_error(InvalidTurn, after, wrong, place, 1)
                self.assert_error(InvalidTurn, turns_to, wrong, place, 0)
                self.assert_error(InvalidTurn, all_home, wrong, [place])

    def test_wrong_places(self):
        for turn in turns_of_every_size():
            for wrong in NO_PLACES + [2 ** turn.bits, 2 ** turn.bits + 1, -2 ** turn.bits]:
                self.assert_error(InvalidPlace, period, turn, wrong)
                self.assert_error(InvalidPlace, after, turn, wrong, 0)
                self.assert_error(InvalidPlace, turns_to, turn, wrong, 0)
                self.assert_error(InvalidPlace, turns_to, turn, 0, wrong)

    def test_wrong_numbers(self):
        for turn in turns_of_every_size():
            for wrong in NO_INTEGERS:
                self.assert_error(InvalidNumber, after, turn, 0, wrong)

    def test_several_wrong_arguments(self):
        for wrong in (None, "1", True, -1, 10 ** 100):
            for other in (None, "1", True, [1]):
                self.assert_error(InvalidTurn, after, [1, 0], wrong, other)
                self.assert_error(InvalidTurn, turns_to, [1, 0], wrong, other)
                self.assert_error(InvalidTurn, all_home, [1, 0], other)
                self.assert_error(InvalidTurn, all_home, None, [wrong])
                self.assert_error(InvalidPlace, after, odd(), wrong, other)
                self.assert_error(InvalidPlace, turns_to, odd(), wrong, other)

    def test_the_ends_of_the_ranges(self):
        for turn in turns_of_every_size():
            last = 2 ** turn.bits - 1
            for place in (0, last):
                self.assertEqual(after(turn, place, period(turn, place)), place)
                self.assertEqual(turns_to(turn, place, place), 0)
                self.assertEqual(all_home(turn, [place]), period(turn, place))
            self.assertEqual(turns_to(turn, 0, last) is None, turns_to(turn, last, 0) is None)
            for number in (10 ** 100 - 1, 1 - 10 ** 100):
                self.assertEqual(after(turn, after(turn, last, number), -number), last)

    def test_the_turn_stays(self):
        turn = Turn([1, 2, 0, 4, 3], 22)
        places = all_places(turn)
        for _ in range(2):
            self.assertEqual([period(turn, 3), after(turn, 3, 4), turns_to(turn, 3, turn.goes_to(3))],
                             [len(cycle) for cycle in cycles_of_items(turn) if 3 in cycle] + [
                                 turn.goes_to(turn.goes_to(turn.goes_to(turn.goes_to(3)))), 1])
        self.assert_turn(turn, [1, 2, 0, 4, 3], 22)
        self.assertEqual(all_places(turn), places)


class PlacesTest(ErrorCase):
    def assert_places(self, item, turn, places):
        self.assertEqual(self.assert_error(InvalidPlaces, all_home, turn, places).item, item)

    def test_no_list_of_1_to_20(self):
        for wrong in [None, True, False, 0, 1, "", "0", b"0", (), (0,), (0, 1), {}, {0: 0}, {0}, range(2), three(), [],
                      [0] * 21, [None] * 21, list(range(8)) * 3, [0] * 400, [-1] * 400, 10 ** 100]:
            self.assert_places(None, three(), wrong)

    def test_a_wrong_item(self):
        for turn in turns_of_every_size():
            last = 2 ** turn.bits - 1
            for wrong in NO_PLACES + [last + 1, last + 2, -last]:
                self.assert_places(0, turn, [wrong])
                self.assert_places(1, turn, [last, wrong])
                self.assert_places(2, turn, [0, last, wrong, 0])
                self.assert_places(19, turn, [0] * 19 + [wrong])

    def test_the_first_wrong_item(self):
        for item, places in ((0, [8, None]), (1, [7, -1, 8]), (2, [0, 0, "0", None]), (1, [0, [0]]), (0, [[], {}]),
                             (1, [1, True, 9]), (18, [7] * 18 + [8, 9])):
            self.assert_places(item, three(), places)

    def test_lists_of_1_and_of_20(self):
        self.assertEqual([all_home(three(), [place]) for place in range(8)], [1, 3, 3, 3, 3, 3, 3, 1])
        self.assertEqual([all_home(three(), [7] * 20), all_home(three(), [7] * 19 + [1])], [1, 3])
        self.assertEqual(all_home(three(), list(range(8)) + list(range(8)) + [0, 7, 0, 7]), 3)

    def test_the_list_stays(self):
        for places in ([3, 1, 2, 1], [3, None, 9], [8], [7] * 20):
            kept = list(places)
            try:
                all_home(three(), places)
            except InvalidPlaces:
                pass
            self.assertEqual(places, kept)


if __name__ == "__main__":
    unittest.main()
