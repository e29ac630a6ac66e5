"""Points [6] to [8] and section 4: bit cycles, and the cycles of items."""

import math
import unittest

from indexturns import cycles
from indexturns.cycles import bit_cycles, cycle_count, cycle_counts, items_with, left_by, order
from indexturns.errors import InvalidNumber, InvalidTurn
from indexturns.makers import backwards, reversal, shuffled, transposed
from indexturns.turns import Turn, identity, power
from tests.helpers import (
    GREAT_NUMBERS, LAST, NO_INTEGERS, NO_TURNS, ErrorCase, all_places, cycles_of_items, long_cycle,
    many_cycles, odd, primes_of, three, tiles, turn_of_cycles, turns_of_a_hundred_bits,
    turns_of_few_bits)

OF_TURNS = [bit_cycles, order, cycle_counts, cycle_count]
OF_NUMBERS = [left_by, items_with]


def told_bit_cycles(turn):
    """The bit cycles as point [6] tells them."""
    told = []
    for e in range(turn.bits):
        if not any(e in bits for bits, _ in told):
            bits = [e]
            while turn.targets[bits[-1]] != e:
                bits.append(turn.targets[bits[-1]])
            told.append((bits, len([bit for bit in bits if turn.flips // 2 ** bit % 2 == 1]) % 2 == 1))
    return told


def divisors(number):
    found = [1]
    for prime in primes_of(number):
        powers = [prime ** e for e in range(number.bit_length()) if number % prime ** e == 0]
        found = [divisor * more for divisor in found for more in powers]
    return found


def sieved(turn, number):
    """How many items have a period, from the numbers of those that its divisors leave [8], by turns added and taken."""
    primes = primes_of(number)
    total = 0
    for chosen in range(2 ** len(primes)):
        taken = [prime for e, prime in enumerate(primes) if chosen // 2 ** e % 2 == 1]
        total += (-1) ** len(taken) * left_by(turn, number // math.prod(taken))
    return total


class WhereTest(unittest.TestCase):
    def test_defined_here(self):
        for call in OF_TURNS + OF_NUMBERS:
            self.assertEqual(call.__module__, "indexturns.cycles")
            self.assertIs(getattr(cycles, call.__name__), call)


class BitCyclesTest(ErrorCase):
    def test_few_bits(self):
        for turn in turns_of_few_bits(7):
            self.assertEqual(bit_cycles(turn), told_bit_cycles(turn))

    def test_a_hundred_bits(self):
        for turn in turns_of_a_hundred_bits():
            self.assertEqual(bit_cycles(turn), told_bit_cycles(turn))

    def test_known_answers(self):
        self.assertEqual(bit_cycles(identity(100)), [([bit], False) for bit in range(100)])
        self.assertEqual(bit_cycles(backwards(100)), [([bit], True) for bit in range(100)])
        self.assertEqual(bit_cycles(shuffled(100)), [(list(range(100)), False)])
        self.assertEqual(bit_cycles(Turn([2, 0, 1], 0)), [([0, 2, 1], False)])
        self.assertEqual(bit_cycles(Turn([3, 4, 0, 2, 1], 0b11101)), [([0, 3, 2], True), ([1, 4], True)])
        self.assertEqual(bit_cycles(Turn([3, 4, 0, 2, 1], 0b11011)), [([0, 3, 2], False), ([1, 4], False)])
        self.assertEqual(bit_cycles(reversal(100)), [([bit, 99 - bit], False) for bit in range(50)])

    def test_odd_are_odd_numbers_of_flips(self):
        for flips in (0, 1, 2 ** 99, 2 ** 50, 3, 7, LAST, LAST - 1, LAST - 2 ** 99):
            self.assertEqual(bit_cycles(long_cycle(flips)), [(list(range(100)), bin(flips).count("1") % 2 == 1)])

    def test_kinds_of_values(self):
        for turn in (three(), odd(), tiles(), many_cycles(LAST)):
            found = bit_cycles(turn)
            self.assertIs(type(found), list)
            for cycle in found:
                self.assertIs(type(cycle), tuple)
                self.assertEqual([type(part) for part in cycle], [list, bool])
                self.assertEqual({type(bit) for bit in cycle[0]}, {int})

    def test_returned_lists_are_new(self):
        turn = tiles()
        found = bit_cycles(turn)
        self.assertIsNot(bit_cycles(turn), found)
        self.assertIsNot(bit_cycles(turn)[1][0], found[1][0])
        found[1][0].append(7)
        found[0][0].clear()
        found.pop()
        self.assertEqual(bit_cycles(turn), [([0], False), ([1, 2], False), ([3], False)])
        self.assert_turn(turn, [0, 2, 1, 3], 0)


class OrderTest(unittest.TestCase):
    def test_item_by_item(self):
        for turn in turns_of_few_bits(7):
            self.assertEqual(order(turn), math.lcm(*[len(cycle) for cycle in cycles_of_items(turn)]))

    def test_a_hundred_bits(self):
        for turn in turns_of_a_hundred_bits():
            turns = order(turn)
            self.assertTrue(power(turn, turns) == identity(100))
            for prime in primes_of(turns):
                self.assertFalse(power(turn, turns // prime) == identity(100))

    def test_known_answers(self):
        self.assertEqual([order(identity(bits)) for bits in (1, 2, 100)], [1, 1, 1])
        self.assertEqual([order(backwards(bits)) for bits in (1, 2, 100)], [2, 2, 2])
        self.assertEqual([order(shuffled(bits)) for bits in (1, 2, 3, 99, 100)], [1, 2, 3, 99, 100])
        self.assertEqual([order(long_cycle(flips)) for flips in (0, 1, 3, 2 ** 99, LAST)], [100, 200, 100, 200, 100])
        self.assertEqual([order(turn_of_cycles([99], flips)) for flips in (0, 1, 2 ** 99 - 1)], [99, 198, 198])
        self.assertEqual(order(many_cycles(0)), 3 * 5 * 7 * 11 * 13 * 17 * 19 * 8)
        self.assertEqual(order(many_cycles(1)), 3 * 5 * 7 * 11 * 13 * 17 * 19 * 8)
        self.assertEqual(order(many_cycles(2 ** 99)), 3 * 5 * 7 * 11 * 13 * 17 * 19 * 16)


class LeftByTest(unittest.TestCase):
    def test_item_by_item(self):
        for turn in turns_of_few_bits(7):
            places = list(range(2 ** turn.bits))
            for number in range(30):
                many = len([at for at, place in enumerate(places) if at == place])
                self.assertEqual(left_by(turn, number), many, (turn.targets, turn.flips, number))
                self.assertEqual(left_by(turn, -number), many, (turn.targets, turn.flips, -number))
                places = [turn.goes_to(place) for place in places]

    def test_great_numbers(self):
        for turn in turns_of_few_bits(7):
            lengths = [len(cycle) for cycle in cycles_of_items(turn)]
            for number in GREAT_NUMBERS:
                self.assertEqual(left_by(turn, number), sum([length for length in lengths if number % length == 0]))

    def test_a_hundred_bits(self):
        for turn in turns_of_a_hundred_bits():
            turns = order(turn)
            self.assertEqual([left_by(turn, number) for number in (0, turns, -turns, turns * 10 ** 80)], [2 ** 100] * 4)
            for number in [1, -1, 2, 3, 4, 10, 12, 96, 100] + GREAT_NUMBERS:
                self.assertEqual(left_by(turn, number), left_by(turn, number % turns))
                self.assertEqual(left_by(turn, number), left_by(turn, -number))
                self.assertEqual(left_by(turn, number), left_by(power(turn, number), 1))

    def test_known_answers(self):
        for number in [0, 1, -1, 2, -2, 3] + GREAT_NUMBERS:
            self.assertEqual(left_by(identity(100), number), 2 ** 100)
            self.assertEqual(left_by(backwards(100), number), 2 ** 100 if number % 2 == 0 else 0)
            self.assertEqual(left_by(shuffled(100), number), 2 ** math.gcd(100, number))
        told = {0: 2 ** 100, 1: 0, 2: 0, 4: 0, 6: 0, 8: 2 ** 4, 10: 0, 16: 2 ** 4, 20: 0, 24: 2 ** 4, 25: 0,
                40: 2 ** 20, 50: 0, 100: 0, 200: 2 ** 100, 300: 0, -8: 2 ** 4, -100: 0, -200: 2 ** 100}
        for number in told:
            self.assertEqual(left_by(long_cycle(2 ** 40), number), told[number], number)
        self.assertEqual(left_by(transposed(50, 50), 1), 2 ** 50)
        self.assertEqual(left_by(reversal(99), 1), 2 ** 50)


class ItemsWithTest(unittest.TestCase):
    def test_item_by_item(self):
        for turn in turns_of_few_bits(7):
            lengths = [len(cycle) for cycle in cycles_of_items(turn) for _ in cycle]
            for number in range(-5, 70):
                self.assertEqual(items_with(turn, number), lengths.count(number), (turn.targets, turn.flips, number))
            for number in GREAT_NUMBERS:
                self.assertEqual(items_with(turn, number), 0)

    def test_what_divisors_leave(self):
        for turn in turns_of_a_hundred_bits():
            turns = order(turn)
            for number in sorted(divisors(turns))[:40] + [turns // prime for prime in primes_of(turns)] + [turns]:
                self.assertEqual(items_with(turn, number), sieved(turn, number), (turn.targets, turn.flips, number))

    def test_items_left_have_periods_that_divide(self):
        for turn in turns_of_a_hundred_bits()[::3]:
            for number in (1, 2, 12, 96, 100, 2 * 3 * 5 * 7):
                told = [items_with(turn, divisor) for divisor in divisors(number)]
                self.assertEqual(sum(told), left_by(turn, number))

    def test_numbers_that_no_item_has(self):
        for turn in turns_of_a_hundred_bits():
            turns = order(turn)
            for number in [0, -1, -2, -turns, 2 * turns, turns * 10 ** 90, 101] + GREAT_NUMBERS:
                self.assertEqual(items_with(turn, number), 0)

    def test_known_answers(self):
        self.assertEqual([items_with(identity(100), number) for number in (0, 1, 2, -1)], [0, 2 ** 100, 0, 0])
        self.assertEqual([items_with(backwards(100), number) for number in (1, 2, 3, 4)], [0, 2 ** 100, 0, 0])
        self.assertEqual([items_with(shuffled(100), number) for number in (1, 2, 3, 4, 5, 10)], [2, 2, 0, 12, 30, 990])
        self.assertEqual(items_with(shuffled(100), 100), 2 ** 100 - 2 ** 50 - 2 ** 20 + 2 ** 10)
        self.assertEqual([items_with(long_cycle(1), number) for number in (1, 2, 4, 8, 40, 100)],
                         [0, 0, 0, 16, 2 ** 20 - 2 ** 4, 0])
        self.assertEqual(items_with(long_cycle(1), 200), 2 ** 100 - 2 ** 20)
        self.assertEqual(items_with(turn_of_cycles([97], 0), 97), 2 ** 97 - 2)
        self.assertEqual([items_with(turn_of_cycles([97], 4), number) for number in (1, 2, 97, 194)],
                         [0, 2, 0, 2 ** 97 - 2])


class CycleCountsTest(unittest.TestCase):
    def test_item_by_item(self):
        for turn in turns_of_few_bits(7):
            lengths = [len(cycle) for cycle in cycles_of_items(turn)]
            self.assertEqual(cycle_counts(turn), [(length, lengths.count(length)) for length in sorted(set(lengths))])
            self.assertEqual(cycle_count(turn), len(lengths))

    def test_the_cycles_have_all_items(self):
        for turn in turns_of_a_hundred_bits():
            counts = cycle_counts(turn)
            self.assertEqual(sum([length * many for length, many in counts]), 2 ** 100)
            self.assertEqual(sum([many for _, many in counts]), cycle_count(turn))
            self.assertEqual(counts, sorted(counts))
            self.assertEqual(math.lcm(*[length for length, _ in counts]), order(turn))

    def test_the_lengths_are_the_periods(self):
        for turn in turns_of_a_hundred_bits():
            counts = dict(cycle_counts(turn))
            self.assertGreater(min(counts.values()), 0)
            for number in sorted(divisors(order(turn)))[:100] + list(counts)[-20:]:
                self.assertEqual(items_with(turn, number), number * counts.get(number, 0))

    def test_all_cycles_of_small_orders(self):
        # As many cycles as the turns of one round leave items on the average.
        for turn in turns_of_a_hundred_bits():
            turns = order(turn)
            if turns <= 200:
                self.assertEqual(cycle_count(turn) * turns, sum([left_by(turn, number) for number in range(turns)]))

    def test_known_answers(self):
        self.assertEqual(cycle_counts(identity(100)), [(1, 2 ** 100)])
        self.assertEqual(cycle_counts(backwards(100)), [(2, 2 ** 99)])
        self.assertEqual(cycle_counts(Turn(list(range(100)), 1)), [(2, 2 ** 99)])
        self.assertEqual(cycle_counts(transposed(50, 50)), [(1, 2 ** 50), (2, 2 ** 99 - 2 ** 49)])
        self.assertEqual(cycle_counts(turn_of_cycles([97], 0)), [(1, 2), (97, (2 ** 97 - 2) // 97)])
        self.assertEqual(cycle_counts(turn_of_cycles([97], 1)), [(2, 1), (194, (2 ** 97 - 2) // 194)])
        self.assertEqual(cycle_counts(turn_of_cycles([64], 1)), [(128, 2 ** 57)])
        self.assertEqual([length for length, _ in cycle_counts(shuffled(100))], [1, 2, 4, 5, 10, 20, 25, 50, 100])
        self.assertEqual([length for length, _ in cycle_counts(long_cycle(8))], [8, 40, 200])
        self.assertEqual([cycle_count(identity(100)), cycle_count(backwards(100))], [2 ** 100, 2 ** 99])
        self.assertEqual([cycle_count(shuffled(bits)) for bits in range(1, 11)], [2, 3, 4, 6, 8, 14, 20, 36, 60, 108])
        self.assertEqual([cycle_count(turn_of_cycles([bits], 1)) for bits in range(1, 11)],
                         [1, 1, 2, 2, 4, 6, 10, 16, 30, 52])

    def test_many_different_lengths(self):
        for flips, many in ((0, 512), (LAST, 384)):
            self.assertEqual(len(cycle_counts(many_cycles(flips))), many)

    def test_kinds_of_values(self):
        for turn in (three(), odd(), many_cycles(LAST)):
            found = cycle_counts(turn)
            self.assertIs(type(found), list)
            self.assertEqual({type(pair) for pair in found}, {tuple})
            self.assertEqual({type(number) for pair in found for number in pair}, {int})
            self.assertEqual([type(call(turn)) for call in (order, cycle_count)], [int, int])
            self.assertEqual([type(call(turn, 4)) for call in OF_NUMBERS], [int, int])

    def test_returned_lists_are_new(self):
        turn = three()
        found = cycle_counts(turn)
        self.assertIsNot(cycle_counts(turn), found)
        found.clear()
        self.assertEqual(cycle_counts(turn), [(1, 2), (3, 2)])


class ArgumentsTest(ErrorCase):
    def test_wrong_turns(self):
        for wrong in NO_TURNS:
            for call in OF_TURNS:
                self.assert_error(InvalidTurn, call, wrong)
            for call in OF_NUMBERS:
                for number in (0, 1, -1, 10 ** 100 - 1):
                    self.assert_error(InvalidTurn, call, wrong, number)

    def test_wrong_numbers(self):
        for wrong in NO_INTEGERS:
            for call in OF_NUMBERS:
                for turn in (three(), odd(), identity(1), backwards(100), many_cycles(LAST)):
                    self.assert_error(InvalidNumber, call, turn, wrong)

    def test_both_wrong(self):
        for wrong in NO_TURNS:
            for number in (None, True, "1", [1]):
                for call in OF_NUMBERS:
                    self.assert_error(InvalidTurn, call, wrong, number)

    def test_the_turn_stays(self):
        turn = Turn([1, 2, 0, 4, 3], 22)
        places = all_places(turn)
        for call in OF_TURNS:
            self.assertEqual(call(turn), call(turn))
        for call in OF_NUMBERS:
            self.assertEqual(call(turn, 6), call(turn, 6))
        self.assert_turn(turn, [1, 2, 0, 4, 3], 22)
        self.assertEqual(all_places(turn), places)


if __name__ == "__main__":
    unittest.main()
