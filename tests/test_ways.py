"""Point [11] and section 7: how far items go and which way."""

import unittest

from indexturns import ways
from indexturns.cycles import left_by
from indexturns.errors import InvalidTurn
from indexturns.makers import backwards, beside, reversal, shuffled, transposed
from indexturns.turns import Turn, identity, inverse, then
from indexturns.ways import greatest_way, least_way, rise_counts, square_sum
from tests.helpers import (
    LAST, NO_TURNS, ErrorCase, all_places, long_cycle, many_cycles, odd, some_turns, three, turns_of_a_hundred_bits,
    turns_of_few_bits)

HALF = 2 ** 99
CALLS = (greatest_way, least_way, square_sum, rise_counts)


def all_ways(turn):
    return [new - place for place, new in enumerate(all_places(turn))]


def all_answers(turn):
    return [call(turn) for call in CALLS]


class WhereTest(unittest.TestCase):
    def test_defined_here(self):
        for call in CALLS:
            self.assertEqual(call.__module__, "indexturns.ways")
            self.assertIs(getattr(ways, call.__name__), call)


class FewBitsTest(unittest.TestCase):
    def test_the_greatest_and_the_least_way(self):
        for turn in turns_of_few_bits():
            told = all_ways(turn)
            self.assertEqual(greatest_way(turn), (max(told), told.index(max(told))), (turn.targets, turn.flips))
            self.assertEqual(least_way(turn), (min(told), told.index(min(told))), (turn.targets, turn.flips))

    def test_square_sum(self):
        for turn in turns_of_few_bits():
            told = all_ways(turn)
            self.assertEqual(square_sum(turn), sum(way * way for way in told), (turn.targets, turn.flips))

    def test_rise_counts(self):
        for turn in turns_of_few_bits():
            told = all_ways(turn)
            rising, falling = len([way for way in told if way > 0]), len([way for way in told if way < 0])
            self.assertEqual(rise_counts(turn), (rising, told.count(0), falling), (turn.targets, turn.flips))


class HundredBitsTest(unittest.TestCase):
    def test_the_places_have_the_ways(self):
        for turn in turns_of_a_hundred_bits():
            for way, place in (greatest_way(turn), least_way(turn)):
                self.assertIn(place, range(LAST + 1))
                self.assertEqual(turn.goes_to(place) - place, way)

    def test_no_item_that_is_one_bit_beside_goes_further(self):
        # Each bit has its own part in the way; so what is best bit by bit is best of all.
        for turn in turns_of_a_hundred_bits():
            greatest, high = greatest_way(turn)
            least, low = least_way(turn)
            for bit in range(100):
                for place, way, sign in ((high ^ 2 ** bit, greatest, 1), (low ^ 2 ** bit, least, -1)):
                    # With a 1 more it may go as far, with a 1 less it may not.
                    most = sign * way if place >> bit & 1 else sign * way - 1
                    self.assertLessEqual(sign * (turn.goes_to(place) - place), most)

    def test_a_turn_and_its_inverse(self):
        for turn in turns_of_a_hundred_bits():
            back = inverse(turn)
            self.assertEqual(square_sum(back), square_sum(turn))
            self.assertEqual(rise_counts(back), rise_counts(turn)[::-1])
            self.assertEqual(greatest_way(back)[0], -least_way(turn)[0])
            self.assertEqual(least_way(back)[0], -greatest_way(turn)[0])

    def test_all_items_end_for_end(self):
        # Ahead of a turn and behind it: the ways are all turned round.
        for turn in turns_of_a_hundred_bits():
            mirrored = then(then(backwards(100), turn), backwards(100))
            self.assertEqual(square_sum(mirrored), square_sum(turn))
            self.assertEqual(greatest_way(turn)[0], -least_way(mirrored)[0])
            self.assertEqual(rise_counts(mirrored), rise_counts(turn)[::-1])

    def test_the_numbers_are_those_of_all_items(self):
        for turn in turns_of_a_hundred_bits():
            rising, still, falling = rise_counts(turn)
            self.assertEqual(rising + still + falling, 2 ** 100)
            self.assertEqual(still, left_by(turn, 1))
            # As all ways together are 0, no way but 0 is the greatest one only if no item moves.
            self.assertEqual([rising == 0, square_sum(turn) == 0, greatest_way(turn) == (0, 0)],
                             [turn == identity(100)] * 3)
            self.assertLessEqual(square_sum(turn), 2 ** 100 * max(greatest_way(turn)[0], -least_way(turn)[0]) ** 2)

    def test_bits_beside(self):
        # The low bits go as far within each page as they do alone, the high ones by whole pages.
        for low in some_turns(40, 5, 2):
            for high in some_turns(60, 5, 3):
                both = beside(low, high)
                for call in (greatest_way, least_way):
                    told = tuple(one + other * 2 ** 40 for one, other in zip(call(low), call(high)))
                    self.assertEqual(call(both), told)
                self.assertEqual(square_sum(both), 2 ** 60 * square_sum(low) + 2 ** 120 * square_sum(high))
                self.assertEqual(rise_counts(both)[1], rise_counts(low)[1] * rise_counts(high)[1])


class KnownAnswersTest(unittest.TestCase):
    def test_no_item_moves(self):
        for bits in (1, 2, 3, 64, 99, 100):
            self.assertEqual(all_answers(identity(bits)), [(0, 0), (0, 0), 0, (0, 2 ** bits, 0)])

    def test_backwards(self):
        # The way of i is 2 ** n - 1 - 2 * i.
        for bits in (1, 2, 3, 64, 99, 100):
            last, half = 2 ** bits - 1, 2 ** (bits - 1)
            squares = 2 ** bits * (4 ** bits - 1) // 3
            self.assertEqual(all_answers(backwards(bits)), [(last, 0), (-last, last), squares, (half, 0, half)])

    def test_a_shuffle(self):
        # Each item of the lower half goes up by its place; those of the upper half come down to the odd places.
        half = 2 ** 99
        low = half * (half - 1) * (2 * half - 1) // 6
        self.assertEqual(all_answers(shuffled(100)),
                         [(half - 1, half - 1), (1 - half, half), 2 * low, (half - 1, 2, half - 1)])

    def test_an_odd_bit_cycle(self):
        # The item at i goes to 2 * i + 1, for those of the upper half less 2 ** n + 1.
        squares = 2 * sum_of_squares(HALF)
        self.assertEqual(all_answers(long_cycle(1)), [(HALF, HALF - 1), (-HALF, HALF), squares, (HALF, 0, HALF)])

    def test_a_reversal(self):
        # The highest 50 bits are 0 ahead and 1 behind; as many places as words of 50 bits read alike both ways.
        low, high = 2 ** 50 - 1, 2 ** 100 - 2 ** 50
        moved = (2 ** 100 - 2 ** 50) // 2
        gains = sum((2 ** (99 - bit) - 2 ** bit) ** 2 for bit in range(100))
        self.assertEqual(all_answers(reversal(100)),
                         [(high - low, low), (low - high, high), 2 ** 98 * gains, (moved, 2 ** 50, moved)])

    def test_a_transposed_matrix(self):
        # The item in row r and column c goes from r * C + c to c * R + r; the way is c * (R - 1) - r * (C - 1).
        for row_bits, column_bits in ((1, 99), (99, 1), (50, 50), (30, 70), (2, 3)):
            rows, columns = 2 ** row_bits, 2 ** column_bits
            turn = transposed(row_bits, column_bits)
            furthest = (rows - 1) * (columns - 1)
            self.assertEqual(greatest_way(turn), (furthest, columns - 1))
            self.assertEqual(least_way(turn), (-furthest, (rows - 1) * columns))
            squares = rows * (rows - 1) ** 2 * sum_of_squares(columns - 1)
            squares += columns * (columns - 1) ** 2 * sum_of_squares(rows - 1)
            squares -= 2 * furthest * (rows * (rows - 1) // 2) * (columns * (columns - 1) // 2)
            self.assertEqual(square_sum(turn), squares)

    def test_one_flipped_bit(self):
        for bit in (0, 1, 50, 98, 99):
            way, half = 2 ** bit, 2 ** 99
            self.assertEqual(all_answers(Turn(list(range(100)), way)),
                             [(way, 0), (-way, way), 2 ** 100 * way ** 2, (half, 0, half)])

    def test_bits_that_stay_are_0_at_the_least_places(self):
        # Bits 1 and 2 are exchanged; bit 0 and those from 3 on have no part in any way.
        turn = Turn([0, 2, 1] + list(range(3, 100)), 0)
        self.assertEqual([greatest_way(turn), least_way(turn)], [(2, 2), (-2, 4)])
        self.assertEqual(rise_counts(turn), (2 ** 98, 2 ** 99, 2 ** 98))

    def test_kinds_of_values(self):
        for turn in (Turn([0], 0), three(), odd(), many_cycles(LAST)):
            for answer in (greatest_way(turn), least_way(turn), rise_counts(turn)):
                self.assertIs(type(answer), tuple)
                self.assertEqual({type(item) for item in answer}, {int})
            self.assertIs(type(square_sum(turn)), int)


def sum_of_squares(last):
    return last * (last + 1) * (2 * last + 1) // 6


class ArgumentsTest(ErrorCase):
    def test_wrong_turns(self):
        for wrong in NO_TURNS:
            for call in CALLS:
                self.assert_error(InvalidTurn, call, wrong)

    def test_the_turns_stay(self):
        turn = Turn([1, 2, 0, 4, 3], 22)
        first = all_answers(turn)
        self.assertEqual(all_answers(turn), first)
        self.assertEqual(all_answers(Turn([1, 2, 0, 4, 3], 22)), first)
        self.assert_turn(turn, [1, 2, 0, 4, 3], 22)


if __name__ == "__main__":
    unittest.main()
