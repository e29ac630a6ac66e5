"""Point [10] and section 6: how many pairs of items change their order."""

import itertools
import random
import unittest

from indexturns import sequence
from indexturns.errors import InvalidPlace, InvalidTurn, UnlikeBits
from indexturns.makers import backwards, beside, reversal, shuffled, transposed
from indexturns.sequence import inversions, passed, unlike_pairs
from indexturns.turns import Turn, identity, inverse, power, then
from tests.helpers import (
    LAST, NO_INTEGERS, NO_TURNS, ErrorCase, all_places, all_turns, long_cycle, many_cycles, odd, some_turns, three,
    tiles, turns_of_a_hundred_bits, turns_of_few_bits)

HALF = 2 ** 99
PAIRS = 2 ** 99 * LAST
PLACES = [0, 1, 2, 3, HALF - 1, HALF, HALF + 1, LAST - 1, LAST, 10 ** 30, 10 ** 29 + 7] + [
    random.Random(9).randrange(2 ** 100) for _ in range(4)]


def told_passed(places, place):
    return len([other for other in range(place) if places[other] > places[place]])


def told_unlike(ahead, behind):
    """How many pairs of items are in one order in the one list of new places, in the other order in the other one."""
    return len([1 for one, other in itertools.combinations(range(len(ahead)), 2)
                if (ahead[one] < ahead[other]) != (behind[one] < behind[other])])


def told_by_bits(turn):
    """How many pairs change their order, told by point [10] for each two of the bits in which places can differ."""
    targets, pairs = turn.targets, 0
    for highest, leading in itertools.product(range(turn.bits), repeat=2):
        if leading > highest or targets[highest] > targets[leading]:
            continue
        others = len([bit for bit in range(highest) if targets[bit] < targets[leading]])
        if highest != leading:
            pairs += 2 ** others * 2 ** (turn.bits - 2)
        elif turn.flips >> targets[leading] & 1:
            pairs += 2 ** others * 2 ** (turn.bits - 1)
    return pairs


def drawn_turns():
    """Turns of 50 to 100 bits, each with flips and without."""
    found = [turn for bits in range(50, 101) for turn in some_turns(bits, 2, bits)]
    return found + [Turn(turn.targets, 0) for turn in found]


class WhereTest(unittest.TestCase):
    def test_defined_here(self):
        for call in (inversions, passed, unlike_pairs):
            self.assertEqual(call.__module__, "indexturns.sequence")
            self.assertIs(getattr(sequence, call.__name__), call)


class FewBitsTest(unittest.TestCase):
    def test_inversions(self):
        for turn in turns_of_few_bits():
            start = list(range(2 ** turn.bits))
            self.assertEqual(inversions(turn), told_unlike(start, all_places(turn)), (turn.targets, turn.flips))

    def test_passed(self):
        for turn in turns_of_few_bits():
            places = all_places(turn)
            told = [told_passed(places, place) for place in range(len(places))]
            self.assertEqual([passed(turn, place) for place in range(len(places))], told, (turn.targets, turn.flips))
            self.assertEqual(sum(told), inversions(turn))

    def test_unlike_pairs_of_all_turns(self):
        for bits in (1, 2):
            for turn, second in itertools.product(all_turns(bits), repeat=2):
                self.assertEqual(unlike_pairs(turn, second), told_unlike(all_places(turn), all_places(second)))

    def test_unlike_pairs_of_some_turns(self):
        for bits in (3, 4, 5):
            found = some_turns(bits, 8, 5) + [identity(bits), backwards(bits)]
            for turn, second in itertools.product(found, repeat=2):
                self.assertEqual(unlike_pairs(turn, second), told_unlike(all_places(turn), all_places(second)),
                                 (turn.targets, turn.flips, second.targets, second.flips))


class SumsTest(unittest.TestCase):
    def test_passed_of_all_places_is_what_inversions_tells(self):
        for bits in range(1, 10):
            for turn in some_turns(bits, 4, 7) + [reversal(bits), shuffled(bits), backwards(bits)]:
                self.assertEqual(sum(passed(turn, place) for place in range(2 ** bits)), inversions(turn))

    def test_passed_against_all_items_of_nine_bits(self):
        for turn in some_turns(9, 12, 13):
            places = all_places(turn)
            for place in range(2 ** 9):
                self.assertEqual(passed(turn, place), told_passed(places, place))


class DrawnTurnsTest(unittest.TestCase):
    def test_inversions(self):
        for turn in drawn_turns():
            many = inversions(turn)
            self.assertEqual(many, told_by_bits(turn))
            self.assertEqual([inversions(inverse(turn)), unlike_pairs(turn, identity(turn.bits))], [many] * 2)

    def test_unlike_pairs(self):
        found = drawn_turns()
        for turn, second in zip(found, found[1:] + found[:1]):
            if turn.bits == second.bits:
                many = unlike_pairs(turn, second)
                self.assertEqual(many, told_by_bits(then(inverse(turn), second)))
                self.assertEqual(unlike_pairs(second, turn), many)
                self.assertEqual(unlike_pairs(then(reversal(turn.bits), turn), then(reversal(turn.bits), second)), many)
            self.assertEqual(unlike_pairs(turn, turn), 0)
            plain = Turn(turn.targets, 0)
            self.assertEqual(unlike_pairs(turn, plain), inversions(Turn(list(range(turn.bits)), turn.flips)))

    def test_passed(self):
        chance = random.Random(12)
        for turn in drawn_turns():
            last = 2 ** turn.bits - 1
            for place in (0, 1, last // 3, last - 1, last, chance.randrange(last)):
                up = passed(turn, place)
                self.assertIn(up, range(place + 1))
                self.assertEqual(up - passed(inverse(turn), turn.goes_to(place)), place - turn.goes_to(place))
                self.assertEqual(passed(then(turn, backwards(turn.bits)), place), place - up)


class HundredBitsTest(unittest.TestCase):
    def test_inversions_of_what_belongs_together(self):
        end_for_end = backwards(100)
        for turn in turns_of_a_hundred_bits():
            many = inversions(turn)
            self.assertIn(many, range(PAIRS + 1))
            self.assertEqual(inversions(inverse(turn)), many)
            # Turned end for end behind it, exactly the other pairs have changed their order; ahead of it, too.
            self.assertEqual(inversions(then(turn, end_for_end)), PAIRS - many)
            self.assertEqual(inversions(then(end_for_end, turn)), PAIRS - many)
            self.assertEqual(many == 0, turn == identity(100))

    def test_passed_both_ways(self):
        # Of the items below and those that come below, the same ones stay below; the others pass it up or down.
        for turn in turns_of_a_hundred_bits():
            for place in PLACES:
                new_place = turn.goes_to(place)
                up = passed(turn, place)
                down = passed(inverse(turn), new_place)
                self.assertIn(up, range(place + 1))
                self.assertEqual(up - down, place - new_place)

    def test_passed_and_turned_end_for_end(self):
        end_for_end = backwards(100)
        for turn in turns_of_a_hundred_bits():
            for place in PLACES:
                self.assertEqual(passed(then(turn, end_for_end), place), place - passed(turn, place))

    def test_unlike_pairs_of_what_belongs_together(self):
        found = turns_of_a_hundred_bits()[::9]
        still, end_for_end = identity(100), backwards(100)
        for turn in found:
            self.assertEqual([unlike_pairs(turn, turn), unlike_pairs(turn, Turn(turn.targets, turn.flips))], [0, 0])
            self.assertEqual([unlike_pairs(turn, still), unlike_pairs(still, turn)], [inversions(turn)] * 2)
            self.assertEqual(unlike_pairs(turn, then(turn, end_for_end)), PAIRS)
            for second in found:
                many = unlike_pairs(turn, second)
                self.assertEqual(unlike_pairs(second, turn), many)
                self.assertEqual(unlike_pairs(turn, then(second, end_for_end)), PAIRS - many)
                # Which item is where ahead of both turns does not count.
                self.assertEqual(unlike_pairs(then(found[-1], turn), then(found[-1], second)), many)

    def test_bits_beside(self):
        # The items of each page of 50 bits change their order among one another, and then the pages theirs.
        for low in some_turns(50, 5, 2):
            for high in some_turns(50, 5, 3):
                told = 2 ** 50 * inversions(low) + 2 ** 100 * inversions(high)
                self.assertEqual(inversions(beside(low, high)), told)


class KnownAnswersTest(unittest.TestCase):
    def test_no_item_moves(self):
        for bits in (1, 2, 64, 100):
            self.assertEqual([inversions(identity(bits)), unlike_pairs(identity(bits), identity(bits))], [0, 0])
        self.assertEqual([passed(identity(100), place) for place in PLACES], [0] * len(PLACES))

    def test_backwards(self):
        for bits in (1, 2, 64, 100):
            pairs = 2 ** bits * (2 ** bits - 1) // 2
            self.assertEqual([inversions(backwards(bits)), unlike_pairs(identity(bits), backwards(bits))], [pairs] * 2)
        self.assertEqual([passed(backwards(100), place) for place in PLACES], PLACES)

    def test_a_shuffle(self):
        # Each item of the upper half is passed by those that are behind it in the lower half.
        self.assertEqual(inversions(shuffled(100)), HALF * (HALF - 1) // 2)
        self.assertEqual(inversions(inverse(shuffled(100))), HALF * (HALF - 1) // 2)
        for place in PLACES:
            self.assertEqual(passed(shuffled(100), place), LAST - place if place >= HALF else 0)

    def test_an_odd_bit_cycle(self):
        # A shuffle that begins with the upper half.
        self.assertEqual(inversions(long_cycle(1)), HALF * (HALF + 1) // 2)
        for place in PLACES:
            self.assertEqual(passed(long_cycle(1), place), LAST + 1 - place if place >= HALF else 0)

    def test_reversal(self):
        for bits in (1, 2, 3, 10, 99, 100):
            self.assertEqual(inversions(reversal(bits)), 2 ** bits * (2 ** bits - 1 - bits) // 4)

    def test_a_transposed_matrix(self):
        # Two items change their order if one is in a row above and in a column to the right.
        for rows, columns in ((1, 1), (1, 99), (99, 1), (50, 50), (30, 70)):
            many = 2 ** rows * (2 ** rows - 1) // 2 * (2 ** columns * (2 ** columns - 1) // 2)
            self.assertEqual(inversions(transposed(rows, columns)), many)

    def test_one_flipped_bit(self):
        # The highest bit exchanges the halves, the lowest one neighbours.
        for bit in (0, 1, 50, 98, 99):
            turn = Turn(list(range(100)), 2 ** bit)
            self.assertEqual(inversions(turn), 2 ** (99 - bit) * 2 ** bit * 2 ** bit)
            self.assertEqual(unlike_pairs(power(turn, 3), turn), 0)
            self.assertEqual([passed(turn, place) for place in (0, 2 ** bit - 1, 2 ** bit, 2 ** (bit + 1) - 1, LAST)],
                             [0, 0] + [2 ** bit] * 3)

    def test_kinds_of_values(self):
        for turn in (three(), odd(), many_cycles(LAST)):
            self.assertEqual([type(answer) for answer in (
                inversions(turn), passed(turn, 1), unlike_pairs(turn, turn))], [int] * 3)


class ArgumentsTest(ErrorCase):
    def test_wrong_turns(self):
        for wrong in NO_TURNS:
            self.assert_error(InvalidTurn, inversions, wrong)
            for place in (0, 10 ** 100, -1, None):
                self.assert_error(InvalidTurn, passed, wrong, place)
            self.assert_error(InvalidTurn, unlike_pairs, wrong, three())
            self.assert_error(InvalidTurn, unlike_pairs, three(), wrong)
            self.assert_error(InvalidTurn, unlike_pairs, wrong, wrong)

    def test_unlike_bits(self):
        for turn, second in itertools.permutations([Turn([0], 0), odd(), three(), tiles(), identity(100)], 2):
            self.assert_error(UnlikeBits, unlike_pairs, turn, second)

    def test_wrong_places(self):
        for turn in (Turn([0], 1), odd(), three(), tiles(), backwards(64), backwards(100)):
            for wrong in NO_INTEGERS + [-1, -2, 2 ** turn.bits, 2 ** turn.bits + 1, -2 ** turn.bits, 10 ** 100,
                                        -10 ** 100]:
                self.assert_error(InvalidPlace, passed, turn, wrong)

    def test_the_ends_of_the_ranges(self):
        for bits in (1, 2, 3, 64, 100):
            last = 2 ** bits - 1
            self.assertEqual([passed(backwards(bits), place) for place in (0, last)], [0, last])
            self.assertEqual([passed(identity(bits), place) for place in (0, last)], [0, 0])

    def test_the_turns_stay(self):
        turn, second = Turn([1, 2, 0, 4, 3], 22), Turn([4, 2, 0, 1, 3], 9)
        for _ in range(2):
            self.assertEqual(inversions(turn), told_unlike(list(range(32)), all_places(turn)))
            self.assertEqual(passed(turn, 21), told_passed(all_places(turn), 21))
            self.assertEqual(unlike_pairs(turn, second), told_unlike(all_places(turn), all_places(second)))
        self.assert_turn(turn, [1, 2, 0, 4, 3], 22)
        self.assert_turn(second, [4, 2, 0, 1, 3], 9)


if __name__ == "__main__":
    unittest.main()
