"""Points [12] and [13] and section 8: which places stay side by side, and which pages stay pages."""

import random
import unittest

from indexturns import stretches
from indexturns.errors import InvalidPlace, InvalidTurn
from indexturns.makers import backwards, beside, reversal, shuffled, transposed
from indexturns.stretches import block_bits, longest_stretch, stretch_count, stretch_lengths, stretch_of
from indexturns.turns import Turn, identity, inverse, then
from tests.helpers import (
    LAST, NO_INTEGERS, NO_TURNS, ErrorCase, all_places, long_cycle, many_cycles, odd, some_turns, three, tiles,
    turns_of_a_hundred_bits, turns_of_few_bits)

OF_TURNS = (stretch_count, stretch_lengths, longest_stretch, block_bits)


def closed_turns(bits, many, seed):
    """Turns of so many bits that keep many stretches: the lowest bits stay, others are exchanged, few are flipped."""
    chance = random.Random(seed)
    turns = [identity(bits)]
    for _ in range(many):
        targets = list(range(bits))
        for _ in range(chance.randrange(3)):
            low = chance.randrange(bits)
            high = chance.randrange(low, bits)
            part = targets[low:high + 1]
            chance.shuffle(part)
            targets[low:high + 1] = part
        flips = sum({2 ** chance.randrange(bits) for _ in range(chance.randrange(4))})
        turns.append(Turn(targets, flips))
    return turns


def pairs_of_flips(bits):
    """The turns without flips and those with two flipped bits that only exchange two bits."""
    turns = []
    for high in range(bits):
        for low in range(high):
            targets = list(range(bits))
            targets[low], targets[high] = high, low
            turns += [Turn(targets, 0), Turn(targets, 2 ** low + 2 ** high), Turn(targets, 2 ** low)]
    return turns


def told_turns():
    return turns_of_few_bits() + closed_turns(5, 60, 1) + closed_turns(7, 60, 2) + pairs_of_flips(6)


def told_stretches(turn):
    """The tuples (first place, last place) of all stretches, found place by place."""
    places = all_places(turn)
    found = [[0]]
    for place in range(1, len(places)):
        if places[place] == places[place - 1] + 1:
            found[-1].append(place)
        else:
            found.append([place])
    return [(row[0], row[-1]) for row in found]


def told_lengths(rows):
    lengths = [last - first + 1 for first, last in rows]
    return [(length, lengths.count(length)) for length in sorted(set(lengths))]


def told_block_bits(turn):
    places = all_places(turn)
    return [bits for bits in range(turn.bits + 1) if all(
        len({places[place] >> bits for place in range(start, start + 2 ** bits)}) == 1
        for start in range(0, len(places), 2 ** bits))]


class WhereTest(unittest.TestCase):
    def test_defined_here(self):
        for call in OF_TURNS + (stretch_of,):
            self.assertEqual(call.__module__, "indexturns.stretches")
            self.assertIs(getattr(stretches, call.__name__), call)


class FewBitsTest(unittest.TestCase):
    def test_all_stretches(self):
        for turn in told_turns():
            rows = told_stretches(turn)
            about = (turn.targets, turn.flips)
            self.assertEqual(stretch_count(turn), len(rows), about)
            self.assertEqual(stretch_lengths(turn), told_lengths(rows), about)
            length = max(last - first + 1 for first, last in rows)
            first = min(first for first, last in rows if last - first + 1 == length)
            self.assertEqual(longest_stretch(turn), (length, first), about)

    def test_the_stretch_of_each_place(self):
        for turn in told_turns():
            for first, last in told_stretches(turn):
                for place in range(first, last + 1):
                    self.assertEqual(stretch_of(turn, place), (first, last), (turn.targets, turn.flips, place))

    def test_block_bits(self):
        for turn in told_turns():
            self.assertEqual(block_bits(turn), told_block_bits(turn), (turn.targets, turn.flips))

    def test_the_turns_that_are_told_have_stretches_of_every_kind(self):
        kinds = {tuple(length for length, many in stretch_lengths(turn)) for turn in told_turns()}
        for bits in range(5):
            self.assertLessEqual({(2 ** bits,), (2 ** bits, 2 ** (bits + 1))}, kinds)


class HundredBitsTest(unittest.TestCase):
    def turns(self):
        return turns_of_a_hundred_bits() + closed_turns(100, 60, 3) + pairs_of_flips(100)[::211]

    def test_the_lengths_are_those_of_all_places(self):
        for turn in self.turns():
            lengths = stretch_lengths(turn)
            self.assertEqual(sum(length * many for length, many in lengths), 2 ** 100)
            self.assertEqual(sum(many for length, many in lengths), stretch_count(turn))
            self.assertEqual(lengths, sorted(lengths))
            self.assertTrue(all(many > 0 for length, many in lengths))
            self.assertEqual(longest_stretch(turn)[0], lengths[-1][0])
            self.assertEqual(len(lengths), len({length for length, many in lengths}))

    def test_a_turn_and_its_inverse(self):
        # The new places of a stretch are a stretch of the inverse.
        for turn in self.turns():
            back = inverse(turn)
            self.assertEqual(stretch_lengths(back), stretch_lengths(turn))
            self.assertEqual(stretch_count(back), stretch_count(turn))
            self.assertEqual(block_bits(back), block_bits(turn))
            for place in (0, LAST, 2 ** 50, 2 ** 99 - 1, 10 ** 30, 10 ** 29 + 7):
                first, last = stretch_of(turn, place)
                self.assertEqual(stretch_of(back, turn.goes_to(place)), (turn.goes_to(first), turn.goes_to(last)))

    def test_a_stretch_goes_on_from_place_to_place_and_ends(self):
        chance = random.Random(4)
        for turn in self.turns():
            for place in [0, LAST] + [chance.randrange(2 ** 100) for _ in range(6)]:
                first, last = stretch_of(turn, place)
                self.assertTrue(0 <= first <= place <= last <= LAST)
                self.assertEqual(turn.goes_to(last) - turn.goes_to(first), last - first)
                self.assertEqual(turn.goes_to(place) - turn.goes_to(first), place - first)
                self.assertTrue(first == 0 or turn.goes_to(first) != turn.goes_to(first - 1) + 1)
                self.assertTrue(last == LAST or turn.goes_to(last + 1) != turn.goes_to(last) + 1)
                self.assertIn(last - first + 1, [length for length, many in stretch_lengths(turn)])
                self.assertEqual([stretch_of(turn, first), stretch_of(turn, last)], [(first, last)] * 2)

    def test_the_longest_stretch_is_the_first_one(self):
        for turn in self.turns():
            length, first = longest_stretch(turn)
            self.assertEqual(stretch_of(turn, first), (first, first + length - 1))
            self.assertEqual(stretch_of(turn, first + length - 1), (first, first + length - 1))
            # All that is ahead of it is shorter, if it is not the only length: rows of half its length.
            for place in (0, first // 2, first - 1):
                if 0 <= place < first:
                    one, other = stretch_of(turn, place)
                    self.assertEqual(2 * (other - one + 1), length)

    def test_block_bits_and_pages(self):
        for turn in self.turns():
            found = block_bits(turn)
            self.assertEqual([found[0], found[-1]], [0, 100])
            self.assertEqual(found, sorted(set(found)))
            for bits in range(101):
                stays = {target for target in turn.targets[:bits]} == set(range(bits))
                self.assertEqual(bits in found, stays)

    def test_bits_beside(self):
        # Within each page the stretches are those of the low bits, if these leave no end of a page where it is.
        for high in some_turns(60, 5, 3) + [identity(60)] + pairs_of_flips(60)[::173]:
            low = Turn([1, 0] + list(range(2, 40)), 0)
            self.assertEqual(stretch_count(beside(low, high)), 2 ** 60 * stretch_count(low) - joined(high))
            self.assertEqual(stretch_count(beside(backwards(40), high)), 2 ** 100)
            self.assertEqual(stretch_count(beside(identity(40), high)), stretch_count(high))


def joined(turn):
    """How often a page and the next one stay so: the last place of one and the first one of the other are joined."""
    return 2 ** turn.bits - stretch_count(turn)


class KnownAnswersTest(unittest.TestCase):
    def test_no_item_moves(self):
        for bits in (1, 2, 3, 64, 99, 100):
            turn, last = identity(bits), 2 ** bits - 1
            self.assertEqual([stretch_count(turn), stretch_lengths(turn), longest_stretch(turn), block_bits(turn)],
                             [1, [(2 ** bits, 1)], (2 ** bits, 0), list(range(bits + 1))])
            self.assertEqual([stretch_of(turn, place) for place in (0, last // 2, last)], [(0, last)] * 3)

    def test_all_places_alone(self):
        for bits in (2, 3, 64, 99, 100):
            last = 2 ** bits - 1
            for turn in (backwards(bits), shuffled(bits), inverse(shuffled(bits)), reversal(bits)):
                self.assertEqual([stretch_count(turn), stretch_lengths(turn), longest_stretch(turn)],
                                 [2 ** bits, [(1, 2 ** bits)], (1, 0)])
                self.assertEqual([stretch_of(turn, place) for place in (0, 1, last - 1, last)],
                                 [(0, 0), (1, 1), (last - 1, last - 1), (last, last)])

    def test_block_bits(self):
        self.assertEqual(block_bits(backwards(100)), list(range(101)))
        for turn in (shuffled(100), reversal(100), transposed(50, 50), transposed(1, 99), long_cycle(LAST)):
            self.assertEqual(block_bits(turn), [0, 100])
        self.assertEqual(block_bits(many_cycles(5)), [0, 1, 4, 9, 16, 27, 40, 57, 76, 100])

    def test_one_flipped_bit(self):
        # From 2 ** bit places to 2 ** bit places the order is another one.
        for bit in (0, 1, 50, 98, 99):
            turn = Turn(list(range(100)), 2 ** bit)
            many = 2 ** (100 - bit)
            self.assertEqual(stretch_count(turn), many)
            self.assertEqual(stretch_lengths(turn), [(2 ** bit, many)])
            self.assertEqual(stretch_of(turn, LAST), (LAST + 1 - 2 ** bit, LAST))
            self.assertEqual(block_bits(turn), list(range(101)))

    def test_two_exchanged_bits(self):
        # From each 2 ** low places to the next, the new place rises by 1 only where all bits up to high go on.
        for low, high in ((0, 1), (0, 99), (3, 4), (40, 60), (98, 99)):
            targets = list(range(100))
            targets[low], targets[high] = high, low
            turn = Turn(targets, 0)
            many = 2 ** (99 - high) - 1
            lengths = [(2 ** low, 2 ** (100 - low) - 2 * many)]
            if many > 0:
                lengths.append((2 ** (low + 1), many))
            self.assertEqual(stretch_lengths(turn), lengths)
            self.assertEqual(block_bits(turn), list(range(low + 1)) + list(range(high + 1, 101)))

    def test_two_exchanged_and_flipped_bits(self):
        # Behind the place with digits 1 up to high alone, the new place rises by 1.
        for low, high in ((0, 1), (0, 99), (3, 4), (40, 60), (98, 99)):
            targets = list(range(100))
            targets[low], targets[high] = high, low
            turn = Turn(targets, 2 ** low + 2 ** high)
            many = 2 ** (99 - high)
            self.assertEqual(stretch_lengths(turn), [(2 ** low, 2 ** (100 - low) - 2 * many), (2 ** (low + 1), many)])
            self.assertEqual(longest_stretch(turn), (2 ** (low + 1), 2 ** high - 2 ** low))

    def test_the_ends_of_the_array(self):
        self.assertEqual([stretch_of(tiles(), place) for place in (0, 1, 7, 14, 15)],
                         [(0, 1), (0, 1), (6, 9), (14, 15), (14, 15)])
        self.assertEqual(stretch_of(Turn([0], 0), 1), (0, 1))
        self.assertEqual(stretch_of(Turn([0], 1), 1), (1, 1))

    def test_kinds_of_values(self):
        for turn in (Turn([0], 1), three(), odd(), tiles(), many_cycles(LAST), identity(100)):
            self.assertEqual([type(call(turn)) for call in OF_TURNS], [int, list, tuple, list])
            self.assertIs(type(stretch_of(turn, 1)), tuple)
            self.assertEqual({type(item) for item in stretch_lengths(turn)}, {tuple})
            numbers = [number for item in stretch_lengths(turn) for number in item]
            numbers += [*block_bits(turn), *longest_stretch(turn), *stretch_of(turn, 1)]
            self.assertEqual({type(number) for number in numbers}, {int})


class ArgumentsTest(ErrorCase):
    def test_wrong_turns(self):
        for wrong in NO_TURNS:
            for call in OF_TURNS:
                self.assert_error(InvalidTurn, call, wrong)
            for place in (0, 10 ** 100, -1, None):
                self.assert_error(InvalidTurn, stretch_of, wrong, place)

    def test_wrong_places(self):
        for turn in (Turn([0], 1), odd(), three(), tiles(), backwards(64), backwards(100), identity(100)):
            for wrong in NO_INTEGERS + [-1, -2, 2 ** turn.bits, 2 ** turn.bits + 1, -2 ** turn.bits, 10 ** 100,
                                        -10 ** 100]:
                self.assert_error(InvalidPlace, stretch_of, turn, wrong)

    def test_the_ends_of_the_ranges(self):
        for bits in (1, 2, 3, 64, 100):
            last = 2 ** bits - 1
            self.assertEqual([stretch_of(backwards(bits), place) for place in (0, last)], [(0, 0), (last, last)])

    def test_new_lists(self):
        for turn in (three(), tiles(), identity(100), many_cycles(1)):
            for call in (stretch_lengths, block_bits):
                first = call(turn)
                self.assertIsNot(call(turn), first)
                told = list(first)
                first.append(7)
                first[0] = None
                self.assertEqual(call(turn), told)

    def test_the_turns_stay(self):
        turn = Turn([0, 2, 1, 3, 4], 24)
        first = [call(turn) for call in OF_TURNS] + [stretch_of(turn, 21)]
        self.assertEqual([call(turn) for call in OF_TURNS] + [stretch_of(turn, 21)], first)
        self.assert_turn(turn, [0, 2, 1, 3, 4], 24)
        self.assertEqual(stretch_count(then(turn, inverse(turn))), 1)


if __name__ == "__main__":
    unittest.main()
