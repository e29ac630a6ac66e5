"""Point [13] and section 9: how many pages send items to how many, and how many passes and exchanges a turn takes."""

import itertools
import random
import unittest

from indexturns import pages
from indexturns.cycles import bit_cycles
from indexturns.makers import backwards, beside, reversal, shuffled, transposed
from indexturns.pages import extra_passes, fewest_passes, neighbour_swaps, page_pairs, page_spread, swap_count
from indexturns.stretches import block_bits
from indexturns.turns import Turn, identity, inverse, power, then
from tests.helpers import (
    LAST, all_places, all_turns, long_cycle, many_cycles, odd, some_turns, three, tiles, turns_of_a_hundred_bits,
    turns_of_few_bits)


def told_pages(turn, page_bits):
    """For each page the set of the pages that its items go to, found item by item."""
    places = all_places(turn)
    size = 2 ** page_bits
    return [{places[place] // size for place in range(start, start + size)}
            for start in range(0, len(places), size)]


def key(turn):
    return tuple(turn.targets), turn.flips


def told_fewest(bits, turns, page_bits, memory_bits):
    """For each of the turns how many passes among them do it at least: a search over all rows of passes."""
    passes = [turn for turn in turns if len(told_pages(turn, page_bits)[0]) <= 2 ** (memory_bits - page_bits)]
    told = {key(identity(bits)): 0}
    latest = [identity(bits)]
    while latest:
        found = []
        for turn in latest:
            for passing in passes:
                behind = then(turn, passing)
                if key(behind) not in told:
                    told[key(behind)] = told[key(turn)] + 1
                    found.append(behind)
        latest = found
    return told


def told_exchanges(bits, pairs):
    """For each sequence of targets how many exchanges of such pairs of bits do it at least: a search over all."""
    start = tuple(range(bits))
    told = {start: 0}
    latest = [start]
    while latest:
        found = []
        for targets in latest:
            for one, other in pairs:
                # The items behind the exchange: what went to the one bit goes to the other one.
                swapped = {one: other, other: one}
                behind = tuple(swapped.get(target, target) for target in targets)
                if behind not in told:
                    told[behind] = told[targets] + 1
                    found.append(behind)
        latest = found
    return told


def exchange(bits, pairs):
    """The turn that exchanges these pairs of bits."""
    targets = list(range(bits))
    for one, other in pairs:
        targets[one], targets[other] = other, one
    return Turn(targets, 0)


def told_climbs(turn, page_bits):
    return len([bit for bit in range(page_bits) if turn.targets[bit] >= page_bits])


class WhereTest(unittest.TestCase):
    def test_defined_here(self):
        for call in (page_spread, page_pairs, fewest_passes, extra_passes, swap_count, neighbour_swaps):
            self.assertEqual(call.__module__, "indexturns.pages")
            self.assertIs(getattr(pages, call.__name__), call)


class FewBitsTest(unittest.TestCase):
    def test_all_pages_and_where_their_items_go(self):
        for turn in turns_of_few_bits():
            for page_bits in range(turn.bits + 1):
                told = told_pages(turn, page_bits)
                self.assertEqual([len(found) for found in told], [page_spread(turn, page_bits)] * len(told))
                self.assertEqual(page_pairs(turn, page_bits), sum(len(found) for found in told))

    def test_fewest_passes_of_all_turns(self):
        for bits in (1, 2, 3):
            self.assert_fewest(bits, all_turns(bits), 0, bits)

    def test_fewest_passes_of_four_bits(self):
        self.assert_fewest(4, all_turns(4), 2, 3)

    def test_fewest_passes_of_turns_without_flips(self):
        for bits in (4, 5):
            turns = [Turn(list(targets), 0) for targets in itertools.permutations(range(bits))]
            self.assert_fewest(bits, turns, 0, bits)

    def assert_fewest(self, bits, turns, least, most):
        for page_bits in range(least, most + 1):
            for memory_bits in range(page_bits, most + 1):
                told = told_fewest(bits, turns, page_bits, memory_bits)
                for turn in turns:
                    self.assertEqual(fewest_passes(turn, page_bits, memory_bits), told.get(key(turn)),
                                     (turn.targets, turn.flips, page_bits, memory_bits))

    def test_no_passes_with_the_memory_of_one_page(self):
        for turn in turns_of_few_bits():
            for page_bits in range(turn.bits + 1):
                told = None if told_climbs(turn, page_bits) > 0 else int(turn != identity(turn.bits))
                self.assertEqual(fewest_passes(turn, page_bits, page_bits), told)

    def test_extra_passes_of_all_short_rows(self):
        for bits in (1, 2):
            found = all_turns(bits)
            rows = [list(row) for many in (1, 2) for row in itertools.product(found, repeat=many)]
            for page_bits in range(bits + 1):
                for memory_bits in range(page_bits, bits + 1):
                    for row in rows:
                        self.assert_extra(found[:5] + [row[-1]], page_bits, memory_bits, row)

    def test_extra_passes_of_some_rows(self):
        chance = random.Random(2)
        for bits in (3, 4, 5):
            found = some_turns(bits, 12, bits) + [identity(bits)]
            for _ in range(150):
                row = [chance.choice(found) for _ in range(chance.randrange(1, 6))]
                page_bits = chance.randrange(bits + 1)
                memory_bits = chance.randrange(page_bits, bits + 1)
                self.assert_extra([row[0], row[-1], identity(bits)], page_bits, memory_bits, row)

    def assert_extra(self, others, page_bits, memory_bits, row):
        """Asks for what the row does, and for other turns."""
        whole = row[0]
        for turn in row[1:]:
            whole = then(whole, turn)
        most = 2 ** (memory_bits - page_bits)
        are_passes = all(len(told_pages(turn, page_bits)[0]) <= most for turn in row)
        for turn in others + [whole, Turn(whole.targets, whole.flips ^ 1)]:
            told = None
            if are_passes and all_places(turn) == all_places(whole):
                told = len(row) - fewest_passes(turn, page_bits, memory_bits)
            self.assertEqual(extra_passes(turn, page_bits, memory_bits, row), told)

    def test_exchanges(self):
        for bits in (1, 2, 3, 4, 5, 6):
            told = told_exchanges(bits, list(itertools.combinations(range(bits), 2)))
            told_beside = told_exchanges(bits, [(bit, bit + 1) for bit in range(bits - 1)])
            for targets in itertools.permutations(range(bits)):
                for flips in (0, 1, 2 ** bits - 1):
                    turn = Turn(list(targets), flips)
                    self.assertEqual(swap_count(turn), told[targets])
                    self.assertEqual(neighbour_swaps(turn), told_beside[targets])


class HundredBitsTest(unittest.TestCase):
    def test_pages(self):
        for turn in turns_of_a_hundred_bits():
            back = inverse(turn)
            for page_bits in (0, 1, 2, 31, 50, 63, 64, 98, 99, 100):
                spread = page_spread(turn, page_bits)
                self.assertEqual(spread, 2 ** told_climbs(turn, page_bits))
                self.assertEqual(page_pairs(turn, page_bits), 2 ** (100 - page_bits) * spread)
                self.assertEqual(page_spread(back, page_bits), spread)
                self.assertEqual(page_pairs(back, page_bits), page_pairs(turn, page_bits))
                self.assertEqual(spread == 1, page_bits in block_bits(turn))
                self.assertEqual(page_spread(Turn(turn.targets, LAST - turn.flips), page_bits), spread)

    def test_fewest_passes(self):
        for turn in turns_of_a_hundred_bits():
            for page_bits, memory_bits in ((0, 0), (0, 100), (50, 50), (50, 51), (50, 57), (50, 99), (99, 100)):
                fewest = fewest_passes(turn, page_bits, memory_bits)
                spread = page_spread(turn, page_bits)
                if turn == identity(100):
                    self.assertEqual(fewest, 0)
                elif fewest is None:
                    self.assertEqual(memory_bits, page_bits)
                    self.assertGreater(spread, 1)
                else:
                    # So many passes can spread a page far enough, one less can not; without any nothing moves.
                    at_once = 2 ** (memory_bits - page_bits)
                    self.assertGreaterEqual(fewest, 1)
                    self.assertGreaterEqual(at_once ** fewest, spread)
                    self.assertTrue(fewest == 1 or at_once ** (fewest - 1) < spread)
                self.assertEqual(fewest_passes(inverse(turn), page_bits, memory_bits), fewest)

    def test_a_row_of_passes_is_never_less_than_the_fewest(self):
        chance = random.Random(8)
        for _ in range(60):
            page_bits = chance.randrange(1, 100)
            memory_bits = chance.randrange(page_bits + 1, 101)
            row = [self.some_pass(chance, page_bits, memory_bits) for _ in range(chance.randrange(1, 12))]
            whole = row[0]
            for turn in row[1:]:
                whole = then(whole, turn)
            more = extra_passes(whole, page_bits, memory_bits, row)
            self.assertEqual(more, len(row) - fewest_passes(whole, page_bits, memory_bits))
            self.assertGreaterEqual(more, 0)
            self.assertIsNone(extra_passes(then(whole, backwards(100)), page_bits, memory_bits, row))

    def some_pass(self, chance, page_bits, memory_bits):
        """Exchanges as many low bits with high ones as a pass may, between turns of the low and of the high bits."""
        within, low, high = list(range(100)), list(range(page_bits)), list(range(page_bits, 100))
        chance.shuffle(low)
        chance.shuffle(high)
        for bit, target in enumerate(low + high):
            within[bit] = target
        pairs = list(zip(chance.sample(low, page_bits), high))[:memory_bits - page_bits]
        turn = then(Turn(within, chance.randrange(2 ** 100)), exchange(100, pairs))
        self.assertLessEqual(page_spread(turn, page_bits), 2 ** (memory_bits - page_bits))
        return turn

    def test_exchanges(self):
        for turn in turns_of_a_hundred_bits():
            swaps, beside_swaps = swap_count(turn), neighbour_swaps(turn)
            self.assertEqual(swaps, 100 - len(bit_cycles(turn)))
            self.assertEqual(beside_swaps, len([
                1 for one, other in itertools.combinations(turn.targets, 2) if one > other]))
            self.assertIn(beside_swaps, range(swaps, 4951))
            self.assertEqual(swaps % 2, beside_swaps % 2)
            self.assertEqual([swap_count(inverse(turn)), neighbour_swaps(inverse(turn))], [swaps, beside_swaps])
            plain = Turn(turn.targets, 0)
            self.assertEqual([swap_count(plain), neighbour_swaps(plain)], [swaps, beside_swaps])
            # Each exchange of two bits side by side changes one of the numbers by one more or one less.
            for bit in (0, 49, 98):
                more = then(turn, exchange(100, [(bit, bit + 1)]))
                self.assertEqual([abs(swap_count(more) - swaps), abs(neighbour_swaps(more) - beside_swaps)], [1, 1])


class KnownAnswersTest(unittest.TestCase):
    def test_no_item_moves(self):
        for bits in (1, 2, 64, 100):
            turn = identity(bits)
            for page_bits in (0, 1, bits // 2, bits):
                self.assertEqual([page_spread(turn, page_bits), page_pairs(turn, page_bits)],
                                 [1, 2 ** (bits - page_bits)])
                self.assertEqual([fewest_passes(turn, page_bits, memory) for memory in (page_bits, bits)], [0, 0])
                self.assertEqual([extra_passes(turn, page_bits, bits, [turn] * many) for many in (1, 2, 20)],
                                 [1, 2, 20])
            self.assertEqual([swap_count(turn), neighbour_swaps(turn)], [0, 0])

    def test_backwards(self):
        turn = backwards(100)
        for page_bits in (0, 1, 50, 99, 100):
            self.assertEqual([page_spread(turn, page_bits), page_pairs(turn, page_bits)], [1, 2 ** (100 - page_bits)])
            self.assertEqual([fewest_passes(turn, page_bits, memory) for memory in (page_bits, 100)], [1, 1])
            self.assertEqual(extra_passes(turn, page_bits, page_bits, [turn] * 3), 2)
            self.assertIsNone(extra_passes(turn, page_bits, page_bits, [turn] * 2))
        self.assertEqual([swap_count(turn), neighbour_swaps(turn)], [0, 0])

    def test_a_shuffle(self):
        turn = shuffled(100)
        for page_bits in (1, 2, 50, 99):
            self.assertEqual([page_spread(turn, page_bits), page_pairs(turn, page_bits)], [2, 2 ** (101 - page_bits)])
            self.assertEqual([fewest_passes(turn, page_bits, memory) for memory in (page_bits, page_bits + 1, 100)],
                             [None, 1, 1])
        self.assertEqual([page_spread(turn, 0), page_spread(turn, 100)], [1, 1])
        self.assertEqual([fewest_passes(turn, 0, 0), fewest_passes(turn, 100, 100)], [1, 1])
        self.assertEqual([swap_count(turn), neighbour_swaps(turn)], [99, 99])
        # Nine shuffles one behind the other bring nine bits up; one pass can do as much with the memory for it.
        self.assertEqual([extra_passes(power(turn, 9), 50, memory, [turn] * 9) for memory in (50, 51, 52, 59, 100)],
                         [None, 0, 4, 8, 8])

    def test_a_reversal(self):
        turn = reversal(100)
        for page_bits in range(101):
            climbs = min(page_bits, 100 - page_bits)
            self.assertEqual(page_spread(turn, page_bits), 2 ** climbs)
            for at_once in range(1, 101 - page_bits):
                fewest = max(1, (climbs + at_once - 1) // at_once)
                self.assertEqual(fewest_passes(turn, page_bits, page_bits + at_once), fewest)
        self.assertEqual([swap_count(turn), neighbour_swaps(turn)], [50, 4950])
        self.assertEqual([swap_count(reversal(99)), neighbour_swaps(reversal(99))], [49, 99 * 49])

    def test_a_reversal_pass_by_pass(self):
        pairs = [(bit, 99 - bit) for bit in range(50)]
        row = [exchange(100, pairs[start:start + 10]) for start in range(0, 50, 10)]
        turn = reversal(100)
        self.assertEqual([extra_passes(turn, 50, memory, row) for memory in (59, 60, 61, 65, 75, 100)],
                         [None, 0, 0, 1, 3, 4])
        self.assertEqual(extra_passes(turn, 50, 60, row[::-1]), 0)
        self.assertEqual(extra_passes(turn, 50, 60, row[1:] + [row[0], identity(100)]), 1)
        self.assertEqual(extra_passes(turn, 50, 60, row + [row[2], row[2]]), 2)
        for wrong in (row[1:], row + [row[0]], row + [backwards(100)], [turn], [turn] * 3, [identity(100)]):
            self.assertIsNone(extra_passes(turn, 50, 60, wrong))
        # In a row of turns that do the turn, one that is no pass is enough.
        middle = exchange(100, pairs[10:21])
        self.assertIsNone(extra_passes(turn, 50, 60, row + [middle, middle]))
        self.assertIsNone(extra_passes(turn, 50, 60, [middle, middle] + row))
        self.assertEqual(extra_passes(turn, 50, 61, row + [middle, middle]), 2)

    def test_a_transposed_matrix(self):
        for row_bits, column_bits in ((1, 99), (99, 1), (50, 50), (30, 70), (0, 100)):
            turn = transposed(row_bits, column_bits)
            for page_bits in range(0, 101, 5):
                climbs = min(row_bits, column_bits, page_bits, 100 - page_bits)
                self.assertEqual(page_spread(turn, page_bits), 2 ** climbs)
            self.assertEqual(neighbour_swaps(turn), row_bits * column_bits)
        self.assertEqual([swap_count(transposed(50, 50)), swap_count(transposed(30, 70))], [50, 90])

    def test_bits_beside(self):
        for low in some_turns(50, 4, 2):
            for high in some_turns(50, 4, 3):
                both = beside(low, high)
                for page_bits in (0, 7, 25, 50):
                    self.assertEqual(page_spread(both, page_bits), page_spread(low, page_bits))
                    self.assertEqual(page_spread(both, 50 + page_bits), page_spread(high, page_bits))
                self.assertEqual(swap_count(both), swap_count(low) + swap_count(high))
                self.assertEqual(neighbour_swaps(both), neighbour_swaps(low) + neighbour_swaps(high))

    def test_kinds_of_values(self):
        for turn in (Turn([0], 1), three(), odd(), tiles(), long_cycle(1), many_cycles(LAST)):
            answers = [page_spread(turn, 1), page_pairs(turn, 1), fewest_passes(turn, 1, turn.bits),
                       extra_passes(turn, 1, turn.bits, [turn]), swap_count(turn), neighbour_swaps(turn)]
            self.assertEqual([type(answer) for answer in answers], [int] * 6)


if __name__ == "__main__":
    unittest.main()
