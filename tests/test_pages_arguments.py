"""What the functions of section 9 refuse, in which sequence, and what they leave as it is."""

import unittest

from indexturns.errors import InvalidPages, InvalidTurn, InvalidTurns
from indexturns.makers import backwards, reversal
from indexturns.pages import extra_passes, fewest_passes, neighbour_swaps, page_pairs, page_spread, swap_count
from indexturns.turns import Turn, identity
from tests.helpers import LAST, NO_INTEGERS, NO_TURNS, ErrorCase, long_cycle, odd, three, tiles

WRONG_PAGES = NO_INTEGERS + [-1, -2, -100, 10 ** 100, -10 ** 100]
TURNS = [Turn([0], 1), odd(), three(), tiles(), backwards(64), long_cycle(LAST), identity(100)]
NO_LISTS = [value for value in NO_TURNS if not isinstance(value, list)]


class TurnsTest(ErrorCase):
    def test_wrong_turns(self):
        for wrong in NO_TURNS:
            self.assert_error(InvalidTurn, swap_count, wrong)
            self.assert_error(InvalidTurn, neighbour_swaps, wrong)
            for page_bits in (0, 1, -1, None):
                self.assert_error(InvalidTurn, page_spread, wrong, page_bits)
                self.assert_error(InvalidTurn, page_pairs, wrong, page_bits)
                for memory_bits in (1, -1, None):
                    self.assert_error(InvalidTurn, fewest_passes, wrong, page_bits, memory_bits)
                    self.assert_error(InvalidTurn, extra_passes, wrong, page_bits, memory_bits, [three()])
                    self.assert_error(InvalidTurn, extra_passes, wrong, page_bits, memory_bits, [])


class PagesTest(ErrorCase):
    def test_wrong_page_bits(self):
        for turn in TURNS:
            for wrong in WRONG_PAGES + [turn.bits + 1, turn.bits + 2]:
                self.assert_error(InvalidPages, page_spread, turn, wrong)
                self.assert_error(InvalidPages, page_pairs, turn, wrong)
                for memory_bits in (turn.bits, 0, None, turn.bits + 1):
                    self.assert_error(InvalidPages, fewest_passes, turn, wrong, memory_bits)
                    self.assert_error(InvalidPages, extra_passes, turn, wrong, memory_bits, [turn])
                    self.assert_error(InvalidPages, extra_passes, turn, wrong, memory_bits, None)

    def test_wrong_memory_bits(self):
        for turn in TURNS:
            for page_bits in (0, 1, turn.bits):
                for wrong in WRONG_PAGES + [turn.bits + 1, turn.bits + 2, page_bits - 1]:
                    self.assert_error(InvalidPages, fewest_passes, turn, page_bits, wrong)
                    self.assert_error(InvalidPages, extra_passes, turn, page_bits, wrong, [turn])
                    self.assert_error(InvalidPages, extra_passes, turn, page_bits, wrong, [None])

    def test_the_turn_that_leaves_all_needs_right_numbers_too(self):
        self.assert_error(InvalidPages, fewest_passes, identity(3), 4, 3)
        self.assert_error(InvalidPages, fewest_passes, identity(3), 2, 1)
        self.assert_error(InvalidPages, fewest_passes, identity(3), 2, 4)

    def test_the_ends_of_the_ranges(self):
        for turn in TURNS:
            for page_bits in (0, turn.bits):
                self.assertEqual(page_spread(turn, page_bits), 1)
                self.assertEqual(page_pairs(turn, page_bits), 2 ** (turn.bits - page_bits))
                for memory_bits in (page_bits, turn.bits):
                    fewest = 0 if turn == identity(turn.bits) else 1
                    self.assertEqual(fewest_passes(turn, page_bits, memory_bits), fewest)
                    self.assertEqual(extra_passes(turn, page_bits, memory_bits, [turn]), 1 - fewest)


class RowsTest(ErrorCase):
    def assert_item(self, item, turn, turns):
        error = self.assert_error(InvalidTurns, extra_passes, turn, 0, turn.bits, turns)
        self.assertEqual(error.item, item, turns)
        self.assertIs(type(error.item), type(item))

    def test_no_lists(self):
        for wrong in NO_LISTS + [(three(),), (three(), three()), {0: three()}, three(), "three"]:
            self.assert_item(None, three(), wrong)

    def test_numbers_of_items(self):
        for many in (0, 21, 22, 400):
            self.assert_item(None, three(), [three()] * many)
            self.assert_item(None, three(), [None] * many)
        for many in (1, 2, 19, 20):
            self.assertEqual(extra_passes(identity(3), 0, 3, [identity(3)] * many), many)

    def test_the_first_wrong_item(self):
        turn = three()
        for wrong in NO_TURNS:
            self.assert_item(0, turn, [wrong])
            self.assert_item(0, turn, [wrong, wrong])
            self.assert_item(1, turn, [turn, wrong, turn])
            self.assert_item(19, turn, [turn] * 19 + [wrong])

    def test_turns_of_other_bits(self):
        for turn in TURNS:
            for other in [Turn([0], 0), odd(), three(), tiles(), backwards(99), reversal(63)]:
                if other.bits != turn.bits:
                    self.assert_item(0, turn, [other])
                    self.assert_item(2, turn, [turn, turn, other, None])

    def test_numbers_are_checked_ahead_of_the_row(self):
        for wrong in NO_LISTS + [[], [None], [odd()]]:
            self.assert_error(InvalidPages, extra_passes, three(), 4, 3, wrong)
            self.assert_error(InvalidPages, extra_passes, three(), 1, 0, wrong)
            self.assert_error(InvalidTurn, extra_passes, None, 1, 0, wrong)

    def test_wrong_rows_where_no_passes_do_the_turn(self):
        self.assertIsNone(fewest_passes(three(), 1, 1))
        self.assertIsNone(extra_passes(three(), 1, 1, [three()]))
        error = self.assert_error(InvalidTurns, extra_passes, three(), 1, 1, [three(), 0])
        self.assertEqual(error.item, 1)

    def test_the_arguments_stay(self):
        turn, row = Turn([1, 2, 0], 5), [three(), Turn([0, 1, 2], 5)]
        kept = list(row)
        for _ in range(2):
            self.assertEqual(extra_passes(turn, 1, 2, row), 1)
            self.assertEqual([page_spread(turn, 1), page_pairs(turn, 1), fewest_passes(turn, 1, 2)], [2, 8, 1])
            self.assertEqual([swap_count(turn), neighbour_swaps(turn)], [2, 2])
        self.assertEqual(len(row), 2)
        self.assertTrue(all(one is other for one, other in zip(row, kept)))
        self.assert_turn(turn, [1, 2, 0], 5)
        self.assert_turn(row[0], [1, 2, 0], 0)
        self.assert_turn(row[1], [0, 1, 2], 5)


if __name__ == "__main__":
    unittest.main()
