"""What the functions of section 10 refuse, in which sequence, and what they leave as it is."""

import unittest

from indexturns.errors import InvalidBits, InvalidPlaces, InvalidSeen, InvalidTurn
from indexturns.makers import backwards
from indexturns.told import agrees, fewest_telling, first_contradiction, tells, told_targets, turn_count
from indexturns.turns import Turn, identity
from tests.helpers import NO_BITS, NO_INTEGERS, NO_TURNS, ErrorCase, odd, three

OF_SEEN = (turn_count, told_targets, first_contradiction)
NO_LISTS = [value for value in NO_INTEGERS if not isinstance(value, list)]
# Values that are no tuple of two places of an array of any size.
NO_PAIRS = NO_INTEGERS + [0, 7, (), (0,), (0, 0, 0), [0, 0], "00", {0: 0, 1: 1}, ((0, 0),), (0, (0,)), (0, -1),
                          (-1, 0), (None, 0), (0, None), (True, 0), (0, False), ("0", 0), (0, "0"), ([0], 0),
                          (0, [0]), (0, 2 ** 100), (2 ** 100, 0), (10 ** 100, 10 ** 100)]


class BitsTest(ErrorCase):
    def test_wrong_bits(self):
        for wrong in NO_BITS:
            self.assert_error(InvalidBits, fewest_telling, wrong)
            for seen in ([(0, 0)], [], None, [None]):
                for call in OF_SEEN:
                    self.assert_error(InvalidBits, call, wrong, seen)
            for places in ([0], [], None, [None]):
                self.assert_error(InvalidBits, tells, wrong, places)

    def test_wrong_turns(self):
        for wrong in NO_TURNS:
            for seen in ([(0, 0)], [], None, [None]):
                self.assert_error(InvalidTurn, agrees, wrong, seen)

    def test_the_ends_of_the_ranges(self):
        for bits in (1, 2, 3, 64, 99, 100):
            last = 2 ** bits - 1
            seen = [(0, last), (last, 0)]
            self.assertGreater(turn_count(bits, seen), 0)
            self.assertEqual(len(told_targets(bits, seen)), bits)
            self.assertIsNone(first_contradiction(bits, seen))
            self.assertTrue(agrees(backwards(bits), seen))
            self.assertEqual(tells(bits, [0, last]), bits == 1)
            self.assertIn(fewest_telling(bits), range(1, 9))


class SeenTest(ErrorCase):
    def assert_item(self, item, bits, seen):
        calls = [(call, bits) for call in OF_SEEN] + [(agrees, identity(bits)), (agrees, backwards(bits))]
        for call, first in calls:
            error = self.assert_error(InvalidSeen, call, first, seen)
            self.assertEqual(error.item, item, seen)
            self.assertIs(type(error.item), type(item))

    def test_no_lists(self):
        for wrong in NO_LISTS + [0, ((0, 0),), ((0, 0), (1, 1)), {0: 0}, {(0, 0): 1}, "(0, 0)"]:
            self.assert_item(None, 3, wrong)

    def test_numbers_of_items(self):
        for many in (0, 41, 42, 400):
            self.assert_item(None, 3, [(0, 0)] * many)
            self.assert_item(None, 3, [None] * many)
        for many in (1, 2, 39, 40):
            self.assertEqual(turn_count(3, [(0, 0)] * many), 6)
            self.assertTrue(agrees(three(), [(0, 0)] * many))

    def test_the_first_wrong_item(self):
        for wrong in NO_PAIRS:
            self.assert_item(0, 3, [wrong])
            self.assert_item(0, 3, [wrong, None])
            self.assert_item(1, 100, [(0, 0), wrong, (0, 0)])
            self.assert_item(39, 1, [(0, 0)] * 39 + [wrong])

    def test_places_of_longer_arrays(self):
        for bits in (1, 2, 3, 64, 100):
            last = 2 ** bits - 1
            for wrong in ((last + 1, 0), (0, last + 1), (last + 1, last + 1), (-1, last), (last, -1)):
                self.assert_item(1, bits, [(last, last), wrong, wrong])

    def test_contradictions_are_no_errors(self):
        seen = [(0, 0), (0, 1), (1, 1), (1, 1)]
        self.assertEqual([turn_count(3, seen), told_targets(3, seen), first_contradiction(3, seen)], [0, None, 1])
        self.assertFalse(agrees(three(), seen))


class PlacesTest(ErrorCase):
    def assert_item(self, item, bits, places):
        error = self.assert_error(InvalidPlaces, tells, bits, places)
        self.assertEqual(error.item, item, places)
        self.assertIs(type(error.item), type(item))

    def test_no_lists(self):
        for wrong in NO_LISTS + [0, 7, (0,), (0, 1), {0: 0}, {0}, "0", range(3)]:
            self.assert_item(None, 3, wrong)

    def test_numbers_of_places(self):
        for many in (0, 41, 42, 400):
            self.assert_item(None, 3, [0] * many)
            self.assert_item(None, 3, [None] * many)
        for many in (3, 20, 21, 39, 40):
            self.assertTrue(tells(3, [0, 2, 4] + [0] * (many - 3)))
            self.assertFalse(tells(3, [0] * many))

    def test_the_first_wrong_place(self):
        for wrong in NO_INTEGERS + [-1, -2, 2 ** 100, 10 ** 100, -10 ** 100]:
            self.assert_item(0, 3, [wrong])
            self.assert_item(0, 100, [wrong, None])
            self.assert_item(1, 1, [0, wrong, 0])
            self.assert_item(39, 64, [0] * 39 + [wrong])
        for bits in (1, 2, 3, 64, 100):
            self.assert_item(1, bits, [2 ** bits - 1, 2 ** bits, -1])


class StayTest(ErrorCase):
    def test_the_arguments_stay(self):
        seen, places, turn = [(0, 1), (1, 3), (2, 0)], [0, 2], odd()
        for _ in range(2):
            self.assertEqual([agrees(turn, seen), turn_count(2, seen), first_contradiction(2, seen)], [True, 1, None])
            self.assertEqual([told_targets(2, seen), tells(2, places)], [[1, 0], True])
        self.assertEqual([seen, places], [[(0, 1), (1, 3), (2, 0)], [0, 2]])
        self.assert_turn(turn, [1, 0], 1)

    def test_new_lists(self):
        seen = [(0, 0), (1, 2)]
        first = told_targets(3, seen)
        self.assertIsNot(told_targets(3, seen), first)
        first[0] = 9
        self.assertEqual(told_targets(3, seen), [1, None, None])

    def test_kinds_of_turns_that_are_seen(self):
        self.assertTrue(agrees(Turn([0], 1), [(1, 0)]))


if __name__ == "__main__":
    unittest.main()
