"""Points [2] to [7] and section 2: the class Turn."""

import itertools
import unittest

from indexturns.errors import InvalidFlips, InvalidPlace, InvalidTargets
from indexturns.turns import Turn
from tests.helpers import LAST, NO_INTEGERS, ErrorCase, all_places, new_place, odd, some_turns, three, tiles

FULL = list(range(100))


class AttributesTest(ErrorCase):
    def test_what_was_passed(self):
        for targets, flips in (([0], 0), ([0], 1), ([1, 0], 1), ([2, 0, 1], 7), (FULL, 0), (FULL[::-1], LAST)):
            self.assert_turn(Turn(targets, flips), targets, flips)

    def test_kinds_of_values(self):
        turn = odd()
        self.assertEqual([type(turn.bits), type(turn.targets), type(turn.flips)], [int, list, int])

    def test_a_change_of_the_passed_list_changes_no_turn(self):
        targets = [1, 2, 0]
        turn = Turn(targets, 5)
        self.assertEqual(targets, [1, 2, 0])
        targets[0] = 2
        targets.append(7)
        self.assert_turn(turn, [1, 2, 0], 5)
        self.assertEqual(all_places(turn), [new_place([1, 2, 0], 5, place) for place in range(8)])

    def test_a_change_of_a_returned_list_changes_no_turn(self):
        turn = three()
        self.assertIsNot(turn.targets, turn.targets)
        turn.targets.append(3)
        turn.targets[0] = 0
        self.assert_turn(turn, [1, 2, 0], 0)
        self.assertEqual(turn.goes_to(1), 2)

    def test_attributes_are_properties_of_the_class(self):
        for name in ("bits", "targets", "flips"):
            self.assertIsInstance(vars(Turn)[name], property)
            with self.assertRaises(AttributeError):
                setattr(three(), name, 1)
        self.assertIn("goes_to", vars(Turn))
        self.assertIn("__eq__", vars(Turn))
        self.assertEqual(Turn.__module__, "indexturns.turns")


class TargetsTest(ErrorCase):
    def assert_targets(self, item, targets, flips=0):
        self.assertEqual(self.assert_error(InvalidTargets, Turn, targets, flips).item, item)

    def test_no_list_of_1_to_100_items(self):
        for targets in [None, True, False, 0, 1, "0", "10", b"0", (), (0,), (1, 0), {}, {0: 0}, {0}, range(2), three(),
                        [], list(range(101)), [0] * 400]:
            self.assert_targets(None, targets)

    def test_a_wrong_item_alone(self):
        for wrong in NO_INTEGERS + [-1, 1, 2, 100, 10 ** 100, -10 ** 100]:
            self.assert_targets(0, [wrong])

    def test_a_wrong_item_among_others(self):
        for wrong in NO_INTEGERS + [-1, 4, 10 ** 100, -10 ** 100]:
            for item in range(4):
                targets = [3, 0, 2, 1]
                targets[item] = wrong
                self.assert_targets(item, targets)

    def test_an_item_that_comes_again(self):
        for item, targets in ((1, [0, 0]), (2, [0, 2, 2]), (2, [1, 0, 1]), (3, [3, 1, 0, 3]), (99, FULL[:99] + [0])):
            self.assert_targets(item, targets)

    def test_the_first_wrong_item(self):
        for item, targets in ((1, [1, 1, 9]), (0, [9, 1, 1]), (1, [1, None, 1]), (0, [[], {}]), (2, [0, 1, "2", 0]),
                              (1, [0, False]), (1, [1, True])):
            self.assert_targets(item, targets)

    def test_the_ends_of_the_range(self):
        self.assert_targets(99, FULL[:99] + [100])
        self.assert_targets(0, [-1] + FULL[1:])
        self.assert_turn(Turn(FULL[::-1], 0), FULL[::-1], 0)

    def test_targets_go_before_flips(self):
        for flips in (None, -1, "0", 10 ** 100):
            self.assert_targets(None, (0,), flips)
            self.assert_targets(1, [0, 5], flips)

    def test_what_is_passed_stays(self):
        for targets in ([0, [1], 2], [2, 2, 2], [1, 0, {}], [0, 1, 2]):
            kept = list(targets)
            self.assert_error(InvalidTargets if targets != [0, 1, 2] else InvalidFlips, Turn, targets, 8)
            self.assertEqual(targets, kept)


class FlipsTest(ErrorCase):
    def test_no_integer(self):
        for flips in NO_INTEGERS:
            self.assert_error(InvalidFlips, Turn, [1, 0], flips)

    def test_beside_the_range(self):
        for bits in (1, 2, 3, 63, 64, 65, 100):
            targets = list(range(bits))
            for flips in (-1, 2 ** bits, 2 ** bits + 1, -2 ** bits, 10 ** 100, -10 ** 100):
                self.assert_error(InvalidFlips, Turn, targets, flips)
            for flips in (0, 2 ** bits - 1):
                self.assert_turn(Turn(targets, flips), targets, flips)


class GoesToTest(ErrorCase):
    def test_all_places_of_few_bits(self):
        for bits in (1, 2, 3):
            for targets in itertools.permutations(range(bits)):
                for flips in range(2 ** bits):
                    turn = Turn(list(targets), flips)
                    told = [new_place(targets, flips, place) for place in range(2 ** bits)]
                    self.assertEqual(all_places(turn), told)
                    self.assertEqual(sorted(told), list(range(2 ** bits)))

    def test_all_places_of_some_bits(self):
        for bits in (4, 5, 7):
            for turn in some_turns(bits, 10):
                told = [new_place(turn.targets, turn.flips, place) for place in range(2 ** bits)]
                self.assertEqual(all_places(turn), told)

    def test_the_turns_of_the_document(self):
        self.assertEqual(all_places(three()), [0, 2, 4, 6, 1, 3, 5, 7])
        self.assertEqual(all_places(odd()), [1, 3, 0, 2])
        self.assertEqual(all_places(tiles()), [0, 1, 4, 5, 2, 3, 6, 7, 8, 9, 12, 13, 10, 11, 14, 15])

    def test_a_hundred_bits(self):
        up = Turn(FULL[1:] + [0], 0)
        self.assertEqual([up.goes_to(place) for place in (0, 1, 2 ** 99, LAST)], [0, 2, 1, LAST])
        end_for_end = Turn(FULL, LAST)
        for place in (0, 1, 2 ** 64, 10 ** 30, LAST):
            self.assertEqual(end_for_end.goes_to(place), LAST - place)
        for turn in some_turns(100, 5) + [Turn(FULL[::-1], LAST), Turn(FULL[::-1], 2 ** 99)]:
            for place in (0, 1, 2, 2 ** 63, 2 ** 64 + 1, 10 ** 30, 2 ** 99, LAST - 1, LAST):
                self.assertEqual(turn.goes_to(place), new_place(turn.targets, turn.flips, place))

    def test_no_place(self):
        for turn in (three(), odd(), Turn([0], 1), Turn(FULL, LAST)):
            for place in NO_INTEGERS + [-1, 2 ** turn.bits, -2 ** turn.bits, 10 ** 100, -10 ** 100]:
                self.assert_error(InvalidPlace, turn.goes_to, place)


class EqualTest(unittest.TestCase):
    def assert_equality(self, one, other, equal):
        for result in (one == other, other == one):
            self.assertIs(result, equal, (one, other))
        for result in (one != other, other != one):
            self.assertIs(result, not equal, (one, other))

    def test_turns(self):
        turns = [Turn(list(targets), flips) for bits in (1, 2, 3)
                 for targets in itertools.permutations(range(bits)) for flips in range(2 ** bits)]
        for turn in turns:
            for other in turns:
                same = (turn.targets, turn.flips) == (other.targets, other.flips)
                self.assert_equality(turn, other, same)
            self.assert_equality(turn, Turn(turn.targets, turn.flips), True)

    def test_a_hundred_bits(self):
        self.assert_equality(Turn(FULL, LAST), Turn(list(FULL), 2 ** 100 - 1), True)
        self.assert_equality(Turn(FULL, LAST), Turn(FULL, LAST - 1), False)
        self.assert_equality(Turn(FULL, 0), Turn(FULL[:98] + [99, 98], 0), False)
        self.assert_equality(Turn(FULL, 0), Turn(FULL[:99], 0), False)

    def test_any_other_value(self):
        turn = Turn([0], 0)
        others = [None, True, False, 0, 1, 10 ** 100, "", "0; 0", b"0", [], [0], [[0], 0], (), ([0], 0), {}, {0: 0},
                  {0}, Turn, ValueError("0")]
        for other in others:
            self.assert_equality(turn, other, False)


if __name__ == "__main__":
    unittest.main()
