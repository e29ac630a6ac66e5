"""Point [14] and section 10: which turns agree with where some items were seen to go."""

import itertools
import random
import unittest

from indexturns import told
from indexturns.makers import backwards, reversal, shuffled
from indexturns.told import agrees, fewest_telling, first_contradiction, tells, told_targets, turn_count
from indexturns.turns import Turn, identity
from tests.helpers import LAST, all_turns, long_cycle, many_cycles, some_turns, three, turns_of_a_hundred_bits


def seen_by(turn, places):
    return [(place, turn.goes_to(place)) for place in places]


def lists_of_seen(bits, many, seed):
    """Lists of seen items of arrays of few bits: of turns, of turns but for one item, and of no pattern."""
    chance = random.Random(seed)
    found = []
    for _ in range(many):
        turn = some_turns(bits, 1, chance.randrange(10 ** 6))[0]
        places = [chance.randrange(2 ** bits) for _ in range(chance.randrange(1, 6))]
        seen = seen_by(turn, places)
        found.append(seen)
        wrong = list(seen)
        wrong[chance.randrange(len(seen))] = (chance.choice(places), chance.randrange(2 ** bits))
        found.append(wrong)
        found.append([(place, chance.randrange(2 ** bits)) for place in places])
    return found


def agreeing(turns, seen):
    """The turns that bring each seen item to its new place, found by trying all of them."""
    return [turn for turn in turns if all(turn.goes_to(place) == new_place for place, new_place in seen)]


def targets_of_all(bits, turns):
    """For each bit its target if all of the turns have the same one."""
    if not turns:
        return None
    found = [{turn.targets[bit] for turn in turns} for bit in range(bits)]
    return [min(targets) if len(targets) == 1 else None for targets in found]


def first_without(turns, seen):
    for item in range(len(seen)):
        if not agreeing(turns, seen[:item + 1]):
            return item
    return None


def is_told(turns, places):
    """Whether no two turns bring the items of these places to the same new places."""
    return len({tuple(turn.goes_to(place) for place in places) for turn in turns}) == len(turns)


def telling_places(bits):
    """As few places as tell a turn: 0, and for each digit of the numbers of the bits the bits that have a 1 there."""
    return [0] + [sum(2 ** bit for bit in range(bits) if bit >> digit & 1) for digit in range((bits - 1).bit_length())]


class WhereTest(unittest.TestCase):
    def test_defined_here(self):
        for call in (agrees, turn_count, told_targets, first_contradiction, tells, fewest_telling):
            self.assertEqual(call.__module__, "indexturns.told")
            self.assertIs(getattr(told, call.__name__), call)


class FewBitsTest(unittest.TestCase):
    def test_against_all_turns(self):
        for bits, many in ((1, 20), (2, 40), (3, 60), (4, 25)):
            turns = all_turns(bits)
            for seen in lists_of_seen(bits, many, bits):
                found = agreeing(turns, seen)
                self.assertEqual(turn_count(bits, seen), len(found), seen)
                self.assertEqual(told_targets(bits, seen), targets_of_all(bits, found), seen)
                self.assertEqual(first_contradiction(bits, seen), first_without(turns, seen), seen)
                self.assertEqual([agrees(turn, seen) for turn in turns], [turn in found for turn in turns], seen)

    def test_all_short_lists(self):
        for bits in (1, 2):
            turns = all_turns(bits)
            pairs = list(itertools.product(range(2 ** bits), repeat=2))
            for many in (1, 2):
                for seen in itertools.product(pairs, repeat=many):
                    found = agreeing(turns, seen)
                    self.assertEqual(turn_count(bits, list(seen)), len(found))
                    self.assertEqual(told_targets(bits, list(seen)), targets_of_all(bits, found))
                    self.assertEqual(first_contradiction(bits, list(seen)), first_without(turns, seen))

    def test_the_lists_have_all_kinds_of_answers(self):
        counts = {turn_count(3, seen) for seen in lists_of_seen(3, 60, 3)}
        self.assertLessEqual({0, 1, 2, 6}, counts)
        contradictions = {first_contradiction(3, seen) for seen in lists_of_seen(3, 60, 3)}
        self.assertLessEqual({None, 1, 2, 3, 4}, contradictions)

    def test_tells(self):
        for bits, most in ((1, 3), (2, 3), (3, 3), (4, 2)):
            turns = all_turns(bits)
            for many in range(1, most + 1):
                for places in itertools.product(range(2 ** bits), repeat=many):
                    self.assertEqual(tells(bits, list(places)), is_told(turns, places), places)

    def test_tells_with_three_of_four_bits(self):
        turns = all_turns(4)
        for places in itertools.combinations(range(16), 3):
            self.assertEqual(tells(4, list(places)), is_told(turns, places), places)

    def test_fewest_telling(self):
        for bits in (1, 2, 3, 4, 5):
            many = 1
            while not any(tells(bits, list(places)) for places in itertools.combinations(range(2 ** bits), many)):
                many += 1
            self.assertEqual(fewest_telling(bits), many)

    def test_fewest_telling_against_all_turns(self):
        for bits in (1, 2, 3, 4):
            turns = all_turns(bits)
            fewest = fewest_telling(bits)
            self.assertTrue(any(is_told(turns, places) for places in itertools.combinations(range(2 ** bits), fewest)))
            self.assertFalse(fewest > 1 and any(
                is_told(turns, places) for places in itertools.combinations(range(2 ** bits), fewest - 1)))


class HundredBitsTest(unittest.TestCase):
    def places(self, many, seed, bits=100):
        chance = random.Random(seed)
        return [chance.randrange(2 ** bits) for _ in range(many)]

    def test_the_turn_that_was_seen_agrees(self):
        for seed, turn in enumerate(turns_of_a_hundred_bits()):
            for many in (1, 2, 7, 40):
                seen = seen_by(turn, self.places(many, seed))
                self.assertTrue(agrees(turn, seen))
                self.assertGreater(turn_count(100, seen), 0)
                self.assertIsNone(first_contradiction(100, seen))
                for target, one in zip(turn.targets, told_targets(100, seen)):
                    self.assertIn(one, (target, None))

    def test_other_flips_never_agree(self):
        for seed, turn in enumerate(turns_of_a_hundred_bits()):
            seen = seen_by(turn, self.places(1 + seed % 40, seed))
            for bit in (0, 1, 63, 99):
                self.assertFalse(agrees(Turn(turn.targets, turn.flips ^ 2 ** bit), seen))

    def test_two_exchanged_targets_agree_only_if_the_items_do_not_tell(self):
        chance = random.Random(1)
        answers = set()
        for seed, turn in enumerate(turns_of_a_hundred_bits()):
            for many in (1, 2, 3, 8, 40):
                seen = seen_by(turn, self.places(many, seed))
                one, other = chance.sample(range(100), 2)
                targets = turn.targets
                targets[one], targets[other] = targets[other], targets[one]
                exchanged = Turn(targets, turn.flips)
                told_here = all(exchanged.goes_to(place) == new_place for place, new_place in seen)
                self.assertEqual(agrees(exchanged, seen), told_here)
                answers.add(told_here)
                if told_here:
                    self.assertGreater(turn_count(100, seen), 1)
                    self.assertEqual([told_targets(100, seen)[bit] for bit in (one, other)], [None, None])
        self.assertEqual(answers, {True, False})

    def test_telling_places_leave_one_turn(self):
        places = telling_places(100)
        self.assertEqual(len(places), 8)
        self.assertTrue(tells(100, places))
        for turn in turns_of_a_hundred_bits():
            for few in (places, places[::-1], places + [LAST, LAST]):
                seen = seen_by(turn, few)
                self.assertEqual(turn_count(100, seen), 1)
                self.assertEqual(told_targets(100, seen), turn.targets)
        for item in range(8):
            self.assertFalse(tells(100, places[:item] + places[item + 1:]))

    def test_all_items_flipped_tell_as_much(self):
        places = telling_places(100)
        self.assertTrue(tells(100, [LAST - place for place in places]))
        self.assertTrue(tells(100, [place ^ 10 ** 30 for place in places]))

    def test_numbers_of_places_that_tell(self):
        for bits in range(1, 101):
            places = telling_places(bits)
            self.assertEqual(fewest_telling(bits), len(places))
            self.assertTrue(tells(bits, places))
            self.assertFalse(tells(bits, [0] + places[2:]) and bits > 1)
        self.assertTrue(tells(100, self.places(40, 1)))
        self.assertFalse(any(tells(100, self.places(7, seed)) for seed in range(30)))

    def test_first_contradiction(self):
        chance = random.Random(5)
        found = set()
        for seed, turn in enumerate(turns_of_a_hundred_bits()):
            seen = seen_by(turn, self.places(40, seed))
            for item in (1, 2, 5, 39, chance.randrange(1, 40)):
                wrong = list(seen)
                place, new_place = wrong[item]
                wrong[item] = (place, new_place ^ 2 ** chance.randrange(100))
                first = first_contradiction(100, wrong)
                found.add(first)
                self.assertGreater(turn_count(100, wrong[:first]), 0)
                self.assertEqual(turn_count(100, wrong[:first + 1]), 0)
                self.assertEqual([turn_count(100, wrong), told_targets(100, wrong)], [0, None])
                self.assertGreaterEqual(first, item)
        self.assertLessEqual({1, 2, 5, 39}, found)

    def test_a_contradiction_behind_others(self):
        # What the items up to the seventh tell all agree with is one turn; the next one is then right or wrong.
        seen = seen_by(long_cycle(5), telling_places(100) + [LAST, 1, 2])
        for item in (8, 9, 10):
            wrong = list(seen)
            wrong[item] = (wrong[item][0], wrong[item][1] ^ 2 ** 50)
            self.assertEqual(first_contradiction(100, wrong), item)
            wrong[10] = (2, 3)
            self.assertEqual(first_contradiction(100, wrong), min(item, 10))


class KnownAnswersTest(unittest.TestCase):
    def test_one_item_tells_only_the_flips(self):
        product = 1
        for bits in range(1, 101):
            product *= bits
            for seen in ([(0, 0)], [(0, 2 ** bits - 1)], [(2 ** bits - 1, 0)]):
                self.assertEqual(turn_count(bits, seen), product)
                self.assertEqual(told_targets(bits, seen), [0] if bits == 1 else [None] * bits)
                self.assertIsNone(first_contradiction(bits, seen))

    def test_one_item_again_and_again(self):
        for many in (2, 20, 40):
            self.assertEqual(turn_count(3, [(5, 2)] * many), 6)
            self.assertEqual(first_contradiction(3, [(5, 2)] * (many - 1) + [(5, 3)]), many - 1)
            self.assertEqual(first_contradiction(3, [(5, 2)] * (many - 1) + [(4, 2)]), many - 1)

    def test_one_bit(self):
        self.assertEqual([turn_count(1, [(0, 0)]), turn_count(1, [(0, 0), (1, 1)]), turn_count(1, [(0, 1), (1, 1)])],
                         [1, 1, 0])
        self.assertEqual([tells(1, [0]), tells(1, [1]), tells(1, [1] * 40), fewest_telling(1)], [True] * 3 + [1])

    def test_items_that_tell_single_bits(self):
        # Each power of two tells one target more; when all but one are told, the last one is, too.
        turn = reversal(100)
        for many in (1, 2, 38, 39):
            seen = seen_by(turn, [0] + [2 ** bit for bit in range(many)])
            left = 1
            for number in range(2, 101 - many):
                left *= number
            self.assertEqual(turn_count(100, seen), left)
            self.assertEqual(told_targets(100, seen), turn.targets[:many] + [None] * (100 - many))
        seen = seen_by(reversal(5), [0, 1, 2, 4, 8])
        self.assertEqual([turn_count(5, seen), told_targets(5, seen)], [1, [4, 3, 2, 1, 0]])

    def test_two_items_tell_how_many_bits_differ(self):
        # 40 bits differ in the old and in the new places.
        seen = [(0, 0), (2 ** 40 - 1, LAST - (2 ** 60 - 1))]
        product = 1
        for number in list(range(1, 41)) + list(range(1, 61)):
            product *= number
        self.assertEqual(turn_count(100, seen), product)
        self.assertEqual(told_targets(100, seen), [None] * 100)
        self.assertEqual(turn_count(100, [(0, 0), (2 ** 40 - 1, 2 ** 41 - 1)]), 0)

    def test_known_turns(self):
        for turn in (identity(100), backwards(100), shuffled(100), reversal(100), many_cycles(LAST)):
            seen = seen_by(turn, telling_places(100))
            others = [other for other in (identity(100), backwards(100), shuffled(100), reversal(100))
                      if other != turn]
            self.assertEqual([agrees(other, seen) for other in others], [False] * len(others))
            self.assertTrue(agrees(turn, seen))

    def test_kinds_of_values(self):
        for seen in ([(0, 0)], [(0, 0), (1, 2)], [(0, 0), (1, 3)]):
            self.assertIs(type(agrees(three(), seen)), bool)
            self.assertIs(type(turn_count(3, seen)), int)
            self.assertIs(type(first_contradiction(3, seen)), type(None) if seen[-1][1] < 3 else int)
        self.assertIs(type(told_targets(3, [(0, 0), (1, 2)])), list)
        self.assertIs(type(tells(3, [0])), bool)
        self.assertIs(type(fewest_telling(3)), int)


if __name__ == "__main__":
    unittest.main()
