"""The examples of the document, as they stand there.

>>> from indexturns.turns import Turn
>>> three, odd, tiles = Turn([1, 2, 0], 0), Turn([1, 0], 1), Turn([0, 2, 1, 3], 0)
>>> [[three.goes_to(place) for place in range(8)], [odd.goes_to(place) for place in range(4)], tiles.goes_to(6)]
[[0, 2, 4, 6, 1, 3, 5, 7], [1, 3, 0, 2], 6]

>>> from indexturns.turns import identity, inverse, power, then
>>> [inverse(odd).targets, inverse(odd).flips, power(odd, 2).targets, power(odd, 2).flips, power(three, 10 ** 30 - 1) == identity(3), power(three, -1) == inverse(three)]
[[1, 0], 2, [0, 1], 3, True, True]
>>> [then(three, Turn([0, 1, 2], 1)).targets, then(three, Turn([0, 1, 2], 1)).flips, then(Turn([0, 1, 2], 1), three).flips]
[[1, 2, 0], 1, 2]

>>> from indexturns.makers import backwards, beside, converted, reversal, shuffled, transposed
>>> [reversal(4).targets, shuffled(3) == three, backwards(3).flips, transposed(1, 2) == three, transposed(2, 1).targets, converted("yyxx", "yxyx") == tiles]
[[3, 2, 1, 0], True, 7, True, [2, 0, 1], True]
>>> [beside(odd, three).targets, beside(odd, three).flips, beside(three, odd).flips, beside(odd, three).goes_to(5)]
[[1, 0, 3, 4, 2], 1, 8, 11]

>>> from indexturns.cycles import bit_cycles, cycle_count, cycle_counts, items_with, left_by, order
>>> [bit_cycles(three), bit_cycles(odd), bit_cycles(tiles), order(three), order(odd), order(tiles)]
[[([0, 1, 2], False)], [([0, 1], True)], [([0], False), ([1, 2], False), ([3], False)], 3, 4, 2]
>>> [[left_by(three, number) for number in (0, 1, 2, 3)], [left_by(odd, number) for number in (1, 2, 4)], items_with(three, 3), items_with(three, 2), cycle_counts(three), cycle_counts(odd), cycle_count(tiles)]
[[8, 2, 2, 8], [0, 0, 4], 6, 0, [(1, 2), (3, 2)], [(4, 1)], 12]

>>> from indexturns.when import after, all_home, period, turns_to
>>> [period(three, 7), period(three, 5), period(odd, 0), after(three, 1, 10 ** 30), after(three, 1, -1), turns_to(three, 1, 4), turns_to(three, 1, 3), turns_to(odd, 0, 2), all_home(three, [0, 1])]
[1, 3, 4, 2, 4, 2, None, 3, 3]

>>> from indexturns.sequence import inversions, passed, unlike_pairs
>>> [inversions(three), [passed(three, place) for place in range(8)], inversions(odd), passed(odd, 2), unlike_pairs(three, identity(3)), unlike_pairs(three, three), inversions(backwards(3))]
[6, [0, 0, 0, 0, 3, 2, 1, 0], 3, 2, 6, 0, 28]

>>> from indexturns.ways import greatest_way, least_way, rise_counts, square_sum
>>> [greatest_way(three), least_way(three), square_sum(three), rise_counts(three), greatest_way(odd), least_way(odd), square_sum(odd), rise_counts(odd)]
[(3, 3), (-3, 4), 28, (3, 2, 3), (2, 1), (-2, 2), 10, (2, 0, 2)]

>>> from indexturns.stretches import block_bits, longest_stretch, stretch_count, stretch_lengths, stretch_of
>>> [stretch_count(tiles), stretch_lengths(tiles), longest_stretch(tiles), stretch_of(tiles, 8), stretch_of(tiles, 2), block_bits(tiles), stretch_count(three), block_bits(three)]
[7, [(2, 6), (4, 1)], (4, 6), (6, 9), (2, 3), [0, 1, 3, 4], 8, [0, 3]]
>>> [stretch_lengths(Turn([1, 0], 3)), stretch_of(Turn([1, 0], 3), 2), stretch_lengths(identity(100)) == [(2 ** 64 * 2 ** 36, 1)]]
[[(1, 2), (2, 1)], (1, 2), True]

>>> from indexturns.pages import extra_passes, fewest_passes, neighbour_swaps, page_pairs, page_spread, swap_count
>>> [page_spread(tiles, 2), page_pairs(tiles, 2), page_spread(tiles, 3), [fewest_passes(reversal(4), 2, memory) for memory in (2, 3, 4)], fewest_passes(identity(4), 2, 2), fewest_passes(backwards(4), 2, 2)]
[2, 8, 1, [None, 2, 1], 0, 1]
>>> [extra_passes(three, 1, 2, [three]), extra_passes(three, 1, 2, [three, three]), extra_passes(three, 1, 2, [three, three, three, three]), [swap_count(reversal(4)), neighbour_swaps(reversal(4)), swap_count(three), neighbour_swaps(odd)]]
[0, None, 3, [2, 6, 2, 1]]

>>> from indexturns.told import agrees, fewest_telling, first_contradiction, tells, told_targets, turn_count
>>> [agrees(three, [(1, 2), (7, 7)]), turn_count(3, [(0, 0)]), turn_count(3, [(0, 0), (1, 2)]), told_targets(3, [(0, 0), (1, 2)]), turn_count(3, [(0, 0), (1, 3)]), first_contradiction(3, [(0, 0), (1, 3)])]
[True, 6, 2, [1, None, None], 0, 1]
>>> [tells(3, [0, 2, 4]), tells(3, [0, 1]), [fewest_telling(bits) for bits in (1, 2, 3, 4, 5, 100)], told_targets(3, [(0, 0), (1, 3)])]
[True, False, [1, 2, 3, 3, 4, 8], None]

>>> from indexturns.texts import read_turn, show_turn
>>> [show_turn(three), show_turn(odd), read_turn("0 2 1 3; 0") == tiles]
['1 2 0; 0', '1 0; 1', True]
>>> read_turn("1 2 x; 0")
raises InvalidText(part=2)

>>> from indexturns.scripts import BudgetScript, Script
>>> script = Script(3, 1)
>>> [script.add(three), script.spent, script.again(1), script.whole == power(three, 2), script.spent, script.again(2), script.whole == identity(3), script.spent, script.preview(("add", backwards(3)))]
[None, 8, None, True, 16, None, True, 24, 28]
>>> [[call[0] for call in script.log()], script.undo(), script.spent, script.preview(("add", inverse(power(three, 2))), ("again", 5))]
[['add', 'again', 'again'], None, 16, 24]
>>> BudgetScript(3, 1, 7).add(three)
raises OverBudget(total=8)

>>> from indexturns.console import Console
>>> console = Console()
>>> [console.execute(command) for command in ["script 3 1", "add 1 2 0; 0", "show", "order", "lengths", "place 3", "after 1 5", "to 1 4", "to 1 3", "spent", "undo", "cycles"]]
['ok', 'ok', '1 2 0; 0', '3', '2x1 2x3', '6', '4', '2', 'none', '8', 'ok', '8']
"""

import contextlib
import doctest
import io
import pathlib
import unittest

from indexturns.errors import TurnError

README = pathlib.Path(__file__).resolve().parent.parent / "README.md"


def shown(source, names):
    """What an example shows: the value, or the error of the package with its field."""
    answer = io.StringIO()
    try:
        with contextlib.redirect_stdout(answer):
            exec(compile(source, "<example>", "single"), names)
    except TurnError as error:
        fields = ", ".join(f"{field}={value!r}" for field, value in vars(error).items())
        return f"raises {type(error).__name__}({fields})\n"
    return answer.getvalue()


class ExamplesTest(unittest.TestCase):
    def assert_examples(self, text, many):
        examples = doctest.DocTestParser().get_examples(text)
        names = {}
        for example in examples:
            self.assertEqual(shown(example.source, names), example.want, example.source)
        self.assertEqual(len(examples), many)

    def test_examples_of_the_document(self):
        self.assert_examples(__doc__, 38)

    def test_examples_of_the_readme(self):
        self.assert_examples(README.read_text(encoding="utf-8").replace("```", ""), 39)


if __name__ == "__main__":
    unittest.main()
