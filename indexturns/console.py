"""A console: commands and answers are texts."""

from indexturns.cycles import cycle_count, cycle_counts, order
from indexturns.errors import InvalidCommand
from indexturns.scripts import Script
from indexturns.sequence import inversions
from indexturns.stretches import stretch_count
from indexturns.texts import is_number, read_turn, show_turn
from indexturns.ways import square_sum
from indexturns.when import after, period, turns_to

# How many numbers stand behind each word. Only `add`, behind which a text stands, is not among them.
NUMBERS = {
    "script": 2, "again": 1, "undo": 0, "spent": 0, "show": 0, "lengths": 0, "order": 0, "cycles": 0, "inversions": 0,
    "squares": 0, "stretches": 0, "place": 1, "after": 2, "to": 2, "period": 1,
}
TEXT_WORD = "add "


class Console:
    """Performs commands on a script."""

    def __init__(self):
        self._script = Script(1, 0)

    def execute(self, command):
        """Performs a command and returns its answer."""
        if not isinstance(command, str):
            raise InvalidCommand("command: not a string")
        if command.startswith(TEXT_WORD):
            self._script.add(read_turn(command.removeprefix(TEXT_WORD)))
            return "ok"
        words = command.split(" ")
        return self._perform(words[0], _read_numbers(words))

    def _perform(self, word, numbers):
        """The answer to a command of a word and numbers."""
        if word == "spent":
            return str(self._script.spent)
        if word not in ("script", "again", "undo"):
            return _answer(self._script.whole, word, numbers)
        if word == "script":
            self._script = Script(numbers[0], numbers[1])
        elif word == "again":
            self._script.again(numbers[0])
        else:
            self._script.undo()
        return "ok"


def _read_numbers(words):
    """The numbers of a command; raises InvalidCommand unless its words are one of the forms."""
    numbers = words[1:]
    if NUMBERS.get(words[0]) != len(numbers) or not all([_is_integer_word(number) for number in numbers]):
        raise InvalidCommand("command: none of the forms")
    return [int(number) for number in numbers]


def _is_integer_word(word):
    """Whether a word is an integer, written as in texts, with a sign if it is below 0."""
    if word.startswith("-"):
        return word != "-0" and is_number(word[1:])
    return is_number(word)


def _answer(whole, word, numbers):
    """The answer to what is asked about the turn `whole`."""
    if word == "show":
        return show_turn(whole)
    if word == "lengths":
        return " ".join([f"{many}x{length}" for length, many in cycle_counts(whole)])
    number = _number(whole, word, numbers)
    return "none" if number is None else str(number)


def _number(whole, word, numbers):
    """The number that is asked for, None if no turns bring an item to a place."""
    if word == "order":
        return order(whole)
    if word == "cycles":
        return cycle_count(whole)
    if word == "inversions":
        return inversions(whole)
    if word == "squares":
        return square_sum(whole)
    if word == "stretches":
        return stretch_count(whole)
    if word == "place":
        return whole.goes_to(numbers[0])
    if word == "after":
        return after(whole, numbers[0], numbers[1])
    if word == "period":
        return period(whole, numbers[0])
    return turns_to(whole, numbers[0], numbers[1])
