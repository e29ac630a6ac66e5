"""Turns: which bit of a place goes to which, and which ones are flipped."""

from indexturns.checks import MOST_BITS, check_bits, check_number, check_place, is_between
from indexturns.errors import InvalidFlips, InvalidTargets, InvalidTurn, UnlikeBits


class Turn:
    """Brings the item at each place of an array to another place; it never changes."""

    def __init__(self, targets, flips):
        check_targets(targets)
        if not is_between(flips, 0, (1 << len(targets)) - 1):
            raise InvalidFlips("flips: not an integer from 0, less than the number of places")
        self._targets = list(targets)
        self._flips = flips

    @property
    def bits(self):
        """How many bits a place has."""
        return len(self._targets)

    @property
    def targets(self):
        """A new list of the bits that the bits go to."""
        return list(self._targets)

    @property
    def flips(self):
        """The integer whose bits 1 are those of the new place that are flipped."""
        return self._flips

    def goes_to(self, place):
        """The new place of the item at a place."""
        check_place(place, len(self._targets))
        moved = 0
        for bit, target in enumerate(self._targets):
            moved = moved | (place >> bit & 1) << target
        return moved ^ self._flips

    def __eq__(self, other):
        return isinstance(other, Turn) and self._targets == other._targets and self._flips == other._flips


def check_targets(targets):
    """Raises InvalidTargets unless the value is a list that has each of its places as one item."""
    if not isinstance(targets, list) or not 1 <= len(targets) <= MOST_BITS:
        raise InvalidTargets(None)
    ahead = {}
    for item, target in enumerate(targets):
        # The range comes first: only an integer surely can be looked up in a dict.
        if not is_between(target, 0, len(targets) - 1) or target in ahead:
            raise InvalidTargets(item)
        ahead[target] = True


def check_turn(turn):
    """Raises InvalidTurn unless the value is a Turn."""
    if not isinstance(turn, Turn):
        raise InvalidTurn("turn: not a Turn")


def check_alike(turn, second):
    """Raises InvalidTurn unless both values are turns, then UnlikeBits unless their bits are equally many."""
    check_turn(turn)
    check_turn(second)
    if turn.bits != second.bits:
        raise UnlikeBits("the turns have unlike numbers of bits")


def leaves_all(turn):
    """Whether a turn leaves all items at their places."""
    return turn.flips == 0 and turn.targets == list(range(turn.bits))


def identity(bits):
    """The turn that leaves all items."""
    check_bits(bits)
    return Turn(list(range(bits)), 0)


def then(turn, second):
    """The turn that does the first turn and behind it the second one."""
    check_alike(turn, second)
    onward = second.targets
    # The second turn takes the flips of the first one along like any other word of bits.
    return Turn([onward[target] for target in turn.targets], second.goes_to(turn.flips))


def inverse(turn):
    """The turn that brings all items back."""
    return power(turn, -1)


def power(turn, number):
    """The turn that does a turn so many times; below 0, so many times back."""
    check_turn(turn)
    check_number(number)
    targets = [0] * turn.bits
    flips = 0
    for cycle in split_into_cycles(turn.targets):
        visits = visits_of_two_rounds(cycle, turn.flips)
        for at in range(len(cycle)):
            bit, value = visits[at]
            target, new_value = visits[(at + number) % len(visits)]
            targets[bit] = target
            flips = flips | (value ^ new_value) << target
    return Turn(targets, flips)


def split_into_cycles(targets):
    """The lists of bits that go round, each from its least bit on, ascending by these."""
    cycles = []
    visited = [False] * len(targets)
    for start in range(len(targets)):
        cycle = []
        bit = start
        while not visited[bit]:
            visited[bit] = True
            cycle.append(bit)
            bit = targets[bit]
        if cycle:
            cycles.append(cycle)
    return cycles


def crossings(targets):
    """For each bit how many of the bits above it have targets below its own."""
    found = []
    targets_left = list(range(len(targets)))
    for target in targets:
        # Of the targets below this one, those that are left are the ones of bits above.
        crossing = targets_left.index(target)
        targets_left.pop(crossing)
        found.append(crossing)
    return found


def visits_of_two_rounds(cycle, flips):
    """The tuples (bit, value) that one value comes to, turn by turn, twice round a bit cycle.

    One round may flip it, two never do. So the visits go on from the last to the first one again,
    and no number of turns has to be walked step by step.
    """
    visits = []
    value = 0
    for bit in cycle + cycle:
        value = value ^ (flips >> bit & 1)
        visits.append((bit, value))
    return visits
