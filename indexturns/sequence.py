"""How turns change the sequence of items, counted by the bits in which their places differ."""

from indexturns.checks import check_place
from indexturns.turns import check_alike, check_turn, crossings


def inversions(turn):
    """How many pairs of items change their order."""
    check_turn(turn)
    return _changed_pairs(turn.targets, turn.flips)


def passed(turn, place):
    """How many items from below a place go to places above that of its item."""
    check_turn(turn)
    check_place(place, turn.bits)
    sources = _sources(turn.targets)
    new_place = turn.goes_to(place)
    items = 0
    # The bits of the place whose targets were already asked about, without gaps between.
    word = 0
    for target, (bit, crossing) in enumerate(zip(sources, crossings(sources))):
        value = place >> bit & 1
        lower = bit - crossing
        higher_word = word >> lower
        if new_place >> target & 1 == 0:
            # Items that go above it here are as the place in all bits with higher targets, not in this bit, and of
            # any kind in the others. From below it come those that are less in the bits above this one, and those
            # that are the same there if they have a 0 in this bit.
            items += (higher_word + value) << lower
        word = ((higher_word << 1 | value) << lower) | (word & ((1 << lower) - 1))
    return items


def unlike_pairs(turn, second):
    """How many pairs of items stand in one order behind the one turn, in the other order behind the other one."""
    check_alike(turn, second)
    # The pairs that change their order on the way from where the one turn brings them to where the other one does.
    # Made by hand, since turns check all that they are given, which takes longer than to count the pairs.
    second_targets = second.targets
    targets = [second_targets[source] for source in _sources(turn.targets)]
    first_flips = turn.flips
    flips = second.flips
    for bit, target in enumerate(targets):
        flips = flips ^ ((first_flips >> bit & 1) << target)
    return _changed_pairs(targets, flips)


def _changed_pairs(targets, flips):
    """How many pairs of items change their order by a turn with these targets and flips.

    The places of a pair differ in some bits, with the same number of pairs for each choice of bits: half of all items.
    The one of these bits with the highest target may go with any bits that have lower targets. If it is not the
    highest one itself, half of the pairs change their order; if it is, being with lower bits only, all or none do.
    """
    quarters = 0
    for target, crossing in zip(targets, crossings(targets)):
        as_highest = 1 << (target - crossing)
        quarters += (1 << target) - as_highest
        if flips >> target & 1 == 1:
            quarters += 2 * as_highest
    return (quarters << len(targets)) // 4


def _sources(targets):
    """For each target the bit that goes to it."""
    sources = [0] * len(targets)
    for bit, target in enumerate(targets):
        sources[target] = bit
    return sources
