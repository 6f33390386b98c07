"""How often each state comes to a dial during one round of the dials below, modulo the prime."""

from lowturns.errors import InvalidCounts
from lowturns.figures import check_count, is_below

MOST_STEPS = 5000


def are_counts(turner, value):
    """Whether any value is a list with a rest modulo the prime for each state of the turner."""
    if not isinstance(value, (list, tuple)) or len(value) != len(turner):
        return False
    return all([is_below(count, turner.prime) for count in value])


def _check_counts(turner, counts):
    """Raise InvalidCounts unless the counts are some of the turner."""
    if not are_counts(turner, counts):
        raise InvalidCounts()


def first_counts(turner):
    """The list with 1 at the start and 0 elsewhere."""
    return [1 if state == turner.start else 0 for state in range(len(turner))]


def next_counts(turner, counts):
    """The counts one dial above."""
    _check_counts(turner, counts)
    sums = [0] * len(turner)
    for count, (_, targets) in zip(counts, turner.states()):
        for target in targets:
            sums[target] += count
    return [found % turner.prime for found in sums]


def turn_total(turner, counts):
    """The sum of the counts times the turns, modulo the prime."""
    _check_counts(turner, counts)
    return sum([count * turn for count, (turn, _) in zip(counts, turner.states())]) % turner.prime


def total(turner, dials):
    """The total of the turner at so many dials."""
    check_count(dials, 0, MOST_STEPS)
    counts = first_counts(turner)
    for _ in range(dials):
        counts = next_counts(turner, counts)
    return turn_total(turner, counts)


def totals_below(turner, dials):
    """The list of the totals at all numbers of dials below this one."""
    totals = []
    counts = first_counts(turner)
    for _ in range(dials):
        totals.append(turn_total(turner, counts))
        counts = next_counts(turner, counts)
    return totals


def is_single_at(turner, dials):
    """Whether there is only one round of settings of so many dials."""
    return 0 not in totals_below(turner, dials)
