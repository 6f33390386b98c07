"""Totals and verdicts of expanded words, from the counts of all letters side by side: no product is made."""

from lowturns.counts import MOST_STEPS, first_counts, next_counts, total, turn_total
from lowturns.errors import TooMany
from lowturns.figures import check_count

MOST_SIDES = 2000


def _weighed(letters):
    """The different turners of an expanded word, in pairs (turner, times).

    times is how often more the turner is done than undone: one that is undone has the same counts, and minus the
    totals.
    """
    turners, times = {}, {}
    for turner, back in letters:
        key = turner.text
        turners[key] = turner
        times[key] = times.get(key, 0) + (-1 if back else 1)
    return [(turner, times[key]) for key, turner in turners.items()]


def word_total(prime, letters, dials):
    """The total of an expanded word at so many dials."""
    check_count(dials, 0, MOST_STEPS)
    return sum([times * total(turner, dials) for turner, times in _weighed(letters)]) % prime


def _sum_of_totals(prime, sides, counts):
    """The total of a word whose different turners have these counts."""
    return sum([times * turn_total(turner, item) for (turner, times), item in zip(sides, counts)]) % prime


def word_verdict(prime, letters):
    """Whether an expanded word is single, in words."""
    sides = _weighed(letters)
    counts = [first_counts(turner) for turner, _ in sides]
    seen = set()
    for dials in range(MOST_SIDES):
        if _sum_of_totals(prime, sides, counts) == 0:
            return f"split at {dials + 1} dials"
        seen.add(tuple([tuple(item) for item in counts]))
        counts = [next_counts(turner, item) for (turner, _), item in zip(sides, counts)]
        if tuple([tuple(item) for item in counts]) in seen:
            return "single"
    raise TooMany(MOST_SIDES)
