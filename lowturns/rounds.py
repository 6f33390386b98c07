"""Whether a turner goes once round all settings of n dials for every n, told with lists that can be checked."""

from lowturns.copies import copied
from lowturns.counts import are_counts, first_counts, next_counts, turn_total
from lowturns.errors import TooMany
from lowturns.figures import check_count, is_below

MOST_COUNTS = 5000


def _is_trail(turner, counts):
    """Whether any value is a list that begins with the first counts and always goes on by the next counts."""
    if not isinstance(counts, (list, tuple)) or len(counts) == 0:
        return False
    if not all([are_counts(turner, item) for item in counts]):
        return False
    expected = first_counts(turner)
    for item in counts:
        if list(item) != expected:
            return False
        expected = next_counts(turner, item)
    return True


def _totals(turner, counts):
    """The list of the totals of counts."""
    return [turn_total(turner, item) for item in counts]


class Answer:
    """What is known of a turner; of this base class, nothing."""

    def __init__(self, turner):
        self._turner = turner

    @property
    def subject(self):
        """The turner that the answer is about."""
        return self._turner

    @property
    def is_single(self):
        """Whether the answer says that the turner is single."""
        return False

    def told(self):
        """The answer in words."""
        return "open"

    def holds(self):
        """Whether the lists of the answer show what it says."""
        return False

    def __bool__(self):
        return self.is_single is True

    def __repr__(self):
        return f"Answer({self.told()})"


class Single(Answer):
    """The turner is single: its counts come again, and no total of them is 0."""

    def __init__(self, turner, counts, back):
        super().__init__(turner)
        self._counts = copied(counts)
        self._back = copied(back)

    @property
    def counts(self):
        """The list of the counts up to those that come again."""
        return copied(self._counts)

    @property
    def back(self):
        """The index of the counts that come again."""
        return copied(self._back)

    @property
    def is_single(self):
        """Whether the answer says that the turner is single."""
        return True

    def told(self):
        """The answer in words."""
        return "single"

    def holds(self):
        """Whether the counts are those of the turner, lead back to the index and have no total 0."""
        if not _is_trail(self._turner, self._counts) or not is_below(self._back, len(self._counts)):
            return False
        if 0 in _totals(self._turner, self._counts):
            return False
        return next_counts(self._turner, self._counts[-1]) == list(self._counts[self._back])


class Split(Answer):
    """The turner is not single: the total of its last counts is 0."""

    def __init__(self, turner, counts):
        super().__init__(turner)
        self._counts = copied(counts)

    @property
    def counts(self):
        """The list of the counts up to those with the total 0."""
        return copied(self._counts)

    @property
    def dials(self):
        """The least number of dials at which the turner is not single."""
        return len(self._counts) if isinstance(self._counts, (list, tuple)) else 0

    def told(self):
        """The answer in words."""
        return f"split at {self.dials} dials"

    def holds(self):
        """Whether the counts are those of the turner and the last ones alone have the total 0."""
        if not _is_trail(self._turner, self._counts):
            return False
        totals = _totals(self._turner, self._counts)
        return totals[-1] == 0 and 0 not in totals[:-1]

    def pair(self):
        """Two settings that lie in different rounds if the answer holds."""
        if self.dials == 0:
            return ((), ())
        zeros = (0,) * (self.dials - 1)
        return ((*zeros, 0), (*zeros, 1))


def decide(turner, *, most=2000):
    """The answer whether the turner is single, from at most so many counts."""
    check_count(most, 1, MOST_COUNTS)
    counts = [first_counts(turner)]
    places = {tuple(counts[0]): 0}
    while turn_total(turner, counts[-1]) != 0:
        following = next_counts(turner, counts[-1])
        key = tuple(following)
        if key in places:
            return Single(turner, counts, places[key])
        if len(counts) == most:
            raise TooMany(most)
        places[key] = len(counts)
        counts.append(following)
    return Split(turner, counts)
