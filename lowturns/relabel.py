"""Relabellings of few dials, and whether one turner can be led to another one for every number of dials."""

from lowturns.copies import copied
from lowturns.counts import first_counts, next_counts, totals_below, turn_total
from lowturns.errors import InvalidCount, InvalidFigure, InvalidSetting, InvalidTable
from lowturns.errors import NoRelabelling, NotSingle, PrimesDiffer, TooMany
from lowturns.figures import MOST_DIALS, check_count, check_prime, check_setting, count_settings, is_below, number_of
from lowturns.rounds import MOST_COUNTS, Single
from lowturns.tables import images, tables_of


def _is_table(prime, value, many):
    """Whether any value is a list of so many figures."""
    if not isinstance(value, (list, tuple)) or len(value) != many:
        return False
    return all([is_below(figure, prime) for figure in value])


def _check_tables(prime, tables):
    """Raise TooMany or InvalidTable unless it is a list of tables of a relabelling."""
    if not isinstance(tables, (list, tuple)):
        raise InvalidTable(0)
    count_settings(prime, len(tables))
    for dial, table in enumerate(tables):
        if not _is_table(prime, table, count_settings(prime, dial)):
            raise InvalidTable(dial)


def _undone_table(prime, table, behind):
    """The table that turns a dial back; it is asked with the settings to which the dials below were turned."""
    undone = [0] * len(table)
    for turn, image in zip(table, behind):
        undone[image] = (-turn) % prime
    return undone


def _joined_table(prime, table, further, behind):
    """The table that turns a dial as table and then further do."""
    # The second one sees the settings to which the first one has turned the dials below.
    return [(turn + further[image]) % prime for turn, image in zip(table, behind)]


class Relabelling:
    """A table for each dial: by what it is turned, by the setting of the dials below it."""

    def __init__(self, prime, tables):
        check_prime(prime)
        _check_tables(prime, tables)
        self._prime = prime
        self._tables = tuple([tuple(table) for table in tables])

    @classmethod
    def idle(cls, prime, dials):
        """The relabelling that changes nothing."""
        check_prime(prime)
        check_count(dials, 0, MOST_DIALS)
        count_settings(prime, dials)
        return cls(prime, [[0] * count_settings(prime, dial) for dial in range(dials)])

    @property
    def prime(self):
        """The prime of the figures that are turned."""
        return self._prime

    @property
    def dials(self):
        """The number of dials."""
        return len(self._tables)

    def tables(self):
        """The list of the tables, lists of figures."""
        return [list(table) for table in self._tables]

    def __call__(self, setting):
        check_setting(self._prime, setting)
        if len(setting) != len(self._tables):
            raise InvalidSetting(setting)
        turns = [table[number_of(self._prime, setting[:dial])] for dial, table in enumerate(self._tables)]
        return tuple([(figure + turn) % self._prime for figure, turn in zip(setting, turns)])

    def inverse(self):
        """The relabelling that undoes this one."""
        tables = [_undone_table(self._prime, table, self._behind(dial)) for dial, table in enumerate(self._tables)]
        return Relabelling(self._prime, tables)

    def __mul__(self, other):
        if not isinstance(other, Relabelling):
            return NotImplemented
        if self._prime != other.prime:
            raise PrimesDiffer()
        if len(self._tables) != other.dials:
            raise InvalidCount(other.dials)
        tables = []
        for dial, further in enumerate(other.tables()):
            tables.append(_joined_table(self._prime, self._tables[dial], further, self._behind(dial)))
        return Relabelling(self._prime, tables)

    def leads(self, one, other):
        """Whether doing one and then this is the same as doing this and then other, for all settings."""
        if one.prime != self._prime or other.prime != self._prime:
            raise PrimesDiffer()
        dials = len(self._tables)
        behind = self._behind(dials)
        ones, others = images(self._prime, tables_of(one, dials)), images(self._prime, tables_of(other, dials))
        return [behind[image] for image in ones] == [others[image] for image in behind]

    def __eq__(self, other):
        return isinstance(other, Relabelling) and self._prime == other._prime and self._tables == other._tables

    def __len__(self):
        return len(self._tables)

    def __repr__(self):
        return f"Relabelling({self._prime}, {len(self._tables)} dials)"

    def _behind(self, dials):
        """For each setting of the lowest so many dials, by ascending numbers, the number of the one behind it."""
        return images(self._prime, self._tables[:dials])


def _check_chosen(prime, chosen):
    """Raise InvalidFigure with the first item that is no figure of the prime."""
    for figure in chosen:
        if not is_below(figure, prime):
            raise InvalidFigure(figure)


def _check_totals(one, other, dials):
    """Raise NotSingle or NoRelabelling unless there is a relabelling for so many dials."""
    totals, others = totals_below(one, dials), totals_below(other, dials)
    if 0 in totals or 0 in others:
        raise NotSingle()
    for below in range(dials):
        if totals[below] != others[below]:
            raise NoRelabelling(below + 1)


def _table_between(prime, ones, others, first, size):
    """The table of the dial that has so many settings below it.

    Doing one again and again leads the setting of zeros through all settings below the dial; the relabelling leads
    each of them to what other makes meanwhile of the setting with the number first.
    """
    table = [0] * size
    here, there = 0, first
    for _ in range(size):
        table[here % size] = (there // size - here // size) % prime
        here, there = ones[here], others[there]
    return table


def relabel(one, other, dials, *, chosen=()):
    """The relabelling for so many dials that leads one to other and has the chosen figures at settings of zeros."""
    if one.prime != other.prime:
        raise PrimesDiffer()
    prime = one.prime
    check_count(dials, 0, MOST_DIALS)
    count_settings(prime, dials)
    _check_chosen(prime, chosen)
    _check_totals(one, other, dials)
    ones, others = images(prime, tables_of(one, dials)), images(prime, tables_of(other, dials))
    first = number_of(prime, tuple(chosen[:dials]))
    sizes = [count_settings(prime, dial) for dial in range(dials)]
    return Relabelling(prime, [_table_between(prime, ones, others, first, size) for size in sizes])


def _is_pair(value):
    """Whether any value is a tuple of two items."""
    return isinstance(value, tuple) and len(value) == 2


class Match:
    """Two single turners with equal totals, by the pairs of their counts up to the first one that comes again."""

    def __init__(self, one, other, pairs, back):
        self._one = one
        self._other = other
        self._pairs = copied(pairs)
        self._back = copied(back)

    @property
    def one(self):
        """The turner that is led to the other one."""
        return self._one

    @property
    def other(self):
        """The turner to which the one is led."""
        return self._other

    @property
    def pairs(self):
        """The list of the pairs of counts."""
        return copied(self._pairs)

    @property
    def back(self):
        """The index of the pair that comes again."""
        return copied(self._back)

    def holds(self):
        """Whether the pairs are those of the turners, lead back to the index and have equal totals, none of them 0."""
        if self._one.prime != self._other.prime or not isinstance(self._pairs, (list, tuple)):
            return False
        if not all([_is_pair(pair) for pair in self._pairs]):
            return False
        ones, others = [pair[0] for pair in self._pairs], [pair[1] for pair in self._pairs]
        if not Single(self._one, ones, self._back).holds() or not Single(self._other, others, self._back).holds():
            return False
        totals = [turn_total(self._one, counts) for counts in ones]
        return totals == [turn_total(self._other, counts) for counts in others]

    def __len__(self):
        if not isinstance(self._pairs, (list, tuple)):
            return 0
        return len(self._pairs)

    def __repr__(self):
        return f"Match({len(self)} pairs)"


def _check_pair(one, other, pair, at):
    """Raise NotSingle or NoRelabelling unless the totals of the pair with the index at are equal and not 0."""
    totals = (turn_total(one, pair[0]), turn_total(other, pair[1]))
    if 0 in totals:
        raise NotSingle()
    if totals[0] != totals[1]:
        raise NoRelabelling(at + 1)


def _key(pair):
    """A pair of counts as it may be a key."""
    return (tuple(pair[0]), tuple(pair[1]))


def match(one, other, *, most=2000):
    """The Match of two turners, from at most so many pairs."""
    if one.prime != other.prime:
        raise PrimesDiffer()
    check_count(most, 1, MOST_COUNTS)
    pairs, places = [], {}
    pair = (first_counts(one), first_counts(other))
    while _key(pair) not in places:
        if len(pairs) == most:
            raise TooMany(most)
        _check_pair(one, other, pair, len(pairs))
        places[_key(pair)] = len(pairs)
        pairs.append(pair)
        pair = (next_counts(one, pair[0]), next_counts(other, pair[1]))
    return Match(one, other, pairs, places[_key(pair)])
