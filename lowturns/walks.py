"""The rounds of settings of few dials: how long they are, and where a setting stands in the only one."""

from lowturns.counts import is_single_at
from lowturns.errors import NotSingle
from lowturns.figures import MOST_DIALS, check_count, check_setting, count_settings, number_of, setting_of
from lowturns.tables import images, tables_of


def _check_few(turner, setting):
    """Raise InvalidSetting unless it is a setting for the turner, TooMany if it has too many dials."""
    check_setting(turner.prime, setting)
    count_settings(turner.prime, len(setting))


def _check_dials(turner, dials):
    """Raise InvalidCount unless it is a number of dials, TooMany if there are too many settings of so many."""
    check_count(dials, 0, MOST_DIALS)
    count_settings(turner.prime, dials)


def _behind(turner, dials):
    """For each setting of so many dials, by ascending numbers, the number of the setting behind the turner."""
    return images(turner.prime, tables_of(turner, dials))


def _round_from(behind, number):
    """The list of the numbers of a round, from this number on."""
    found = [number]
    following = behind[number]
    while following != number:
        found.append(following)
        following = behind[following]
    return found


def _only_round(turner, dials):
    """The list of the numbers of the only round of so many dials, from the setting of zeros on."""
    if not is_single_at(turner, dials):
        raise NotSingle()
    return _round_from(_behind(turner, dials), 0)


def round_of(turner, setting):
    """The settings of the round of a setting, from the setting itself on."""
    _check_few(turner, setting)
    yield setting
    following = turner(setting)
    while following != setting:
        yield following
        following = turner(following)


def round_length(turner, setting):
    """How many settings the round of a setting has."""
    _check_few(turner, setting)
    return len(_round_from(_behind(turner, len(setting)), number_of(turner.prime, setting)))


def round_lengths(turner, dials):
    """The ascending list of the lengths of all rounds of settings of so many dials."""
    _check_dials(turner, dials)
    behind = _behind(turner, dials)
    lengths = []
    seen = [False] * len(behind)
    for number in range(len(behind)):
        if not seen[number]:
            found = _round_from(behind, number)
            lengths.append(len(found))
            for other in found:
                seen[other] = True
    return sorted(lengths)


def place_of(turner, setting):
    """How often the turner must be done at least to lead the setting of zeros to this one."""
    _check_few(turner, setting)
    return _only_round(turner, len(setting)).index(number_of(turner.prime, setting))


def setting_at(turner, dials, place):
    """The setting to which the turner leads the setting of zeros if it is done so often."""
    _check_dials(turner, dials)
    numbers = _only_round(turner, dials)
    return setting_of(turner.prime, numbers[place % len(numbers)], dials)
