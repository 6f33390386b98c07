"""The commands of a book. Each makes new entries from those ahead of it."""

from lowturns.entries import check_word, entry_of, is_turner
from lowturns.errors import DuplicateName, Full, InUse, InvalidCommand, InvalidName, InvalidText
from lowturns.errors import PrimesDiffer, WrongKind
from lowturns.programs import compiled
from lowturns.turners import Turner
from lowturns.words import is_name, read_word

# The number of the items of a command with each first item.
SIZES = {"turner": 3, "program": 3, "word": 3, "wire": 5, "turn": 4, "start": 3, "drop": 2, "rename": 3}


def _check_form(command):
    """Raise InvalidCommand unless the value has the form of a command."""
    if not isinstance(command, tuple) or len(command) == 0:
        raise InvalidCommand(None)
    word = command[0]
    if not isinstance(word, str) or word not in SIZES or len(command) != SIZES[word]:
        raise InvalidCommand(word)


def _check_fresh(entries, name):
    """Raise InvalidName or DuplicateName unless an entry can come to have this name."""
    if not is_name(name):
        raise InvalidName(name)
    if name in entries:
        raise DuplicateName(name)


def _read_turner(prime, entries, text):
    """The turner with a text."""
    turner = Turner.read(text)
    if turner.prime != prime:
        raise PrimesDiffer()
    return turner


def _read_program(prime, entries, text):
    """The turner of a program."""
    if not isinstance(text, str):
        raise InvalidText()
    return compiled(prime, text)


def _read_letters(prime, entries, text):
    """The word with a text."""
    word = read_word(text)
    check_word(entries, word)
    return tuple(word)


# What makes an entry of a text: each takes the prime, the entries so far and the text.
MAKERS = {"turner": _read_turner, "program": _read_program, "word": _read_letters}


def _added(prime, limit, entries, command):
    """The entries with one more."""
    word, name, text = command
    _check_fresh(entries, name)
    if len(entries) >= limit:
        raise Full(limit)
    make = MAKERS[word]
    return {**entries, name: make(prime, entries, text)}


def _with_state(turner, at, state):
    """The turner with another state in a place."""
    states = turner.states()
    states[at] = state
    return Turner(turner.prime, states, start=turner.start)


def _wired(turner, state, figure, target):
    """The turner with another target of a state at a figure."""
    # These calls raise the errors for wrong values.
    turner.target(state, figure)
    turner.turn(target)
    turn, targets = turner.states()[state]
    return _with_state(turner, state, (turn, (*targets[:figure], target, *targets[figure + 1:])))


def _turned(turner, state, figure):
    """The turner with another turn of a state."""
    turner.target(state, figure)
    return _with_state(turner, state, (figure, turner.states()[state][1]))


def _started(turner, state):
    """The turner with another start."""
    return turner.started(state)


# What changes a turner: each takes the turner and the items of the command behind the name.
CHANGES = {"wire": _wired, "turn": _turned, "start": _started}


def _changed(entries, command):
    """The entries with a changed turner in its place."""
    word, name, *values = command
    turner = entry_of(entries, name)
    if not is_turner(turner):
        raise WrongKind(name)
    change = CHANGES[word]
    return {**entries, name: change(turner, *values)}


def _has_letter(entry, name):
    """Whether an entry is a word that has a letter with this name."""
    return not is_turner(entry) and name in [letter for letter, _ in entry]


def _dropped(entries, name):
    """The entries without one."""
    entry_of(entries, name)
    users = [user for user, entry in entries.items() if _has_letter(entry, name)]
    if len(users) > 0:
        raise InUse(min(users))
    return {other: entry for other, entry in entries.items() if other != name}


def _relettered(entry, name, fresh):
    """The entry; if it is a word, with another name in the place of one."""
    if is_turner(entry):
        return entry
    return tuple([(fresh if letter == name else letter, back) for letter, back in entry])


def _renamed(entries, name, fresh):
    """The entries with another name of one, which keeps its place, also in words."""
    entry_of(entries, name)
    _check_fresh(entries, fresh)
    renamed = {}
    for other, entry in entries.items():
        renamed[fresh if other == name else other] = _relettered(entry, name, fresh)
    return renamed


def done(prime, limit, entries, command):
    """The entries behind a command."""
    _check_form(command)
    word = command[0]
    if word in MAKERS:
        return _added(prime, limit, entries, command)
    if word in CHANGES:
        return _changed(entries, command)
    if word == "drop":
        return _dropped(entries, command[1])
    return _renamed(entries, command[1], command[2])
