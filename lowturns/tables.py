"""What turners and relabellings do to all settings of few dials, told by the turn of each dial."""


def tables_of(turner, dials):
    """For each dial the turns of a turner at it, by ascending numbers of the settings of the dials below."""
    states, prime = turner.states(), turner.prime
    tables = []
    # The states in which the turner comes to the dial, by ascending numbers of the settings below.
    level = [turner.start]
    for _ in range(dials):
        tables.append([states[state][0] for state in level])
        level = [states[state][1][figure] for figure in range(prime) for state in level]
    return tables


def images(prime, tables):
    """For each setting, by ascending numbers, the number of the setting to which the tables turn it."""
    found = [0]
    for table in tables:
        size = len(found)
        found = [image + (figure + turn) % prime * size for figure in range(prime) for image, turn in zip(found, table)]
    return found
