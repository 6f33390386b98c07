"""Copies of values that callers pass, so that what they do with their lists later has no effect."""


def copied(value):
    """The value itself; a list in it, at any depth, is a new one."""
    if isinstance(value, list):
        return [copied(item) for item in value]
    if isinstance(value, tuple):
        return tuple([copied(item) for item in value])
    return value
