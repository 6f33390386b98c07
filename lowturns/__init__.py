"""Lowturns: machines that turn a row of dials, decided for every number of dials."""
