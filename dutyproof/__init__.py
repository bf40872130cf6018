"""Dutyproof: works that come again, and whether each is done in time."""
