"""Wherebegun: loops round a closed list, and whether it matters where they begin."""
