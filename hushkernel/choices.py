"""All ways to choose some of a few things."""


def sublists(items):
    """The ascending list of all lists of some of ascending items, the empty one included."""
    found = [[]]
    for item in items:
        found = found + [[*part, item] for part in found]
    return sorted(found)
