"""All ways to choose some of a few things, and all orders of them."""


def sublists(items):
    """The ascending list of all lists of some of ascending items, the empty one included."""
    found = [[]]
    for item in items:
        found = found + [[*part, item] for part in found]
    return sorted(found)


def orders(items):
    """A tuple for each order in which a few items can stand."""
    found = [()]
    for item in items:
        found = [order[:at] + (item,) + order[at:] for order in found for at in range(len(order) + 1)]
    return found
