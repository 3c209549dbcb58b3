"""Plain questions about values that may be anything at all."""


def is_integer(thing):
    return isinstance(thing, int) and not isinstance(thing, bool)


def is_between(thing, low, high):
    return is_integer(thing) and low <= thing <= high


def is_index(thing, many):
    return is_between(thing, 0, many - 1)


def is_tuple(thing, many):
    return isinstance(thing, tuple) and len(thing) == many


def is_list(thing, low, high):
    return isinstance(thing, list) and low <= len(thing) <= high


def are_tuples(thing, many):
    """Whether it is a list of tuples of so many items."""
    return isinstance(thing, list) and all([is_tuple(item, many) for item in thing])


def is_ascending(items):
    """Whether items that can be compared ascend strictly."""
    return all([low < high for low, high in zip(items, items[1:])])


def are_tasks(items, many):
    """Whether a list or tuple holds tasks, ascending."""
    return all([is_index(item, many) for item in items]) and is_ascending(items)
