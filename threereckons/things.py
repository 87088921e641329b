"""Things made of numbers, truths, None, texts, lists and tuples."""


def own_copy(thing):
    """The same thing, of lists and tuples of its own."""
    if not isinstance(thing, (list, tuple)):
        return thing
    copied = []
    for part in thing:
        copied.append(own_copy(part))
    if isinstance(thing, tuple):
        return tuple(copied)
    return copied
