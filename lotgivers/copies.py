"""Copies of what is handed in."""


def copied(thing):
    """This thing, of any kind, with its lists, tuples and dicts copied at every depth."""
    if isinstance(thing, list):
        return [copied(part) for part in thing]
    if isinstance(thing, tuple):
        return tuple([copied(part) for part in thing])
    if isinstance(thing, dict):
        return {key: copied(worth) for key, worth in thing.items()}
    return thing
