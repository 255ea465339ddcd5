"""A look at a mended drawing, and at the layers by which no fewer draw anew."""

from lotgivers.drawings import Drawing, keeps
from lotgivers.mending import drawn_anew, lacking
from lotgivers.shapes import are_names


def shows_mended(circle, pairs, drawing, layers):
    """Whether these two, of anything, are a drawing that keeps and the layers that show it to be the nearest."""
    idle, _ = lacking(circle, pairs)
    if not isinstance(drawing, Drawing) or not keeps(circle, drawing) or not are_layers(circle, layers):
        return False
    if len(layers) != len(drawn_anew(pairs, drawing)) or layers[0] != (idle,):
        return False
    return all([reach_no_further(circle, pairs, layers, place) for place in range(len(layers) - 1)])


def are_layers(circle, thing):
    """Whether this, of anything, is a tuple of rising tuples of members' names, none empty, none in two."""
    if not isinstance(thing, tuple) or not all([are_names(layer) and layer != () for layer in thing]):
        return False
    names = [name for layer in thing for name in layer]
    return len(set(names)) == len(names) and all([circle.has(name) for name in names])


def reach_no_further(circle, pairs, layers, place):
    """Whether all whom this layer may take are given to, in pairs, by layers up to the next one."""
    near = [name for layer in layers[:place + 2] for name in layer]
    # Who is left over is given to by nobody, so this layer may not take that one either.
    given = [taker for giver, taker in pairs if giver in near]
    return all([taker in given for giver in layers[place] for taker in circle.takers(giver)])
