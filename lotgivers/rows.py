"""Who may take whom, of all members at once.

A set of members is a whole number here, in which the bit of each of them is
set. Rows are a dict of each giver, rising, and the set of those whom this one
may take.
"""


def bits_of(names):
    """Each of these names, in their order, with the bit of this one alone."""
    return {name: 1 << place for place, name in enumerate(names)}


def names_in(names, members):
    """Those of these names, in their order, whose bits are set in this set of members."""
    return tuple([name for name, bit in bits_of(names).items() if members & bit])


def each_of(members):
    """The bits that are set in this set of members, the lowest first."""
    bits = []
    left = members
    while left:
        bits.append(left & -left)
        left &= left - 1
    return bits


def how_many(members):
    """How many are in this set of members."""
    return f"{members:b}".count("1")


def rows_of(circle):
    """The rows of the circle: the pairs for which it has no reason against them."""
    bits = bits_of(circle.names())
    everybody = (1 << len(bits)) - 1
    of_house = {}
    for name, house in circle.members:
        if house != "":
            of_house[house] = of_house.get(house, 0) | bits[name]
    rows = {name: everybody & ~(bits[name] | of_house.get(house, 0)) for name, house in circle.members}
    for giver, taker in circle.barred():
        # Bars and years may name those who are no members.
        if giver in bits and taker in bits:
            rows[giver] &= ~bits[taker]
    return rows


def rows_by_bit(rows):
    """These rows, each under its giver's bit instead of the name."""
    return {1 << place: row for place, row in enumerate(rows.values())}


def too_few(rows, lot):
    """Whether all whom these givers may take are fewer than these."""
    reached = 0
    for giver in lot:
        reached |= rows[giver]
    return how_many(reached) < len(lot)
