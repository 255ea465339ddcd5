"""Circles with one member fewer, or one more."""

from lotgivers.circles import Circle
from lotgivers.errors import NoMember, Twice


def without(circle, name):
    """The circle without this member, all else as it is."""
    if not circle.has(name):
        raise NoMember(name)
    members = tuple([member for member in circle.members if member[0] != name])
    return Circle(members, circle.bars, circle.past, circle.gap)


def with_one(circle, member):
    """The circle with this member, too, all else as it is."""
    name, house = member
    if circle.has(name):
        raise Twice(name)
    members = tuple(sorted([*circle.members, (name, house)]))
    return Circle(members, circle.bars, circle.past, circle.gap)
