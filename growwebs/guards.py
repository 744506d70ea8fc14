"""Guards: what a garden may be told to keep so."""

from growwebs.checks import is_integers, is_within
from growwebs.distances import distance
from growwebs.errors import NoPiece, NoPlace
from growwebs.leads import Leads
from growwebs.pairings import Pairings
from growwebs.rules import Rule

LONGEST_ROW = 2000
LENGTHS = {"lead": 2, "paired": 1, "finite": 1, "endless": 1, "joined": 3, "within": 4}


def is_told(value):
    """Whether the value is a pair of a row, a tuple, and of any value that may tell a place there."""
    if not isinstance(value, tuple) or len(value) != 2 or not isinstance(value[0], tuple):
        return False
    return is_integers(value[0]) and len(value[0]) <= LONGEST_ROW


def is_guard(value):
    """Whether any value is a guard."""
    if not isinstance(value, tuple) or len(value) == 0 or not isinstance(value[0], str):
        return False
    if LENGTHS.get(value[0]) != len(value):
        return False
    if value[0] == "lead":
        return isinstance(value[1], Rule)
    if value[0] == "within" and not is_within(value[3], 0, value[3]):
        return False
    return all([is_told(told) for told in value[1:3]])


def are_same_guards(one, other):
    """Whether two guards are the same; False and True tell no place, so they are no 0 and 1."""
    if one != other:
        return False
    if one[0] not in ("joined", "within"):
        return True
    return [isinstance(told[1], bool) for told in one[1:3]] == [isinstance(told[1], bool) for told in other[1:3]]


def place_at(book, told):
    """The place that a pair of a row and any value tells, or None."""
    try:
        return book.place(told[0], told[1])
    except (NoPiece, NoPlace):
        return None


def length_between(book, one, other):
    """The distance of two told places, None if one is not there or no way joins them."""
    place = place_at(book, one)
    goal = place_at(book, other)
    if place is None or goal is None:
        return None
    return distance(place, goal)


def holds(guard, book):
    """Whether a guard holds of a book."""
    name = guard[0]
    if name == "lead":
        return Leads(book, guard[1]).exists
    if name == "paired":
        return Pairings(book).exists
    if name == "finite":
        return book.is_finite
    if name == "endless":
        return not book.is_finite
    length = length_between(book, guard[1], guard[2])
    if name == "joined":
        return length is not None
    return length is not None and length <= guard[3]
