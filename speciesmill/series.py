"""Counts of pairs, rows, sets and rings from the counts of what they are made of."""

from math import comb

from speciesmill.errors import BadCounts
from speciesmill.helpers import are_bounds, divisors, is_whole, more_than_one
from speciesmill.spec import MEMBER_WORDS
from speciesmill.tables import Members, mode_of, pair_item

MOST_ITEMS = 61


def check_counts(counts):
    """Raises BadCounts if a value is not a list of 1 to 61 integers from 0 on."""
    if not isinstance(counts, list) or not 1 <= len(counts) <= MOST_ITEMS:
        raise BadCounts("counts are a list of 1 to 61 items")
    if any([not is_whole(item) or item < 0 for item in counts]):
        raise BadCounts("the items of counts are integers from 0 on")


def pairs(first, second, labelled):
    """The counts of pairs of a structure of each of two kinds."""
    check_counts(first)
    check_counts(second)
    if len(first) != len(second):
        raise BadCounts("the counts have unlike lengths")
    return [pair_item(first, second, size, mode_of(labelled)) for size in range(len(first))]


def rows(counts, least, most, labelled):
    """The counts of rows of structures of a kind."""
    return _counts_within("row", counts, least, most, labelled)


def sets(counts, least, most, labelled):
    """The counts of sets of structures of a kind."""
    return _counts_within("set", counts, least, most, labelled)


def rings(counts, least, most, labelled):
    """The counts of rings of structures of a kind."""
    return _counts_within("ring", counts, least, most, labelled)


def by_members(counts, word, members, labelled):
    """The counts of rows, sets or rings of exactly so many structures of a kind."""
    return _counts_within(word, counts, members, members, labelled)


def _counts_within(word, counts, least, most, labelled):
    """The counts of rows, sets or rings with a number of members within the bounds."""
    check_counts(counts)
    if word not in MEMBER_WORDS or not are_bounds(word, least, most):
        raise BadCounts("these are no bounds for the numbers of members")
    if counts[0] > 0 and more_than_one(most):
        raise BadCounts("members of size 0 may stand in these several times")
    told = Members(word, most, counts, mode_of(labelled))
    made = []
    for size in range(len(counts)):
        told.grow()
        made.append(told.within(least, most, size))
    return made


def sets_undone(counts, labelled):
    """The numbers of structures of a kind whose sets have the given counts; they may be below 0."""
    check_counts(counts)
    if counts[0] != 1:
        raise BadCounts("there is just one set without members")
    return _labelled_undone(counts) if labelled else _unlabelled_undone(counts)


def _labelled_undone(counts):
    """As sets_undone: a set is told by the member with the least label, and the set of the others."""
    members = [0]
    for size in range(1, len(counts)):
        beside = [comb(size - 1, at - 1) * members[at] * counts[size - at] for at in range(1, size)]
        members.append(counts[size] - sum(beside))
    return members


def _unlabelled_undone(counts):
    """As sets_undone.

    If one atom of a set is marked, then so is the member s in which it is, and the first, second .. of the equal
    members: size times the sets is the sum of weights[k] times the sets of the size that remains, where weights[k]
    is the sum of the sizes of the structures whose sizes divide k.
    """
    members = [0]
    weights = [0]
    for size in range(1, len(counts)):
        weight = size * counts[size] - sum([weights[at] * counts[size - at] for at in range(1, size)])
        smaller = sum([at * members[at] for at in divisors(size) if at < size])
        members.append((weight - smaller) // size)
        weights.append(weight)
    return members
