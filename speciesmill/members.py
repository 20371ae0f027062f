"""Sets without labels, whose members are told by their places: pairs of a size and an index."""

from math import comb

from speciesmill.helpers import greatest
from speciesmill.places import check_member_counts, check_number, check_place


def sets_from(counts, members, size, first):
    """The number of sets of so many members and a size, of which no member has a place before a first one."""
    check_member_counts(counts)
    check_number(counts, members)
    check_number(counts, size)
    check_place(counts, first)
    return Bags(counts).exactly(members, size, first)


def repeated(allowed, times):
    """In how many ways so many members are chosen out of the allowed ones, which may come again."""
    if times == 0:
        return 1
    return comb(allowed + times - 1, times)


class Bags:
    """How many sets there are of members with given counts. There are no members of size 0.

    `tables[s][m][n]` is the number of sets of m members and the size n, in all, whose members have the size s or
    greater ones. Each table ends with the greatest m for which there is room. Only those for s from 2 on are
    filled: whatever is asked from a place of the size s on comes from the table for s + 1.
    """

    def __init__(self, counts):
        self.counts = counts
        empty = [1] + [0] * (len(counts) - 1)
        self.tables = [[empty] for _ in range(len(counts) + 1)]
        for least in range(len(counts) - 1, 1, -1):
            for members in range(1, (len(counts) - 1) // least + 1):
                row = [self.with_allowed(least, counts[least], members, size) for size in range(len(counts))]
                self.tables[least].append(row)

    def with_allowed(self, least, allowed, members, size):
        """The sets of members from a size on, of whom those of this size are out of so many allowed ones."""
        greater = self.tables[least + 1]
        total = 0
        for times in range(max(0, members - len(greater) + 1), min(members, size // least) + 1):
            total += repeated(allowed, times) * greater[members - times][size - least * times]
        return total

    def exactly(self, members, size, first):
        """The sets of so many members and a size, none of which has a place before the first one.

        If the index of this place is the number of members of its size, then all of them come before it.
        """
        least, index = first
        return self.with_allowed(least, self.counts[least] - index, members, size)

    def within(self, least, most, size, first):
        """The sets of a size with a number of members within the bounds, none of which is before a place."""
        most_fitting = size // first[0]
        last = most_fitting if most is None else min(most_fitting, most)
        return sum([self.exactly(members, size, first) for members in range(max(0, least), last + 1)])


class BagRanks:
    """The indexes of the sets with a number of members within bounds, among those of their size."""

    def __init__(self, counts, least, most):
        self.counts = counts
        self.bags = Bags(counts)
        self.least = least
        self.most = most
        self.numbers = {}

    def following(self, placed, size, first):
        """In how many ways members of a size, none of them before a place, may follow so many."""
        key = (placed, size, first)
        if key not in self.numbers:
            most = None if self.most is None else self.most - placed
            self.numbers[key] = self.bags.within(self.least - placed, most, size, first)
        return self.numbers[key]

    def index_of(self, places):
        """The index of the set whose members have these places, in order."""
        index = 0
        size = sum([at for at, _ in places])
        last = (1, 0)
        for placed, place in enumerate(places):
            index += self.following(placed, size, last) - self.following(placed, size, place)
            size -= place[0]
            last = place
        return index

    def places_at(self, size, index):
        """The places of the members of the set of a size with an index, in order."""
        places = []
        last = (1, 0)
        rest = size
        left = self.following(0, size, last) - index
        while rest > 0:
            place = self.next_place(len(places), rest, last, left)
            # The sets with a greater place here come behind all that are meant from now on.
            left -= self.following(len(places), rest, (place[0], place[1] + 1))
            places.append(place)
            rest -= place[0]
            last = place
        return places

    def next_place(self, placed, size, last, left):
        """The greatest place, not before the last one, from which on so many sets at least are left."""
        at = greatest(last[0], size, lambda found: self.following(placed, size, (found, 0)) >= left)
        high = self.counts[at] - 1
        return (at, greatest(0, high, lambda found: self.following(placed, size, (at, found)) >= left))
