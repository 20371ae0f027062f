"""Sets and rings without labels, listed from the lists of their members."""


class SetRows:
    """The members of all sets within bounds. A member is told by its place: its size and its index in its list."""

    def __init__(self, lists, bags, least, most):
        self.lists = lists
        self.bags = bags
        self.least = least
        self.most = most
        self.sizes = {}

    def listed(self, size):
        """The tuples of members of all sets of a size, in order."""
        return self.listed_from(0, size, (1, 0))

    def listed_from(self, placed, size, place):
        """The tuples of members, from a place on, that may follow so many members; their size is told."""
        if size == 0:
            return [()]
        found = []
        for next_size in self.next_sizes(placed, size, place[0]):
            members = self.lists[next_size]
            for index in range(place[1] if next_size == place[0] else 0, len(members)):
                tails = self.listed_from(placed + 1, size - next_size, (next_size, index))
                found.extend([(members[index], *tail) for tail in tails])
        return found

    def next_sizes(self, placed, size, smallest):
        """The sizes, not below the smallest, that the next member may have so that others can follow.

        If others can follow one member of a size, then others can follow each: it may come again itself.
        """
        key = (placed, size, smallest)
        if key not in self.sizes:
            fitting = [at for at in range(smallest, size + 1) if self.has_rest(placed + 1, size - at, at)]
            self.sizes[key] = fitting
        return self.sizes[key]

    def has_rest(self, placed, size, smallest):
        """Whether members of a size in all, none of them below the smallest one, may follow so many."""
        most = None if self.most is None else self.most - placed
        return self.bags.within(self.least - placed, most, size, (smallest, 0)) > 0


class RingRows:
    """The members of all rings of one number of members. A member is told by its place, as in sets."""

    def __init__(self, lists, bags, members):
        self.lists = lists
        self.bags = bags
        self.members = members
        self.sizes = {}

    def listed(self, size):
        """The tuples of members of all rings of a size, in order."""
        rows = self.least_turns((), 1, size)
        return [tuple([self.lists[at][index] for at, index in row]) for row in rows]

    def least_turns(self, begin, period, size):
        """The rows of places that begin so and are their own least turns, with members of a size to follow.

        No turn of `begin` comes before it. It consists of its first places, as many as `period` says, again and
        again; the next place may not be less than the one that would come again.
        """
        if len(begin) == self.members:
            return [begin] if self.members % period == 0 else []
        found = []
        again = begin[len(begin) - period] if begin else (1, 0)
        smallest = begin[0][0] if begin else 1
        for next_size in self.next_sizes(self.members - len(begin), size, smallest):
            if next_size >= again[0]:
                for index in range(again[1] if next_size == again[0] else 0, len(self.lists[next_size])):
                    place = (next_size, index)
                    next_period = period if place == again else len(begin) + 1
                    found.extend(self.least_turns((*begin, place), next_period, size - next_size))
        return found

    def next_sizes(self, many, size, smallest):
        """The sizes that the first one of so many members may have, if none is below the smallest one."""
        key = (many, size, smallest)
        if key not in self.sizes:
            place = (smallest, 0)
            fitting = [at for at in range(smallest, size + 1) if self.bags.exactly(many - 1, size - at, place) > 0]
            self.sizes[key] = fitting
        return self.sizes[key]
