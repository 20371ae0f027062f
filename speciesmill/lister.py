"""All structures of an expression, made from the lists of their parts."""

from speciesmill.helpers import more_than_one
from speciesmill.members import Bags
from speciesmill.sharing import sharing_of
from speciesmill.unlabelled import RingRows, SetRows


class Lister:
    """The lists of the structures of parts, and of rows of members, whose counts are told.

    A list has as its key a part, a number of members, and the labels of its structures, or for unlabelled ones their
    size. The number is None for the structures of the part; else the list is that of the rows of members that may
    follow so many members. Only such lists are asked for of which each item stands in a structure that is wanted.

    Structures may be nested deep. Therefore no list is made while another one is: it waits until all are there that
    it is made from.
    """

    def __init__(self, tally, labelled):
        self.tally = tally
        self.labelled = labelled
        self.sharing = sharing_of(labelled)
        self.lists = {}
        self.missing = []

    def structures(self, part, labels):
        """The list of the structures of a part, in order; there may be none."""
        if part.counts[self.sharing.size_of(labels)] == 0:
            return []
        return self.told((part, None, labels))

    def asked(self, part, labels):
        """As structures, while another list is made."""
        if part.counts[self.sharing.size_of(labels)] == 0:
            return []
        return self.ask((part, None, labels))

    def told(self, key):
        """The list with a key. Those that it is made from are made first."""
        todo = [key]
        while todo:
            next_key = todo[-1]
            if next_key in self.lists:
                todo.pop()
                continue
            self.missing = []
            made = self.made(next_key)
            if self.missing:
                todo.extend(self.missing)
            else:
                self.lists[next_key] = made
        return self.lists[key]

    def ask(self, key):
        """The list with a key. If it is not there yet, it is missed, and what is made now will be made again."""
        if key in self.lists:
            return self.lists[key]
        self.missing.append(key)
        return []

    def made(self, key):
        """The list with a key, if there is a structure or row at all."""
        part, placed, labels = key
        word = part.formula[0]
        if placed is not None:
            return self.rows(part, placed, labels)
        if word == "one":
            return [("one",)]
        if word == "atom":
            return [("atom", *labels)] if self.labelled else [("atom",)]
        if word == "name":
            return self.asked(self.tally.roots[part.formula[1]], labels)
        if word == "or":
            left = [("left", one) for one in self.asked(part.inner[0], labels)]
            return left + [("right", one) for one in self.asked(part.inner[1], labels)]
        if word == "and":
            return self.pairs(part, labels)
        return [(word, members) for members in self.member_rows(part, labels)]

    def pairs(self, part, labels):
        """The structures of an "and", in order."""
        first, second = part.inner
        size = self.sharing.size_of(labels)
        found = []
        for many in range(size + 1):
            if first.counts[many] > 0 and second.counts[size - many] > 0:
                for one, other in self.sharing.all_shares(labels, many, 0):
                    left = self.asked(first, one)
                    right = self.asked(second, other)
                    found.extend([("and", a, b) for a in left for b in right])
        return found

    def member_rows(self, part, labels):
        """The tuples of members of all rows, sets or rings of a part, in order."""
        word, _, least, most = part.formula
        size = self.sharing.size_of(labels)
        if not more_than_one(most):
            empty = [()] if least == 0 and size == 0 else []
            return empty + ([(one,) for one in self.asked(part.inner[0], labels)] if most == 1 else [])
        if word == "row" or self.labelled:
            return self.rows(part, 0, labels)
        return self.unlabelled(part, size)

    def rows(self, part, placed, labels):
        """The tuples of members that may follow so many in a row, or in a labelled set or ring."""
        word, _, least, most = part.formula
        size = self.sharing.size_of(labels)
        if size == 0:
            return [()]
        inner = part.inner[0]
        # The first member of a set, and of a ring, has the least label of all.
        held = 1 if word == "set" or (word == "ring" and placed == 0) else 0
        # Without an upper bound, all is alike from the least number on: the same lists serve again.
        next_placed = placed + 1 if most is not None else min(placed + 1, least)
        found = []
        for many in range(1, size + 1):
            if inner.counts[many] > 0 and part.members.rests(next_placed, least, size - many) > 0:
                for one, other in self.sharing.all_shares(labels, many, held):
                    firsts = self.asked(inner, one)
                    tails = self.ask((part, next_placed, other))
                    found.extend([(a, *tail) for a in firsts for tail in tails])
        return found

    def unlabelled(self, part, size):
        """The tuples of members of all unlabelled sets or rings of a part and a size."""
        word, _, least, most = part.formula
        inner = part.inner[0]
        sizes = [at for at in range(1, size + 1) if part.members.rests(1, least, size - at) > 0]
        lists = {at: self.asked(inner, at) for at in sizes}
        if self.missing:
            return []
        bags = Bags(inner.counts)
        if word == "set":
            return SetRows(lists, bags, least, most).listed(size)
        found = []
        for many in range(least, (size if most is None else min(size, most)) + 1):
            found.extend(RingRows(lists, bags, many).listed(size))
        return found
