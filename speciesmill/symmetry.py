"""How many renamings keep a structure, and the labelled structures that become the same when erased."""

from math import factorial

from speciesmill.errors import TooGreat
from speciesmill.helpers import turns_of
from speciesmill.spec import MEMBER_WORDS
from speciesmill.structure import key_of, size_of
from speciesmill.subsets import choices, shares
from speciesmill.walk import flat, folded

MOST_ATOMS = 7


class Sort:
    """All structures that become the same when erased: a word, and the numbers of the sorts of the parts."""

    def __init__(self, word, inner, size, kept):
        self.word = word
        self.inner = inner
        self.size = size
        self.kept = kept


class Sorts:
    """The sorts of a structure and of all that stands in it; each has a number, above those of its parts.

    Numbers are compared in the place of erased structures, which may be nested too deep to be compared.
    """

    def __init__(self, structure):
        self.sorts = []
        self.numbers = {}
        self.whole = folded(structure, lambda part, inner: self.number_of(part[0], inner))

    def number_of(self, word, parts):
        """The number of the sort of structures with a word and with parts of these sorts."""
        inner = tuple(parts)
        if word == "set":
            inner = tuple(sorted(parts))
        elif word == "ring":
            inner = min(turns_of(inner))
        key = (word, inner)
        if key not in self.numbers:
            self.numbers[key] = len(self.sorts)
            self.sorts.append(self.new_sort(word, inner))
        return self.numbers[key]

    def new_sort(self, word, inner):
        """The sort with a word and with parts of these sorts."""
        size = 1 if word == "atom" else 0
        kept = 1
        for number in inner:
            size += self.sorts[number].size
            kept = kept * self.sorts[number].kept
        if word == "set":
            for number in sorted(set(inner)):
                kept = kept * factorial(inner.count(number))
        elif word == "ring":
            kept = kept * turns_of(inner).count(inner)
        return Sort(word, inner, size, kept)


def symmetries(structure):
    """How many permutations of the labels leave a structure the same."""
    sorts = Sorts(structure)
    return sorts.sorts[sorts.whole].kept


def labellings(structure):
    """How many standard structures become the same unlabelled one as a structure."""
    return factorial(size_of(structure)) // symmetries(structure)


def all_labellings(structure):
    """The list of the standard structures that become the same unlabelled one as a structure, in order."""
    size = size_of(structure)
    if size > MOST_ATOMS:
        raise TooGreat(f"labellings are listed for at most {MOST_ATOMS} atoms")
    return Labellings(Sorts(structure), tuple(range(1, size + 1))).told()


class Labellings:
    """For each sort, and for each tuple of as many labels, the list of its structures, in order."""

    def __init__(self, sorts, labels):
        self.sorts = sorts
        self.labels = labels
        self.lists = {}

    def told(self):
        """The list of the whole structure, on all labels."""
        for number, sort in enumerate(self.sorts.sorts):
            for labels in choices(self.labels, sort.size):
                self.lists[(number, labels)] = self.made(sort, labels)
        return self.lists[(self.sorts.whole, self.labels)]

    def made(self, sort, labels):
        """The list of a sort, if those of its parts are there."""
        if sort.word == "atom":
            return [("atom", *labels)]
        if sort.word not in MEMBER_WORDS:
            return [(sort.word, *parts) for parts in self.rows("row", [sort.inner], labels)]
        options = turns_of(sort.inner) if sort.word == "ring" else [sort.inner]
        return [(sort.word, members) for members in self.rows(sort.word, options, labels)]

    def rows(self, word, options, labels):
        """The tuples of members whose sorts are those of one of the options, in order.

        The first member of a set or ring has the least label; the others of a ring are as a row.
        """
        rests = self.rests(word, options)
        if not rests:
            return [()]
        found = []
        held = 1 if word != "row" and labels else 0
        others = "set" if word == "set" else "row"
        for size in sorted(set([self.sorts.sorts[number].size for number in rests])):
            numbers = [number for number in rests if self.sorts.sorts[number].size == size]
            for first, second in shares(labels, size, held):
                tails = {number: self.rows(others, rests[number], second) for number in numbers}
                for member, number in self.merged(numbers, first):
                    found.extend([(member, *tail) for tail in tails[number]])
        return found

    def rests(self, word, options):
        """For each sort of which the first member may be, the options for the others."""
        rests = {}
        for option in options:
            for at, number in enumerate(option):
                rest = option[:at] + option[at + 1:]
                told = rests.get(number, [])
                if (at == 0 or word == "set") and rest not in told:
                    rests[number] = [*told, rest]
        return rests

    def merged(self, numbers, labels):
        """All structures of some sorts of one size on labels, in order, each beside the number of its sort."""
        found = [(structure, number) for number in numbers for structure in self.lists[(number, labels)]]
        if len(numbers) == 1:
            return found
        return sorted(found, key=lambda pair: flat(key_of(pair[0])))
