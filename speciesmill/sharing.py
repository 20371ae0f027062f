"""How the atoms of a structure are shared among two parts: labels, or, for unlabelled structures, their number."""

from math import comb

from speciesmill.subsets import shares, subset_at, subset_index


class LabelSharing:
    """The atoms are told by an ascending tuple of labels. The first ones that are held belong to the first part."""

    def __init__(self):
        self.nothing = ()

    def size_of(self, labels):
        """The number of atoms."""
        return len(labels)

    def joined(self, first, second):
        """The atoms of both parts."""
        return tuple(sorted([*first, *second]))

    def all_shares(self, labels, many, held):
        """All ways to give so many atoms to the first part, in order."""
        return shares(labels, many, held)

    def ways(self, size, many, held):
        """How many ways these are."""
        return comb(size - held, many - held)

    def share_at(self, labels, many, held, index):
        """The way with an index."""
        chosen = subset_at(len(labels) - held, many - held, index)
        first = [*labels[:held], *[labels[held + number - 1] for number in chosen]]
        return (tuple(first), tuple([label for label in labels if label not in first]))

    def share_index(self, labels, first, held):
        """The index of the way that gives some of the atoms to the first part."""
        chosen = [labels.index(label) - held + 1 for label in first[held:]]
        return subset_index(len(labels) - held, tuple(chosen))


class SizeSharing:
    """The atoms are told by their number. All is as with labels, but that there is just one way to share them."""

    def __init__(self):
        self.nothing = 0

    def size_of(self, labels):
        """The number of atoms."""
        return labels

    def joined(self, first, second):
        """The atoms of both parts."""
        return first + second

    def all_shares(self, labels, many, held):
        """All ways to give so many atoms to the first part, whatever is held."""
        return [(many, labels - many)]

    def ways(self, size, many, held):
        """How many ways these are."""
        return 1

    def share_at(self, labels, many, held, index):
        """The way with an index."""
        return (many, labels - many)

    def share_index(self, labels, first, held):
        """The index of the way that gives some of the atoms to the first part."""
        return 0


def sharing_of(labelled):
    """The way in which the atoms of labelled or unlabelled structures are shared."""
    return LabelSharing() if labelled else SizeSharing()


def all_atoms(size, labelled):
    """The atoms of the standard structures of a size, or of the unlabelled ones."""
    return tuple(range(1, size + 1)) if labelled else size
