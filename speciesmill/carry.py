"""Structures carried from one specification to another one by their index."""

from speciesmill.errors import BadIndex, NoPartner
from speciesmill.rank import index_of, structure_at
from speciesmill.structure import size_of


def carried(first, name, second, other, structure):
    """The unlabelled structure of the other name with the same size and index as a structure of the first name."""
    index = index_of(first, name, structure)
    try:
        return structure_at(second, other, size_of(structure), index, False)
    except BadIndex:
        raise NoPartner("there are not so many structures of the other name") from None
