"""The index of a structure among all structures of its kind, and the structure with an index."""

from speciesmill.checks import check_labels, check_members, check_names, check_size
from speciesmill.errors import BadIndex, BadStructure, TooGreat
from speciesmill.helpers import is_whole
from speciesmill.ranker import Ranker
from speciesmill.sharing import all_atoms
from speciesmill.spec import used
from speciesmill.structure import is_structure, size_of

GREATEST_SIZE = 30
WIDEST_WINDOW = 1000


def structure_at(spec, name, size, index, labelled):
    """The standard or unlabelled structure of a name and a size that has an index."""
    check_names(spec, [name])
    check_size(size, GREATEST_SIZE)
    return _at(Ranker(spec, ("name", name), size, labelled), all_atoms(size, labelled), size, index)


def window(spec, name, size, first, many, labelled):
    """The structures of a name and a size with the indexes from a first one on; fewer if there are not so many."""
    check_names(spec, [name])
    check_size(size, GREATEST_SIZE)
    if not is_whole(first) or first < 0:
        raise BadIndex("the first index is not an integer from 0 on")
    if not is_whole(many) or not 0 <= many <= WIDEST_WINDOW:
        raise BadIndex(f"a window is for 0 to {WIDEST_WINDOW} structures")
    ranker = Ranker(spec, ("name", name), size, labelled)
    behind = min(first + many, ranker.many(size))
    return [ranker.structure_at(all_atoms(size, labelled), index) for index in range(first, behind)]


def labelled_at(spec, expression, labels, index):
    """The structure of an expression on labels that has an index."""
    _check(spec, expression)
    check_labels(labels)
    size = len(labels)
    check_size(size, GREATEST_SIZE)
    return _at(Ranker(spec, expression, size, True), labels, size, index)


def unlabelled_at(spec, expression, size, index):
    """The unlabelled structure of an expression and a size that has an index."""
    _check(spec, expression)
    check_size(size, GREATEST_SIZE)
    return _at(Ranker(spec, expression, size, False), size, size, index)


def index_of(spec, name, structure):
    """The index of a structure of a name, among those on its labels or the unlabelled ones of its size."""
    return index_in(spec, ("name", name), structure)


def index_in(spec, expression, structure):
    """The index of a structure of an expression, among those on its labels or the unlabelled ones of its size."""
    # What counts_of raises for the specification and the expression is_structure raises as well.
    labelled = is_structure(spec, expression, structure, True)
    if not labelled and not is_structure(spec, expression, structure, False):
        raise BadStructure("this is not a structure of this kind")
    size = size_of(structure)
    if size > GREATEST_SIZE:
        raise TooGreat(f"indexes are found for at most {GREATEST_SIZE} atoms")
    return Ranker(spec, expression, size, labelled).index_of(structure)


def _check(spec, expression):
    """Raises what `counts_of` raises for a specification and an expression."""
    check_names(spec, used(expression))
    check_members(spec, expression)


def _at(ranker, labels, size, index):
    """The structure with these atoms that has an index."""
    if not is_whole(index) or not 0 <= index < ranker.many(size):
        raise BadIndex("there are not so many structures")
    return ranker.structure_at(labels, index)
