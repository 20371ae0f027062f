"""All structures of a kind and a size, in order."""

from speciesmill.checks import check_labels, check_members, check_names, check_size
from speciesmill.counts import Tally
from speciesmill.errors import BadStructure, TooMany
from speciesmill.lister import Lister
from speciesmill.spec import used
from speciesmill.structure import is_standard, is_structure, key_of, size_of
from speciesmill.tables import mode_of
from speciesmill.walk import flat

GREATEST_SIZE = 30
MOST_LISTED = 20000


def labelled_list(spec, name, size):
    """The standard structures of a name and a size."""
    check_names(spec, [name])
    check_size(size, GREATEST_SIZE)
    return _listed(spec, ("name", name), tuple(range(1, size + 1)), size, True)


def unlabelled_list(spec, name, size):
    """The unlabelled structures of a name and a size."""
    check_names(spec, [name])
    check_size(size, GREATEST_SIZE)
    return _listed(spec, ("name", name), size, size, False)


def labelled_on(spec, expression, labels):
    """The labelled structures of an expression whose labels are those of an ascending tuple."""
    check_labels(labels)
    _check(spec, expression, len(labels))
    return _listed(spec, expression, labels, len(labels), True)


def unlabelled_of(spec, expression, size):
    """The unlabelled structures of an expression and a size."""
    _check(spec, expression, size)
    return _listed(spec, expression, size, size, False)


def _check(spec, expression, size):
    """Raises what `counts_of` raises, for lists."""
    check_names(spec, used(expression))
    check_size(size, GREATEST_SIZE)
    check_members(spec, expression)


def _listed(spec, expression, labels, size, labelled):
    """The structures of an expression on labels, or of a size."""
    tally = Tally(spec, mode_of(labelled))
    part = tally.add_part(expression)
    tally.grow(size)
    if part.counts[size] > MOST_LISTED:
        raise TooMany(f"there are more than {MOST_LISTED} structures")
    return list(Lister(tally, labelled).structures(part, labels))


def next_one(spec, name, structure):
    """The structure that stands behind a standard or unlabelled one in its list, or None if it is the last one."""
    # What the lists raise for the specification and the name is_structure raises as well.
    labelled = is_structure(spec, ("name", name), structure, True)
    if labelled and not is_standard(structure):
        raise BadStructure("the labels are not 1, 2 and so on")
    if not labelled and not is_structure(spec, ("name", name), structure, False):
        raise BadStructure("this is not a structure of this name")
    size = size_of(structure)
    found = labelled_list(spec, name, size) if labelled else unlabelled_list(spec, name, size)
    after = _place_of(found, structure) + 1
    return found[after] if after < len(found) else None


def _place_of(found, structure):
    """The place of a structure in a list of structures that ascend by their keys."""
    key = flat(key_of(structure))
    low = 0
    high = len(found) - 1
    while low < high:
        middle = (low + high) // 2
        if flat(key_of(found[middle])) < key:
            low = middle + 1
        else:
            high = middle
    return low
