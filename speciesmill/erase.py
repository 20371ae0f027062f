"""Structures with other labels, and without labels."""

from speciesmill.checks import check_labels
from speciesmill.errors import BadLabels
from speciesmill.helpers import is_whole
from speciesmill.structure import one_form
from speciesmill.walk import atoms_of, with_atoms


def renamed(structure, names):
    """The structure in which each label is replaced by the number that a dict gives it, in its one form."""
    labels = _labels_in_place(structure)
    if not isinstance(names, dict) or any([label not in names for label in labels]):
        raise BadLabels("this is not a dict with a number for each label")
    numbers = [names[label] for label in labels]
    if any([not is_whole(number) or number < 1 for number in numbers]) or len(set(numbers)) < len(numbers):
        raise BadLabels("the labels do not get different integers from 1 on")
    return one_form(_with_labels(structure, numbers))


def on_labels(structure, labels):
    """The structure on other labels: the least one becomes the first of them, and so on."""
    present = _labels_in_place(structure)
    check_labels(labels)
    if len(labels) != len(present):
        raise BadLabels("there are not as many labels as atoms")
    # The order of the labels stays as it is, therefore so does that of the members of sets and rings.
    names = dict(zip(sorted(present), labels))
    return _with_labels(structure, [names[label] for label in present])


def standard(structure):
    """The structure on the labels 1, 2 and so on, in the order of its own labels."""
    return on_labels(structure, tuple(range(1, len(atoms_of(structure)) + 1)))


def erased(structure):
    """The unlabelled structure that comes from a structure."""
    return one_form(with_atoms(structure, [("atom",) for _ in atoms_of(structure)]))


def labelled_from(structure):
    """A standard structure that comes from an unlabelled one: its atoms get the labels as they stand."""
    many = len(atoms_of(structure))
    return one_form(_with_labels(structure, list(range(1, many + 1))))


def _labels_in_place(structure):
    """The labels in the order in which they stand; raises BadLabels if the structure has atoms without labels."""
    atoms = atoms_of(structure)
    if any([len(atom) == 1 for atom in atoms]):
        raise BadLabels("the structure is unlabelled and has atoms")
    return [label for _, label in atoms]


def _with_labels(structure, labels):
    """The structure with labels from a list, in the order in which the atoms stand."""
    return with_atoms(structure, [("atom", label) for label in labels])
