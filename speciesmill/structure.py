"""Structures as tuples: their sizes, labels, keys and one form, and whether a value is one."""

from speciesmill.checks import check_members, check_names
from speciesmill.helpers import is_whole
from speciesmill.spec import MEMBER_WORDS, used
from speciesmill.walk import atoms_of, flat, folded, with_parts


def size_of(structure):
    """The number of atoms."""
    return len(atoms_of(structure))


def labels_of(structure):
    """The labels in ascending order; none for an unlabelled structure."""
    return tuple(sorted([label for atom in atoms_of(structure) for label in atom[1:]]))


def is_standard(structure):
    """Whether the labels are 1, 2 .. up to the size."""
    return labels_of(structure) == tuple(range(1, size_of(structure) + 1))


def key_of(structure):
    """The tuple by which structures of one expression with the same size and labels are put in order."""
    _, key = folded(structure, _pair_of)
    return key


def _pair_of(part, pairs):
    """The pair of the weight and the key of a part, from the list of those of the parts in it."""
    weight = _weight_of(part, pairs)
    return (weight, _key_of_part(part[0], weight, pairs))


def _weight_of(part, pairs):
    """The size and the labels of a part."""
    if part[0] == "atom":
        return (1, part[1:])
    labels = sorted([label for (_, inner), _ in pairs for label in inner])
    return (sum([size for (size, _), _ in pairs]), tuple(labels))


def _key_of_part(word, weight, pairs):
    """The key of a part with a word and a weight."""
    if word == "left":
        return (0, pairs[0][1])
    if word == "right":
        return (1, pairs[0][1])
    if word == "and":
        return (pairs[0][0], pairs[0][1], pairs[1][1])
    if word == "ring" and weight[1] == ():
        return (len(pairs), tuple(pairs))
    # Of "one" and of an atom there are no parts, and this is ().
    return tuple(pairs)


def one_form(structure):
    """The structure, with the members of all sets in their order, and with all rings begun where they begin."""
    formed, _ = folded(structure, _formed)
    return formed


def _formed(part, results):
    """The pair of a part in its one form, and of its weight and key, from the list of those in it."""
    places = list(range(len(results)))
    if part[0] == "set":
        places = _set_places([pair for _, pair in results])
    elif part[0] == "ring":
        places = _ring_places([pair for _, pair in results])
    parts = [results[place][0] for place in places]
    return (with_parts(part, parts), _pair_of(part, [results[place][1] for place in places]))


def _set_places(pairs):
    """The places of the members of a set in their order, from their weights and keys."""
    places = list(range(len(pairs)))
    if len(pairs) < 2:
        return places
    if _are_labelled(pairs):
        return sorted(places, key=lambda place: pairs[place][0][1][0])
    rows = [flat(pair) for pair in pairs]
    return sorted(places, key=lambda place: rows[place])


def _ring_places(pairs):
    """The places of the members of a ring from the one with which it begins, from their weights and keys."""
    places = list(range(len(pairs)))
    if len(pairs) < 2:
        return places
    if _are_labelled(pairs):
        first = min(places, key=lambda place: pairs[place][0][1][0])
    else:
        ranks = _ranks([flat(pair) for pair in pairs])
        first = min(places, key=lambda place: ranks[place:] + ranks[:place])
    return places[first:] + places[:first]


def _are_labelled(pairs):
    """Whether members with these weights and keys bear labels."""
    return len(pairs[0][0][1]) > 0


def _ranks(rows):
    """Numbers that compare as the given lists do."""
    ordered = sorted(rows)
    return [ordered.index(row) for row in rows]


def is_structure(spec, expression, value, labelled):
    """Whether a value, of any kind, is a structure of an expression, labelled or unlabelled."""
    check_names(spec, used(expression))
    check_members(spec, expression)
    if not _has_form(spec, expression, value, labelled):
        return False
    labels = labels_of(value)
    if len(set(labels)) != len(labels):
        return False
    # Keys tell different tuples of this form apart, wherever their sets and rings begin.
    return flat(key_of(value)) == flat(key_of(one_form(value)))


def _has_form(spec, expression, value, labelled):
    """Whether a value is a structure of an expression, but for the order of members and for equal labels."""
    todo = [(expression, value)]
    while todo:
        wanted, part = todo.pop()
        if wanted[0] == "name":
            todo.append((spec.expression(wanted[1]), part))
        elif not isinstance(part, tuple) or len(part) == 0 or not isinstance(part[0], str):
            return False
        elif wanted[0] in MEMBER_WORDS:
            if not _has_members(wanted, part):
                return False
            todo.extend([(wanted[1], member) for member in part[1]])
        elif wanted[0] == "or":
            if len(part) != 2 or part[0] not in ("left", "right"):
                return False
            todo.append((wanted[1] if part[0] == "left" else wanted[2], part[1]))
        elif wanted[0] == "and":
            if len(part) != 3 or part[0] != "and":
                return False
            todo.extend([(wanted[1], part[1]), (wanted[2], part[2])])
        elif not _is_plain(wanted, part, labelled):
            return False
    return True


def _has_members(wanted, part):
    """Whether a tuple has the form of a row, set or ring, with as many members as the bounds allow."""
    if len(part) != 2 or part[0] != wanted[0] or not isinstance(part[1], tuple):
        return False
    return len(part[1]) >= wanted[2] and (wanted[3] is None or len(part[1]) <= wanted[3])


def _is_plain(wanted, part, labelled):
    """Whether a tuple is a structure of "one" or "atom"; there is none of "none"."""
    if part[0] != wanted[0]:
        return False
    if wanted[0] == "one":
        return len(part) == 1
    if wanted[0] == "atom" and labelled:
        return len(part) == 2 and is_whole(part[1]) and part[1] > 0
    return wanted[0] == "atom" and len(part) == 1
