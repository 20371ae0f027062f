"""Slow and plain ways to find what the program finds: for small sizes, as the document defines it."""

import itertools
import math
import random

from speciesmill.founded import emptyable, fault
from speciesmill.spec import Spec

MANY = ("row", "set", "ring")


def is_empty(spec, expression):
    """Whether there is a structure without atoms."""
    word = expression[0]
    if word == "name":
        return expression[1] in emptyable(spec)
    if word == "or":
        return is_empty(spec, expression[1]) or is_empty(spec, expression[2])
    if word == "and":
        return is_empty(spec, expression[1]) and is_empty(spec, expression[2])
    if word in MANY:
        return expression[2] == 0 or is_empty(spec, expression[1])
    return word == "one"


def splits(labels):
    """All ways to share labels among two."""
    for many in range(len(labels) + 1):
        for first in itertools.combinations(labels, many):
            yield first, tuple(label for label in labels if label not in first)


def rows(spec, expression, labels, members):
    """All rows of so many structures of an expression on the labels."""
    if members == 0:
        return [()] if not labels else []
    if members == 1:
        return [(one,) for one in all_on(spec, expression, labels)]
    found = []
    for first, rest in splits(labels):
        if first and rest:
            heads = all_on(spec, expression, first)
            tails = rows(spec, expression, rest, members - 1) if heads else []
            found.extend((head,) + tail for head in heads for tail in tails)
    return found


def all_on(spec, expression, labels):
    """All labelled structures of an expression on a tuple of labels, in no certain order."""
    word = expression[0]
    if word in ("none", "one"):
        return [("one",)] if word == "one" and not labels else []
    if word == "atom":
        return [("atom", labels[0])] if len(labels) == 1 else []
    if word == "name":
        return all_on(spec, spec.expression(expression[1]), labels)
    if word == "or":
        left = [("left", one) for one in all_on(spec, expression[1], labels)]
        return left + [("right", one) for one in all_on(spec, expression[2], labels)]
    if word == "and":
        found = []
        for first, second in splits(labels):
            if (first or is_empty(spec, expression[1])) and (second or is_empty(spec, expression[2])):
                ways = itertools.product(all_on(spec, expression[1], first), all_on(spec, expression[2], second))
                found.extend(("and", one, other) for one, other in ways)
        return found
    found = set()
    for members in range(expression[2], max(len(labels), 1) + 1):
        if expression[3] is None or members <= expression[3]:
            found.update(plain_form((word, row)) for row in rows(spec, expression[1], labels, members))
    return list(found)


def atoms(structure):
    """The atoms, in the order in which they stand."""
    if structure[0] == "atom":
        return [structure]
    parts = structure[1] if structure[0] in MANY else structure[1:]
    return [atom for part in parts for atom in atoms(part)]


def labels(structure):
    return tuple(sorted(label for atom in atoms(structure) for label in atom[1:]))


def weight(structure):
    return (len(atoms(structure)), labels(structure))


def key(structure):
    """The key, word for word as the document tells it."""
    word = structure[0]
    if word in ("one", "atom"):
        return ()
    if word in ("left", "right"):
        return (0 if word == "left" else 1, key(structure[1]))
    if word == "and":
        return (weight(structure[1]), key(structure[1]), key(structure[2]))
    members = tuple((weight(member), key(member)) for member in structure[1])
    if word == "ring" and labels(structure) == ():
        return (len(members), members)
    return members


def plain_form(structure):
    """The structure with its members in order, word for word as the document tells it."""
    word = structure[0]
    if word in ("one", "atom"):
        return structure
    if word not in MANY:
        return (word,) + tuple(plain_form(part) for part in structure[1:])
    members = tuple(plain_form(member) for member in structure[1])
    if len(members) < 2 or word == "row":
        return (word, members)
    if word == "set":
        if labels(structure):
            return (word, tuple(sorted(members, key=lambda member: labels(member)[0])))
        return (word, tuple(sorted(members, key=lambda member: (weight(member)[0], key(member)))))
    turns = [members[at:] + members[:at] for at in range(len(members))]
    if labels(structure):
        return (word, min(turns, key=lambda turn: labels(turn[0])[0]))
    return (word, min(turns, key=lambda turn: tuple((weight(member)[0], key(member)) for member in turn)))


def erased(structure):
    """The structure without its labels."""
    return plain_form(without_labels(structure))


def without_labels(structure):
    word = structure[0]
    if word in ("one", "atom"):
        return (word,)
    if word in MANY:
        return (word, tuple(without_labels(member) for member in structure[1]))
    return (word,) + tuple(without_labels(part) for part in structure[1:])


def groups(spec, expression, size):
    """For each unlabelled structure of a size the number of standard ones from which it comes."""
    found = {}
    for structure in all_on(spec, expression, tuple(range(1, size + 1))):
        plain = erased(structure)
        found[plain] = found.get(plain, 0) + 1
    return found


def three_counts(spec, expression, most):
    """The labelled, the unlabelled and the rigid counts."""
    labelled, unlabelled, rigid = [], [], []
    for size in range(most + 1):
        found = groups(spec, expression, size)
        labelled.append(sum(found.values()))
        unlabelled.append(len(found))
        rigid.append(sum(1 for many in found.values() if many == math.factorial(size)))
    return labelled, unlabelled, rigid


def mixed(structure, source):
    """A structure with the members of its sets in another order and its rings turned."""
    word = structure[0]
    if word in ("one", "atom"):
        return structure
    if word not in MANY:
        return (word,) + tuple(mixed(part, source) for part in structure[1:])
    members = [mixed(member, source) for member in structure[1]]
    if word == "set":
        source.shuffle(members)
    elif word == "ring":
        first = source.randrange(len(members))
        members = members[first:] + members[:first]
    return (word, tuple(members))


def random_expression(source, names, levels):
    """An expression with some of the names; most of them are small."""
    word = source.choice(["none", "one", "atom", "atom", "name", "name", "or", "or", "and", "and", "row", "set", "ring"])
    if levels == 0 and word not in ("none", "one", "name"):
        word = "atom"
    if word in ("none", "one", "atom"):
        return (word,)
    if word == "name":
        return (word, source.choice(names))
    if word in ("or", "and"):
        return (word, random_expression(source, names, levels - 1), random_expression(source, names, levels - 1))
    least = source.choice([0, 0, 1, 2]) if word != "ring" else source.choice([1, 1, 2])
    most = source.choice([None, None, least, least + 1, least + 2])
    return (word, random_expression(source, names, levels - 1), least, most)


def random_specs(seed, many, levels=3):
    """Some well-founded specifications of one to three names, the same ones for the same seed."""
    source = random.Random(seed)
    found = []
    while len(found) < many:
        names = ["A", "B", "C"][: source.randint(1, 3)]
        spec = Spec({name: random_expression(source, names, levels) for name in names})
        if fault(spec) is None:
            found.append(spec)
    return found


def moved(structure, images):
    """The structure to which a permutation of 1, 2 and so on, told by its images, moves a labelled one."""
    word = structure[0]
    if word == "one":
        return structure
    if word == "atom":
        return ("atom", images[structure[1] - 1])
    if word in MANY:
        return plain_form((word, tuple(moved(member, images) for member in structure[1])))
    return (word,) + tuple(moved(part, images) for part in structure[1:])


def permutations(size):
    return list(itertools.permutations(range(1, size + 1)))


def kept(structures, images):
    """How many of some structures a permutation moves to themselves."""
    return sum(1 for structure in structures if moved(structure, images) == structure)


def cycle_lengths(images):
    """The lengths of the cycles of a permutation, the greatest first."""
    lengths = []
    left = set(range(1, len(images) + 1))
    while left:
        start = min(left)
        number, length = start, 0
        while number in left:
            left.remove(number)
            number = images[number - 1]
            length += 1
        lengths.append(length)
    return tuple(sorted(lengths, reverse=True))


def coloured(spec, expression, size, colours):
    """For each tuple of the numbers of atoms of each colour, the number of unlabelled structures with such colours."""
    structures = all_on(spec, expression, tuple(range(1, size + 1)))
    moves = [(images, {structure: moved(structure, images) for structure in structures}) for images in permutations(size)]
    found = {}
    seen = set()
    for structure in structures:
        for paint in itertools.product(range(colours), repeat=size):
            if (structure, paint) in seen:
                continue
            contents = tuple(paint.count(colour) for colour in range(colours))
            found[contents] = found.get(contents, 0) + 1
            for images, move in moves:
                # The atom with the label k comes to bear the label images[k - 1], and keeps its colour.
                repaint = [0] * size
                for at, image in enumerate(images):
                    repaint[image - 1] = paint[at]
                seen.add((move[structure], tuple(repaint)))
    return found


def product_of(first, second):
    """The product of two polynomials, by hand; it does not end with 0."""
    found = [0] * (len(first) + len(second))
    for at, one in enumerate(first):
        for to, other in enumerate(second):
            found[at + to] += one * other
    while found and found[-1] == 0:
        found.pop()
    return tuple(found)


def series_of(top, bottom, count):
    """The items of a division of polynomials, by hand: each time so much is taken away that the next one is 0."""
    rest = list(top) + [0] * (count + len(bottom))
    found = []
    for at in range(count):
        item = rest[at] // bottom[0]
        found.append(item)
        for to, other in enumerate(bottom):
            rest[at + to] -= item * other
        assert rest[at] == 0
    return found
