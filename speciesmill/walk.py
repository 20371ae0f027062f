"""Ways through structures, which may be nested far deeper than functions may call themselves."""

from speciesmill.spec import MEMBER_WORDS

# In a flat row an end is less than a beginning and than any number, as a tuple is less than a longer one.
_END = 0
_BEGIN = 1
_NUMBERS = 2


def inner_parts(structure):
    """The structures that stand directly in a structure, in order."""
    word = structure[0]
    if word in MEMBER_WORDS:
        return structure[1]
    if word in ("one", "atom"):
        return ()
    return structure[1:]


def with_parts(structure, parts):
    """The structure that has other structures directly in it, in a list, and is alike otherwise."""
    word = structure[0]
    if word in MEMBER_WORDS:
        return (word, tuple(parts))
    if word in ("one", "atom"):
        return structure
    return (word, *parts)


def atoms_of(structure):
    """The atoms of a structure, in the order in which they stand in the tuple."""
    atoms = []
    todo = [structure]
    while todo:
        part = todo.pop()
        if part[0] == "atom":
            atoms.append(part)
        todo.extend([inner for inner in reversed(inner_parts(part))])
    return atoms


def folded(structure, made):
    """What a function makes of a structure and of the list of what it made of the parts in it, from within."""
    done = []
    todo = [(structure, False)]
    while todo:
        part, ready = todo.pop()
        inner = inner_parts(part)
        if ready:
            first = len(done) - len(inner)
            results = done[first:]
            del done[first:]
            done.append(made(part, results))
        else:
            todo.append((part, True))
            todo.extend([(one, False) for one in reversed(inner)])
    return done[0]


def with_atoms(structure, atoms):
    """The structure with other atoms, from a list, in the places in which its atoms stand in the tuple."""
    left = [atom for atom in reversed(atoms)]
    return folded(structure, lambda part, parts: left.pop() if part[0] == "atom" else with_parts(part, parts))


def flat(nested):
    """The numbers in nested tuples as one list. Two such lists compare as the nested tuples do."""
    row = []
    todo = [nested]
    while todo:
        part = todo.pop()
        if part is None:
            row.append(_END)
        elif isinstance(part, tuple):
            row.append(_BEGIN)
            todo.append(None)
            todo.extend([one for one in reversed(part)])
        else:
            row.append(_NUMBERS + part)
    return row
