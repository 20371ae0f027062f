"""The indexes of structures, and the structures with given indexes, found by counting."""

from speciesmill.counts import Tally
from speciesmill.helpers import more_than_one
from speciesmill.members import BagRanks
from speciesmill.sharing import sharing_of
from speciesmill.spec import MEMBER_WORDS
from speciesmill.tables import mode_of
from speciesmill.turns import Turns
from speciesmill.walk import inner_parts


class Ranker:
    """The structures of an expression up to a size, each told by its atoms and its index among those with them.

    The atoms are the labels in ascending order, or the size of an unlabelled structure. Structures may be nested
    deep; therefore no function calls itself.
    """

    def __init__(self, spec, expression, size, labelled):
        self.labelled = labelled
        self.sharing = sharing_of(labelled)
        self.tally = Tally(spec, mode_of(labelled))
        self.whole = self.tally.add_part(expression)
        self.tally.grow(size)
        self.rest_counts = {}
        self.bag_ranks = {}
        self.ring_turns = {}

    def many(self, size):
        """The number of structures of a size."""
        return self.whole.counts[size]

    def structure_at(self, labels, index):
        """The structure with these atoms that has an index."""
        steps = []
        todo = [(self.whole, labels, index)]
        while todo:
            part, atoms, at = todo.pop()
            head, inside = self.split(self.meant(part), atoms, at)
            steps.append((head, len(inside)))
            todo.extend([one for one in reversed(inside)])
        done = []
        for head, inner in reversed(steps):
            parts = [done.pop() for _ in range(inner)]
            done.append((head[0], tuple(parts)) if head[0] in MEMBER_WORDS else (*head, *parts))
        return done[0]

    def index_of(self, structure):
        """The index of a structure."""
        steps = []
        todo = [(self.whole, structure)]
        while todo:
            named, inner = todo.pop()
            part = self.meant(named)
            steps.append((part, inner))
            todo.extend([one for one in reversed(inside_of(part, inner))])
        done = []
        for part, inner in reversed(steps):
            done.append(self.joined(part, inner, [done.pop() for _ in inner_parts(inner)]))
        _, index = done[0]
        return index

    def meant(self, part):
        """The part for which a name stands, or the part itself."""
        found = part
        while found.formula[0] == "name":
            found = self.tally.roots[found.formula[1]]
        return found

    def split(self, part, labels, index):
        """The begin of the structure of a part with an index, and the part, the atoms and the index of each in it."""
        word = part.formula[0]
        if word == "atom":
            return (("atom", *labels) if self.labelled else ("atom",), [])
        if word == "or":
            left = part.inner[0].counts[self.sharing.size_of(labels)]
            if index < left:
                return (("left",), [(part.inner[0], labels, index)])
            return (("right",), [(part.inner[1], labels, index - left)])
        if word == "and":
            first, second = part.inner
            one, at, other, rest = self.split_pair(labels, index, first.counts, second.counts, 0)
            return (("and",), [(first, one, at), (second, other, rest)])
        if word in MEMBER_WORDS:
            members = self.split_members(part, labels, index)
            return ((word,), [(part.inner[0], atoms, at) for atoms, at in members])
        return (("one",), [])

    def joined(self, part, structure, results):
        """The atoms and the index of a structure of a part, from the list of those in it."""
        word = structure[0]
        if word == "one":
            return (self.sharing.nothing, 0)
        if word == "atom":
            return (structure[1:] if self.labelled else 1, 0)
        if word == "left":
            return results[0]
        if word == "right":
            labels, index = results[0]
            return (labels, index + part.inner[0].counts[self.sharing.size_of(labels)])
        if word == "and":
            return self.join_pair(results[0], results[1], part.inner[0].counts, part.inner[1].counts, 0)
        return self.join_members(part, results)

    def split_pair(self, labels, index, firsts, seconds, held):
        """The atoms and the index of the first part and of the second one, from counts of both."""
        size = self.sharing.size_of(labels)
        many = held
        rest = index
        block = self.pairs(size, many, firsts, seconds, held)
        while rest >= block:
            rest -= block
            many += 1
            block = self.pairs(size, many, firsts, seconds, held)
        share, inner = divmod(rest, firsts[many] * seconds[size - many])
        one, other = self.sharing.share_at(labels, many, held, share)
        first, second = divmod(inner, seconds[size - many])
        return (one, first, other, second)

    def join_pair(self, first, second, firsts, seconds, held):
        """The atoms and the index of a pair, from those of both parts, and from counts of both."""
        labels = self.sharing.joined(first[0], second[0])
        size = self.sharing.size_of(labels)
        many = self.sharing.size_of(first[0])
        before = sum([self.pairs(size, fewer, firsts, seconds, held) for fewer in range(held, many)])
        share = self.sharing.share_index(labels, first[0], held)
        return (labels, before + (share * firsts[many] + first[1]) * seconds[size - many] + second[1])

    def pairs(self, size, many, firsts, seconds, held):
        """The number of pairs with so many atoms in the first part."""
        return self.sharing.ways(size, many, held) * firsts[many] * seconds[size - many]

    def split_members(self, part, labels, index):
        """The atoms and the index of each member of the row, set or ring with an index."""
        word, _, least, most = part.formula
        size = self.sharing.size_of(labels)
        if size == 0 or not more_than_one(most):
            empty = 1 if size == 0 and least == 0 else 0
            return [(labels, index - empty)] if index >= empty else []
        if word == "set" and not self.labelled:
            return self.bags_of(part).places_at(size, index)
        if word == "ring" and not self.labelled:
            return self.ring_at(part, size, index)
        members = []
        left = labels
        rest = index
        while self.sharing.size_of(left) > 0:
            held = held_of(word, len(members))
            seconds = self.rests_of(part, len(members) + 1)
            one, at, left, rest = self.split_pair(left, rest, part.inner[0].counts, seconds, held)
            members.append((one, at))
        return members

    def join_members(self, part, results):
        """The atoms and the index of a row, set or ring, from those of its members."""
        word, _, least, most = part.formula
        if not results:
            return (self.sharing.nothing, 0)
        if not more_than_one(most):
            labels, index = results[0]
            return (labels, index + (1 if self.sharing.size_of(labels) == 0 and least == 0 else 0))
        if word == "set" and not self.labelled:
            return (sum([size for size, _ in results]), self.bags_of(part).index_of(results))
        if word == "ring" and not self.labelled:
            return self.ring_index(part, results)
        rest = (self.sharing.nothing, 0)
        for at in range(len(results) - 1, -1, -1):
            seconds = self.rests_of(part, at + 1)
            rest = self.join_pair(results[at], rest, part.inner[0].counts, seconds, held_of(word, at))
        return rest

    def rests_of(self, part, placed):
        """For each size the number of ways in which members of it follow so many."""
        key = (part, placed)
        if key not in self.rest_counts:
            sizes = range(len(part.counts))
            self.rest_counts[key] = [part.members.rests(placed, part.formula[2], size) for size in sizes]
        return self.rest_counts[key]

    def bags_of(self, part):
        """The ranks of the unlabelled sets of a part."""
        if part not in self.bag_ranks:
            self.bag_ranks[part] = BagRanks(part.inner[0].counts, part.formula[2], part.formula[3])
        return self.bag_ranks[part]

    def turns_of(self, part):
        """The ranks of the unlabelled rings of a part."""
        if part not in self.ring_turns:
            self.ring_turns[part] = Turns(part.inner[0].counts)
        return self.ring_turns[part]

    def ring_at(self, part, size, index):
        """The places of the members of the unlabelled ring with an index."""
        members = part.formula[2]
        rest = index
        while rest >= part.members.exactly(members, size):
            rest -= part.members.exactly(members, size)
            members += 1
        return self.turns_of(part).places_at(members, size, rest)

    def ring_index(self, part, places):
        """The size and the index of an unlabelled ring, from the places of its members."""
        size = sum([at for at, _ in places])
        fewer = [part.members.exactly(members, size) for members in range(part.formula[2], len(places))]
        return (size, sum(fewer) + self.turns_of(part).rings_before(tuple(places), size))


def inside_of(part, structure):
    """The pairs of an inner part and a structure of it for all that stands directly in a structure of a part."""
    if structure[0] == "and":
        return [(part.inner[0], structure[1]), (part.inner[1], structure[2])]
    if structure[0] == "right":
        return [(part.inner[1], structure[1])]
    return [(part.inner[0], inner) for inner in inner_parts(structure)]


def held_of(word, placed):
    """How many of the least labels the next member has in any case, if so many stand before it."""
    return 1 if word == "set" or (word == "ring" and placed == 0) else 0
