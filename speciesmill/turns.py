"""Rows and rings without labels, whose members are told by their places: pairs of a size and an index.

The turns of a row are the rows that are read from each of its members around.
"""

from math import gcd

from speciesmill.errors import BadPlace
from speciesmill.helpers import divisors, greatest, totient, turns_of
from speciesmill.places import check_member_counts, check_number, check_place
from speciesmill.tables import UNLABELLED, Members

LONGEST_ROW = 30


def turns_from(counts, row, size):
    """The number of rows with as many members as a row, and with a size, of whose turns none comes before it."""
    _check(counts, row, size)
    return Turns(counts).rows_from(row, size)


def rings_before(counts, row, size):
    """The number of rings with as many members as a row, and with a size, whose least turn comes before it."""
    _check(counts, row, size)
    return Turns(counts).rings_before(row, size)


def _check(counts, row, size):
    """Raises BadCounts and BadPlace for arguments that are none."""
    check_member_counts(counts)
    check_number(counts, size)
    if not isinstance(row, tuple) or not 1 <= len(row) <= LONGEST_ROW:
        raise BadPlace(f"a row is a tuple of 1 to {LONGEST_ROW} places")
    for place in row:
        check_place(counts, place)


class Reader:
    """Reads places and knows how much of the begin of a row was read last.

    Its state is the greatest number of the first places of the row that were read last. `places[s]` is the least
    place that may be read in the state s, so that nothing before the row is read; `states[s]` is the state that comes
    then. Behind each greater place the state is 0.
    """

    def __init__(self, row):
        self.row = row
        self.borders = self.begins_that_end()
        self.places = []
        self.states = []
        for state in range(len(row) + 1):
            lengths = self.lengths_read(state)
            self.places.append(max([row[length] for length in lengths]))
            self.states.append(1 + max([length for length in lengths if row[length] == self.places[state]]))

    def begins_that_end(self):
        """For each begin of the row, by its length, the length of the greatest shorter begin with which it ends."""
        borders = [0, 0]
        for length in range(2, len(self.row) + 1):
            border = borders[length - 1]
            while border > 0 and self.row[border] != self.row[length - 1]:
                border = borders[border]
            borders.append(border + 1 if self.row[border] == self.row[length - 1] else 0)
        return borders

    def after(self, state, steps):
        """The state after so many least places are read, and the sum of their sizes."""
        size = 0
        for _ in range(steps):
            size += self.places[state][0]
            state = self.states[state]
        return (state, size)

    def lengths_read(self, state):
        """The numbers of first places, less than all, that were read last in a state."""
        lengths = []
        length = state
        while length > 0:
            if length < len(self.row):
                lengths.append(length)
            length = self.borders[length]
        return [*lengths, 0]


class Turns:
    """How many rows and rings of members with given counts there are, and which rings they are."""

    def __init__(self, counts):
        self.counts = counts
        rows = Members("row", None, counts, UNLABELLED)
        for _ in counts:
            rows.grow()
        self.row_counts = rows.table
        self.before = {}

    def rows_from(self, row, size):
        """As turns_from.

        A row that is read around ends in the state in which it began. Either no place in it is behind the least one
        that may be read then, or it consists of runs, each of which is some least places and a place behind.
        """
        spare = size - len(row)
        if spare < 0:
            return 0
        reader = Reader(row)
        width = self.width(len(row), size)
        runs = self.runs(reader, spare, width)
        chains = chains_of(runs, width * (spare + 1))
        # The row may begin with each place of its first run.
        ways = sum([length * runs[length] * chains[len(row) - length] for length in range(1, len(row) + 1)])
        total = digit(ways, spare, width)
        for state in range(len(row) + 1):
            if reader.after(state, len(row)) == (state, size):
                total += 1
        return total

    def width(self, members, size):
        """How many bits each number of rows of up to so many members and such a size has at most."""
        return max([max(row[:size + 1]) for row in self.row_counts[:members + 1]]).bit_length()

    def runs(self, reader, spare, width):
        """For each number of places the counts of the runs of so many places, from the state 0.

        Each place has the size 1 at least. Therefore it is told how many there are of each size beyond the number of
        their places, up to as much as there is to spare. The counts are the digits of one number, each of so many
        bits: the digits of a sum or product of such numbers are the counts of what is one or the other, or both.
        """
        runs = [0]
        state = 0
        skipped = 0
        for _ in reader.row:
            least, index = reader.places[state]
            run = 0
            for beyond in range(least - 1, spare - skipped + 1):
                many = self.counts[beyond + 1] - (index + 1 if beyond + 1 == least else 0)
                run += many << (width * (beyond + skipped))
            runs.append(run)
            skipped += least - 1
            state = reader.states[state]
        return runs

    def rings_before(self, row, size):
        """As the function."""
        key = (row, size)
        if key not in self.before:
            total = 0
            for times in divisors(gcd(len(row), size)):
                total += totient(times) * self.rows_before(row, times, size // times)
            self.before[key] = total // len(row)
        return self.before[key]

    def rows_before(self, row, times, size):
        """The number of rows of a size that come, so many times, from a least turn before a row."""
        begin = row[:len(row) // times]
        if size < len(begin):
            return 0
        before = self.row_counts[len(begin)][size] - self.rows_from(begin, size)
        turns = turns_of(begin)
        # A row of which no turn is before the begin may still have the begin as its least turn.
        if sum([at for at, _ in begin]) == size and begin * times < row and min(turns) == begin:
            before += len(set(turns))
        return before

    def places_at(self, members, size, index):
        """The least turn of the ring of so many members and a size that has an index among these."""
        row = ()
        rest = size
        while len(row) < members:
            place = self.next_place(row, members, rest, index)
            row = (*row, place)
            rest -= place[0]
        return row

    def next_place(self, row, members, rest, index):
        """The place behind the begin of a row, in the row that places_at looks for, where a size is left over."""
        others = members - len(row) - 1
        smallest = row[0][0] if row else 1
        sizes = [at for at in range(smallest, rest - others * smallest + 1) if self.counts[at] > 0]
        size = rest + sum([at for at, _ in row])
        which = greatest(0, len(sizes) - 1, lambda found: self.begun((*row, (sizes[found], 0)), members, size) <= index)
        at = sizes[which]
        last = self.counts[at] - 1
        return (at, greatest(0, last, lambda found: self.begun((*row, (at, found)), members, size) <= index))

    def begun(self, begin, members, size):
        """The number of rings whose least turn comes before all rows that begin so."""
        least = min([at for at in range(len(self.counts)) if self.counts[at] > 0])
        first_places = [(least, 0)] * (members - len(begin))
        return self.rings_before((*begin, *first_places), size)


def chains_of(runs, bits):
    """For each number of places but the greatest the counts of the rows of runs, told as those of the runs are."""
    chains = [1]
    for many in range(1, len(runs) - 1):
        chain = sum([runs[length] * chains[many - length] for length in range(1, many + 1)])
        # Rows that are too great are left out, lest the numbers grow.
        chains.append(chain & ((1 << bits) - 1))
    return chains


def digit(number, at, width):
    """The digit of a number at a place, from 0 on, if the digits have so many bits."""
    return (number >> (width * at)) & ((1 << width) - 1)
