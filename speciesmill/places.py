"""Places: pairs (size, index) that stand for unlabelled structures with given counts."""

from speciesmill.errors import BadCounts, BadPlace
from speciesmill.helpers import is_whole
from speciesmill.series import check_counts


def check_member_counts(counts):
    """Raises BadCounts if a value is not counts of members, of which none has the size 0."""
    check_counts(counts)
    if counts[0] != 0:
        raise BadCounts("there are members of size 0")


def check_number(counts, value):
    """Raises BadPlace if a value is not an integer from 0 to the last index of the counts."""
    if not is_whole(value) or not 0 <= value < len(counts):
        raise BadPlace("this is not an integer from 0 to the last index of the counts")


def check_place(counts, value):
    """Raises BadPlace if a value is not a place that exists."""
    if not isinstance(value, tuple) or len(value) != 2:
        raise BadPlace("a place is a pair")
    size, index = value
    check_number(counts, size)
    if not is_whole(index) or not 0 <= index < counts[size]:
        raise BadPlace("there is no place with this index")
