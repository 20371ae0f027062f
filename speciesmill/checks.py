"""The errors that many functions raise for a specification, its names and expressions, sizes and labels."""

from speciesmill.errors import BadCounts, BadLabels, NoSuchName, NotFounded, TooGreat
from speciesmill.founded import emptyable, fault, is_endless
from speciesmill.helpers import is_whole


def check_names(spec, names):
    """Raises NotFounded if a specification is not well-founded, and NoSuchName if a name is not there."""
    if fault(spec) is not None:
        raise NotFounded("the specification is not well-founded")
    there = spec.names()
    if any([name not in there for name in names]):
        raise NoSuchName("the specification has no such name")


def check_size(size, limit):
    """Raises TooGreat if a value is not an integer from 0 to a limit."""
    if not is_whole(size) or not 0 <= size <= limit:
        raise TooGreat(f"a size is an integer from 0 to {limit}")


def check_labels(labels):
    """Raises BadLabels if a value is not an ascending tuple of different integers from 1 on."""
    if not isinstance(labels, tuple) or any([not is_whole(label) or label < 1 for label in labels]):
        raise BadLabels("labels are a tuple of integers from 1 on")
    if any([labels[at] >= labels[at + 1] for at in range(len(labels) - 1)]):
        raise BadLabels("the labels do not ascend")


def check_members(spec, expression):
    """Raises BadCounts if an expression has a row, set or ring of several members that may be empty."""
    if is_endless(expression, emptyable(spec)):
        raise BadCounts("members of size 0 may stand in a row, set or ring several times")
