"""Structures drawn evenly, by digits that the caller brings."""

from speciesmill.checks import check_names, check_size
from speciesmill.errors import BadDigits, BadIndex, FewDigits, NoStructure
from speciesmill.helpers import is_whole
from speciesmill.rank import GREATEST_SIZE
from speciesmill.ranker import Ranker
from speciesmill.sharing import all_atoms

MOST_DRAWN = 1000
MOST_DIGITS = 1000


def index_by_digits(count, digits):
    """The pair of an index below a count and the number of digits that tell it; None if there are too few."""
    _check_digits(digits)
    _check_count(count)
    return _told_index(count, digits, 0)


def telling_rows(count, most):
    """For each number of digits up to a greatest one: how many rows of just so many digits tell one index."""
    _check_count(count)
    if not is_whole(most) or not 0 <= most <= MOST_DIGITS:
        raise BadIndex(f"a greatest number of digits is from 0 to {MOST_DIGITS}")
    numbers = []
    rest = 1
    for _ in range(most + 1):
        numbers.append(rest // count)
        rest = 2 * (rest % count)
    return numbers


def draw(spec, name, size, digits, labelled):
    """The pair of a drawn structure of a name and a size, and the number of digits read."""
    found, read = draws(spec, name, size, 1, digits, labelled)
    return (found[0], read)


def draws(spec, name, size, many, digits, labelled):
    """The pair of the list of so many drawn structures of a name and a size, and the number of digits read."""
    check_names(spec, [name])
    check_size(size, GREATEST_SIZE)
    if not is_whole(many) or not 0 <= many <= MOST_DRAWN:
        raise BadIndex(f"0 to {MOST_DRAWN} structures are drawn")
    _check_digits(digits)
    ranker = Ranker(spec, ("name", name), size, labelled)
    count = ranker.many(size)
    if count == 0 and many > 0:
        raise NoStructure("there is no structure of this size")
    found = []
    read = 0
    for drawn in range(many):
        told = _told_index(count, digits, read)
        if told is None:
            raise FewDigits(drawn)
        index, read = told
        found.append(ranker.structure_at(all_atoms(size, labelled), index))
    return (found, read)


def _told_index(count, digits, start):
    """The pair of the index that the digits from a place on tell, and the place behind them; None if they end.

    All of the numbers below `spread` are equally likely to be `chosen`.
    """
    spread = 1
    chosen = 0
    read = start
    while spread < count or chosen >= count:
        if spread >= count:
            spread -= count
            chosen -= count
        elif read == len(digits):
            return None
        else:
            spread = 2 * spread
            chosen = 2 * chosen + digits[read]
            read += 1
    return (chosen, read)


def _check_digits(digits):
    """Raises BadDigits if a value is not a list of the numbers 0 and 1."""
    if not isinstance(digits, list) or any([not is_whole(digit) or not 0 <= digit <= 1 for digit in digits]):
        raise BadDigits("digits are a list of the numbers 0 and 1")


def _check_count(count):
    """Raises BadIndex if a value is not an integer from 1 on."""
    if not is_whole(count) or count < 1:
        raise BadIndex("an index is drawn out of one or more")
