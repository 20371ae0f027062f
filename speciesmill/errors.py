"""All errors that the program raises."""


class SpeciesError(ValueError):
    """The base class of all errors of the program."""


class BadSpec(SpeciesError):
    """The equations are no specification."""


class NoSuchName(SpeciesError):
    """There is nothing with this name."""


class NotFounded(SpeciesError):
    """The specification is not well-founded."""


class BadText(SpeciesError):
    """The text is not that of a specification; `line` is the number of its first wrong line."""

    def __init__(self, line):
        super().__init__(f"line {line} is not that of a specification")
        self.line = line


class BadLabels(SpeciesError):
    """The labels are not such as are asked for."""


class BadCounts(SpeciesError):
    """The counts, the bounds, or the members that they are for, are not such as are asked for."""


class TooGreat(SpeciesError):
    """A size is beyond what the program counts or lists."""


class TooMany(SpeciesError):
    """There are more structures than the program lists."""


class BadStructure(SpeciesError):
    """The value is not a structure of this kind."""


class BadIndex(SpeciesError):
    """There is nothing with this index."""


class BadPlace(SpeciesError):
    """The place does not exist."""


class BadDigits(SpeciesError):
    """The digits are not a list of the numbers 0 and 1."""


class NoStructure(SpeciesError):
    """There is no structure to draw."""


class FewDigits(SpeciesError):
    """There are not enough digits; `drawn` is the number of structures that were drawn."""

    def __init__(self, drawn):
        super().__init__(f"the digits end after {drawn} structures")
        self.drawn = drawn


class BadShape(SpeciesError):
    """The value is not a shape, a permutation or a number of things that is asked for."""


class NotRegular(SpeciesError):
    """The specification is not regular."""


class BadQuotient(SpeciesError):
    """The tuples are not those of a quotient."""


class NoPartner(SpeciesError):
    """There is no structure with this size and index on the other side."""
