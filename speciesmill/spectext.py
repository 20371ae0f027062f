"""The text of a specification, and the specification of a text."""

from speciesmill.errors import BadText
from speciesmill.helpers import are_bounds
from speciesmill.spec import MEMBER_WORDS, MOST_DEEP, MOST_MEMBERS, MOST_NAMES, NAME_CHARACTERS, PLAIN_WORDS
from speciesmill.spec import Spec, is_name, used

NUMERALS = "0123456789"
SIGNS = {"or": " + ", "and": " * "}


def spec_text(spec):
    """The text of a specification: a line for each name, in ascending order."""
    lines = [f"{name} = {_expression_text(spec.expression(name))}\n" for name in spec.names()]
    return "".join(lines)


def _expression_text(expression):
    """The text of an expression."""
    word = expression[0]
    if word in PLAIN_WORDS:
        return word
    if word == "name":
        return expression[1]
    first = _expression_text(expression[1])
    if word in SIGNS:
        return f"({first}{SIGNS[word]}{_expression_text(expression[2])})"
    return f"{word}({first}{_bounds_text(word, expression[2], expression[3])})"


def _bounds_text(word, least, most):
    """How the bounds of a "row", "set" or "ring" are told: not at all if they are the usual ones."""
    if _are_usual(word, least, most):
        return ""
    last = "-" if most is None else str(most)
    return f", {least}, {last}"


def _are_usual(word, least, most):
    """Whether the bounds of a "row", "set" or "ring" allow whatever is possible."""
    return most is None and least == (1 if word == "ring" else 0)


class LineReader:
    """Reads a line of a text from left to right, and raises BadText where it is not of the form."""

    def __init__(self, line, number):
        self.line = line
        self.number = number
        self.at = 0

    def takes(self, part):
        """Whether a part comes next; if so, it is read."""
        if not self.line.startswith(part, self.at):
            return False
        self.at += len(part)
        return True

    def need(self, part):
        """Reads a part, which must come next."""
        if not self.takes(part):
            raise BadText(self.number)

    def run_of(self, characters):
        """Reads as many of some characters as come next."""
        first = self.at
        while self.at < len(self.line) and self.line[self.at] in characters:
            self.at += 1
        return self.line[first:self.at]

    def read_equation(self):
        """Reads the whole line: the pair of a name and its expression."""
        name = self.run_of(NAME_CHARACTERS)
        if not is_name(name):
            raise BadText(self.number)
        self.need(" = ")
        expression = self.read_expression(0)
        if self.at != len(self.line):
            raise BadText(self.number)
        return (name, expression)

    def read_expression(self, level):
        """Reads an expression that stands so deep in others."""
        # Asked before anything is read, so that no line leads deeper than expressions go.
        if level > MOST_DEEP:
            raise BadText(self.number)
        if self.takes("("):
            return self.read_pair(level)
        word = self.run_of(NAME_CHARACTERS)
        if word in PLAIN_WORDS:
            return (word,)
        if word in MEMBER_WORDS:
            return self.read_members(word, level)
        if not is_name(word):
            raise BadText(self.number)
        return ("name", word)

    def read_pair(self, level):
        """Reads the rest of an "or" or "and", behind its first parenthesis."""
        first = self.read_expression(level + 1)
        word = "or"
        if not self.takes(SIGNS["or"]):
            word = "and"
            self.need(SIGNS["and"])
        second = self.read_expression(level + 1)
        self.need(")")
        return (word, first, second)

    def read_members(self, word, level):
        """Reads the rest of a "row", "set" or "ring", behind its word."""
        self.need("(")
        inner = self.read_expression(level + 1)
        if self.takes(")"):
            return (word, inner, 1 if word == "ring" else 0, None)
        self.need(", ")
        least = self.read_number()
        self.need(", ")
        most = None
        if not self.takes("-"):
            most = self.read_number()
        self.need(")")
        # The usual bounds are not told, so that each specification has one text.
        if not are_bounds(word, least, most) or _are_usual(word, least, most):
            raise BadText(self.number)
        return (word, inner, least, most)

    def read_number(self):
        """Reads a number of members."""
        digits = self.run_of(NUMERALS)
        if digits == "" or len(digits) > len(str(MOST_MEMBERS)):
            raise BadText(self.number)
        number = int(digits)
        if str(number) != digits or number > MOST_MEMBERS:
            raise BadText(self.number)
        return number


def _read_lines(lines):
    """The dict of the names and expressions of lines without their newlines."""
    equations = {}
    before = ""
    for number, line in enumerate(lines, start=1):
        if number > MOST_NAMES:
            raise BadText(number)
        name, expression = LineReader(line, number).read_equation()
        if name <= before:
            raise BadText(number)
        equations[name] = expression
        before = name
    return equations


def spec_of(text):
    """The specification whose text this is."""
    lines = text.split("\n")
    unfinished = lines.pop()
    equations = _read_lines(lines)
    if unfinished != "" or not lines:
        raise BadText(len(lines) + 1)
    for number, name in enumerate(equations, start=1):
        if any([other not in equations for other in used(equations[name])]):
            raise BadText(number)
    return Spec(equations)
