"""Linear equations: names that are sums of quotients, and of quotients times names."""

from speciesmill.quotient import added, all_powers, multiplied

NOTHING = ((), (1,))
WHOLE = ((1,), (1,))


class Line:
    """A quotient, and for each of some names the quotient by which it is multiplied; all of them are added up."""

    def __init__(self, constant, factors):
        self.constant = constant
        self.factors = factors

    def joined(self, line):
        """The sum of this line and another one."""
        factors = {name: self.factors[name] for name in self.factors}
        for name in line.factors:
            factors[name] = added(factors.get(name, NOTHING), line.factors[name])
        return Line(added(self.constant, line.constant), factors)

    def scaled(self, quotient):
        """This line multiplied by a quotient."""
        factors = {name: multiplied(self.factors[name], quotient) for name in self.factors}
        return Line(multiplied(self.constant, quotient), factors)

    def rest_without(self, name):
        """This line without what stands in it for a name."""
        return Line(self.constant, {other: self.factors[other] for other in self.factors if other != name})

    def resolved(self, name):
        """The line of the same name without itself, if this is the line of a name."""
        factor = self.factors.get(name, NOTHING)
        return self.rest_without(name).scaled(all_powers(factor))

    def with_line(self, name, line):
        """This line, with another one in the place of a name."""
        if name not in self.factors:
            return self
        return self.rest_without(name).joined(line.scaled(self.factors[name]))


def solved(lines):
    """The quotients of names, each with its line, in which only these names stand."""
    names = list(lines)
    left = {name: lines[name] for name in names}
    for at, name in enumerate(names):
        left[name] = left[name].resolved(name)
        for later in names[at + 1:]:
            left[later] = left[later].with_line(name, left[name])
    told = {}
    for name in reversed(names):
        line = left[name]
        for other in list(line.factors):
            line = line.with_line(other, Line(told[other], {}))
        told[name] = line.constant
    return told
