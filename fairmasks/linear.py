"""Linear equations, solved exactly.

An EQUATION is a pair of a dict from unknowns to the integers, none 0, by which
they are multiplied, and the integer to which these products sum up.

The equations are solved modulo a great prime, which keeps all numbers short.
From this the solution modulo a power of it is lifted, digit by digit, until
fractions can be told from it. These are tried in all equations: whatever
modulus is taken, what is found is right, but with a bad one nothing is found.
"""

from math import gcd, isqrt

from fairmasks.amounts import common_bottom, fraction

# By so much a solution has to be shorter than the modulus would let it, so that it is hardly met by accident.
SLACK = 10 ** 10


class Elimination:
    """Equations solved modulo a number.

    pivots has, one behind another, (equation, unknown, inverse of its factor,
    the other unknowns of the equation, what to take from which equations).
    """

    def __init__(self, equations, modulus):
        self.modulus = modulus
        self.pivots = []
        self.left = {}
        self.columns = {}
        self.rights = [right % modulus for cells, right in equations]
        for at, (cells, _) in enumerate(equations):
            self.left[at] = {}
            for unknown, cell in cells.items():
                self.put_cell(at, unknown, cell % modulus)

    def put_cell(self, at, unknown, cell):
        """Put a cell into an equation that is left."""
        if cell != 0:
            self.left[at][unknown] = cell
            self.columns.setdefault(unknown, {})[at] = True
        elif unknown in self.left[at]:
            self.left[at].pop(unknown)
            self.columns[unknown].pop(at)

    def solve(self):
        """Solve the equations; tell whether they have a solution and all divisions could be done."""
        place = self.next_pivot()
        while place is not None:
            at, unknown = place
            inverse = inverse_of(self.left[at][unknown], self.modulus)
            if inverse is None:
                return False
            self.eliminate(at, unknown, inverse)
            place = self.next_pivot()
        used = [pivot[0] for pivot in self.pivots]
        return all([right == 0 for at, right in enumerate(self.rights) if at not in used])

    def next_pivot(self):
        """An equation and an unknown of it by which few others are changed, or None if no unknown is left."""
        rows = [(len(self.left[at]), at) for at in self.left if self.left[at]]
        if not rows:
            return None
        many, at = min(rows)
        few, unknown = min([(len(held), other) for other, held in self.columns.items() if held])
        scarce = min([(len(self.columns[other]), other) for other in self.left[at]])
        short = min([(len(self.left[other]), other) for other in self.columns[unknown]])
        if (few - 1) * (short[0] - 1) < (many - 1) * (scarce[0] - 1):
            return (short[1], unknown)
        return (at, scarce[1])

    def eliminate(self, at, unknown, inverse):
        """Take an unknown out of all other equations that are left."""
        cells = self.left.pop(at)
        for other in cells:
            self.columns[other].pop(at)
        cells.pop(unknown)
        taken = []
        for other in list(self.columns.pop(unknown)):
            factor = self.left[other].pop(unknown) * inverse % self.modulus
            for behind, cell in cells.items():
                self.put_cell(other, behind, (self.left[other].get(behind, 0) - factor * cell) % self.modulus)
            self.rights[other] = (self.rights[other] - factor * self.rights[at]) % self.modulus
            taken.append((other, factor))
        self.pivots.append((at, unknown, inverse, cells, taken))

    def digits(self, rights):
        """The dict from the unknowns of the pivots to their worths modulo the number, for a dict of other rights."""
        left = {at: number % self.modulus for at, number in rights.items()}
        for at, _, _, _, taken in self.pivots:
            right = left[at]
            if right == 0:
                continue
            for other, factor in taken:
                if other in left:
                    left[other] = (left[other] - factor * right) % self.modulus
        found = {}
        for at, unknown, inverse, cells, _ in reversed(self.pivots):
            known = sum([cell * found[other] for other, cell in cells.items() if other in found])
            found[unknown] = (left[at] - known) * inverse % self.modulus
        return found


def inverse_of(number, modulus):
    """By what a number is multiplied to be 1 modulo another one, or None."""
    if gcd(number, modulus) != 1:
        return None
    high, low, of_high, of_low = modulus, number, 0, 1
    while low > 0:
        by = high // low
        high, low, of_high, of_low = low, high - by * low, of_low, of_high - by * of_low
    return of_high % modulus


def solved(equations, modulus):
    """The dict from unknowns to fractions that solves equations, those that are lacking being 0, or None.

    None tells that there is no solution or that the modulus is bad, which no great prime is but by accident.
    """
    table = Elimination(equations, modulus)
    if not table.solve():
        return None
    rights = {pivot[0]: equations[pivot[0]][1] for pivot in table.pivots}
    whole = {pivot[1]: 0 for pivot in table.pivots}
    power = 1
    many = 0
    tried = 1
    while True:
        digits = table.digits(rights)
        whole = {unknown: number + power * digits[unknown] for unknown, number in whole.items()}
        power = power * modulus
        for at in list(rights):
            cells, _ = equations[at]
            known = sum([cell * digits[unknown] for unknown, cell in cells.items() if unknown in digits])
            rights[at] = (rights[at] - known) // modulus
        many += 1
        if many == tried:
            tried = 2 * tried
            found = fractions_of(whole, power)
            # What solves the equations of the pivots is the one solution of these.
            if found is not None and all([is_right(equations[at], found) for at in rights]):
                return found if all([is_right(equation, found) for equation in equations]) else None


def is_right(equation, found):
    """Whether fractions solve an equation."""
    cells, right = equation
    known = [unknown for unknown in cells if unknown in found]
    bottom = common_bottom([found[unknown] for unknown in known])
    whole = 0
    for unknown in known:
        # To bring the sum to lowest terms would take long and tell nothing more.
        top, under = found[unknown]
        whole += cells[unknown] * top * (bottom // under)
    return whole == right * bottom


def fractions_of(whole, power):
    """The dict from unknowns to the fractions that are such numbers modulo a power, or None if one is too long.

    Most of them have like bottoms, so that each is first looked for among those with the bottoms of the others.
    """
    most = isqrt(power) // SLACK
    found = {}
    common = 1
    for unknown, number in whole.items():
        part = fraction_of(number * common % power, power, most)
        if part is None:
            common = 1
            part = fraction_of(number, power, most)
        if part is None:
            return None
        found[unknown] = fraction(part[0], part[1] * common)
        common = common_bottom([(1, common), found[unknown]])
        if common > most:
            common = found[unknown][1]
    return found


def fraction_of(number, power, most):
    """The fraction, top and bottom at most so great, that is a number modulo a power, or None."""
    high, low, of_high, of_low = power, number, 0, 1
    while low > most:
        by = high // low
        high, low, of_high, of_low = low, high - by * low, of_low, of_high - by * of_low
    if abs(of_low) > most or gcd(low, of_low) != 1:
        return None
    return fraction(low, of_low) if of_low > 0 else fraction(-low, -of_low)
