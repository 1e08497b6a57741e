"""Questions that are told by what is shown, with weights, and the spread of these."""

from fairmasks.amounts import ONE, ZERO, common_bottom, greater, is_fraction, minus, over, plus, times, total
from fairmasks.chances import is_chances
from fairmasks.errors import NoChances, NoQuestion, NoRows, NoWeights
from fairmasks.linear import solved
from fairmasks.rows import all_contents, is_box_of, is_content, place_of, worths_at

MOST_ROWS = 200
# A prime above 10 ** 100.
MODULUS = 10 ** 50 * 10 ** 50 + 267


def is_question(sizes, thing):
    """Whether a thing is a tuple with a fraction for each content."""
    if not isinstance(thing, tuple) or len(thing) != len(all_contents(sizes)):
        return False
    return all([is_fraction(part) for part in thing])


def shown_boxes(habit):
    """The dict from the boxes that are shown at times to the dict from the places of contents to their shares."""
    found = {}
    for place, content in enumerate(all_contents(habit.sizes)):
        for pattern, part in habit.rows[place]:
            found.setdefault((pattern, worths_at(pattern, content)), {})[place] = part
    return found


def is_weights(habit, thing):
    """Whether a thing is a dict from boxes that are shown at times to fractions."""
    if not isinstance(thing, dict):
        return False
    known = shown_boxes(habit)
    for box, weight in thing.items():
        if not is_box_of(habit.sizes, box) or box not in known or not is_fraction(weight):
            return False
    return True


def mean_by_content(habit, weights):
    """The list of the mean weight of each content."""
    parts = [[] for _ in habit.rows]
    for box, shares in shown_boxes(habit).items():
        if box in weights:
            for place, part in shares.items():
                parts[place].append(times(part, weights[box]))
    return [total(held) for held in parts]


def squared(weights):
    """Weights, each multiplied by itself."""
    return {box: times(weight, weight) for box, weight in weights.items()}


def is_telling(habit, question, thing):
    """Whether a thing is weights that tell a question."""
    if not is_question(habit.sizes, question):
        raise NoQuestion()
    return is_weights(habit, thing) and tuple(mean_by_content(habit, thing)) == question


def weights_for(habit, question):
    """Weights that tell a question, or None."""
    return weights_or_drift(habit, question)[0]


def two_chances(habit, question):
    """Two ways in which rows come that show alike, while the means of a question are unlike, or None."""
    _, drift = weights_or_drift(habit, question)
    if drift is None:
        return None
    many = len(habit.rows)
    most = ZERO
    for part in drift.values():
        most = greater(most, part if part[0] > 0 else minus(ZERO, part))
    # By so much no chance gets less than half of what it is.
    step = over((1, 2 * many), most)
    moved = [plus((1, many), times(step, drift.get(place, ZERO))) for place in range(many)]
    return (tuple([(1, many) for _ in moved]), tuple(moved))


def weights_or_drift(habit, question):
    """The pair of weights that tell a question and None, or of None and a drift.

    A drift is a dict from places of contents to fractions by which chances may
    be moved so that each box is shown as often as before, but the mean of the
    question is moved by 1. Just one of both is there, but one modulus may show none.
    """
    if not is_question(habit.sizes, question):
        raise NoQuestion()
    modulus = MODULUS
    while True:
        weights = weights_by(habit, question, modulus)
        drift = drift_by(habit, question, modulus) if weights is None else None
        if weights is not None or drift is not None:
            return (weights, drift)
        modulus += 1


def weights_by(habit, question, modulus):
    """Weights that tell a question, or None if a modulus shows none."""
    boxes = shown_boxes(habit)
    # A box that is always shown with the same share counts once, which makes the equations of fair habits simple.
    units = [unit_of(list(shares.values())) for shares in boxes.values()]
    cells = [{} for _ in habit.rows]
    for at, shares in enumerate(boxes.values()):
        for place, part in shares.items():
            cells[place][at] = over(part, units[at])
    equations = [equation_of(held, part) for held, part in zip(cells, question)]
    found = solved(equations, modulus)
    if found is None:
        return None
    known = list(boxes)
    return {known[at]: over(part, units[at]) for at, part in found.items() if part != ZERO}


def unit_of(parts):
    """The one share of a list of shares, if all are the same, or else 1."""
    return parts[0] if all([part == parts[0] for part in parts]) else ONE


def drift_by(habit, question, modulus):
    """A drift that moves the mean of a question by 1, or None if a modulus shows none."""
    equations = [equation_of(shares, ZERO) for shares in shown_boxes(habit).values()]
    equations.append(equation_of({place: part for place, part in enumerate(question)}, ONE))
    return solved(equations, modulus)


def equation_of(parts, right):
    """The equation with these fractions, multiplied so that all are integers."""
    bottom = common_bottom(list(parts.values()) + [right])
    cells = {unknown: top * (bottom // under) for unknown, (top, under) in parts.items() if top != 0}
    return (cells, right[0] * (bottom // right[1]))


def check_weighed(habit, weights, chances):
    """Raise what is wrong with these."""
    if not is_weights(habit, weights):
        raise NoWeights()
    if not is_chances(habit.sizes, chances):
        raise NoChances()


def mean_by(means, chances):
    """The mean of a list of fractions that come by chances."""
    return total([times(part, chance) for part, chance in zip(means, chances)])


def mean(habit, weights, chances):
    """The mean weight of a row."""
    check_weighed(habit, weights, chances)
    return mean_by(mean_by_content(habit, weights), chances)


def spread(habit, weights, chances):
    """The mean square of the difference of the weight of a row from its mean."""
    check_weighed(habit, weights, chances)
    middle = mean_by(mean_by_content(habit, weights), chances)
    return minus(mean_by(mean_by_content(habit, squared(weights)), chances), times(middle, middle))


def spread_of_rows(habit, weights, rows):
    """The mean square of the difference of the sum of the weights of told contents from its mean."""
    if not is_weights(habit, weights):
        raise NoWeights()
    if not isinstance(rows, (list, tuple)) or len(rows) > MOST_ROWS:
        raise NoRows()
    if not all([is_content(habit.sizes, content) for content in rows]):
        raise NoRows()
    means = mean_by_content(habit, weights)
    squares = mean_by_content(habit, squared(weights))
    parts = []
    for content in rows:
        place = place_of(habit.sizes, content)
        # Rows are shown apart from one another, so that their spreads sum up.
        parts.append(minus(squares[place], times(means[place], means[place])))
    return total(parts)
