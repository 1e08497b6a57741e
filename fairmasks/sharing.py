"""What shown boxes tell of contents, and habits made of habits."""

from fairmasks.amounts import ONE, ZERO, is_share, is_whole, minus, over, plus, times, total
from fairmasks.chances import is_chances
from fairmasks.errors import NeverShown, NoBox, NoChances, NoColumns, NoContent, NoRules, NoShare, OtherSizes
from fairmasks.habits import Habit, is_habit_row, patterns
from fairmasks.rows import all_columns, all_contents, is_box_of, is_content, place_of, worths_at


def share_behind(habit, chances, box, content):
    """The share of rows with this content among those of which just this box is shown."""
    check_asked(habit, chances, box, content)
    return share_among(shown_in(habit, chances, box), content)


def share_struck(habit, chances, box, content):
    """The share of rows with this content among all contents in the box."""
    check_asked(habit, chances, box, content)
    return share_among(held_in(habit, chances, box), content)


def check_asked(habit, chances, box, content):
    """Raise what is wrong with these."""
    if not is_chances(habit.sizes, chances):
        raise NoChances()
    if not is_box_of(habit.sizes, box):
        raise NoBox()
    if not is_content(habit.sizes, content):
        raise NoContent()
    if not shown_in(habit, chances, box):
        raise NeverShown()


def held_in(habit, chances, box):
    """The dict from the contents in a box to their chances."""
    pattern, worths = box
    found = {}
    for content, chance in zip(all_contents(habit.sizes), chances):
        if worths_at(pattern, content) == worths:
            found[content] = chance
    return found


def shown_in(habit, chances, box):
    """The dict from the contents of which just this box is shown at times to how often it is."""
    found = {}
    for content, chance in held_in(habit, chances, box).items():
        for pattern, part in habit.rows[place_of(habit.sizes, content)]:
            if pattern == box[0]:
                found[content] = times(chance, part)
    return found


def share_among(parts, content):
    """The share of a content in the sum of a dict from contents to fractions."""
    return over(parts.get(content, ZERO), total(list(parts.values())))


def wrong_share(habit, chances):
    """The least (box, content) of which the share behind and the share struck are unlike, or None."""
    if not is_chances(habit.sizes, chances):
        raise NoChances()
    rows = [{shown: part for shown, part in row} for row in habit.rows]
    for pattern in patterns(habit):
        parts = [row.get(pattern, ZERO) for row in rows]
        for worths, held in sorted(boxed(habit.sizes, pattern, chances, parts).items()):
            content = unlike_in(held)
            if content is not None:
                return ((pattern, worths), content)
    return None


def boxed(sizes, pattern, chances, parts):
    """The dict from the worths at a pattern to the list of (content, chance, part) with them."""
    found = {}
    for content, chance, part in zip(all_contents(sizes), chances, parts):
        found.setdefault(worths_at(pattern, content), []).append((content, chance, part))
    return found


def unlike_in(held):
    """The least content of a box, of (content, chance, part), that is shown more or less than the box is, or None.

    Just these are unlike: the share behind is that of chance times part, the share struck that of the chance.
    A box that is never shown has none.
    """
    # Telling that all are alike needs no sums, which get long.
    if len({part for content, chance, part in held}) == 1:
        return None
    shown = total([times(chance, part) for content, chance, part in held])
    mean = over(shown, total([chance for content, chance, part in held]))
    for content, chance, part in held:
        if part != mean:
            return content
    return None


def mixed(habit, other, part):
    """The habit that goes by the first one with this share, by the other one with the rest."""
    if not isinstance(other, Habit) or habit.sizes != other.sizes:
        raise OtherSizes()
    if not is_share(part):
        raise NoShare()
    rows = []
    for row, row_of_other in zip(habit.rows, other.rows):
        rows.append(mixed_row([(part, row), (minus(ONE, part), row_of_other)]))
    return Habit(habit.sizes, tuple(rows))


def mixed_row(weighted):
    """The row of a habit that goes by each row of a list of (share, row) with its share."""
    found = {}
    for weight, row in weighted:
        for pattern, part in row:
            found[pattern] = plus(found.get(pattern, ZERO), times(weight, part))
    return tuple(sorted([(pattern, part) for pattern, part in found.items() if part != ZERO]))


def hidden_again(habit, rules):
    """The habit that hides again, by rules, some of what was shown."""
    if not is_rules(habit, rules):
        raise NoRules()
    rows = [mixed_row([(part, rules[pattern]) for pattern, part in row]) for row in habit.rows]
    return Habit(habit.sizes, tuple(rows))


def is_rules(habit, thing):
    """Whether a thing is a dict from just the patterns of a habit to rows of patterns within them."""
    known = patterns(habit)
    if not isinstance(thing, dict) or len(thing) != len(known):
        return False
    for pattern in known:
        if pattern not in thing or not is_habit_row(len(habit.sizes), thing[pattern]):
            return False
        for kept, part in thing[pattern]:
            if not all([column in pattern for column in kept]):
                return False
    return True


def renamed(habit, columns):
    """The habit whose column k is column columns[k] of this one."""
    if not is_all_columns(len(habit.sizes), columns):
        raise NoColumns()
    sizes = tuple([habit.sizes[column] for column in columns])
    # Where each old column is to be found.
    turned = {column: at for at, column in enumerate(columns)}
    rows = []
    for content in all_contents(sizes):
        old = tuple([content[turned[column]] for column in range(len(sizes))])
        row = habit.rows[place_of(habit.sizes, old)]
        pairs = [(tuple(sorted([turned[column] for column in pattern])), part) for pattern, part in row]
        rows.append(tuple(sorted(pairs)))
    return Habit(sizes, tuple(rows))


def is_all_columns(columns, thing):
    """Whether a thing is a tuple of all of so many columns, in any order."""
    if not isinstance(thing, tuple) or not all([is_whole(column) for column in thing]):
        return False
    return tuple(sorted(thing)) == all_columns(columns)
