"""Sizes, contents, patterns, boxes and lists of patterns."""

from fairmasks.amounts import is_pair, is_whole
from fairmasks.errors import BadSizes, NoBox, NoContent, NoNumber, NoPattern

MOST_COLUMNS = 5
LEAST_SIZE = 2
MOST_SIZE = 4
MOST_CONTENTS = 256
MOST_PATTERNS = 12
# The box of all contents.
START = ((), ())


def is_sizes(thing):
    """Whether a thing is sizes."""
    if not isinstance(thing, tuple) or not 1 <= len(thing) <= MOST_COLUMNS:
        return False
    many = 1
    for size in thing:
        if not is_whole(size) or not LEAST_SIZE <= size <= MOST_SIZE:
            return False
        many = many * size
    return many <= MOST_CONTENTS


def is_content(sizes, thing):
    """Whether a thing is a tuple with a number below each of the sizes."""
    if not isinstance(thing, tuple) or len(thing) != len(sizes):
        return False
    for size, worth in zip(sizes, thing):
        if not is_whole(worth) or not 0 <= worth < size:
            return False
    return True


def is_pattern(columns, thing):
    """Whether a thing is an ascending tuple of some of so many columns."""
    if not isinstance(thing, tuple):
        return False
    last = -1
    for column in thing:
        if not is_whole(column) or not last < column < columns:
            return False
        last = column
    return True


def is_box_of(sizes, thing):
    """Whether a thing is a box of what surely are sizes."""
    if not is_pair(thing):
        return False
    pattern, worths = thing
    if not is_pattern(len(sizes), pattern):
        return False
    return is_content([sizes[column] for column in pattern], worths)


def all_columns(columns):
    """The pattern of all of so many columns."""
    return tuple(range(columns))


def all_contents(sizes):
    """The contents of what surely are sizes, ascending."""
    found = [()]
    for size in sizes:
        found = [content + (worth,) for content in found for worth in range(size)]
    return found


def place_of(sizes, content):
    """The index of a content among all contents."""
    place = 0
    for size, worth in zip(sizes, content):
        place = place * size + worth
    return place


def worths_at(pattern, content):
    """The worths that a content has in the columns of a pattern."""
    return tuple([content[column] for column in pattern])


def less(pattern, column):
    """A pattern without a column."""
    return tuple([other for other in pattern if other != column])


def patterns_within(pattern):
    """The list of all patterns within a pattern."""
    found = [()]
    for column in pattern:
        found = found + [inner + (column,) for inner in found]
    return found


def narrowed(box, pattern):
    """The box of a pattern, which lies within that of the box, around a box."""
    told = {column: worth for column, worth in zip(box[0], box[1])}
    return (pattern, tuple([told[column] for column in pattern]))


def boxes_of(sizes, pattern):
    """The boxes of a pattern, ascending."""
    return [(pattern, worths) for worths in all_contents([sizes[column] for column in pattern])]


def boxes_with(sizes, box, column):
    """The boxes, one for each worth, into which a column that is not in its pattern parts a box."""
    pattern, worths = box
    at = len([other for other in pattern if other < column])
    wider = pattern[:at] + (column,) + pattern[at:]
    return [(wider, worths[:at] + (worth,) + worths[at:]) for worth in range(sizes[column])]


def contents(sizes):
    """The ascending list of all contents."""
    if not is_sizes(sizes):
        raise BadSizes()
    return all_contents(sizes)


def is_box(sizes, thing):
    """Whether a thing is a box of these sizes."""
    if not is_sizes(sizes):
        raise BadSizes()
    return is_box_of(sizes, thing)


def box_at(sizes, pattern, content):
    """The box of this pattern in which the content is."""
    if not is_sizes(sizes):
        raise BadSizes()
    if not is_pattern(len(sizes), pattern):
        raise NoPattern()
    if not is_content(sizes, content):
        raise NoContent()
    return (pattern, worths_at(pattern, content))


def in_box(sizes, box):
    """The ascending list of the contents that are in a box."""
    if not is_sizes(sizes):
        raise BadSizes()
    if not is_box_of(sizes, box):
        raise NoBox()
    pattern, worths = box
    return [content for content in all_contents(sizes) if worths_at(pattern, content) == worths]


def both(sizes, box, other):
    """The box of just the contents that are in both boxes, or None if none is."""
    if not is_sizes(sizes):
        raise BadSizes()
    if not is_box_of(sizes, box) or not is_box_of(sizes, other):
        raise NoBox()
    told = {column: worth for column, worth in zip(box[0], box[1])}
    for column, worth in zip(other[0], other[1]):
        if told.setdefault(column, worth) != worth:
            return None
    pattern = tuple(sorted(told))
    return (pattern, tuple([told[column] for column in pattern]))


def is_list(columns, thing):
    """Whether a thing is a list of patterns of so many columns."""
    if not is_whole(columns) or not 1 <= columns <= MOST_COLUMNS:
        raise NoNumber()
    if not isinstance(thing, tuple) or not 1 <= len(thing) <= MOST_PATTERNS:
        return False
    last = None
    for pattern in thing:
        if not is_pattern(columns, pattern):
            return False
        if last is not None and not last < pattern:
            return False
        last = pattern
    return all_columns(columns) in thing
