"""Showings without throws, the trees that make them, and cuttings."""

from fairmasks.amounts import is_pair
from fairmasks.errors import BadSizes, NoContent, NoCutting, NoPair, NoShowing, NoTree, TooMany
from fairmasks.lists import parts_of, within
from fairmasks.rows import START, all_columns, all_contents, boxes_of, boxes_with, is_box_of, is_content, is_pattern
from fairmasks.rows import is_sizes, patterns_within, worths_at

MOST_TO_CUT = 9
STOPPED = ("stop",)


def is_showing(sizes, thing):
    """Whether a thing is a dict from some contents to patterns."""
    if not isinstance(thing, dict) or not thing:
        return False
    for content, pattern in thing.items():
        if not is_content(sizes, content) or not is_pattern(len(sizes), pattern):
            return False
    return True


def check_showing(sizes, showing):
    """Raise what is wrong with these."""
    if not is_sizes(sizes):
        raise BadSizes()
    if not is_showing(sizes, showing):
        raise NoShowing()


def is_fair_showing(sizes, thing):
    """Whether a thing is a showing that tells nothing by which pattern it shows."""
    if not is_sizes(sizes):
        raise BadSizes()
    if not is_showing(sizes, thing):
        return False
    return all([is_fair_pattern(thing, pattern) for pattern in sorted(set(list(thing.values())))])


def is_fair_pattern(showing, pattern):
    """Whether contents that are alike in a pattern all have this pattern, or none."""
    told = {}
    for content, shown in showing.items():
        if told.setdefault(worths_at(pattern, content), shown == pattern) != (shown == pattern):
            return False
    return True


def is_tree(sizes, thing, known):
    """Whether a thing is a tree that opens none of the known columns."""
    if not isinstance(thing, tuple) or not thing or not isinstance(thing[0], str):
        return False
    if thing[0] == "stop":
        return len(thing) == 1
    if thing[0] != "open" or len(thing) != 3 or not is_pattern(len(sizes), (thing[1],)) or thing[1] in known:
        return False
    _, column, trees = thing
    if not isinstance(trees, tuple) or len(trees) != sizes[column]:
        return False
    return all([tree is None or is_tree(sizes, tree, known + (column,)) for tree in trees])


def shown_by(sizes, tree, content):
    """The pattern that a tree shows of a content, or None where its way comes to None."""
    if not is_sizes(sizes):
        raise BadSizes()
    if not is_tree(sizes, tree, ()):
        raise NoTree()
    if not is_content(sizes, content):
        raise NoContent()
    seen = []
    while tree is not None and tree != STOPPED:
        _, column, trees = tree
        seen.append(column)
        tree = trees[content[column]]
    return None if tree is None else tuple(sorted(seen))


def shared_columns(showing, held, pattern):
    """The columns, but for those of a pattern, that are in the patterns of all of these contents."""
    shared = list(showing[held[0]])
    for content in held:
        shared = [column for column in shared if column in showing[content]]
    return [column for column in shared if column not in pattern]


def tree_of(sizes, showing):
    """A tree of a showing, or None."""
    check_showing(sizes, showing)
    return tree_from(sizes, showing, sorted(showing), ())


def tree_from(sizes, showing, held, pattern):
    """A tree for these contents of a showing, all alike in the pattern that is open, or None.

    A column that all of them show can as well be opened first, so that it need not be chosen.
    """
    shared = shared_columns(showing, held, pattern)
    if not shared:
        return STOPPED if all([showing[content] == pattern for content in held]) else None
    column = shared[0]
    wider = tuple(sorted(pattern + (column,)))
    trees = []
    for worth in range(sizes[column]):
        come = [content for content in held if content[column] == worth]
        tree = tree_from(sizes, showing, come, wider) if come else None
        if come and tree is None:
            return None
        trees.append(tree)
    return ("open", column, tuple(trees))


def stuck(sizes, showing):
    """The least stand at which a showing asks for more, but for no column of all its contents there, or None."""
    check_showing(sizes, showing)
    stands = {START: sorted(showing)}
    while stands:
        after = {}
        # All of them have as many columns, so that the first one is the least.
        for stand in sorted(stands):
            held = stands[stand]
            shared = shared_columns(showing, held, stand[0])
            if not shared and any([showing[content] != stand[0] for content in held]):
                return stand
            for column in shared:
                for pattern, worths in boxes_with(sizes, stand, column):
                    come = [content for content in held if worths_at(pattern, content) == worths]
                    if come:
                        after[(pattern, worths)] = come
        stands = after
    return None


def are_unlike(one, other):
    """Whether neither of two patterns lies within the other."""
    return not within(one, other) and not within(other, one)


def unlike_pair(columns, listed):
    """The least pair of part patterns of a list of which neither lies within the other, or None."""
    parts = parts_of(columns, listed)
    for one in parts:
        for other in parts:
            if are_unlike(one, other):
                return (one, other)
    return None


def pair_showing(sizes, pair):
    """A fair showing of two contents without a tree, with the patterns of a pair."""
    if not is_sizes(sizes):
        raise BadSizes()
    if not is_pair(pair) or not all([is_pattern(len(sizes), pattern) for pattern in pair]):
        raise NoPair()
    one, other = pair
    if not are_unlike(one, other):
        raise NoPair()
    # They are alike where both patterns are, so that nothing more can be opened there, and unlike in each of both.
    apart = [[column for column in one if column not in other][0], [column for column in other if column not in one][0]]
    first = tuple([0 for _ in sizes])
    second = tuple([1 if column in apart else 0 for column in all_columns(len(sizes))])
    return {first: one, second: other}


def cuttings(sizes):
    """The ascending list of all cuttings."""
    if not is_sizes(sizes):
        raise BadSizes()
    every = all_contents(sizes)
    if len(every) > MOST_TO_CUT:
        raise TooMany(MOST_TO_CUT)
    boxes = []
    for pattern in patterns_within(all_columns(len(sizes))):
        for box in boxes_of(sizes, pattern):
            boxes.append((box, [content for content in every if worths_at(pattern, content) == box[1]]))
    return sorted([tuple(sorted(cutting)) for cutting in cuttings_of(boxes, every)])


def cuttings_of(boxes, left):
    """The list of the lists of boxes, each with the list of its contents, that part the contents that are left."""
    if not left:
        return [[]]
    found = []
    for box, held in boxes:
        if left[0] in held and all([content in left for content in held]):
            rest = [content for content in left if content not in held]
            found.extend([[box] + cutting for cutting in cuttings_of(boxes, rest)])
    return found


def showing_of(sizes, cutting):
    """The showing of all contents that shows of each the pattern of its box."""
    if not is_sizes(sizes):
        raise BadSizes()
    if not is_ascending_boxes(sizes, cutting):
        raise NoCutting()
    found = {}
    patterns = sorted({pattern for pattern, worths in cutting})
    boxes = {box: True for box in cutting}
    for content in all_contents(sizes):
        shown = [pattern for pattern in patterns if (pattern, worths_at(pattern, content)) in boxes]
        if len(shown) != 1:
            raise NoCutting()
        found[content] = shown[0]
    return found


def is_ascending_boxes(sizes, thing):
    """Whether a thing is an ascending tuple of boxes."""
    if not isinstance(thing, tuple) or not all([is_box_of(sizes, box) for box in thing]):
        return False
    return all([one < other for one, other in zip(thing, thing[1:])])
