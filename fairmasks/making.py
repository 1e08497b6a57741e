"""Programs made of askers, and askers made of programs."""

from fairmasks.amounts import common_bottom, over, total
from fairmasks.askers import STOP, Asker
from fairmasks.courses import Course, is_blind_course
from fairmasks.errors import NotBlind, TooMany
from fairmasks.programs import Program

MOST_BOTTOM = 1000
# The names of a program that is made: at which pattern it stands, what it threw, which move it makes.
STAND = "s"
THROW = "t"
MOVE = "m"


def program_of(asker):
    """A blind program with the habit of an asker.

    It goes through the patterns that are open at times, fewest columns first,
    and makes at each the move for the worths that are open.
    """
    for moves in asker.moves.values():
        if common_bottom([part for _, part in moves]) > MOST_BOTTOM:
            raise TooMany(MOST_BOTTOM)
    stands = {}
    for stand in sorted(asker.moves):
        stands.setdefault(stand[0], []).append(stand)
    known = [pattern for _, pattern in sorted([(len(pattern), pattern) for pattern in stands])]
    places = {pattern: at for at, pattern in enumerate(known)}
    block = []
    for pattern in known:
        inner = block_by_cells(asker, places, 0, stands[pattern])
        block.append(("if", ("name", STAND, places[pattern]), inner, ()))
    program = Program(asker.sizes, ())
    # It may be greater than one that is constructed.
    program.block = tuple(block)
    return program


def block_by_cells(asker, places, at, stands):
    """The block for stands with one pattern and the same worths ahead of this index."""
    pattern, worths = stands[0]
    if at == len(pattern):
        return block_at(asker.moves[stands[0]], places, pattern)
    parted = {}
    for stand in stands:
        parted.setdefault(stand[1][at], []).append(stand)
    block = []
    for worth, held in parted.items():
        block.append(("if", ("cell", pattern[at], worth), block_by_cells(asker, places, at + 1, held), ()))
    return tuple(block)


def block_at(moves, places, pattern):
    """The block for a stand: at most one throw, then the move that it tells."""
    if len(moves) == 1:
        return block_of_move(moves[0][0], places, pattern)
    bottom = common_bottom([part for _, part in moves])
    # The move of most throws comes first: it needs no test of a throw, the name of the move being 0.
    counted = sorted([(part[0] * (bottom // part[1]), column) for column, part in moves], reverse=True)
    block = [("throw", THROW, bottom)]
    value = 0
    for move, (many, _) in enumerate(counted):
        for _ in range(many if move > 0 else 0):
            block.append(("if", ("name", THROW, value), (("put", MOVE, move),), ()))
            value += 1
    # Runs are told apart no longer by their throws.
    block.append(("put", THROW, 0))
    for move, (_, column) in enumerate(counted):
        block.append(("if", ("name", MOVE, move), block_of_move(column, places, pattern), ()))
    return tuple(block)


def block_of_move(column, places, pattern):
    """The block that stops, or opens a column."""
    if column == STOP:
        return (("show", pattern),)
    return (("put", MOVE, 0), ("open", column), ("put", STAND, places[tuple(sorted(pattern + (column,)))]))


def asker_of(program):
    """The asker that opens from each stand what the runs of a blind program open there."""
    course = Course(program)
    if not is_blind_course(course):
        raise NotBlind()
    return Asker(program.sizes, course_moves(course))


def course_moves(course):
    """The dict from the stands of a blind program to the moves there."""
    found = {}
    for stand in list(course.opening) + list(course.ending):
        flows = [(column, part) for column, part in course.opening.get(stand, {}).items()]
        flows.extend([(STOP, part) for part in course.ending.get(stand, {}).values()])
        whole = total([part for _, part in flows])
        found[stand] = tuple(sorted([(column, over(part, whole)) for column, part in flows]))
    return found
