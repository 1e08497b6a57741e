"""What falls can do to keepers of blind programs, and to what is shown."""

from fairmasks.amounts import ONE, ZERO, greater, is_pair, times, total
from fairmasks.branches import Branches, bases_of, first_showing, moves_to
from fairmasks.courses import Course, is_blind_course, row_of
from fairmasks.errors import NoContent, NoNumber, NoPattern, NoPolicy, NotBlind, TooMany
from fairmasks.keeper import Keeper, is_policy
from fairmasks.lists import within
from fairmasks.programs import is_number, is_number_in
from fairmasks.rows import all_contents, is_content, is_pattern

MOST_FALLS = 6


def checked_course(program, policy):
    """The course of a blind program; raise what is wrong with these."""
    try:
        course = Course(program)
    except TooMany:
        # It is not known whether the program is blind, but all other errors stand ahead of this one.
        if not is_policy(policy):
            raise NoPolicy() from None
        raise
    if not is_blind_course(course):
        raise NotBlind()
    if not is_policy(policy):
        raise NoPolicy()
    return course


def breach(program, policy):
    """A content and moves of a keeper by which a cell is opened and not shown, or None.

    With a True flag the keeper does behind a fall what it has done, or nothing
    is lost by it. Else it can open what one pattern asks for, and show another.
    """
    course = checked_course(program, policy)
    if policy != (False, False):
        return None
    for content in all_contents(program.sizes):
        shown = [pattern for pattern, _ in row_of(course, content)]
        if len(shown) > 1:
            one, other = shown[:2]
            lost, kept = (other, one) if within(one, other) else (one, other)
            branches = Branches(program, content)
            moves = moves_to(branches, first_showing(branches, lost)) + [("fall",)]
            return (content, tuple(moves + moves_to(branches, first_showing(branches, kept)) + [("go",)]))
    return None


def is_breach(program, policy, thing):
    """Whether a thing is a content and moves of a keeper by which a cell is opened and not shown."""
    checked_course(program, policy)
    if not is_pair(thing) or not is_content(program.sizes, thing[0]) or not isinstance(thing[1], (list, tuple)):
        return False
    keeper = Keeper(program, policy)
    keeper.put(thing[0])
    for move in thing[1]:
        if not is_due(keeper, move):
            return False
        do_move(keeper, move)
    # What was opened of a row counts here only when it is shown.
    return keeper.peeked() > 0


def is_due(keeper, move):
    """Whether a thing is a move that a keeper can do now."""
    if not isinstance(move, tuple) or not move or not isinstance(move[0], str):
        return False
    deed = keeper.due()
    if move[0] == "throw":
        is_thrown = len(move) == 2 and is_number(move[1]) and deed is not None and deed[0] == "throw"
        return is_thrown and move[1] < deed[1]
    if len(move) != 1:
        return False
    return move[0] == "fall" or (move[0] == "go" and deed is not None and deed[0] != "throw")


def do_move(keeper, move):
    """Let a keeper do a move."""
    if move[0] == "throw":
        keeper.throw(move[1])
    elif move[0] == "go":
        keeper.go()
    else:
        keeper.fall()


def sway(program, policy, content, pattern, falls):
    """The greatest share with which just this pattern can be shown of a content with at most so many falls."""
    if not is_policy(policy):
        raise NoPolicy()
    if not is_content(program.sizes, content):
        raise NoContent()
    if not is_pattern(len(program.sizes), pattern):
        raise NoPattern()
    if not is_number_in(falls, 0, MOST_FALLS):
        raise NoNumber()
    # Made for its check alone: here, too, there may be too many runs of another content.
    Course(program)
    branches = Branches(program, content)
    bases = bases_of(branches, policy)
    shares = shares_from(branches, pattern, [])
    for _ in range(falls):
        # A fall leads to where all lines are sure, from where one more falls back no further.
        shares = shares_from(branches, pattern, [shares[base] for base in bases])
    return shares[0]


def shares_from(branches, pattern, fallen):
    """For each place the list of the greatest shares with which a pattern is shown if the next deed is done there.

    fallen has for each place the share that is had by falling there instead, or nothing at all if there are no falls.
    """
    found = [ZERO for _ in branches.dues]
    for place in reversed(range(len(branches.dues))):
        deed = branches.dues[place]
        if deed[0] == "show":
            found[place] = ONE if deed[1] == pattern else ZERO
            continue
        come = [greater(found[below], fallen[below]) if fallen else found[below] for below in branches.downs[place]]
        found[place] = times(total(come), (1, len(come)))
    return found
