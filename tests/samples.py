"""Objects of every kind that may stand where something else is asked for."""

from fairmasks.askers import Asker
from fairmasks.book import Book
from fairmasks.errors import BadHabit, BadSizes, MaskError
from fairmasks.habits import Habit
from fairmasks.keeper import Keeper
from fairmasks.programs import Program


def deep_list(depth):
    thing = []
    for _ in range(depth):
        thing = [thing]
    return thing


def deep_tuple(depth):
    thing = ()
    for _ in range(depth):
        thing = (thing,)
    return thing


def deep_pair(depth):
    thing = ((0,), (0,))
    for _ in range(depth):
        thing = (thing, thing)
    return thing


def deep_dict(depth):
    thing = {}
    for _ in range(depth):
        thing = {0: thing}
    return thing


def small_habit():
    return Habit((2,), ((((0,), (1, 1)),), (((0,), (1, 1)),)))


def small_objects():
    program = Program((2,), ())
    return [small_habit(), program, Asker((2,), {((), ()): ((-1, (1, 1)),)}), Book(small_habit()),
            Keeper(program, (False, False))]


def strangers():
    """None of these is sizes, a pattern, a content, a box, a list, a share or shares."""
    return [
        None, True, False, -1, 0, 1, 2, 3, 6, 10 ** 60, -(10 ** 60),
        "", "a", "ab", "(0,)", "\n", b"", b"a", b"\x00\x01", bytearray(b"ab"), memoryview(b"ab"),
        [], [0], [2, 2], [0, 1], [[0], [0]], [(0,), (0,)], [(), (0,)],
        {0: 0}, {0: 2, 1: 2}, {(): ()}, {"a": []}, {None: None}, {((0,), (0,)): 1},
        range(2), range(2, 4), slice(0, 2), Ellipsis, NotImplemented, object(),
        int, tuple, Habit, MaskError, len, strangers, (x for x in (2, 2)), iter([2, 2]), zip([0], [0]),
        small_habit(), BadSizes(), BadHabit((2, 2)), ValueError("x"),
        ("a",), ("ab", "ab"), (None,), (None, None), (True,), (False, False), (b"a",),
        (-1,), (10 ** 59,), ([],), ([0], [0]), ({},), ((0,), [0]), ([0], (0,)), ((0,), "0"),
        ((0,), (True,)), ((False,), (0,)), ((0,), (0,), (0,)), (((0,), (0,)),),
        ((0,), None), (None, (0,)), (small_habit(), small_habit()), (small_habit(),), (Habit, len),
        deep_list(40), deep_dict(40), deep_pair(10), (deep_list(39),), (deep_list(39), deep_dict(39)),
        deep_tuple(40), (deep_tuple(39), deep_tuple(39)), ((deep_tuple(38),), (0,)), ((0,), (deep_list(38),)),
        *[thing for made in small_objects() for thing in (made, (made,), [made], (made, made), {0: made}, ((0,), made))],
    ]
