import unittest
from itertools import product

from fairmasks.errors import BadSizes, NoBox, NoContent, NoNumber, NoPattern
from fairmasks.rows import both, box_at, contents, in_box, is_box, is_list
from makers import all_boxes, all_patterns
from samples import deep_list, deep_tuple, small_habit, strangers

RIGHT_SIZES = [
    (2,), (3,), (4,), (2, 2), (4, 2), (2, 3, 4), (2, 2, 2), (3, 3, 3, 3),
    (4, 4, 4, 4), (2, 2, 2, 2, 2), (4, 4, 4, 2, 2), (3, 3, 3, 3, 3), (2, 4, 2, 4, 4),
]
WRONG_SIZES = [
    (), (1,), (5,), (0,), (2, 1), (2, 5), (2, 2, 2, 2, 2, 2), (4, 4, 4, 4, 2), (4, 4, 4, 3, 2), (2, -2),
    (True, 2), (2, True), (False,), [2, 2], "22", (2, "2"), (2, None), ((2, 2),), {2: 2}, (2, [2]),
    (10 ** 59, 2), range(2, 4), b"\x02\x02", (2,) * 1000,
]
SMALL_SIZES = [(2,), (4,), (2, 2), (3, 2), (2, 3, 2), (2, 2, 2, 2)]


def held(sizes, box):
    """The contents in a box, told by the words of the document."""
    pattern, worths = box
    return [content for content in product(*map(range, sizes))
            if all(content[c] == worth for c, worth in zip(pattern, worths))]


class Sizes(unittest.TestCase):
    def test_right_sizes_are_taken_by_all(self):
        for sizes in RIGHT_SIZES:
            content = tuple(0 for _ in sizes)
            self.assertEqual(contents(sizes)[0], content)
            self.assertIs(is_box(sizes, ((), ())), True)
            self.assertEqual(box_at(sizes, (), content), ((), ()))
            self.assertEqual(in_box(sizes, ((0,), (0,)))[0], content)
            self.assertEqual(both(sizes, ((), ()), ((), ())), ((), ()))

    def test_wrong_sizes_are_named_by_all(self):
        box = ((), ())
        for sizes in WRONG_SIZES + strangers() + [deep_tuple(40), (2, deep_list(39)), small_habit()]:
            for call in (lambda: contents(sizes), lambda: is_box(sizes, box), lambda: box_at(sizes, (), (0,)),
                         lambda: in_box(sizes, box), lambda: both(sizes, box, box)):
                with self.assertRaises(BadSizes):
                    call()

    def test_sizes_are_looked_at_first(self):
        for call in (lambda: is_box([2], None), lambda: box_at([2], None, None),
                     lambda: in_box([2], None), lambda: both([2], None, None)):
            with self.assertRaises(BadSizes):
                call()


class Contents(unittest.TestCase):
    def test_one_column(self):
        self.assertEqual(contents((2,)), [(0,), (1,)])
        self.assertEqual(contents((4,)), [(0,), (1,), (2,), (3,)])

    def test_two_columns(self):
        self.assertEqual(contents((2, 3)), [(0, 0), (0, 1), (0, 2), (1, 0), (1, 1), (1, 2)])

    def test_all_ascending(self):
        for sizes in RIGHT_SIZES:
            self.assertEqual(contents(sizes), sorted(product(*map(range, sizes))))

    def test_the_greatest(self):
        self.assertEqual(len(contents((4, 4, 4, 4))), 256)
        self.assertEqual(len(contents((4, 4, 4, 2, 2))), 256)
        self.assertEqual(contents((4, 4, 4, 2, 2))[-1], (3, 3, 3, 1, 1))

    def test_lists_are_new(self):
        first = contents((2, 2))
        first.clear()
        self.assertEqual(len(contents((2, 2))), 4)
        box = ((0,), (1,))
        in_box((2, 2), box).append(None)
        self.assertEqual(in_box((2, 2), box), [(1, 0), (1, 1)])


class Boxes(unittest.TestCase):
    def test_right_boxes(self):
        for sizes in SMALL_SIZES:
            for box in all_boxes(sizes):
                self.assertIs(is_box(sizes, box), True)
        self.assertIs(is_box((4, 4, 4, 2, 2), ((0, 1, 2, 3, 4), (3, 3, 3, 1, 1))), True)

    def test_wrong_boxes(self):
        for thing in [((0,), ()), ((), (0,)), ((0,), (2,)), ((0,), (-1,)), ((2,), (0,)), ((-1,), (0,)),
                      ((1, 0), (0, 0)), ((0, 0), (0, 0)), ((0, 1), (0,)), ((0,), (0, 1)), ((0, 1), (0, 3)),
                      ((0,), (True,)), ((False,), (0,)), ((True,), (0,)), ([0], (0,)), ((0,), [0]),
                      [(0,), (0,)], ((0,), (0,), ()), ((0,),), (), ((0, 1, 2), (0, 0, 0)), ((), None), (None, ()),
                      ((), []), ((), ""), ("", ""), ((), {}), (0, 0), ((0,), 0), ((0,), ("0",)), ((0,), (None,)),
                      ((0,), (10 ** 59,)), ((10 ** 59,), (0,))]:
            self.assertIs(is_box((2, 3), thing), False, thing)

    def test_worths_are_measured_by_their_own_columns(self):
        self.assertIs(is_box((2, 3), ((1,), (2,))), True)
        self.assertIs(is_box((3, 2), ((1,), (2,))), False)
        self.assertIs(is_box((2, 3, 4), ((0, 2), (1, 3))), True)
        self.assertIs(is_box((2, 4, 3), ((0, 2), (1, 3))), False)

    def test_anything_is_judged(self):
        for thing in strangers():
            self.assertIs(is_box((2, 2), thing), False)
            for call in (lambda: in_box((2, 2), thing), lambda: both((2, 2), thing, ((), ())),
                         lambda: both((2, 2), ((), ()), thing)):
                with self.assertRaises(NoBox):
                    call()

    def test_box_at(self):
        self.assertEqual(box_at((2, 3), (1,), (1, 2)), ((1,), (2,)))
        self.assertEqual(box_at((2, 3), (), (1, 2)), ((), ()))
        self.assertEqual(box_at((2, 3), (0, 1), (1, 2)), ((0, 1), (1, 2)))
        self.assertEqual(box_at((2, 3, 4), (0, 2), (1, 2, 3)), ((0, 2), (1, 3)))
        for sizes in SMALL_SIZES:
            for pattern in all_patterns(len(sizes)):
                for content in contents(sizes):
                    box = box_at(sizes, pattern, content)
                    self.assertEqual(box[0], pattern)
                    self.assertIn(content, held(sizes, box))

    def test_box_at_without_a_pattern(self):
        for thing in strangers() + [(1, 0), (0, 0), (2,), (-1,), (0, 1, 2), [0], (True,), (0, True), "0", None]:
            with self.assertRaises(NoPattern):
                box_at((2, 2), thing, (0, 0))

    def test_box_at_without_a_content(self):
        for thing in strangers() + [(), (0,), (0, 2), (2, 0), (0, -1), (0, 0, 0), (0, True), (False, 0),
                                    [0, 0], "00", (0, "0"), (0, None), (0, 10 ** 59)]:
            with self.assertRaises(NoContent):
                box_at((2, 2), (0,), thing)

    def test_box_at_looks_at_one_behind_another(self):
        with self.assertRaises(NoPattern):
            box_at((2, 2), None, None)
        with self.assertRaises(NoContent):
            box_at((2, 2), (), None)

    def test_in_box(self):
        self.assertEqual(in_box((2, 3), ((), ())), contents((2, 3)))
        self.assertEqual(in_box((2, 3), ((1,), (2,))), [(0, 2), (1, 2)])
        self.assertEqual(in_box((2, 3), ((0, 1), (1, 0))), [(1, 0)])
        for sizes in SMALL_SIZES:
            for box in all_boxes(sizes):
                self.assertEqual(in_box(sizes, box), held(sizes, box))

    def test_both(self):
        self.assertEqual(both((2, 2, 2), ((0,), (1,)), ((2,), (0,))), ((0, 2), (1, 0)))
        self.assertEqual(both((2, 2, 2), ((2,), (0,)), ((0,), (1,))), ((0, 2), (1, 0)))
        self.assertEqual(both((2, 2, 2), ((0, 1), (1, 0)), ((1, 2), (0, 1))), ((0, 1, 2), (1, 0, 1)))
        self.assertIsNone(both((2, 2, 2), ((0, 1), (1, 0)), ((1, 2), (1, 1))))
        self.assertIsNone(both((2, 2), ((0,), (0,)), ((0,), (1,))))

    def test_both_of_all_boxes(self):
        for sizes in [(2,), (3, 2), (2, 3, 2)]:
            for box in all_boxes(sizes):
                for other in all_boxes(sizes):
                    shared = [content for content in held(sizes, box) if content in held(sizes, other)]
                    found = both(sizes, box, other)
                    if shared:
                        self.assertIs(is_box(sizes, found), True)
                        self.assertEqual(held(sizes, found), shared)
                    else:
                        self.assertIsNone(found)


class Lists(unittest.TestCase):
    def test_right_lists(self):
        self.assertIs(is_list(3, ((0, 1), (0, 1, 2), (0, 2), (1, 2))), True)
        self.assertIs(is_list(3, ((0, 1, 2),)), True)
        self.assertIs(is_list(1, ((0,),)), True)
        self.assertIs(is_list(1, ((), (0,))), True)
        self.assertIs(is_list(5, ((), (0, 1, 2, 3, 4), (4,))), True)

    def test_wrong_lists(self):
        for thing in [(), ((0, 1),), ((), (0,), (1,)), ((0, 1, 2), (0, 1)), ((0, 2), (0, 1, 2)),
                      ((0, 1, 2), (0, 1, 2)), ((0, 1), (0, 1), (0, 1, 2)), [(0, 1, 2)], ([0, 1, 2],),
                      ((0, 1, 2, 3),), ((0, 1, 2), (3,)), ((0, 1, 2), (2, 1)), ((0, 1, 2), (True,)),
                      ((False, 1, 2),), ((0, True, 2),), ((0, 1, 2), None), ((0, 1, 2), "1"), ((0, 1, 2), 1),
                      (0, 1, 2), {(0, 1, 2): True}, ((-1,), (0, 1, 2)), ((0, 0), (0, 1, 2)), None]:
            self.assertIs(is_list(3, thing), False, thing)

    def test_all_of_another_number_of_columns_is_not_all(self):
        self.assertIs(is_list(2, ((0, 1),)), True)
        self.assertIs(is_list(3, ((0, 1),)), False)
        self.assertIs(is_list(1, ((0, 1),)), False)

    def test_how_many_patterns(self):
        patterns = all_patterns(4)
        rest = [pattern for pattern in patterns if pattern != (0, 1, 2, 3)]
        for many in range(16):
            thing = tuple(sorted(rest[:many] + [(0, 1, 2, 3)]))
            self.assertIs(is_list(4, thing), len(thing) <= 12, thing)
            self.assertIs(is_list(4, tuple(rest[:many])), False)
        self.assertIs(is_list(5, tuple(all_patterns(5))), False)

    def test_anything_is_judged(self):
        for columns in range(1, 6):
            for thing in strangers():
                self.assertIs(is_list(columns, thing), False)

    def test_columns_are_a_number_from_1_to_5(self):
        for columns in [0, 6, -1, True, False, None, "3", (3,), [3], 10 ** 59, b"3", {}, small_habit(), int,
                        deep_list(40), deep_tuple(40)]:
            with self.assertRaises(NoNumber):
                is_list(columns, ((0,),))
            with self.assertRaises(NoNumber):
                is_list(columns, None)


if __name__ == "__main__":
    unittest.main()
