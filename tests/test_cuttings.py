import random
import unittest
from itertools import combinations, product

from fairmasks.cuttings import (cuttings, is_fair_showing, pair_showing, showing_of, shown_by, stuck, tree_of,
                                unlike_pair)
from fairmasks.errors import BadSizes, NoContent, NoCutting, NoList, NoNumber, NoPair, NoShowing, NoTree, TooMany
from fairmasks.lists import order
from makers import all_boxes, all_contents, all_patterns, at, boxes_of, is_in, wider
from samples import deep_dict, deep_list, deep_pair, deep_tuple, small_habit, strangers
from test_lists import CHAIN, THREE, full, parts, random_list
from test_rows import WRONG_SIZES

STOP = ("stop",)
BOTH = {(0, 0): (0,), (1, 1): (1,)}
SMALL = [(2,), (4,), (2, 2), (3, 2), (2, 3), (2, 2, 2)]
GREAT = [(4, 4, 4, 4), (4, 4, 4, 2, 2), (2, 2, 2, 2, 2), (3, 3, 3, 3, 3)]


def is_fair_by_words(showing):
    return all(showing[one] == showing[other] for one in showing for other in showing
               if at(showing[one], one) == at(showing[one], other))


def stuck_by_words(sizes, showing):
    """The least stand at which one is stuck, of all that can be come to."""
    found = []
    left = [((), ())]
    seen = set()
    while left:
        stand = left.pop()
        held = [content for content in showing if is_in(content, stand)]
        if stand in seen or not held:
            continue
        seen.add(stand)
        shared = [c for c in range(len(sizes)) if c not in stand[0] and all(c in showing[content] for content in held)]
        if not shared and any(showing[content] != stand[0] for content in held):
            found.append((len(stand[0]), stand))
        for column in shared:
            left.extend(wider(sizes, stand, column))
    return min(found)[1] if found else None


def way(tree, content):
    """The pattern that a tree shows of a content, or None."""
    seen = []
    while tree is not None and tree[0] == "open":
        seen.append(tree[1])
        tree = tree[2][content[tree[1]]]
    return None if tree is None else tuple(sorted(seen))


def all_trees(sizes, columns):
    """All trees that open some of these columns, and None."""
    found = [None, STOP]
    for column in columns:
        inner = all_trees(sizes, [other for other in columns if other != column])
        found.extend(("open", column, trees) for trees in product(inner, repeat=sizes[column]))
    return found


def random_tree(sizes, chance, columns, none=0.2):
    if not columns or chance.random() < 0.25:
        return STOP
    column = chance.choice(columns)
    rest = [other for other in columns if other != column]
    return ("open", column, tuple(None if chance.random() < none else random_tree(sizes, chance, rest, none)
                                  for _ in range(sizes[column])))


def showing_by(sizes, tree):
    return {content: way(tree, content) for content in all_contents(sizes) if way(tree, content) is not None}


def random_showing(sizes, chance):
    """A showing, now and then one of a tree, now and then but for a content."""
    if chance.random() < 0.5:
        showing = showing_by(sizes, random_tree(sizes, chance, list(range(len(sizes))), chance.choice([0, 0.3])))
        if showing and chance.random() < 0.5:
            showing[chance.choice(list(showing))] = chance.choice(all_patterns(len(sizes)))
        if showing:
            return showing
    shown = chance.sample(all_patterns(len(sizes)), chance.randint(1, 2))
    held = chance.sample(all_contents(sizes), chance.randint(1, min(5, len(all_contents(sizes)))))
    return {content: chance.choice(shown) for content in held}


def is_cutting_by_words(sizes, boxes):
    return all(sum(is_in(content, box) for box in boxes) == 1 for content in all_contents(sizes))


class Fair(unittest.TestCase):
    def test_ordinary_ones(self):
        for showing in [BOTH, {(0, 0): ()}, {(1, 1): (0, 1)}, {content: (0,) for content in all_contents((2, 2))},
                        {(0, 0): (0,), (0, 1): (0,), (1, 0): (0, 1), (1, 1): (0, 1)}]:
            self.assertIs(is_fair_showing((2, 2), showing), True)
        for showing in [{(0, 0): (0,), (0, 1): (1,)}, {(0, 0): (), (1, 1): (0, 1)}, {(0, 0): (0,), (0, 1): (0, 1)}]:
            self.assertIs(is_fair_showing((2, 2), showing), False)

    def test_what_never_comes_does_not_count(self):
        # With (0, 1), of which column 0 alone is shown, it would not be fair.
        self.assertIs(is_fair_showing((2, 2), {(0, 0): (0,), (1, 1): (1,)}), True)
        self.assertIs(is_fair_showing((2, 2), {(0, 0): (0,), (1, 1): (1,), (0, 1): (0,)}), False)

    def test_by_the_words_of_the_document(self):
        chance = random.Random(1)
        seen = {True: 0, False: 0}
        for _ in range(400):
            sizes = chance.choice(SMALL)
            showing = random_showing(sizes, chance)
            fair = is_fair_by_words(showing)
            self.assertIs(is_fair_showing(sizes, showing), fair)
            seen[fair] += 1
        self.assertGreater(min(seen.values()), 60)

    def test_all_contents_of_great_sizes(self):
        for sizes in GREAT:
            everything = tuple(range(len(sizes)))
            showing = {content: everything for content in all_contents(sizes)}
            self.assertIs(is_fair_showing(sizes, showing), True)
            showing[all_contents(sizes)[-1]] = everything[1:]
            self.assertIs(is_fair_showing(sizes, showing), False)

    def test_anything_is_judged(self):
        for thing in strangers() + NO_SHOWINGS:
            self.assertIs(is_fair_showing((2, 2), thing), False, thing)

    def test_wrong_sizes(self):
        for sizes in WRONG_SIZES + strangers():
            for thing in (BOTH, None):
                with self.assertRaises(BadSizes):
                    is_fair_showing(sizes, thing)


NO_SHOWINGS = [
    {}, [((0, 0), (0,))], (((0, 0), (0,)),), {(0, 0): [0]}, {(0, 0): (2,)}, {(0, 0): (1, 0)}, {(0, 0): None},
    {(0, 0): (0, 0)}, {(0, 0): 0}, {(0, 0): "0"}, {(0, 0): (True,)}, {(0, 0): (-1,)}, {(0, 2): (0,)}, {(0,): (0,)},
    {(0, 0, 0): (0,)}, {"00": (0,)}, {None: (0,)}, {0: (0,)}, {b"\x00\x00": ()}, {(-1, 0): ()}, {((0, 0),): ()},
    {(0, 0): (0,), (0, 2): (0,)}, {(0, 0): (0,), (0, 1): {}}, {(0, 0): deep_tuple(39)}, {deep_tuple(39): (0,)},
    {(0, 0): deep_list(39)}, {(0, 0): small_habit()}, {(0, 0): ((0,),)}, {(0, 0): ((), ())}, {len: (0,)},
    {(0, 10 ** 59): (0,)}, {(0, 0): (10 ** 59,)}, {("0", "0"): (0,)}, {(0, None): (0,)},
]


class Trees(unittest.TestCase):
    def test_ordinary_ones(self):
        tree = ("open", 1, (STOP, ("open", 0, (None, STOP))))
        self.assertEqual(shown_by((2, 2), tree, (0, 0)), (1,))
        self.assertEqual(shown_by((2, 2), tree, (1, 1)), (0, 1))
        self.assertIsNone(shown_by((2, 2), tree, (0, 1)))
        self.assertEqual(shown_by((2, 2), STOP, (0, 1)), ())

    def test_one_and_five_columns(self):
        self.assertEqual(shown_by((4,), ("open", 0, (None, STOP, None, STOP)), (3,)), (0,))
        tree = STOP
        for column in (1, 3, 0, 4, 2):
            tree = ("open", column, (tree, tree))
        self.assertEqual(shown_by((2, 2, 2, 2, 2), tree, (0, 1, 0, 1, 0)), (0, 1, 2, 3, 4))
        self.assertEqual(shown_by((2, 2), ("open", 0, (None, None)), (0, 0)), None)

    def test_by_chance(self):
        chance = random.Random(2)
        for _ in range(200):
            sizes = chance.choice(SMALL + [(2, 2, 2, 2, 2)])
            tree = random_tree(sizes, chance, list(range(len(sizes))))
            for content in all_contents(sizes):
                self.assertEqual(shown_by(sizes, tree, content), way(tree, content))

    def test_what_is_no_tree(self):
        deep = STOP
        for _ in range(20):
            deep = ("open", 0, (deep, deep))
        wide = STOP
        for k in range(10):
            wide = ("open", k % 2, (wide, wide))
        for tree in strangers() + [
                None, (), "stop", ["stop"], ("stop", None), ("stop", ()), ("Stop",), (b"stop",), (STOP,), ("open",),
                ("open", 0), ("open", 0, ()), ("open", 0, (STOP,)), ("open", 0, (STOP, STOP, STOP)),
                ("open", 0, [STOP, STOP]), ["open", 0, (STOP, STOP)], ("open", 2, (STOP, STOP)),
                ("open", -1, (STOP, STOP)), ("open", False, (STOP, STOP)), ("open", True, (STOP, STOP)),
                ("open", "0", (STOP, STOP)), ("open", None, (STOP, STOP)), ("open", (0,), (STOP, STOP)),
                ("open", 0, (STOP, STOP), None), ("open", 0, (STOP, "stop")), ("open", 0, (STOP, False)),
                ("open", 0, (STOP, ())), ("open", 0, (STOP, 0)), ("open", 0, (STOP, ["stop"])), ("open", 0, None),
                ("open", 0, "ab"), ("open", 0, {0: STOP, 1: STOP}), ("openx", 0, (STOP, STOP)), ("show", (0,)),
                ("open", 0, (("open", 0, (STOP, STOP)), STOP)), ("open", 0, (STOP, ("open", 1, (STOP, ("open", 0, (
                    STOP, STOP)))))), ("open", 10 ** 59, (STOP, STOP)), deep, wide, ("open", 0, (deep_tuple(38), STOP)),
                ("open", 0, (deep_list(38), STOP)), ("open", 0, (deep_dict(38), None)), ("open", [0], (STOP, STOP)),
                ("open", {}, (STOP, STOP)), ("open", 0, (small_habit(), STOP)), (None, 0, (STOP, STOP))]:
            for content in ((0, 0), (1, 1), None):
                with self.assertRaises(NoTree):
                    shown_by((2, 2), tree, content)
        # As many trees as the column has worths.
        self.assertEqual(shown_by((2, 3), ("open", 1, (STOP, STOP, STOP)), (0, 0)), (1,))
        for tree in [("open", 0, (STOP, STOP, STOP)), ("open", 1, (STOP, STOP))]:
            with self.assertRaises(NoTree):
                shown_by((2, 3), tree, (0, 0))

    def test_wrong_contents(self):
        for content in strangers() + [(), (0,), (0, 2), (-1, 0), (0, 0, 0), [0, 0], (0, True), "00", None]:
            with self.assertRaises(NoContent):
                shown_by((2, 2), STOP, content)

    def test_wrong_sizes(self):
        for sizes in WRONG_SIZES + strangers():
            for tree in (STOP, None):
                with self.assertRaises(BadSizes):
                    shown_by(sizes, tree, (0, 0))


class TreeOf(unittest.TestCase):
    def assert_tree_of(self, sizes, showing):
        """Just one of a tree and a stand at which one is stuck, and that it is right."""
        before = dict(showing)
        tree, stand = tree_of(sizes, showing), stuck(sizes, showing)
        self.assertEqual(showing, before)
        self.assertEqual(stand, stuck_by_words(sizes, showing))
        self.assertEqual(tree is None, stand is not None)
        if tree is not None:
            for content, pattern in showing.items():
                self.assertEqual(shown_by(sizes, tree, content), pattern)
            self.assert_lacking(sizes, tree, ((), ()), showing)
        return tree is not None

    def assert_lacking(self, sizes, tree, stand, showing):
        """None stands just where no content of the showing comes."""
        self.assertEqual(tree is None, not any(is_in(content, stand) for content in showing))
        if tree is not None and tree[0] == "open":
            for inner, box in zip(tree[2], wider(sizes, stand, tree[1])):
                self.assert_lacking(sizes, inner, box, showing)

    def test_one_content(self):
        for sizes in SMALL + GREAT:
            for pattern in all_patterns(len(sizes)):
                self.assertTrue(self.assert_tree_of(sizes, {all_contents(sizes)[-1]: pattern}))

    def test_ordinary_ones(self):
        self.assertEqual(tree_of((2, 2), {(0, 0): (1,)}), ("open", 1, (STOP, None)))
        self.assertEqual(tree_of((2, 2), {content: () for content in all_contents((2, 2))}), STOP)
        self.assertIsNone(tree_of((2, 2), BOTH))
        self.assertEqual(stuck((2, 2), BOTH), ((), ()))
        # Stuck behind column 0, at the less one of two stands, or at one alone.
        showing = {(0, 0, 0): (0, 1), (0, 1, 1): (0, 2), (1, 0, 0): (0, 1), (1, 1, 1): (0, 2)}
        self.assertEqual(stuck((2, 2, 2), showing), ((0,), (0,)))
        showing.pop((0, 1, 1))
        self.assertEqual(stuck((2, 2, 2), showing), ((0,), (1,)))

    def test_the_least_stand_has_fewest_columns(self):
        # Behind 0 of column 0 it is stuck with columns 0 and 1, behind 1 with column 0 alone.
        showing = {(0, 0, 0, 0): (0, 1, 2), (0, 0, 1, 1): (0, 1, 3), (1, 0, 0, 0): (0, 1), (1, 1, 1, 1): (0, 2)}
        self.assertEqual(stuck((2, 2, 2, 2), showing), ((0,), (1,)))
        showing.pop((1, 1, 1, 1))
        self.assertEqual(stuck((2, 2, 2, 2), showing), ((0, 1), (0, 0)))

    def test_a_stand_may_be_come_to_in_several_orders(self):
        # With 0 and 1 in all patterns either may be opened first; stuck behind 0 with both is the least.
        showing = {(0, 0, 0, 0): (0, 1, 2), (0, 0, 1, 1): (0, 1, 3), (1, 1, 0, 0): (0, 1), (1, 0, 1, 1): (0, 1)}
        self.assertEqual(stuck((2, 2, 2, 2), showing), ((0, 1), (0, 0)))
        self.assertFalse(self.assert_tree_of((2, 2, 2, 2), showing))

    def test_of_as_many_columns_the_least_box_is_named(self):
        # Behind 0 of column 0 it is stuck with column 2, behind 1 with column 1, of which the pattern is less.
        showing = {(0, 0, 0, 0): (0, 1, 2), (0, 1, 0, 1): (0, 2, 3), (1, 0, 0, 0): (0, 1, 2), (1, 0, 1, 1): (0, 1, 3)}
        self.assertEqual(stuck((2, 2, 2, 2), showing), ((0, 1), (1, 0)))
        self.assertFalse(self.assert_tree_of((2, 2, 2, 2), showing))
        showing.pop((1, 0, 1, 1))
        self.assertEqual(stuck((2, 2, 2, 2), showing), ((0, 2), (0, 0)))

    def test_what_is_not_fair_has_no_tree(self):
        self.assertEqual(stuck((2, 2), {(0, 0): (), (0, 1): (0,)}), ((), ()))
        self.assertEqual(stuck((2, 2), {(0, 0): (0,), (0, 1): (0, 1)}), ((0,), (0,)))
        self.assertIsNone(tree_of((2, 2), {(0, 0): (0,), (0, 1): (0, 1)}))

    def test_all_trees_of_two_columns(self):
        for sizes in [(2,), (3,), (2, 2)]:
            showings = [showing_by(sizes, tree) for tree in all_trees(sizes, range(len(sizes)))]
            patterns = all_patterns(len(sizes)) + [None]
            for shown in product(patterns, repeat=len(all_contents(sizes))):
                showing = {c: pattern for c, pattern in zip(all_contents(sizes), shown) if pattern is not None}
                if showing:
                    told = any(showing.items() <= other.items() for other in showings)
                    self.assertIs(self.assert_tree_of(sizes, showing), told)

    def test_showings_of_trees(self):
        chance = random.Random(3)
        for _ in range(150):
            sizes = chance.choice(SMALL + [(2, 2, 2, 2, 2), (4, 3, 2)])
            showing = showing_by(sizes, random_tree(sizes, chance, list(range(len(sizes))), chance.choice([0, 0.3])))
            if showing:
                self.assertTrue(self.assert_tree_of(sizes, showing))
                self.assertIs(is_fair_showing(sizes, showing), True)

    def test_showings_by_chance(self):
        chance = random.Random(4)
        seen = {True: 0, False: 0}
        for _ in range(400):
            sizes = chance.choice(SMALL + [(2, 2, 2, 2)])
            showing = random_showing(sizes, chance)
            seen[self.assert_tree_of(sizes, showing)] += 1
        self.assertGreater(min(seen.values()), 80)

    def test_all_contents_of_great_sizes(self):
        for sizes in GREAT:
            everything = tuple(range(len(sizes)))
            self.assertTrue(self.assert_tree_of(sizes, {content: everything for content in all_contents(sizes)}))
            showing = {content: everything if content[1] else (1,) for content in all_contents(sizes)}
            self.assertTrue(self.assert_tree_of(sizes, showing))
            showing[tuple(1 for _ in sizes)] = (0, 1)
            self.assertFalse(self.assert_tree_of(sizes, showing))

    def test_the_order_of_keys_means_nothing(self):
        showing = {content: (0, 1) for content in all_contents((2, 3))}
        turned = {content: showing[content] for content in reversed(list(showing))}
        self.assertEqual(tree_of((2, 3), showing), tree_of((2, 3), turned))

    def test_wrong_ones(self):
        for call in (tree_of, stuck):
            for thing in strangers() + NO_SHOWINGS:
                with self.assertRaises(NoShowing):
                    call((2, 2), thing)
            for sizes in WRONG_SIZES + strangers():
                for thing in (BOTH, None):
                    with self.assertRaises(BadSizes):
                        call(sizes, thing)


class Pairs(unittest.TestCase):
    def test_unlike_pair(self):
        self.assertEqual(unlike_pair(3, THREE), ((0, 1), (0, 2)))
        self.assertIsNone(unlike_pair(3, CHAIN))
        self.assertIsNone(unlike_pair(1, ((), (0,))))
        self.assertIsNone(unlike_pair(5, ((0, 1, 2, 3, 4),)))
        self.assertEqual(unlike_pair(2, ((0,), (0, 1), (1,))), ((0,), (1,)))
        self.assertEqual(unlike_pair(3, ((), (0,), (0, 1), (0, 1, 2), (2,))), ((0,), (2,)))

    def test_unlike_pair_by_chance(self):
        chance = random.Random(5)
        for _ in range(200):
            columns = chance.randint(1, 5)
            listed = random_list(columns, chance, chance.choice([2, 3, 11]))
            found = [(one, other) for one, other in product(parts(columns, listed), repeat=2)
                     if not set(one) <= set(other) and not set(other) <= set(one)]
            self.assertEqual(unlike_pair(columns, listed), min(found) if found else None)

    def test_wrong_lists(self):
        for columns in [0, 6, -1, True, False, None, "3", (3,), [3], 10 ** 59, small_habit(), deep_list(40)]:
            for listed in (THREE, None):
                with self.assertRaises(NoNumber):
                    unlike_pair(columns, listed)
        for thing in strangers() + [(), list(THREE), THREE[:1], ((0, 1, 2), (True,))]:
            with self.assertRaises(NoList):
                unlike_pair(3, thing)

    def test_pair_showing(self):
        for sizes in [(2, 2), (4, 3), (2, 2, 2), (2, 3, 2, 2), (2, 2, 2, 2, 2)]:
            everything = tuple(range(len(sizes)))
            for pair in product(all_patterns(len(sizes)), repeat=2):
                if set(pair[0]) <= set(pair[1]) or set(pair[1]) <= set(pair[0]):
                    with self.assertRaises(NoPair):
                        pair_showing(sizes, pair)
                else:
                    showing = pair_showing(sizes, pair)
                    self.assertIs(is_fair_showing(sizes, showing), True)
                    self.assertIsNone(tree_of(sizes, showing))
                    self.assertLessEqual(set(showing.values()), {pair[0], pair[1], everything})

    def test_the_seventh_fact(self):
        # If the part patterns lie one within another, each fair showing has a tree.
        chance = random.Random(6)
        seen = 0
        for _ in range(3000):
            sizes = chance.choice([(2, 2), (2, 2, 2)])
            showing = random_showing(sizes, chance)
            listed = full(len(sizes), list(showing.values()))
            if is_fair_showing(sizes, showing) and unlike_pair(len(sizes), listed) is None:
                self.assertIsNotNone(tree_of(sizes, showing))
                seen += 1
        self.assertGreater(seen, 300)
        # On all contents also if the list has no ring: only cuttings with the ring of three have none.
        for cutting in cuttings((2, 2, 2)):
            showing = showing_of((2, 2, 2), cutting)
            if order(3, full(3, list(showing.values()))) is not None:
                self.assertIsNotNone(tree_of((2, 2, 2), showing))

    def test_wrong_pairs(self):
        for pair in strangers() + [((0,),), ((0,), (1,), (0, 1)), [(0,), (1,)], ([0], [1]), ((0,), [1]), ((0,), (2,)),
                                   ((0,), (True,)), ((0,), (0,)), ((), (0,)), ((0,), (0, 1)), ((1, 0), (0,)), (0, 1),
                                   ("0", "1"), None, ((0,), None), deep_pair(10), (deep_tuple(39), (0,))]:
            with self.assertRaises(NoPair):
                pair_showing((2, 2), pair)
        for sizes in WRONG_SIZES + strangers():
            for pair in (((0,), (1,)), None):
                with self.assertRaises(BadSizes):
                    pair_showing(sizes, pair)
        with self.assertRaises(NoPair):
            pair_showing((2,), ((), (0,)))

    def test_dicts_are_new(self):
        pair_showing((2, 2), ((0,), (1,))).clear()
        self.assertIs(is_fair_showing((2, 2), pair_showing((2, 2), ((0,), (1,)))), True)


class Cuttings(unittest.TestCase):
    def test_e08(self):
        self.assertEqual(len(cuttings((2, 2))), 8)

    def test_how_many_there_are(self):
        # Of cubes 2, 8, 154; of a table that is cut by rows, or by columns, 2 ** rows + 2 ** columns, less 1, and whole.
        self.assertEqual([len(cuttings(sizes)) for sizes in [(2,), (3,), (4,), (2, 3), (4, 2), (3, 3), (2, 2, 2)]],
                         [2, 2, 2, 12, 20, 16, 154])

    def test_all_by_trying(self):
        for sizes in [(2,), (4,), (2, 2), (2, 3)]:
            found = []
            for many in range(1, len(all_contents(sizes)) + 1):
                for boxes in combinations(sorted(all_boxes(sizes)), many):
                    if is_cutting_by_words(sizes, boxes):
                        found.append(boxes)
            self.assertEqual(cuttings(sizes), sorted(found))

    def test_each_is_a_cutting(self):
        for sizes in [(3, 3), (2, 2, 2), (4, 2), (2, 4)]:
            found = cuttings(sizes)
            self.assertEqual(found, sorted(set(found)))
            for cutting in found:
                self.assertIs(type(cutting), tuple)
                self.assertEqual(list(cutting), sorted(cutting))
                self.assertTrue(is_cutting_by_words(sizes, cutting))
                showing = showing_of(sizes, cutting)
                self.assertIs(is_fair_showing(sizes, showing), True)

    def test_some_cuttings_have_no_tree(self):
        # Of the 154 cuttings of a cube just these need throws: three pairs in a ring, and two far corners.
        found = [cutting for cutting in cuttings((2, 2, 2)) if tree_of((2, 2, 2), showing_of((2, 2, 2), cutting)) is None]
        for cutting in found:
            self.assertEqual(sorted({pattern for pattern, _ in cutting}), [(0, 1), (0, 1, 2), (0, 2), (1, 2)])
        self.assertEqual([sorted(len(pattern) for pattern, _ in cutting) for cutting in found],
                         [[2, 2, 2, 3, 3]] * 8)
        self.assertTrue(all(tree_of((3, 3), showing_of((3, 3), cutting)) for cutting in cuttings((3, 3))))

    def test_nine_contents_and_more(self):
        for sizes in [(3, 3), (2, 4), (4, 2), (2, 2, 2)]:
            cuttings(sizes)
        for sizes in [(3, 4), (4, 4), (2, 2, 3), (2, 2, 2, 2), (4, 4, 4, 2, 2), (3, 2, 2)]:
            with self.assertRaises(TooMany) as caught:
                cuttings(sizes)
            self.assertEqual(caught.exception.most, 9)

    def test_wrong_sizes(self):
        for sizes in WRONG_SIZES + strangers():
            with self.assertRaises(BadSizes):
                cuttings(sizes)
            for cutting in ((((), ()),), None):
                with self.assertRaises(BadSizes):
                    showing_of(sizes, cutting)

    def test_lists_are_new(self):
        cuttings((2,)).clear()
        self.assertEqual(len(cuttings((2,))), 2)
        showing_of((2,), (((), ()),)).clear()
        self.assertEqual(showing_of((2,), (((), ()),)), {(0,): (), (1,): ()})


class ShowingOf(unittest.TestCase):
    def test_ordinary_ones(self):
        self.assertEqual(showing_of((2, 2), (((0,), (1,)), ((0, 1), (0, 0)), ((0, 1), (0, 1)))),
                         {(0, 0): (0, 1), (0, 1): (0, 1), (1, 0): (0,), (1, 1): (0,)})

    def test_great_sizes(self):
        for sizes in GREAT:
            for pattern in all_patterns(len(sizes)):
                showing = showing_of(sizes, tuple(boxes_of(sizes, pattern)))
                self.assertEqual(showing, {content: pattern for content in all_contents(sizes)})
            cutting = tuple(boxes_of(sizes, (0, 1)))
            for wrong in (cutting[1:], cutting[:-1], tuple(sorted(cutting + (((0,), (0,)),)))):
                with self.assertRaises(NoCutting):
                    showing_of(sizes, wrong)

    def test_wrong_cuttings(self):
        whole = ((), ())
        rows = (((0,), (0,)), ((0,), (1,)))
        for thing in strangers() + [
                (), [whole], whole, (whole, whole), (whole, rows[0]), rows[:1], rows[::-1], list(rows), rows + rows,
                rows + (((1,), (0,)),), (rows[0], ((1,), (0,))), (rows[0], ((0,), [1])), (rows[0], [(0,), (1,)]),
                (rows[0], ((0,), (True,))), (rows[0], ((False,), (1,))), {whole: 0}, (whole, None), (None,),
                (((0,), (2,)),), (((2,), (0,)),), (deep_tuple(39),), (deep_pair(10),), (rows,), "", (whole, deep_list(38)),
                (((1, 0), (0, 0)),)]:
            with self.assertRaises(NoCutting):
                showing_of((2, 2), thing)

    def test_judged_as_by_the_words_of_the_document(self):
        chance = random.Random(7)
        seen = {True: 0, False: 0}
        right = cuttings((2, 2, 2)) + cuttings((2, 2, 2))
        for _ in range(300):
            boxes = list(chance.choice(right))
            if chance.random() < 0.5:
                boxes[chance.randrange(len(boxes))] = chance.choice(all_boxes((2, 2, 2)))
            boxes = tuple(sorted(set(boxes)))
            told = is_cutting_by_words((2, 2, 2), boxes)
            seen[told] += 1
            if told:
                self.assertEqual(showing_of((2, 2, 2), boxes), {
                    content: pattern for content in all_contents((2, 2, 2)) for pattern, worths in boxes
                    if at(pattern, content) == worths})
            else:
                with self.assertRaises(NoCutting):
                    showing_of((2, 2, 2), boxes)
        self.assertGreater(min(seen.values()), 50)


if __name__ == "__main__":
    unittest.main()
