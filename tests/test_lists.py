import random
import unittest
from itertools import combinations, permutations, product

from fairmasks.errors import NoList, NoNumber
from fairmasks.lists import given_up, is_ring, many_orders, nests, order, ring
from makers import all_patterns, part_patterns
from samples import deep_dict, deep_list, deep_tuple, small_habit, strangers

THREE = ((0, 1), (0, 1, 2), (0, 2), (1, 2))
CHAIN = ((0,), (0, 1), (0, 1, 2))
CALLS = [nests, order, many_orders, ring, given_up, lambda columns, listed: is_ring(columns, listed, None)]


def cycle(columns):
    """The list of the ring of so many patterns and columns."""
    return tuple(sorted([tuple(sorted((k, (k + 1) % columns))) for k in range(columns)] + [tuple(range(columns))]))


def full(columns, patterns):
    return tuple(sorted(set(patterns) | {tuple(range(columns))}))


def random_list(columns, chance, most=11):
    parts = part_patterns(columns)
    return full(columns, chance.sample(parts, chance.randint(0, min(most, len(parts)))))


def is_nested(patterns, column):
    held = [set(pattern) for pattern in patterns if column in pattern]
    return all(one <= other or other <= one for one in held for other in held)


def parts(columns, listed):
    return [pattern for pattern in listed if len(pattern) < columns]


def all_orders(columns, listed):
    """All orders by the words of the document."""
    found = []
    for columns_in_turn in permutations(range(columns)):
        struck = [[set(p) - set(columns_in_turn[:k]) for p in parts(columns, listed)] for k in range(columns)]
        if all(is_nested(struck[k], columns_in_turn[k]) for k in range(columns)):
            found.append(columns_in_turn)
    return found


def is_ring_of(patterns, rs, cs):
    """Whether a pair is a ring of these part patterns, by the words of the document."""
    many = len(rs)
    if many < 3 or len(cs) != many or len(set(rs)) < many or len(set(cs)) < many or not set(rs) <= set(patterns):
        return False
    return all((cs[k] in rs[j]) == (j in (k, (k + 1) % many)) for k in range(many) for j in range(many))


def all_rings(columns, patterns):
    """All rings, by trying."""
    return sorted((len(rs), (rs, cs)) for many in range(3, columns + 1) for rs in permutations(patterns, many)
                  for cs in permutations(range(columns), many) if is_ring_of(patterns, rs, cs))


class Arguments(unittest.TestCase):
    def test_wrong_columns(self):
        for columns in [0, 6, -1, True, False, None, "3", (3,), [3], 10 ** 59, b"3", {}, small_habit(), int,
                        deep_list(40), deep_tuple(40), deep_dict(40)]:
            for listed in (THREE, None):
                for call in CALLS:
                    with self.assertRaises(NoNumber):
                        call(columns, listed)

    def test_wrong_lists(self):
        parts_of_four = part_patterns(4)
        wrong = [(), ((0, 1),), ((), (0,), (1,)), ((0, 1, 2), (0, 1)), ((0, 1, 2), (0, 1, 2)), [(0, 1, 2)],
                 ([0, 1, 2],), ((0, 1, 2, 3),), ((0, 1, 2), (3,)), ((0, 1, 2), (2, 1)), ((0, 1, 2), (True,)),
                 ((False, 1, 2),), ((0, 1, 2), None), (0, 1, 2), {(0, 1, 2): True}, list(THREE), THREE[:1]]
        for thing in strangers() + wrong:
            for call in CALLS:
                with self.assertRaises(NoList):
                    call(3, thing)
        for call in CALLS:
            with self.assertRaises(NoList):
                call(4, full(4, parts_of_four[:12]))
            call(4, full(4, parts_of_four[:11]))
            with self.assertRaises(NoList):
                call(2, THREE)
            with self.assertRaises(NoList):
                call(4, THREE)


class Orders(unittest.TestCase):
    def test_ordinary_ones(self):
        self.assertEqual(nests(3, THREE), ())
        self.assertIsNone(order(3, THREE))
        self.assertEqual(many_orders(3, THREE), 0)
        self.assertEqual((nests(3, CHAIN), order(3, CHAIN), many_orders(3, CHAIN)), ((0, 1, 2), (0, 1, 2), 6))

    def test_examples(self):
        self.assertEqual((nests(3, THREE), order(3, THREE), ring(3, THREE)),
                         ((), None, (((0, 1), (0, 2), (1, 2)), (0, 2, 1))))
        self.assertEqual((order(3, CHAIN), many_orders(3, CHAIN)), ((0, 1, 2), 6))

    def test_only_part_patterns_count(self):
        # Column 0 is in (0, 1) alone; ALL would hold it, too.
        listed = ((0, 1), (0, 1, 2), (1, 2))
        self.assertEqual(nests(3, listed), (0, 2))
        self.assertEqual(order(3, listed), (0, 1, 2))
        self.assertEqual(many_orders(3, listed), 4)

    def test_the_least_order_need_not_begin_with_0(self):
        listed = ((0, 1), (0, 1, 2), (0, 2))
        self.assertEqual(nests(3, listed), (1, 2))
        self.assertEqual(order(3, listed), (1, 0, 2))

    def test_columns_may_nest_when_others_are_struck(self):
        listed = ((0, 1), (0, 1, 2, 3), (0, 2), (0, 3))
        self.assertEqual(nests(4, listed), (1, 2, 3))
        self.assertEqual(order(4, listed), (1, 2, 0, 3))

    def test_one_and_five_columns(self):
        self.assertEqual((nests(1, ((0,),)), order(1, ((0,),)), many_orders(1, ((0,),))), ((0,), (0,), 1))
        self.assertEqual((nests(1, ((), (0,))), order(1, ((), (0,))), many_orders(1, ((), (0,)))), ((0,), (0,), 1))
        alone = ((0, 1, 2, 3, 4),)
        self.assertEqual((nests(5, alone), order(5, alone), many_orders(5, alone)),
                         ((0, 1, 2, 3, 4), (0, 1, 2, 3, 4), 120))
        self.assertEqual((nests(5, cycle(5)), order(5, cycle(5)), many_orders(5, cycle(5))), ((), None, 0))

    def test_all_lists_of_three_columns(self):
        subsets = part_patterns(3)
        for many in range(len(subsets) + 1):
            for chosen in combinations(subsets, many):
                self.assert_orders(3, full(3, chosen))

    def test_lists_by_chance(self):
        chance = random.Random(1)
        seen = {True: 0, False: 0}
        for _ in range(200):
            columns = chance.choice([2, 4, 4, 5, 5])
            listed = random_list(columns, chance, chance.choice([3, 5, 11]))
            self.assert_orders(columns, listed)
            seen[order(columns, listed) is None] += 1
        self.assertGreater(min(seen.values()), 30)

    def assert_orders(self, columns, listed):
        orders = all_orders(columns, listed)
        self.assertEqual(nests(columns, listed),
                         tuple(c for c in range(columns) if is_nested(parts(columns, listed), c)))
        self.assertEqual(order(columns, listed), min(orders) if orders else None)
        self.assertEqual(many_orders(columns, listed), len(orders))


class Rings(unittest.TestCase):
    def test_rings_of_three_four_and_five_patterns(self):
        self.assertEqual(ring(3, cycle(3)), (((0, 1), (0, 2), (1, 2)), (0, 2, 1)))
        self.assertEqual(ring(4, cycle(4)), (((0, 1), (0, 3), (2, 3), (1, 2)), (0, 3, 2, 1)))
        self.assertEqual(ring(5, cycle(5)), (((0, 1), (0, 4), (3, 4), (2, 3), (1, 2)), (0, 4, 3, 2, 1)))

    def test_no_ring(self):
        for columns, listed in [(1, ((0,),)), (2, ((), (0,), (0, 1), (1,))), (3, CHAIN), (5, ((0, 1, 2, 3, 4),)),
                                (3, ((0, 1), (0, 1, 2), (1, 2)))]:
            self.assertIsNone(ring(columns, listed))
            self.assertEqual(given_up(columns, listed), [()])

    def test_fewest_patterns_go_first(self):
        listed = full(4, [(0, 1), (0, 3), (1, 2), (2, 3), (1, 3)])
        self.assertEqual(ring(4, listed), (((0, 1), (0, 3), (1, 3)), (0, 3, 1)))
        # A ring of four patterns that are less than those of the one of three.
        listed = full(5, [(0, 1), (0, 4), (1, 2), (2, 4), (2, 3, 4), (1, 3, 4)])
        self.assertEqual(len(ring(5, listed)[0]), 3)

    def test_the_least_columns(self):
        # Columns 0 and 1 are both in the first two patterns and in no other.
        listed = full(4, [(0, 1, 2), (0, 1, 3), (2, 3)])
        self.assertEqual(ring(4, listed), (((0, 1, 2), (0, 1, 3), (2, 3)), (0, 3, 2)))

    def test_all_lists_of_three_columns(self):
        subsets = part_patterns(3)
        for many in range(len(subsets) + 1):
            for chosen in combinations(subsets, many):
                self.assert_rings(3, full(3, chosen))

    def test_lists_by_chance(self):
        chance = random.Random(2)
        for columns, most, many in [(4, 6, 60), (5, 5, 25), (4, 11, 3)]:
            for _ in range(many):
                self.assert_rings(columns, random_list(columns, chance, most))

    def assert_rings(self, columns, listed):
        rings = all_rings(columns, parts(columns, listed))
        found = ring(columns, listed)
        self.assertEqual(found, rings[0][1] if rings else None)
        # The third fact.
        self.assertIs(found is None, order(columns, listed) is not None)
        for _, told in rings[:20]:
            self.assertIs(is_ring(columns, listed, told), True)

    def test_great_lists(self):
        chance = random.Random(3)
        seen = 0
        for _ in range(60):
            listed = random_list(5, chance, 11)
            found = ring(5, listed)
            self.assertIs(found is None, order(5, listed) is not None)
            if found is not None:
                self.assertTrue(is_ring_of(parts(5, listed), *found))
                seen += 1
        self.assertGreater(seen, 20)


class Judging(unittest.TestCase):
    def test_a_ring_turned_on_and_told_the_other_way_round(self):
        rs, cs = ((0, 1), (1, 2), (2, 3), (0, 3)), (1, 2, 3, 0)
        for k in range(4):
            self.assertIs(is_ring(4, cycle(4), (rs[k:] + rs[:k], cs[k:] + cs[:k])), True)
            self.assertIs(is_ring(4, cycle(4), (rs[k:] + rs[:k], cs)), k == 0)
        back, other = tuple(reversed(rs)), tuple(reversed(cs))
        self.assertIs(is_ring(4, cycle(4), (back, other[1:] + other[:1])), True)
        self.assertIs(is_ring(4, cycle(4), (back, other)), False)

    def test_all_pairs_of_three(self):
        listed = full(3, [(0, 1), (0, 2), (1, 2), (0,)])
        for many in range(5):
            for rs in product(listed, repeat=min(many, 3)):
                for cs in product(range(3), repeat=min(many, 3)):
                    self.assertIs(is_ring(3, listed, (rs, cs)), is_ring_of(parts(3, listed), rs, cs))

    def test_patterns_that_are_not_in_the_list(self):
        told = (((0, 1), (0, 2), (1, 2)), (0, 2, 1))
        self.assertIs(is_ring(3, THREE, told), True)
        self.assertIs(is_ring(3, full(3, [(0, 1), (0, 2)]), told), False)
        self.assertIs(is_ring(4, cycle(4), told), False)

    def test_all_is_in_no_ring(self):
        listed = full(3, [(0, 1), (0, 2), (1, 2)])
        self.assertIs(is_ring(3, listed, (((0, 1), (0, 1, 2), (1, 2)), (0, 2, 1))), False)

    def test_wrong_things(self):
        rs, cs = ((0, 1), (0, 2), (1, 2)), (0, 2, 1)
        for thing in strangers() + [
                (), rs, cs, (rs,), (rs, cs, ()), [rs, cs], (list(rs), cs), (rs, list(cs)), (cs, rs), (rs, rs), (cs, cs),
                (rs, (0, 2)), (rs, (0, 2, 1, 0)), (rs[:2], cs[:2]), ((), ()), (rs + rs, cs + cs), (rs, (0, 2, 2)),
                (rs, (False, 2, True)), (((False, 1), (0, 2), (1, 2)), cs), (((0, True), (0, 2), (1, 2)), cs),
                (rs, ("0", "2", "1")), (rs, (None,) * 3), (rs, ((0,), (2,), (1,))), (("01", "02", "12"), cs),
                (([0, 1], [0, 2], [1, 2]), cs), (((1, 0), (0, 2), (1, 2)), cs), (rs, (0, 2, -2)), (rs, (0, 2, 10 ** 59)),
                (None, None), ({0: (0, 1)}, cs), (rs, None), (rs, "021"), (((0, 1), (0, 1), (1, 2)), cs),
                (((0, 1), (0, 2), None), cs), (((0, 1), (0, 2), deep_tuple(38)), cs), (rs, (0, 2, deep_list(38))),
                (tuple({} for _ in range(3)), cs), (rs, ([], [], []))]:
            self.assertIs(is_ring(3, THREE, thing), False, thing)


class Giving(unittest.TestCase):
    def test_ordinary_ones(self):
        self.assertEqual(given_up(3, THREE), [((0, 1),), ((0, 2),), ((1, 2),)])
        listed = full(4, [pattern for pattern in all_patterns(4) if len(pattern) == 2])
        found = given_up(4, listed)
        # What is left of all pairs holds no ring if it is a tree: 16 trees of four columns.
        self.assertEqual(len(found), 16)
        self.assertEqual({len(lost) for lost in found}, {3})

    def test_by_the_words_of_the_document(self):
        chance = random.Random(4)
        seen = {}
        for _ in range(120):
            columns = chance.choice([3, 4, 4, 5])
            listed = random_list(columns, chance, chance.choice([6, 8]))
            told = parts(columns, listed)
            for many in range(len(told) + 1):
                expected = [lost for lost in combinations(told, many)
                            if all_orders(columns, full(columns, set(told) - set(lost)))]
                if expected:
                    break
            self.assertEqual(given_up(columns, listed), sorted(expected))
            seen[many] = seen.get(many, 0) + 1
        self.assertGreater(seen[0], 10)
        self.assertGreater(seen[1], 10)
        self.assertGreater(seen[2], 1)

    def test_great_lists(self):
        chance = random.Random(5)
        for _ in range(10):
            listed = random_list(5, chance, 11)
            for lost in given_up(5, listed):
                self.assertEqual(lost, tuple(sorted(lost)))
                self.assertIsNone(ring(5, full(5, set(parts(5, listed)) - set(lost))))

    def test_lists_are_new(self):
        given_up(3, THREE).clear()
        self.assertEqual(len(given_up(3, THREE)), 3)


if __name__ == "__main__":
    unittest.main()
