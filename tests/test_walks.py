import random
import unittest

from tests.making import (
    THIRTY,
    heaviest_by_all_walks,
    heaviest_tie_by_tie,
    random_ties,
    random_wheels,
    ring_ties,
    weight_of,
)
from waitwheel.errors import NoDeed
from waitwheel.walks import heaviest, one_piece, walk_of
from waitwheel.wheel import Wheel


class HeaviestTest(unittest.TestCase):
    def test_no_ties(self):
        for size in (1, 2, 5, 40):
            wanted = [[0 if a == b else None for b in range(size)] for a in range(size)]
            self.assertEqual(heaviest(Wheel(size, ring_ties(size, 7)), 0), wanted)

    def test_one_tie_is_the_ties_themselves(self):
        for wheel in random_wheels(11, 40, 1, 40, THIRTY):
            rows = heaviest(wheel, 1)
            told = [(a, b, w) for a, row in enumerate(rows) for b, w in enumerate(row) if w is not None]
            self.assertEqual(told, wheel.ties())
            self.assertEqual([len(row) for row in rows], [wheel.size()] * wheel.size())

    def test_rows_go_from_a_and_places_to_b(self):
        wheel = Wheel(2, [(0, 0, 1), (0, 1, 5)])
        self.assertEqual(heaviest(wheel, 1), [[1, 5], [None, None]])
        self.assertEqual(heaviest(wheel, 3), [[3, 7], [None, None]])

    def test_the_heavier_of_two_ways(self):
        wheel = Wheel(4, [(0, 1, 5), (1, 3, -9), (0, 2, -6), (2, 3, 3), (3, 0, 0)])
        self.assertEqual(heaviest(wheel, 2)[0], [None, None, None, -3])

    def test_numbers_below_nought_alone(self):
        self.assertEqual(heaviest(Wheel(1, [(0, 0, -3)]), 7), [[-21]])
        self.assertEqual(heaviest(Wheel(1, [(0, 0, 0)]), 7), [[0]])

    def test_against_all_walks(self):
        for wheel in random_wheels(12, 60, 1, 4):
            for many in range(6):
                self.assertEqual(heaviest(wheel, many), heaviest_by_all_walks(wheel, many), wheel.ties())

    def test_against_all_walks_with_great_numbers(self):
        for wheel in random_wheels(13, 20, 1, 3, THIRTY):
            for many in range(6):
                self.assertEqual(heaviest(wheel, many), heaviest_by_all_walks(wheel, many), wheel.ties())

    def test_against_tie_by_tie_for_every_number_of_ties(self):
        for wheel in random_wheels(14, 6, 1, 6):
            for many in range(70):
                self.assertEqual(heaviest(wheel, many), heaviest_tie_by_tie(wheel, many))

    def test_a_thousand_ties(self):
        for wheel in random_wheels(15, 5, 3, 8, THIRTY):
            for many in (999, 1000):
                self.assertEqual(heaviest(wheel, many), heaviest_tie_by_tie(wheel, many))

    def test_forty_deeds_all_tied_and_a_thousand_ties(self):
        rng = random.Random(16)
        ties = [(a, b, rng.randint(-THIRTY, -1)) for a in range(40) for b in range(40)]
        wheel = Wheel(40, [(a, b, 0 if a == b == 17 else w) for a, b, w in ties])
        rows = heaviest(wheel, 1000)
        # With the one tie of nought to stay at, a heaviest walk goes there, waits, and goes on.
        self.assertEqual(rows[17][17], 0)
        short = heaviest_tie_by_tie(wheel, 40)
        for a in range(40):
            self.assertEqual(rows[a], [short[a][17] + short[17][b] for b in range(40)])

    def test_a_ring_has_one_walk_from_each_deed(self):
        for many in (2, 39, 40, 41, 1000):
            rows = heaviest(Wheel(40, ring_ties(40, -THIRTY)), many)
            for a, row in enumerate(rows):
                wanted = [None] * 40
                wanted[(a + many) % 40] = -THIRTY * many
                self.assertEqual(row, wanted)

    def test_a_changed_row_changes_no_other(self):
        for wheel in random_wheels(17, 12, 2, 6):
            for many in (0, 1, 2, 3, 10):
                rows = heaviest(wheel, many)
                again = heaviest(wheel, many)
                for a in range(wheel.size()):
                    rows[a].clear()
                    self.assertEqual(rows[a + 1:], again[a + 1:])
                self.assertEqual(heaviest(wheel, many), again)
                self.assertEqual(len({id(row) for row in rows + again}), 2 * wheel.size())
                self.assertEqual(again, heaviest_tie_by_tie(wheel, many))

    def test_the_wheel_is_not_changed(self):
        wheel = Wheel(3, ring_ties(3) + [(0, 0, 4)])
        ties = wheel.ties()
        heaviest(wheel, 9)[0][0] = 55
        self.assertEqual(wheel.ties(), ties)


class WalkOfTest(unittest.TestCase):
    def assert_walks_right(self, wheel, many, rows):
        for a in range(wheel.size()):
            for b in range(wheel.size()):
                walk = walk_of(wheel, a, b, many)
                if rows[a][b] is None:
                    self.assertIsNone(walk)
                else:
                    self.assertIs(type(walk), list)
                    self.assertEqual((len(walk), walk[0], walk[-1]), (many + 1, a, b))
                    self.assertEqual(weight_of(wheel, walk), rows[a][b])

    def test_no_ties(self):
        wheel = Wheel(3, ring_ties(3) + [(0, 0, 5), (1, 1, -5)])
        for a in range(3):
            for b in range(3):
                self.assertEqual(walk_of(wheel, a, b, 0), [a] if a == b else None)

    def test_the_one_heaviest_walk(self):
        wheel = Wheel(4, [(0, 1, 5), (1, 3, -9), (0, 2, -6), (2, 3, 3), (3, 0, 0)])
        self.assertEqual(walk_of(wheel, 0, 3, 2), [0, 2, 3])
        self.assertEqual(walk_of(wheel, 0, 2, 4), [0, 2, 3, 0, 2])
        self.assertIsNone(walk_of(wheel, 0, 3, 1))
        self.assertIsNone(walk_of(wheel, 1, 2, 2))

    def test_a_first_step_that_pays_later(self):
        wheel = Wheel(3, [(0, 0, 1), (0, 1, -100), (1, 2, 200), (0, 2, 50), (2, 2, -1)])
        self.assertEqual(walk_of(wheel, 0, 2, 2), [0, 1, 2])

    def test_against_all_walks(self):
        for wheel in random_wheels(21, 60, 1, 4):
            for many in range(6):
                self.assert_walks_right(wheel, many, heaviest_by_all_walks(wheel, many))

    def test_against_tie_by_tie(self):
        for wheel in random_wheels(22, 12, 1, 7, THIRTY):
            for many in (1, 2, 5, 13, 40, 199, 200):
                self.assert_walks_right(wheel, many, heaviest_tie_by_tie(wheel, many))

    def test_walks_of_equal_weight(self):
        wheel = Wheel(4, [(a, b, 0) for a in range(4) for b in range(4)])
        for many in (1, 2, 9):
            self.assert_walks_right(wheel, many, [[0] * 4] * 4)

    def test_forty_deeds_and_two_hundred_ties(self):
        rng = random.Random(23)
        wheel = Wheel(40, random_ties(rng, 40, THIRTY, 100))
        rows = heaviest_tie_by_tie(wheel, 200)
        for a, b in [(0, 0), (0, 39), (39, 0), (17, 3)]:
            walk = walk_of(wheel, a, b, 200)
            self.assertEqual((len(walk), walk[0], walk[-1]), (201, a, b))
            self.assertEqual(weight_of(wheel, walk), rows[a][b])

    def test_no_walk_where_the_rounds_do_not_fit(self):
        wheel = Wheel(5, ring_ties(5))
        for many in range(201):
            walk = walk_of(wheel, 2, 4, many)
            if many % 5 == 2:
                self.assertEqual(walk, [(2 + k) % 5 for k in range(many + 1)])
            else:
                self.assertIsNone(walk)

    def test_what_is_no_deed(self):
        wheel = Wheel(3, ring_ties(3))
        for many in (0, 1, 3):
            for wrong in (-1, -3, 3, 4, 40, 10 ** 30):
                for a, b in [(wrong, 0), (0, wrong), (wrong, wrong), (2, wrong), (wrong, 2)]:
                    with self.subTest(a=a, b=b, many=many):
                        with self.assertRaises(NoDeed):
                            walk_of(wheel, a, b, many)

    def test_no_two_walks_are_one_list(self):
        wheel = Wheel(2, ring_ties(2))
        for many in (0, 2):
            first = walk_of(wheel, 0, 0, many)
            second = walk_of(wheel, 0, 0, many)
            first.append(9)
            self.assertEqual(len(second), many + 1)
            self.assertEqual(walk_of(wheel, 0, 0, many), second)


class OnePieceTest(unittest.TestCase):
    def test_one_deed(self):
        for w in (-3, 0, 3):
            self.assertIs(one_piece(Wheel(1, [(0, 0, w)])), True)

    def test_a_ring_through_all_deeds(self):
        rng = random.Random(31)
        for size in range(2, 41):
            around = list(range(size))
            rng.shuffle(around)
            ties = [(around[k], around[k - 1], -k) for k in range(size)]
            self.assertIs(one_piece(Wheel(size, ties)), True)

    def test_a_ring_with_a_tie_left_out(self):
        for size in range(2, 41):
            for gone in range(size):
                ties = ring_ties(size)
                b = ties.pop(gone)[1]
                # The deed behind the gap waits for itself: without that the wheel is refused.
                self.assertIs(one_piece(Wheel(size, ties + [(b, b, 1)])), False)

    def test_parts_that_are_not_joined(self):
        self.assertIs(one_piece(Wheel(2, [(0, 0, 1), (1, 1, 1)])), False)
        self.assertIs(one_piece(Wheel(4, [(0, 1, 1), (1, 0, 1), (2, 3, 1), (3, 2, 1)])), False)
        self.assertIs(one_piece(Wheel(40, [(a, a, 0) for a in range(40)])), False)

    def test_parts_joined_one_way_alone(self):
        parts = [(0, 1, 1), (1, 0, 1), (2, 3, 1), (3, 2, 1)]
        self.assertIs(one_piece(Wheel(4, parts + [(1, 2, 1)])), False)
        self.assertIs(one_piece(Wheel(4, parts + [(2, 1, 1)])), False)
        self.assertIs(one_piece(Wheel(4, parts + [(1, 2, 1), (3, 0, 1)])), True)

    def test_against_walks_of_every_length(self):
        told = {True: 0, False: 0}
        for wheel in random_wheels(32, 300, 1, 6):
            size = wheel.size()
            joined = {(a, b) for many in range(size) for a, row in enumerate(heaviest_tie_by_tie(wheel, many))
                      for b, weight in enumerate(row) if weight is not None}
            wanted = len(joined) == size * size
            self.assertIs(one_piece(wheel), wanted, wheel.ties())
            told[wanted] += 1
        self.assertGreater(min(told.values()), 30)


if __name__ == "__main__":
    unittest.main()
