import random
import unittest

from tests.making import THIRTY, random_ties, ring_ties
from waitwheel.errors import Idle, NoDeed, TieTwice, WheelError
from waitwheel.walks import heaviest, one_piece, walk_of
from waitwheel.wheel import Wheel

NO_DEEDS = [-1, -2, -40, 3, 4, 40, 10 ** 30, -10 ** 30]


class RefusalCase(unittest.TestCase):
    def refused(self, error, size, ties):
        with self.assertRaises(WheelError) as caught:
            Wheel(size, ties)
        self.assertIs(type(caught.exception), error, (size, ties))


class TellingTest(unittest.TestCase):
    def test_wheels_of_each_size_tell_what_was_handed_in(self):
        rng = random.Random(1)
        for size in range(1, 41):
            for share in (0, 20, 100):
                ties = random_ties(rng, size, THIRTY, share)
                wheel = Wheel(size, ties)
                self.assertEqual(wheel.size(), size)
                self.assertEqual(wheel.ties(), sorted(ties))
                for b in range(size):
                    self.assertEqual(wheel.waits(b), sorted((a, w) for a, at, w in ties if at == b))

    def test_ties_in_any_order_make_the_same_wheel(self):
        wheel = Wheel(3, [(2, 0, 5), (0, 2, -7), (1, 1, 0), (0, 1, 4), (0, 0, 9)])
        told = [(0, 0, 9), (0, 1, 4), (0, 2, -7), (1, 1, 0), (2, 0, 5)]
        self.assertEqual(wheel.ties(), told)
        self.assertEqual(Wheel(3, told[::-1]).ties(), told)

    def test_waits_is_sorted_by_deed_and_not_by_number(self):
        wheel = Wheel(3, [(2, 0, -9), (1, 0, 0), (0, 0, 9), (0, 1, 1), (0, 2, 2)])
        self.assertEqual(wheel.waits(0), [(0, 9), (1, 0), (2, -9)])
        self.assertEqual(wheel.waits(1), [(0, 1)])
        self.assertEqual(wheel.waits(2), [(0, 2)])

    def test_numbers_of_thirty_figures_and_beyond(self):
        for w in (THIRTY, -THIRTY, 0, 10 ** 30, -10 ** 31):
            wheel = Wheel(1, [(0, 0, w)])
            self.assertEqual(wheel.ties(), [(0, 0, w)])
            self.assertEqual(wheel.waits(0), [(0, w)])

    def test_kinds(self):
        wheel = Wheel(2, ring_ties(2))
        self.assertIs(type(wheel.size()), int)
        self.assertIs(type(wheel.ties()), list)
        self.assertIs(type(wheel.ties()[0]), tuple)
        self.assertIs(type(wheel.waits(0)), list)
        self.assertIs(type(wheel.waits(0)[0]), tuple)

    def test_a_tie_each_way_is_no_tie_twice(self):
        self.assertEqual(len(Wheel(2, [(0, 1, 1), (1, 0, 1), (0, 0, 1), (1, 1, 1)]).ties()), 4)

    def test_waits_refuses_what_is_no_deed(self):
        wheel = Wheel(3, ring_ties(3))
        for b in NO_DEEDS:
            with self.subTest(b):
                with self.assertRaises(NoDeed):
                    wheel.waits(b)


class RefusalTest(RefusalCase):
    def test_size(self):
        for size in (0, -1, -40, 41, 42, 10 ** 30):
            self.refused(NoDeed, size, [])
            self.refused(NoDeed, size, [(0, 0, 1)])

    def test_size_is_refused_ahead_of_every_fault_of_the_ties(self):
        self.refused(NoDeed, 41, [(0, 0, 1), (0, 0, 2)])
        self.refused(NoDeed, 0, [(0, 0, 1), (0, 0, 2)])
        self.refused(NoDeed, 41, ring_ties(41))

    def test_a_tie_that_names_no_deed(self):
        for deed in NO_DEEDS:
            self.refused(NoDeed, 3, ring_ties(3) + [(deed, 0, 1)])
            self.refused(NoDeed, 3, [(0, deed, 1)] + ring_ties(3))
            self.refused(NoDeed, 3, ring_ties(3) + [(deed, deed, 1)])

    def test_a_tie_at_the_last_deed_is_fine(self):
        self.assertEqual(Wheel(40, ring_ties(40)).waits(39), [(38, 1)])

    def test_a_tie_twice(self):
        self.refused(TieTwice, 3, ring_ties(3) + [(0, 1, 1)])
        self.refused(TieTwice, 3, ring_ties(3) + [(0, 1, -5)])
        self.refused(TieTwice, 1, [(0, 0, 1), (0, 0, 2)])
        self.refused(TieTwice, 1, [(0, 0, 1), (0, 0, 1)])
        self.refused(TieTwice, 3, [(2, 0, 4)] + ring_ties(3))

    def test_a_deed_that_waits_for_none(self):
        for size in (1, 2, 3, 40):
            self.refused(Idle, size, [])
            for gone in range(size):
                ties = ring_ties(size)
                ties.pop(gone)
                self.refused(Idle, size, ties)
        self.refused(Idle, 2, [(0, 0, 1), (1, 0, 1)])

    def test_the_first_fault_in_the_list_is_the_one_refused(self):
        twice, wrong = [(0, 1, 3)], [(0, 3, 1)]
        self.refused(TieTwice, 3, ring_ties(3) + twice + wrong)
        self.refused(NoDeed, 3, ring_ties(3) + wrong + twice)
        self.refused(NoDeed, 3, [(0, 1, 1)] + wrong + twice)
        self.refused(TieTwice, 3, [(0, 1, 1)] + twice + wrong)
        self.refused(NoDeed, 3, wrong + wrong)
        self.refused(NoDeed, 3, [(0, 1, 1), (1, 3, 1), (0, 1, 1)])
        self.refused(TieTwice, 3, [(2, 2, 1), (2, 2, 1), (-1, 0, 1)])

    def test_faults_of_the_list_are_refused_ahead_of_idle_deeds(self):
        self.refused(TieTwice, 3, [(0, 0, 1), (0, 0, 1)])
        self.refused(NoDeed, 3, [(0, 0, 1), (0, 3, 1)])
        self.refused(NoDeed, 3, [(3, 0, 1)])


class OwnListsTest(unittest.TestCase):
    def setUp(self):
        self.handed_in = [(1, 0, 4), (0, 1, 3), (0, 0, -2)]
        self.wheel = Wheel(2, self.handed_in)

    def assert_unchanged(self):
        self.assertEqual(self.wheel.size(), 2)
        self.assertEqual(self.wheel.ties(), [(0, 0, -2), (0, 1, 3), (1, 0, 4)])
        self.assertEqual(self.wheel.waits(0), [(0, -2), (1, 4)])
        self.assertEqual(self.wheel.waits(1), [(0, 3)])
        self.assertEqual(heaviest(self.wheel, 1), [[-2, 3], [4, None]])
        self.assertTrue(one_piece(self.wheel))
        self.assertEqual(walk_of(self.wheel, 1, 1, 2), [1, 0, 1])

    def test_what_is_handed_in_is_not_changed(self):
        self.assert_unchanged()
        self.assertEqual(self.handed_in, [(1, 0, 4), (0, 1, 3), (0, 0, -2)])

    def test_what_is_refused_is_not_changed(self):
        ties = [(2, 0, 1), (0, 0, 1), (2, 0, 3)]
        with self.assertRaises(TieTwice):
            Wheel(3, ties)
        self.assertEqual(ties, [(2, 0, 1), (0, 0, 1), (2, 0, 3)])

    def test_a_list_handed_in_may_change_later(self):
        self.handed_in.append((1, 1, 100))
        self.handed_in[0] = (0, 0, 77)
        self.assert_unchanged()
        self.handed_in.clear()
        self.assert_unchanged()

    def test_a_list_handed_back_may_change(self):
        for told in (self.wheel.ties(), self.wheel.waits(0), self.wheel.waits(1)):
            told.append((1, 1))
            told.reverse()
            self.assert_unchanged()
            told.clear()
            self.assert_unchanged()

    def test_no_two_lists_handed_back_are_one(self):
        self.assertIsNot(self.wheel.ties(), self.wheel.ties())
        self.assertIsNot(self.wheel.waits(0), self.wheel.waits(0))
        first, second = self.wheel.ties(), self.wheel.ties()
        first.clear()
        self.assertEqual(len(second), 3)

    def test_two_wheels_of_one_list_share_nothing(self):
        other = Wheel(2, self.handed_in)
        other.ties().clear()
        other.waits(0).clear()
        self.assert_unchanged()


if __name__ == "__main__":
    unittest.main()
