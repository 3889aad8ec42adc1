import random
import time
import unittest
from fractions import Fraction

from tests.making import THIRTY, random_ties, random_times, random_wheels, ring_ties, rounds_by_ties, whole_wheels
from waitwheel.errors import NotOnePiece, TooSlow
from waitwheel.rings import beat
from waitwheel.rounds import after
from waitwheel.turning import turning
from waitwheel.walks import one_piece
from waitwheel.wheel import Wheel

FORTY = 10 ** 40 - 1


def turning_round_by_round(wheel, times):
    """The least first round and for it the least number of rounds, within 600; None where there are none."""
    told = rounds_by_ties(wheel, times, 600)
    spreads = [tuple(t - row[0] for t in row) for row in told]
    for first, shape in enumerate(spreads):
        if shape in spreads[first + 1:]:
            rounds = spreads.index(shape, first + 1) - first
            return (first, rounds, told[first + rounds][0] - told[first][0])
    return None


def falling(start, more=0):
    """Deed 1 falls by one a round until deed 0 holds it up: it turns from round `start` on."""
    return Wheel(2, [(0, 0, more), (0, 1, more), (1, 1, more - 1), (1, 0, more - THIRTY)]), [0, start]


def rings_beside(lengths, more=0):
    """Rings of these lengths, tied to one piece by ties too light to count, each time in them unlike."""
    ties, times, starts = [], [], []
    for length in lengths:
        start = len(times)
        starts.append(start)
        ties += [(start + k, start + (k + 1) % length, more) for k in range(length)]
        times += list(range(length))
    for one, other in zip(starts, starts[1:] + starts[:1]):
        if one != other:
            ties.append((one, other, more - THIRTY))
    return ties, times


class TurningTest(unittest.TestCase):
    def test_by_hand(self):
        self.assertEqual(turning(Wheel(1, [(0, 0, 4)]), [100]), (0, 1, 4))
        self.assertEqual(turning(Wheel(1, [(0, 0, -4)]), [-100]), (0, 1, -4))
        self.assertEqual(turning(Wheel(2, ring_ties(2, 3)), [5, 5]), (0, 1, 3))
        self.assertEqual(turning(Wheel(2, ring_ties(2, 3)), [5, 6]), (0, 2, 6))
        self.assertEqual(turning(Wheel(2, [(0, 1, 5), (1, 0, -2)]), [0, 0]), (0, 2, 3))
        self.assertEqual(turning(Wheel(2, [(0, 0, 0), (0, 1, 0), (1, 0, -9)]), [0, 7]), (1, 1, 0))
        self.assertEqual(turning(Wheel(2, [(0, 0, 0), (0, 1, 0), (1, 0, -9)]), [0, 20]), (2, 1, 0))

    def test_kind(self):
        told = turning(Wheel(2, ring_ties(2, 3)), [5, 6])
        self.assertIs(type(told), tuple)
        self.assertEqual([type(part) for part in told], [int, int, int])

    def assert_turning(self, wheel, times):
        wanted = turning_round_by_round(wheel, times)
        if wanted is None:
            with self.assertRaises(TooSlow):
                turning(wheel, times)
            return False
        first, rounds, more = turning(wheel, times)
        self.assertEqual((first, rounds, more), wanted, (wheel.ties(), times))
        self.assertGreater(rounds, 0)
        self.assertEqual(Fraction(more, rounds), Fraction(*beat(wheel)))
        for k in (first, first + 1, 10 ** 9):
            self.assertEqual(after(wheel, times, k + rounds), [t + more for t in after(wheel, times, k)])
        return True

    def test_against_going_on_round_by_round(self):
        rng = random.Random(121)
        firsts = {True: 0, False: 0}
        for most in (1, 3, 40):
            for wheel in whole_wheels(121, 60, 1, 7, most):
                times = random_times(rng, wheel.size(), rng.choice([0, 9, 300]))
                if self.assert_turning(wheel, times):
                    firsts[turning(wheel, times)[0] > 0] += 1
        self.assertGreater(min(firsts.values()), 10)

    def test_great_numbers_and_great_times(self):
        rng = random.Random(122)
        for wheel in whole_wheels(122, 40, 1, 12, THIRTY):
            for most in (0, THIRTY, FORTY):
                self.assert_turning(wheel, random_times(rng, wheel.size(), most))

    def test_wheels_that_settle_late_or_too_late(self):
        rng = random.Random(125)
        found = {True: 0, False: 0}
        for _ in range(60):
            size = rng.randint(2, 4)
            light = [(a, b, rng.choice([-2000, -2000, -1, 0])) for a in range(size) for b in range(size) if a != b]
            wheel = Wheel(size, light + [(a, a, rng.choice([-1, 0])) for a in range(size)])
            found[self.assert_turning(wheel, random_times(rng, size, 700))] += 1
        self.assertGreater(min(found.values()), 5)

    def test_later_by_one_number_turns_the_same(self):
        rng = random.Random(123)
        for wheel in whole_wheels(123, 20, 1, 6, 3):
            times = random_times(rng, wheel.size())
            wanted = turning_round_by_round(wheel, times)
            if wanted is not None:
                self.assertEqual(turning(wheel, [t - FORTY for t in times]), wanted)

    def test_rings_of_each_size(self):
        for size in range(1, 41):
            wheel = Wheel(size, ring_ties(size, -7))
            self.assertEqual(turning(wheel, list(range(size))), (0, size, -7 * size))
            self.assertEqual(turning(wheel, [4] * size), (0, 1, -7))

    def test_forty_deeds_in_a_short_time(self):
        rng = random.Random(124)
        wheel = Wheel(40, random_ties(rng, 40, THIRTY, 100))
        begun = time.process_time()
        self.assert_turning(wheel, random_times(rng, 40, THIRTY))
        ties = [(a, b, -THIRTY) for a in range(40) for b in range(40)]
        slow = Wheel(40, [(a, b, 0 if a == b == 0 else -1 if a == b == 1 else w) for a, b, w in ties])
        with self.assertRaises(TooSlow):
            turning(slow, [0, THIRTY // 9] + [0] * 38)
        self.assertLess(time.process_time() - begun, 20)


class TooSlowTest(unittest.TestCase):
    def test_a_first_round_just_within_and_just_beyond(self):
        for more in (0, 5, -5):
            for start in (0, 1, 2, 598, 599):
                wheel, times = falling(start, more)
                self.assertEqual(turning(wheel, times), (start, 1, more))
            for start in (600, 601, 1200, 10 ** 20):
                wheel, times = falling(start, more)
                with self.assertRaises(TooSlow):
                    turning(wheel, times)

    def test_a_number_of_rounds_just_within(self):
        ties, times = rings_beside([8, 3, 25], 2)
        self.assertEqual(turning(Wheel(36, ties), times), (0, 600, 1200))

    def test_a_number_of_rounds_and_a_first_round_just_beyond(self):
        ties, times = rings_beside([8, 3, 25])
        # One deed more, that follows the first ring and starts out of step with it.
        ties += [(0, 36, 0), (36, 0, -THIRTY)]
        self.assertEqual(turning(Wheel(37, ties), times + [times[1]]), (0, 600, 0))
        with self.assertRaises(TooSlow):
            turning(Wheel(37, ties), times + [99])

    def test_rounds_and_first_together(self):
        ties, times = rings_beside([3, 4, 5, 7])
        size = len(times)
        # A deed that falls by one a round until the time of deed 0, 2 at most, holds it up.
        ties += [(0, size, 0), (size, size, -1), (size, 0, -THIRTY)]
        for start in range(150, 220):
            wheel = Wheel(size + 1, ties)
            wanted = turning_round_by_round(wheel, times + [start])
            if wanted is None:
                with self.assertRaises(TooSlow):
                    turning(wheel, times + [start])
            else:
                self.assertEqual(turning(wheel, times + [start]), wanted)
                self.assertEqual(wanted[1:], (420, 0))
        self.assertIsNone(turning_round_by_round(Wheel(size + 1, ties), times + [219]))
        self.assertIsNotNone(turning_round_by_round(Wheel(size + 1, ties), times + [150]))

    def test_rounds_alone_beyond(self):
        ties, times = rings_beside([7, 9, 11])
        with self.assertRaises(TooSlow):
            turning(Wheel(27, ties), times)


class NotOnePieceTest(unittest.TestCase):
    def test_wheels_not_in_one_piece(self):
        refused = 0
        for wheel in random_wheels(131, 200, 1, 8):
            if not one_piece(wheel):
                with self.assertRaises(NotOnePiece):
                    turning(wheel, [0] * wheel.size())
                refused += 1
        self.assertGreater(refused, 50)

    def test_one_that_would_turn_none_the_less(self):
        for ties in ([(0, 0, 1), (1, 1, 1)], [(0, 0, 1), (0, 1, 1)], [(0, 0, 1), (0, 1, 1), (1, 1, 0)]):
            with self.assertRaises(NotOnePiece):
                turning(Wheel(2, ties), [0, 0])

    def test_one_that_would_be_too_slow(self):
        with self.assertRaises(NotOnePiece):
            turning(Wheel(2, [(0, 0, 1), (1, 1, 2)]), [0, 0])


if __name__ == "__main__":
    unittest.main()
