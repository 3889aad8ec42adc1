import random
import time
import unittest

from tests.making import (
    THIRTY,
    heaviest_tie_by_tie,
    next_by_ties,
    random_ties,
    random_times,
    random_wheels,
    ring_ties,
    rounds_by_ties,
    whole_wheels,
)
from waitwheel.errors import NoDeed
from waitwheel.rounds import after, late, next_times
from waitwheel.walks import heaviest, walk_of
from waitwheel.wheel import Wheel

FORTY = 10 ** 40 - 1
GREAT = [10 ** 9, 10 ** 9 - 1, 2 ** 29, 2 ** 29 - 1, 123456789, 70707]
NO_DEEDS = [-1, -2, -3, 3, 4, 40, 10 ** 30, -10 ** 30]


class NextTimesTest(unittest.TestCase):
    def test_by_hand(self):
        wheel = Wheel(3, [(0, 1, 5), (1, 0, -2), (1, 2, 4), (2, 0, 1)])
        self.assertEqual(next_times(wheel, [0, 0, 0]), [1, 5, 4])
        self.assertEqual(next_times(wheel, [0, 10, 3]), [8, 5, 14])
        self.assertEqual(next_times(wheel, [-7, -1, -5]), [-3, -2, 3])

    def test_one_deed(self):
        for w in (0, 1, -1, THIRTY, -THIRTY):
            for t in (0, 5, FORTY, -FORTY):
                self.assertEqual(next_times(Wheel(1, [(0, 0, w)]), [t]), [t + w])

    def test_a_deed_does_not_wait_for_itself_unless_tied(self):
        self.assertEqual(next_times(Wheel(2, ring_ties(2, 0)), [100, -100]), [-100, 100])
        self.assertEqual(next_times(Wheel(2, [(0, 0, -3), (0, 1, -3)]), [-1, 50]), [-4, -4])

    def test_each_size_against_the_ties(self):
        rng = random.Random(41)
        for size in range(1, 41):
            for share in (0, 10, 100):
                for most in (9, THIRTY):
                    wheel = Wheel(size, random_ties(rng, size, most, share))
                    for times in (random_times(rng, size, most), random_times(rng, size, FORTY), [0] * size):
                        self.assertEqual(next_times(wheel, times), next_by_ties(wheel, times))

    def test_kind(self):
        self.assertIs(type(next_times(Wheel(2, ring_ties(2)), [0, 0])), list)


class AfterTest(unittest.TestCase):
    def test_no_round_is_the_times_as_an_own_list(self):
        for wheel in random_wheels(51, 30, 1, 40):
            times = random_times(random.Random(wheel.size()), wheel.size(), FORTY)
            told = after(wheel, times, 0)
            self.assertIs(type(told), list)
            self.assertEqual(told, times)
            self.assertIsNot(told, times)

    def test_one_round(self):
        rng = random.Random(52)
        for wheel in random_wheels(52, 60, 1, 40, THIRTY):
            times = random_times(rng, wheel.size(), FORTY)
            self.assertEqual(after(wheel, times, 1), next_times(wheel, times))

    def test_against_as_many_next_rounds(self):
        rng = random.Random(53)
        for most in (9, THIRTY):
            for wheel in random_wheels(53, 20, 1, 8, most):
                times = random_times(rng, wheel.size(), most)
                for many, told in enumerate(rounds_by_ties(wheel, times, 40)):
                    self.assertEqual(after(wheel, times, many), told, (many, wheel.ties()))

    def test_against_as_many_next_rounds_with_forty_deeds(self):
        rng = random.Random(54)
        for share in (0, 8, 100):
            wheel = Wheel(40, random_ties(rng, 40, THIRTY, share))
            times = random_times(rng, 40, FORTY)
            told = rounds_by_ties(wheel, times, 1000)
            for many in (2, 3, 7, 64, 127, 999, 1000):
                self.assertEqual(after(wheel, times, many), told[many])

    def test_one_deed_and_great_numbers_of_rounds(self):
        for w in (0, 3, -3, THIRTY, -THIRTY):
            for many in GREAT + [10 ** 9 + 7]:
                self.assertEqual(after(Wheel(1, [(0, 0, w)]), [11], many), [11 + w * many])

    def test_a_ring_carries_each_time_on(self):
        rng = random.Random(55)
        for size in (2, 7, 40):
            times = random_times(rng, size, FORTY)
            for many in GREAT:
                wanted = [times[(b - many) % size] - 5 * many for b in range(size)]
                self.assertEqual(after(Wheel(size, ring_ties(size, -5)), times, many), wanted)

    def test_great_numbers_of_rounds_against_the_turning_seen_round_by_round(self):
        rng = random.Random(56)
        tried = 0
        for wheel in whole_wheels(56, 30, 1, 6):
            times = random_times(rng, wheel.size())
            told = rounds_by_ties(wheel, times, 600)
            spreads = [[t - row[0] for t in row] for row in told]
            first = spreads.index(spreads[600])
            if first < 600:
                turn, more = 600 - first, told[600][0] - told[first][0]
                for many in GREAT:
                    turns, rest = divmod(many - first, turn)
                    wanted = [t + turns * more for t in told[first + rest]]
                    self.assertEqual(after(wheel, times, many), wanted, wheel.ties())
                tried += 1
        self.assertGreater(tried, 20)

    def test_rounds_counted_on(self):
        rng = random.Random(57)
        for wheel in random_wheels(57, 25, 1, 12, THIRTY):
            times = random_times(rng, wheel.size(), THIRTY)
            for r, s in [(0, 5), (5, 0), (1, 1), (10, 33), (999999, 1), (5 * 10 ** 8, 5 * 10 ** 8), (1, 10 ** 9 - 1)]:
                self.assertEqual(after(wheel, after(wheel, times, r), s), after(wheel, times, r + s))

    def test_forty_deeds_and_the_most_rounds_in_a_short_time(self):
        rng = random.Random(58)
        wheel = Wheel(40, random_ties(rng, 40, THIRTY, 100))
        times = random_times(rng, 40, FORTY)
        begun = time.process_time()
        told = after(wheel, times, 10 ** 9)
        self.assertLess(time.process_time() - begun, 10)
        self.assertEqual(after(wheel, after(wheel, times, 10 ** 9 - 3), 3), told)

    def test_times_all_later_by_one_number(self):
        rng = random.Random(59)
        for wheel in random_wheels(59, 30, 1, 12, THIRTY):
            times = random_times(rng, wheel.size(), THIRTY)
            for more in (0, 1, -4, THIRTY, -THIRTY):
                later = [t + more for t in times]
                self.assertEqual(next_times(wheel, later), [t + more for t in next_times(wheel, times)])
                for many in (0, 1, 6, 77, 10 ** 9):
                    self.assertEqual(after(wheel, later, many), [t + more for t in after(wheel, times, many)])

    def test_times_nowhere_later(self):
        rng = random.Random(60)
        for wheel in random_wheels(60, 60, 1, 12):
            times = random_times(rng, wheel.size())
            sooner = [t - rng.choice([0, 0, 1, 5, THIRTY]) for t in times]
            for many in (0, 1, 2, 9, 50, 10 ** 9):
                for one, other in zip(after(wheel, sooner, many), after(wheel, times, many)):
                    self.assertLessEqual(one, other)

    def assert_by_heaviest(self, wheel, times, many, rows):
        size = wheel.size()
        wanted = [max(times[a] + rows[a][b] for a in range(size) if rows[a][b] is not None) for b in range(size)]
        self.assertEqual(after(wheel, times, many), wanted)

    def test_against_the_heaviest_weights(self):
        rng = random.Random(61)
        for most in (9, THIRTY):
            for wheel in random_wheels(61, 20, 1, 9, most):
                times = random_times(rng, wheel.size(), most)
                for many in (0, 1, 2, 3, 10, 61):
                    self.assert_by_heaviest(wheel, times, many, heaviest_tie_by_tie(wheel, many))
                for many in (0, 1, 5, 500, 1000):
                    self.assert_by_heaviest(wheel, times, many, heaviest(wheel, many))

    def test_a_walk_brings_each_time(self):
        rng = random.Random(62)
        for wheel in random_wheels(62, 15, 1, 6):
            size = wheel.size()
            weights = {(a, b): w for a, b, w in wheel.ties()}
            times = random_times(rng, size)
            for many in (0, 1, 4, 60, 200):
                for b, told in enumerate(after(wheel, times, many)):
                    walks = [walk_of(wheel, a, b, many) for a in range(size)]
                    sums = [times[walk[0]] + sum(weights[pair] for pair in zip(walk, walk[1:]))
                            for walk in walks if walk is not None]
                    self.assertEqual(max(sums), told)


class LateTest(unittest.TestCase):
    def test_by_hand(self):
        wheel = Wheel(2, [(0, 0, 1), (0, 1, 5), (1, 1, 0)])
        self.assertEqual(late(wheel, [0, 0], 0, 3, 0), [3, 0])
        self.assertEqual(late(wheel, [0, 0], 0, 3, 1), [3, 3])
        # Deed 1 has four to spare against deed 0 at first, and its own delay is swallowed in the first round.
        self.assertEqual(late(wheel, [0, 0], 1, 3, 1), [0, 0])
        self.assertEqual(late(wheel, [0, 0], 1, 7, 1), [0, 2])
        self.assertEqual(late(wheel, [0, 0], 1, 7, 2), [0, 1])
        self.assertEqual(late(wheel, [0, 0], 1, 7, 9), [0, 0])

    def test_no_round(self):
        for size in (1, 3, 40):
            for a in (0, size - 1):
                wanted = [7 if b == a else 0 for b in range(size)]
                self.assertEqual(late(Wheel(size, ring_ties(size)), [4] * size, a, 7, 0), wanted)

    def assert_late(self, wheel, times, a, d, many):
        told = late(wheel, times, a, d, many)
        later = list(times)
        later[a] += d
        runs = zip(after(wheel, later, many), after(wheel, times, many))
        self.assertEqual(told, [one - other for one, other in runs])
        self.assertIs(type(told), list)
        for number in told:
            self.assertTrue(0 <= number <= d, (number, d))
        return told

    def test_against_two_runs(self):
        rng = random.Random(71)
        for most in (9, THIRTY):
            for wheel in random_wheels(71, 25, 1, 9, most):
                times = random_times(rng, wheel.size(), most)
                a = rng.randrange(wheel.size())
                for d in (0, 1, rng.randint(2, 30), rng.randint(1, THIRTY), THIRTY):
                    for many in (0, 1, 2, 7, 40, 1000):
                        self.assert_late(wheel, times, a, d, many)

    def test_against_next_rounds(self):
        rng = random.Random(72)
        for wheel in random_wheels(72, 20, 1, 7):
            times = random_times(rng, wheel.size())
            for a in range(wheel.size()):
                later = list(times)
                later[a] += 6
                runs = zip(rounds_by_ties(wheel, times, 25), rounds_by_ties(wheel, later, 25))
                for many, (row, other) in enumerate(runs):
                    self.assertEqual(late(wheel, times, a, 6, many), [y - x for x, y in zip(row, other)])

    def test_the_most_that_a_heaviest_walk_brings_beyond(self):
        rng = random.Random(73)
        kinds = {"nought": 0, "some": 0, "all": 0}
        for wheel in random_wheels(73, 40, 1, 7):
            times = random_times(rng, wheel.size())
            a = rng.randrange(wheel.size())
            d = rng.randint(1, 15)
            for many in (1, 3, 10):
                row = heaviest_tie_by_tie(wheel, many)[a]
                told = self.assert_late(wheel, times, a, d, many)
                for b, time_then in enumerate(after(wheel, times, many)):
                    beyond = 0 if row[b] is None else times[a] + d + row[b] - time_then
                    self.assertEqual(told[b], max(0, beyond))
                    kinds["nought" if told[b] == 0 else "all" if told[b] == d else "some"] += 1
        self.assertGreater(min(kinds.values()), 20)

    def test_no_delay(self):
        for wheel in random_wheels(74, 20, 1, 40, THIRTY):
            for many in (0, 1, 1000):
                self.assertEqual(late(wheel, [3] * wheel.size(), 0, 0, many), [0] * wheel.size())

    def test_a_ring_carries_the_delay_on_unless_it_stops(self):
        wheel = Wheel(5, ring_ties(5, -2))
        for many in (1, 4, 5, 999, 1000):
            wanted = [THIRTY if b == (3 + many) % 5 else 0 for b in range(5)]
            self.assertEqual(late(wheel, [1, 2, 3, 4, 5], 3, THIRTY, many), wanted)

    def test_forty_deeds_in_a_short_time(self):
        rng = random.Random(75)
        wheel = Wheel(40, random_ties(rng, 40, THIRTY, 100))
        begun = time.process_time()
        self.assert_late(wheel, random_times(rng, 40, FORTY), 17, THIRTY, 1000)
        self.assertLess(time.process_time() - begun, 10)

    def test_what_is_no_deed(self):
        wheel = Wheel(3, ring_ties(3))
        for a in NO_DEEDS:
            for d in (0, 5):
                for many in (0, 1, 1000):
                    with self.subTest(a=a, d=d, many=many):
                        with self.assertRaises(NoDeed):
                            late(wheel, [0, 0, 0], a, d, many)
        for a in range(3):
            late(wheel, [0, 0, 0], a, 5, 1)


if __name__ == "__main__":
    unittest.main()
