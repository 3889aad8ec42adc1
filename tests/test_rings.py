import random
import time
import unittest
from fractions import Fraction
from math import gcd

from tests.making import (
    THIRTY,
    all_rings,
    led_from,
    mean_of,
    random_ties,
    random_wheels,
    ring_ties,
    whole_wheels,
)
from waitwheel.rings import beat, paces, prices, shows, slow_ring
from waitwheel.rounds import after
from waitwheel.walks import one_piece
from waitwheel.wheel import Wheel


def shows_by_ties(wheel, top, bottom, told):
    return all(told[b] >= told[a] + w * bottom - top for a, b, w in wheel.ties())


class RingsCase(unittest.TestCase):
    def assert_fraction(self, told):
        self.assertIs(type(told), tuple)
        self.assertEqual([type(part) for part in told], [int, int])
        top, bottom = told
        self.assertGreater(bottom, 0)
        self.assertEqual(gcd(top, bottom), 1)

    def assert_ring(self, wheel, ring):
        self.assertIs(type(ring), list)
        self.assertGreater(len(ring), 0)
        self.assertEqual(len(set(ring)), len(ring))
        self.assertEqual(mean_of(wheel, ring), Fraction(*beat(wheel)))

    def assert_prices(self, wheel, told):
        self.assertIs(type(told), list)
        self.assertEqual([type(price) for price in told], [int] * wheel.size())
        top, bottom = beat(wheel)
        self.assertTrue(shows_by_ties(wheel, top, bottom, told), wheel.ties())
        self.assertIs(shows(wheel, top, bottom, told), True)

    def assert_beat_proved(self, wheel):
        """A ring with the beat for its mean, and prices that let none be above it, leave no other beat."""
        self.assert_fraction(beat(wheel))
        self.assert_ring(wheel, slow_ring(wheel))
        self.assert_prices(wheel, prices(wheel))


class BeatTest(RingsCase):
    def test_one_deed(self):
        for w in (0, 1, -1, 6, -6, THIRTY, -THIRTY):
            wheel = Wheel(1, [(0, 0, w)])
            self.assertEqual(beat(wheel), (w, 1))
            self.assertEqual(slow_ring(wheel), [0])
            self.assert_beat_proved(wheel)

    def test_lowest_terms(self):
        for first, second, wanted in [(1, 2, (3, 2)), (1, 3, (2, 1)), (-1, -2, (-3, 2)), (-5, 5, (0, 1)),
                                      (-4, -2, (-3, 1)), (0, 0, (0, 1)), (-1, 0, (-1, 2))]:
            self.assertEqual(beat(Wheel(2, [(0, 1, first), (1, 0, second)])), wanted)
        self.assertEqual(beat(Wheel(6, [(a, (a + 1) % 6, a) for a in range(6)])), (5, 2))
        self.assertEqual(beat(Wheel(40, [(a, (a + 1) % 40, 1 if a == 7 else 0) for a in range(40)])), (1, 40))
        self.assertEqual(beat(Wheel(40, [(a, (a + 1) % 40, -16 if a == 7 else 0) for a in range(40)])), (-2, 5))

    def test_the_mean_counts_and_not_the_sum(self):
        # The ring of three has the greater sum, deed 3 by itself the greater mean.
        wheel = Wheel(4, [(0, 1, 4), (1, 2, 4), (2, 0, 4), (0, 3, 0), (3, 3, 5)])
        self.assertEqual(beat(wheel), (5, 1))
        self.assertEqual(slow_ring(wheel), [3])

    def test_numbers_on_no_ring_do_not_count(self):
        wheel = Wheel(3, [(0, 0, -7), (0, 1, THIRTY), (1, 2, THIRTY)])
        self.assertEqual(beat(wheel), (-7, 1))
        self.assertEqual(slow_ring(wheel), [0])
        self.assertEqual(paces(wheel), [(-7, 1)] * 3)

    def test_against_all_rings(self):
        signs = {-1: 0, 0: 0, 1: 0}
        for most in (1, 9, THIRTY):
            for wheel in random_wheels(81, 150, 1, 6, most):
                wanted = max(mean_of(wheel, ring) for ring in all_rings(wheel))
                self.assertEqual(beat(wheel), (wanted.numerator, wanted.denominator), wheel.ties())
                self.assert_fraction(beat(wheel))
                signs[(wanted > 0) - (wanted < 0)] += 1
        self.assertGreater(min(signs.values()), 20)

    def test_nought_and_below_nought(self):
        rng = random.Random(82)
        for size in (1, 3, 6):
            ties = [(a, b, rng.randint(-9, -1)) for a, b, w in random_ties(rng, size, 9, 50)]
            for wheel in (Wheel(size, ties), Wheel(size, [(a, b, 0) for a, b, w in ties])):
                wanted = max(mean_of(wheel, ring) for ring in all_rings(wheel))
                self.assertEqual(beat(wheel), (wanted.numerator, wanted.denominator))
                self.assert_beat_proved(wheel)

    def test_all_numbers_greater_by_one_number(self):
        rng = random.Random(83)
        for size in (2, 9, 25):
            ties = random_ties(rng, size, 9, 20)
            top, bottom = beat(Wheel(size, ties))
            for more in (1, -13, THIRTY):
                wheel = Wheel(size, [(a, b, w + more) for a, b, w in ties])
                self.assertEqual(beat(wheel), (top + more * bottom, bottom))

    def test_each_size(self):
        rng = random.Random(84)
        for size in range(1, 41):
            for share in (0, 6, 100):
                self.assert_beat_proved(Wheel(size, random_ties(rng, size, rng.choice([2, 99, THIRTY]), share)))

    def test_forty_deeds_and_thirty_figures_in_a_short_time(self):
        rng = random.Random(85)
        for share in (0, 4, 10, 100):
            wheel = Wheel(40, random_ties(rng, 40, THIRTY, share))
            begun = time.process_time()
            self.assert_beat_proved(wheel)
            paces(wheel)
            self.assertLess(time.process_time() - begun, 10)


class SlowRingTest(RingsCase):
    def test_a_long_ring(self):
        rng = random.Random(91)
        for size in range(2, 41):
            around = list(range(size))
            rng.shuffle(around)
            onward = {around[k - 1]: around[k] for k in range(size)}
            ties = {(a, b): -1000 for a in range(size) for b in range(size)}
            ties.update({pair: rng.randint(-9, 9) for pair in onward.items()})
            ring = slow_ring(Wheel(size, [(a, b, w) for (a, b), w in ties.items()]))
            self.assertEqual(len(ring), size)
            for k in range(size):
                self.assertEqual(ring[k], onward[ring[k - 1]])

    def test_several_rings_of_one_mean(self):
        for wheel in random_wheels(92, 200, 1, 6, 1):
            self.assert_beat_proved(wheel)
        for size in (1, 2, 7, 40):
            self.assert_beat_proved(Wheel(size, [(a, b, 3) for a in range(size) for b in range(size)]))
            self.assert_beat_proved(Wheel(size, [(a, a, -3) for a in range(size)]))

    def test_behind_and_ahead_of_the_ring_lie_other_deeds(self):
        # Deeds 0 and 1 lead to the ring of 2 and 3; 4 and 5 are led to by it, at ties without room.
        wheel = Wheel(6, [(0, 0, -9), (0, 1, 5), (1, 2, 5), (2, 3, 1), (3, 2, 1), (3, 4, 1), (4, 5, 1), (5, 4, 0)])
        self.assertEqual(beat(wheel), (1, 1))
        self.assertEqual(sorted(slow_ring(wheel)), [2, 3])

    def test_on_wheels_of_few_deeds(self):
        for most in (9, THIRTY):
            for wheel in random_wheels(93, 100, 1, 7, most):
                self.assert_ring(wheel, slow_ring(wheel))


class PricesTest(RingsCase):
    def test_prices_show_the_beat_and_nothing_less(self):
        for most in (2, 9, THIRTY):
            for wheel in random_wheels(101, 60, 1, 12, most):
                told = prices(wheel)
                self.assert_prices(wheel, told)
                top, bottom = beat(wheel)
                for many in (1, 2, 7, 40, 10 ** 30):
                    lesser = (top * many - 1, bottom * many)
                    # Prices for a fraction with so many times the bottom are as many times as great.
                    self.assertIs(shows(wheel, lesser[0], lesser[1], [price * many for price in told]), False)
                    self.assertIs(shows(wheel, lesser[0], lesser[1], told), False)
                    self.assertIs(shows(wheel, top * many, bottom * many, [price * many for price in told]), True)

    def test_no_prices_at_all_show_less(self):
        rng = random.Random(102)
        for wheel in random_wheels(102, 40, 1, 5):
            top, bottom = beat(wheel)
            for _ in range(20):
                told = [rng.randint(-50, 50) for _ in range(wheel.size())]
                self.assertIs(shows(wheel, top - 1, bottom, told), False)

    def test_shows_by_hand(self):
        wheel = Wheel(2, [(0, 1, 5), (1, 0, -2)])
        self.assertIs(shows(wheel, 3, 2, [0, 7]), True)
        self.assertIs(shows(wheel, 3, 2, [0, 6]), False)
        self.assertIs(shows(wheel, 3, 2, [0, 8]), False)
        self.assertIs(shows(wheel, 3, 2, [-7, 0]), True)
        self.assertIs(shows(wheel, 6, 4, [0, 14]), True)
        self.assertIs(shows(wheel, 2, 1, [0, 3]), True)
        self.assertIs(shows(wheel, 2, 1, [0, 4]), True)
        self.assertIs(shows(wheel, 2, 1, [0, 2]), False)
        self.assertIs(shows(wheel, 2, 1, [0, 5]), False)

    def test_shows_where_a_deed_waits_for_itself(self):
        for w in (0, 4, -4, THIRTY):
            wheel = Wheel(1, [(0, 0, w)])
            for price in (0, -3, 10 ** 40):
                self.assertIs(shows(wheel, w, 1, [price]), True)
                self.assertIs(shows(wheel, w + 1, 1, [price]), True)
                self.assertIs(shows(wheel, w - 1, 1, [price]), False)

    def test_bottom_of_nought_or_below(self):
        for wheel in random_wheels(103, 30, 1, 6):
            told = prices(wheel)
            top, bottom = beat(wheel)
            for many in (0, -1, -2, -THIRTY):
                for at in (top, -top, THIRTY, 0, top * many):
                    self.assertIs(shows(wheel, at, bottom * many, told), False)
                    self.assertIs(shows(wheel, at, many, [0] * wheel.size()), False)

    def test_one_price_too_small_by_one(self):
        for most in (9, THIRTY):
            for wheel in random_wheels(104, 60, 1, 10, most):
                top, bottom = beat(wheel)
                told = prices(wheel)
                for b in range(wheel.size()):
                    others = [told[a] + w * bottom - top for a, w in wheel.waits(b) if a != b]
                    if others:
                        just = told[:b] + [max(others)] + told[b + 1:]
                        small = told[:b] + [max(others) - 1] + told[b + 1:]
                        self.assertIs(shows(wheel, top, bottom, just), shows_by_ties(wheel, top, bottom, just))
                        self.assertIs(shows(wheel, top, bottom, just), True)
                        self.assertIs(shows(wheel, top, bottom, small), False)

    def test_shows_against_the_ties(self):
        rng = random.Random(105)
        told_so = {True: 0, False: 0}
        for wheel in random_wheels(105, 200, 1, 4, 4):
            for _ in range(10):
                told = [rng.randint(-9, 9) for _ in range(wheel.size())]
                top, bottom = rng.randint(-5, 15), rng.randint(1, 3)
                wanted = shows_by_ties(wheel, top, bottom, told)
                self.assertIs(shows(wheel, top, bottom, told), wanted)
                told_so[wanted] += 1
        self.assertGreater(min(told_so.values()), 100)


class PacesTest(RingsCase):
    def test_by_hand(self):
        wheel = Wheel(5, [(0, 0, 2), (0, 1, 0), (1, 2, 3), (2, 1, 4), (3, 3, 9), (2, 4, 0), (3, 4, 0)])
        self.assertEqual(paces(wheel), [(2, 1), (7, 2), (7, 2), (9, 1), (9, 1)])

    def test_a_ring_led_to_does_not_count(self):
        self.assertEqual(paces(Wheel(2, [(0, 0, -1), (0, 1, 0), (1, 1, 5)])), [(-1, 1), (5, 1)])
        self.assertEqual(paces(Wheel(2, [(0, 0, 5), (0, 1, 0), (1, 1, -1)])), [(5, 1), (5, 1)])

    def test_deeds_by_themselves(self):
        self.assertEqual(paces(Wheel(40, [(a, a, a - 20) for a in range(40)])), [(a - 20, 1) for a in range(40)])

    def test_a_chain_takes_the_greatest_so_far(self):
        numbers = [3, -1, 4, 1, 5, 9, 2, 6]
        ties = [(a, a, w) for a, w in enumerate(numbers)] + [(a, a + 1, -THIRTY) for a in range(7)]
        self.assertEqual(paces(Wheel(8, ties)), [(max(numbers[:a + 1]), 1) for a in range(8)])

    def test_against_all_rings_that_lead_to_the_deed(self):
        pieces = {True: 0, False: 0}
        for most in (1, 9, THIRTY):
            for wheel in random_wheels(111, 120, 1, 6, most):
                rings = [(ring[0], mean_of(wheel, ring)) for ring in all_rings(wheel)]
                told = paces(wheel)
                self.assertIs(type(told), list)
                self.assertEqual(len(told), wheel.size())
                for b, pace in enumerate(told):
                    leading = led_from(wheel, b)
                    wanted = max(mean for deed, mean in rings if deed in leading)
                    self.assertEqual(pace, (wanted.numerator, wanted.denominator), wheel.ties())
                    self.assert_fraction(pace)
                pieces[one_piece(wheel)] += 1
        self.assertGreater(min(pieces.values()), 50)

    def test_in_one_piece_each_pace_is_the_beat(self):
        for wheel in whole_wheels(112, 40, 1, 40, THIRTY):
            self.assertEqual(paces(wheel), [beat(wheel)] * wheel.size())

    def test_the_greatest_pace_is_the_beat(self):
        for wheel in random_wheels(113, 60, 1, 40, THIRTY):
            told = paces(wheel)
            self.assertIn(beat(wheel), told)
            self.assertEqual(max(Fraction(*pace) for pace in told), Fraction(*beat(wheel)))

    def test_forty_deeds_against_the_part_that_leads_to_the_deed(self):
        rng = random.Random(114)
        for share in (0, 2, 4):
            wheel = Wheel(40, random_ties(rng, 40, THIRTY, share))
            begun = time.process_time()
            told = paces(wheel)
            self.assertLess(time.process_time() - begun, 10)
            for b in range(40):
                part = sorted(led_from(wheel, b))
                ties = [(part.index(a), part.index(c), w) for a, c, w in wheel.ties() if c in part]
                smaller = Wheel(len(part), ties)
                self.assertEqual(told[b], beat(smaller))
                self.assert_beat_proved(smaller)

    def test_times_go_on_at_the_paces(self):
        many = 10 ** 9
        for wheel in random_wheels(115, 60, 1, 7):
            for b, told in enumerate(after(wheel, [0] * wheel.size(), many)):
                top, bottom = paces(wheel)[b]
                # A walk is rings and less than a ring's worth of ties beside them.
                self.assertLessEqual(abs(told * bottom - top * many), 1000 * bottom)


class KnownRingTest(RingsCase):
    def test_ring_ties_of_every_size(self):
        for size in range(1, 41):
            wheel = Wheel(size, ring_ties(size, -THIRTY))
            self.assertEqual(beat(wheel), (-THIRTY, 1))
            self.assertEqual(sorted(slow_ring(wheel)), list(range(size)))
            self.assertEqual(paces(wheel), [(-THIRTY, 1)] * size)


if __name__ == "__main__":
    unittest.main()
