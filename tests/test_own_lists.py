"""Point 1 over the whole program: what is handed in stays and is not kept, what is handed back is the asker's own."""

import random
import unittest

from tests.making import random_times, ring_ties, whole_wheels
from waitwheel.notes import read, shown
from waitwheel.rings import beat, paces, prices, shows, slow_ring
from waitwheel.rounds import after, late, next_times
from waitwheel.turning import turning
from waitwheel.walks import heaviest, one_piece, walk_of
from waitwheel.wheel import Wheel

TIES = [(0, 1, 5), (1, 0, -2), (1, 2, 4), (2, 0, 1)]

# Every call takes the wheel and a list of numbers, one for each deed; some make no use of the latter.
CALLS = {
    "next_times": next_times,
    "after 0": lambda wheel, told: after(wheel, told, 0),
    "after 1": lambda wheel, told: after(wheel, told, 1),
    "after 2": lambda wheel, told: after(wheel, told, 2),
    "after 10 ** 9": lambda wheel, told: after(wheel, told, 10 ** 9),
    "late 0": lambda wheel, told: late(wheel, told, 0, 9, 0),
    "late 3": lambda wheel, told: late(wheel, told, 0, 9, 3),
    "beat": lambda wheel, told: beat(wheel),
    "slow_ring": lambda wheel, told: slow_ring(wheel),
    "prices": lambda wheel, told: prices(wheel),
    "shows": lambda wheel, told: shows(wheel, 10 ** 9, 1, told),
    "paces": lambda wheel, told: paces(wheel),
    "turning": turning,
    "shown": lambda wheel, told: shown(wheel),
    "read": lambda wheel, told: read(shown(wheel)).ties(),
    "heaviest": lambda wheel, told: [weight for row in heaviest(wheel, 3) for weight in row],
    "walk_of": lambda wheel, told: walk_of(wheel, 0, 0, 0),
    "one_piece": lambda wheel, told: one_piece(wheel),
    "ties": lambda wheel, told: wheel.ties(),
    "waits": lambda wheel, told: wheel.waits(0),
}


def kept(answer):
    return list(answer) if isinstance(answer, list) else answer


class OwnListsTest(unittest.TestCase):
    def wheels(self):
        return [Wheel(1, [(0, 0, 3)]), Wheel(3, TIES), Wheel(5, ring_ties(5, -1))] + list(whole_wheels(161, 6, 2, 5, 3))

    def test_what_is_handed_in_stays(self):
        for wheel in self.wheels():
            size, ties = wheel.size(), wheel.ties()
            told = random_times(random.Random(161), size)
            before = list(told)
            for name, call in CALLS.items():
                call(wheel, told)
                self.assertEqual(told, before, name)
                self.assertEqual((wheel.size(), wheel.ties()), (size, ties), name)
                for b in range(size):
                    self.assertEqual(wheel.waits(b), [(a, w) for a, at, w in ties if at == b], name)

    def test_a_list_that_was_handed_in_may_change(self):
        for wheel in self.wheels():
            for name, call in CALLS.items():
                told = random_times(random.Random(162), wheel.size())
                answer = call(wheel, told)
                wanted = kept(answer)
                for k in range(len(told)):
                    told[k] += 1000 * k + 1
                self.assertEqual(answer, wanted, name)
                told.clear()
                self.assertEqual(answer, wanted, name)
                self.assertEqual(call(wheel, random_times(random.Random(162), wheel.size())), wanted, name)

    def test_a_list_that_was_handed_back_may_change(self):
        for wheel in self.wheels():
            told = random_times(random.Random(163), wheel.size())
            before = list(told)
            for name, call in CALLS.items():
                answer = call(wheel, told)
                wanted = kept(answer)
                other = call(wheel, told)
                if isinstance(answer, list):
                    self.assertIsNot(answer, other, name)
                    self.assertIsNot(answer, told, name)
                    answer[0] = "changed"
                    answer.append("more")
                self.assertEqual(other, wanted, name)
                self.assertEqual(told, before, name)
                self.assertEqual(call(wheel, told), wanted, name)

    def test_a_changed_answer_of_one_call_changes_no_other_call(self):
        for wheel in self.wheels():
            told = random_times(random.Random(164), wheel.size())
            wanted = {name: kept(call(wheel, told)) for name, call in CALLS.items()}
            for name, call in CALLS.items():
                answer = call(wheel, told)
                if isinstance(answer, list):
                    answer.clear()
            for name, call in CALLS.items():
                self.assertEqual(call(wheel, told), wanted[name], name)

    def test_two_wheels_read_from_one_text_share_nothing(self):
        text = shown(Wheel(3, TIES))
        one, other = read(text), read(text)
        one.ties().clear()
        one.waits(0).clear()
        self.assertEqual(other.ties(), TIES)
        self.assertEqual(one.ties(), TIES)


if __name__ == "__main__":
    unittest.main()
