"""are_equivalent."""

import unittest
from fractions import Fraction

from tests.helper import Numbers, answer, are_equivalent, copy_rewards, create, scale_rewards, set_deterministic
from tests.helper import set_reward, set_rewards, set_transition, shape_rewards, snapshot


def equivalent_by_the_words(states, actions, num, den, first, second):
    """Shape the first table by the only potentials there can be, in fractions."""
    discount = Fraction(num, den)

    def place(state, action, following):
        return (state * actions + action) * states + following

    potentials = []
    for state in range(states):
        stay = place(state, 0, state)
        potentials.append(-(second[stay] - first[stay]) / (1 - discount))
    shaped = [
        first[place(state, action, following)] + discount * potentials[following] - potentials[state]
        for state in range(states)
        for action in range(actions)
        for following in range(states)
    ]
    return shaped == second


class AreEquivalent(unittest.TestCase):
    def assert_result(self, result, *made):
        self.assertEqual(answer(*made, are_equivalent()), [result], made)

    def test_equal_tables(self):
        self.assert_result(1, create(2, 1, 1, 2))
        for states, actions in ((2, 3), (3, 1), (4, 3)):
            rewards = Numbers(states).row(states * actions * states, -1000, 1000)
            made = [create(states, actions, 9, 10), set_rewards(0, rewards), set_rewards(1, rewards)]
            self.assert_result(1, *made)
            self.assert_result(1, *made[:2], copy_rewards(1))

    def test_shaped_tables(self):
        numbers = Numbers(11)
        for states in (2, 3, 4):
            for actions in (1, 2, 3):
                for num, den in ((1, 2), (2, 3), (3, 7), (9, 10), (1, 10)):
                    rewards = numbers.row(states * actions * states, -1000, 1000)
                    made = [create(states, actions, num, den), set_rewards(0, rewards), copy_rewards(1)]
                    potentials = numbers.row(states, -1000, 1000)
                    for table in (0, 1):
                        self.assert_result(1, *made, shape_rewards(table, potentials))
                    both = [shape_rewards(0, potentials), shape_rewards(1, numbers.row(states, -1000, 1000))]
                    self.assert_result(1, *made, *both)

    def test_shaped_tables_but_for_one_single_reward(self):
        numbers = Numbers(12)
        for states, actions in ((2, 1), (2, 2), (3, 1), (3, 2), (4, 3)):
            rewards = numbers.row(states * actions * states, -1000, 1000)
            made = [create(states, actions, 2, 3), set_rewards(0, rewards), copy_rewards(1)]
            made.append(shape_rewards(1, numbers.row(states, -100, 100)))
            for state in range(states):
                for action in range(actions):
                    for following in range(states):
                        place = (state * actions + action) * states + following
                        for step in (-1, 1):
                            changed = min(1000, max(-1000, rewards[place] + step))
                            if changed != rewards[place]:
                                self.assert_result(0, *made, set_reward(0, state, action, following, [changed]))

    def test_equal_tables_but_for_one_single_reward(self):
        for states, actions in ((2, 1), (3, 2), (4, 3)):
            for state in range(states):
                for action in range(actions):
                    for following in range(states):
                        for table in (0, 1):
                            made = [create(states, actions, 1, 2), set_reward(table, state, action, following, [1])]
                            self.assert_result(0, *made)

    def test_shaping_by_potentials_that_are_not_whole(self):
        # The same number more for every step is shaping by -number / (1 - discount), here -3 / 2.
        self.assert_result(1, create(2, 2, 1, 3), set_rewards(1, [1] * 8))
        self.assert_result(0, create(2, 2, 1, 3), set_rewards(1, [1] * 7 + [2]))
        # Shaping by the potentials -2 and 0 with the discount 1/2, and the same with one sign turned.
        self.assert_result(1, create(2, 1, 1, 2), set_rewards(1, [1, 2, -1, 0]))
        self.assert_result(0, create(2, 1, 1, 2), set_rewards(1, [1, 2, 1, 0]))

    def test_shaping_with_another_discount_is_not_the_same(self):
        # Shaping by the potentials 2 and 0 with the discount 1/2.
        shaped = set_rewards(1, [-1, -2, 1, 0])
        self.assert_result(1, create(2, 1, 1, 2), shaped)
        self.assert_result(0, create(2, 1, 1, 3), shaped)
        self.assert_result(0, create(2, 1, 9, 10), shaped)

    def test_a_multiple_is_not_equivalent(self):
        made = [create(2, 2, 1, 2), set_rewards(0, [0, 4, 0, 1, 3, 0, 2, 0]), copy_rewards(1)]
        self.assert_result(0, *made, scale_rewards(1, 2))
        self.assert_result(1, *made, scale_rewards(1, 1))

    def test_the_transitions_do_not_matter(self):
        # The tables differ only in a reward that is never paid.
        made = [create(2, 1, 1, 2), set_reward(1, 0, 0, 1, [1])]
        for moves in ([], [set_deterministic([0, 0])], [set_transition(0, 0, [1, 0]), set_transition(1, 0, [9, 1])]):
            self.assert_result(0, *made, *moves)
            self.assert_result(1, *made, copy_rewards(0), *moves)

    def test_agrees_with_the_words_on_many_small_tables(self):
        numbers = Numbers(13)
        found = {True: 0, False: 0}
        for _ in range(1500):
            states, actions = 2, numbers.draw(1, 2)
            den = numbers.draw(2, 4)
            num = numbers.draw(1, den - 1)
            first, second = [numbers.row(states * actions * states, 0, 1) for _ in range(2)]
            by_words = equivalent_by_the_words(states, actions, num, den, first, second)
            found[by_words] += 1
            made = [create(states, actions, num, den), set_rewards(0, first), set_rewards(1, second)]
            self.assert_result(int(by_words), *made)
        self.assertGreater(min(found.values()), 20)

    def test_rewards_as_large_as_they_can_be(self):
        largest = [create(2, 1, 9, 10), set_rewards(0, [1000, -1000, -1000, 1000]), scale_rewards(0, 100)]
        self.assert_result(1, *largest, copy_rewards(1))
        self.assert_result(0, *largest, copy_rewards(1), set_reward(1, 0, 0, 1, [0]))
        self.assert_result(0, *largest)

    def test_leaves_the_process_as_it_is(self):
        made = [create(2, 2, 1, 2), set_rewards(0, list(range(8))), set_transition(0, 1, [3, 4])]
        self.assertEqual(snapshot(2, 2, *made, are_equivalent()), snapshot(2, 2, *made))


if __name__ == "__main__":
    unittest.main()
