"""optimal_values."""

import unittest
from fractions import Fraction
from math import gcd

from tests.helper import GREATEST, Numbers, Refusals, answer, ask, copy_rewards, create, optimal_values
from tests.helper import scale_rewards, set_deterministic, set_reward, set_rewards, set_transition, shape_rewards
from tests.helper import snapshot


class OptimalValues(Refusals):
    def values(self, *made, table=0):
        """The optimal values as fractions, once it is seen that they are in lowest terms."""
        given = answer(*made, optimal_values(table))
        states = given[0]
        self.assertEqual(len(given), 1 + 2 * states)
        numerators, denominators = given[1::2], given[2::2]
        for numerator, denominator in zip(numerators, denominators):
            self.assertGreater(denominator, 0)
            self.assertEqual(gcd(numerator, denominator), 1)
        return [Fraction(*pair) for pair in zip(numerators, denominators)]

    def assert_best(self, values, states, actions, discount, rewards, transitions):
        """In every state the value is the greatest value of an action: only the optimal values are so."""
        for state in range(states):
            of_actions = []
            for action in range(actions):
                place = state * actions + action
                weights = transitions[place]
                paid = rewards[place * states:(place + 1) * states]
                gained = sum(weight * (pay + discount * value) for weight, pay, value in zip(weights, paid, values))
                of_actions.append(Fraction(gained) / sum(weights))
            self.assertEqual(values[state], max(of_actions))

    def made(self, states, actions, num, den, rewards, transitions):
        calls = [create(states, actions, num, den), set_rewards(0, rewards)]
        for place, weights in enumerate(transitions):
            calls.append(set_transition(place // actions, place % actions, weights))
        return calls

    def assert_all_best(self, numbers, states, actions, num, den, largest):
        rewards = numbers.row(states * actions * states, -largest, largest)
        transitions = [numbers.weights(states) for _ in range(states * actions)]
        values = self.values(*self.made(states, actions, num, den, rewards, transitions))
        self.assertEqual(len(values), states)
        self.assert_best(values, states, actions, Fraction(num, den), rewards, transitions)

    def test_all_sizes_with_every_discount(self):
        numbers = Numbers(21)
        for states in (2, 3, 4):
            for actions in (1, 2, 3):
                for den in range(2, 11):
                    for num in {1, den // 2, den - 1}:
                        self.assert_all_best(numbers, states, actions, num, den, 1000)

    def test_small_rewards_so_that_several_policies_are_the_best(self):
        numbers = Numbers(22)
        for states in (2, 3, 4):
            for actions in (2, 3):
                for _ in range(8):
                    self.assert_all_best(numbers, states, actions, 9, 10, 1)

    def test_the_policy_that_looks_best_at_first_is_not(self):
        # Staying in 0 pays 1; leaving costs 1 first, but 2 pays 3 for ever.
        made = [
            create(3, 2, 9, 10),
            set_deterministic([0, 1, 1, 2, 2, 0]),
            set_reward(0, 0, 0, 0, [1]),
            set_reward(0, 0, 1, 1, [-1]),
            set_reward(0, 1, 1, 2, [-1]),
            set_reward(0, 2, 0, 2, [3]),
        ]
        self.assertEqual(answer(*made, optimal_values(0)), [3, 112, 5, 26, 1, 30, 1])

    def test_weights_that_are_not_deterministic_by_hand(self):
        # V0 = 3/4 * 1/2 * V0 + 1/4 * (1 + 1/2 * V1), V1 = 1/2 * V1
        made = [create(2, 1, 1, 2), set_transition(0, 0, [3, 1]), set_reward(0, 0, 0, 1, [1])]
        self.assertEqual(answer(*made, optimal_values(0)), [2, 2, 5, 0, 1])
        # The same probabilities by other weights.
        made = [create(2, 1, 1, 2), set_transition(0, 0, [6, 2]), set_reward(0, 0, 0, 1, [1])]
        self.assertEqual(answer(*made, optimal_values(0)), [2, 2, 5, 0, 1])

    def test_a_reward_counts_by_its_next_state(self):
        made = [create(2, 1, 1, 2), set_rewards(0, [0, 8, 4, 0]), set_deterministic([1, 0])]
        self.assertEqual(answer(*made, optimal_values(0)), [2, 40, 3, 32, 3])
        self.assertEqual(answer(*made, set_deterministic([0, 1]), optimal_values(0)), [2, 0, 1, 0, 1])
        self.assertEqual(answer(*made, set_deterministic([1, 1]), optimal_values(0)), [2, 8, 1, 0, 1])

    def test_each_action_can_be_the_best(self):
        for best in range(3):
            made = [create(2, 3, 1, 2), set_rewards(0, [-1] * 12), set_reward(0, 1, best, 1, [5])]
            self.assertEqual(answer(*made, optimal_values(0)), [2, -2, 1, 10, 1])

    def test_all_actions_are_as_good(self):
        made = [create(4, 3, 9, 10), set_rewards(0, [7] * 48)]
        self.assertEqual(answer(*made, optimal_values(0)), [4, 70, 1, 70, 1, 70, 1, 70, 1])
        made.append(set_deterministic([1, 2, 3, 0, 2, 3, 0, 1, 3, 0, 1, 2]))
        self.assertEqual(answer(*made, optimal_values(0)), [4, 70, 1, 70, 1, 70, 1, 70, 1])

    def test_negative_and_zero(self):
        # V0 = 1/4 * (-1 + 1/4 * V0), V1 = -1 + 1/4 * V1, V2 = 0
        made = [create(3, 1, 1, 4), set_transition(0, 0, [1, 0, 3]), set_rewards(0, [-1, 0, 0, 0, -1, 0, 0, 0, 0])]
        self.assertEqual(answer(*made, optimal_values(0)), [3, -4, 15, -4, 3, 0, 1])

    def test_each_table_by_its_own_rewards(self):
        made = [create(2, 1, 2, 3), set_rewards(0, [1, 0, 0, 2]), set_rewards(1, [-3, 0, 0, 5])]
        given = ask(*made, optimal_values(0), optimal_values(1), optimal_values(0))
        self.assertEqual(given[3:], [[2, 3, 1, 6, 1], [2, -9, 1, 15, 1], [2, 3, 1, 6, 1]])

    def test_the_greatest_and_the_least_values(self):
        for sign in (1, -1):
            made = [create(4, 3, 9, 10), set_rewards(0, [1000 * sign] * 48), scale_rewards(0, 100)]
            made.append(set_transition(0, 0, [9, 9, 9, 9]))
            self.assertEqual(answer(*made, optimal_values(0)), [4] + [1000000 * sign, 1] * 4)

    def test_large_numerators_and_denominators(self):
        numbers = Numbers(23)
        transitions = [numbers.row(4, 7, 9) for _ in range(12)]
        rewards = numbers.row(48, -1000, 1000)
        made = self.made(4, 3, 9, 10, rewards, transitions)
        values = self.values(*made)
        self.assertGreater(max(value.denominator for value in values), 2 ** 28)
        self.assert_best(values, 4, 3, Fraction(9, 10), rewards, transitions)
        scaled = self.values(*made, scale_rewards(0, 100))
        self.assertEqual(scaled, [value * 100 for value in values])

    def test_shaping_takes_the_potential_from_the_value(self):
        numbers = Numbers(24)
        for states, actions, num, den in ((2, 2, 1, 2), (3, 3, 5, 7), (4, 2, 9, 10)):
            rewards = numbers.row(states * actions * states, -100, 100)
            transitions = [numbers.weights(states) for _ in range(states * actions)]
            potentials = numbers.row(states, -100, 100)
            made = self.made(states, actions, num, den, rewards, transitions)
            made += [copy_rewards(1), shape_rewards(1, potentials)]
            expected = [value - den * shift for value, shift in zip(self.values(*made), potentials)]
            self.assertEqual(self.values(*made, table=1), expected)

    def test_refuses_a_table_that_does_not_exist(self):
        for table in (2, 3, GREATEST):
            self.assert_refused([create(3, 2, 1, 2), set_rewards(0, list(range(18)))], optimal_values(table), -2)

    def test_leaves_the_process_as_it_is(self):
        made = [create(2, 2, 1, 2), set_rewards(0, list(range(8))), set_transition(0, 1, [3, 4])]
        self.assertEqual(snapshot(2, 2, *made, optimal_values(0)), snapshot(2, 2, *made))


if __name__ == "__main__":
    unittest.main()
