"""shape_rewards and scale_rewards."""

import unittest

from tests.helper import GREATEST, GREATEST_SIGNED, LEAST_SIGNED, MADE, Numbers, Refusals, answer, copy_rewards
from tests.helper import create, rewards_of, scale_rewards, set_reward, set_rewards, shape_rewards


def one_reward(value, *factors):
    """A process whose table 0 rewards staying in state 0 with the value times the factors, and nothing else."""
    made = [create(2, 1, 1, 2), set_reward(0, 0, 0, 0, [value])]
    return made + [scale_rewards(0, factor) for factor in factors]


def expected_shaped(states, actions, num, den, rewards, potentials):
    return [
        rewards[(state * actions + action) * states + following] + num * potentials[following] - den * potentials[state]
        for state in range(states)
        for action in range(actions)
        for following in range(states)
    ]


class ShapeRewards(Refusals):
    def test_a_table_by_hand(self):
        made = MADE + [shape_rewards(0, [10, -20])]
        self.assertEqual(answer(*made), [0])
        # staying in 0: 10 - 20, from 0 to 1: -20 - 20, from 1 to 0: 10 + 40, staying in 1: -20 + 40
        self.assertEqual(rewards_of(2, 2, 0, *made), [-9, -38, -7, -36, 55, 26, 57, 28])
        self.assertEqual(rewards_of(2, 2, 1, *made), [-1, -2, -3, -4, -5, -6, -7, -8])

    def test_all_sizes_and_both_tables(self):
        numbers = Numbers(4)
        for states in (2, 3, 4):
            for actions in (1, 2, 3):
                for num, den in ((1, 2), (2, 7), (9, 10), (1, 10)):
                    table = numbers.draw(0, 1)
                    rewards = numbers.row(states * actions * states, -1000, 1000)
                    potentials = numbers.row(states, -1000, 1000)
                    made = [create(states, actions, num, den), set_rewards(table, rewards)]
                    made.append(shape_rewards(table, potentials))
                    expected = expected_shaped(states, actions, num, den, rewards, potentials)
                    self.assertEqual(answer(*made), [0])
                    self.assertEqual(rewards_of(states, actions, table, *made), expected)

    def test_takes_the_least_and_the_greatest_potentials(self):
        made = [create(2, 1, 9, 10), shape_rewards(1, [-1000, 1000])]
        self.assertEqual(answer(*made), [0])
        self.assertEqual(rewards_of(2, 1, 1, *made), [1000, 19000, -19000, -1000])

    def test_shaping_twice_adds_up(self):
        twice = MADE + [shape_rewards(1, [3, 4]), shape_rewards(1, [-1, 5])]
        once = MADE + [shape_rewards(1, [2, 9])]
        self.assertEqual(rewards_of(2, 2, 1, *twice), rewards_of(2, 2, 1, *once))

    def test_refuses_a_table_that_does_not_exist(self):
        for table in (2, GREATEST):
            self.assert_refused(MADE, shape_rewards(table, [1, 1]), -2)

    def test_refuses_another_length(self):
        for length in (0, 1, 3, 4, 5, 6):
            self.assert_refused(MADE, shape_rewards(0, [1] * length), -22)
        for length in (0, 3, 5, 6):
            self.assert_refused([create(4, 1, 1, 2)], shape_rewards(0, [1] * length), -22)

    def test_refuses_a_potential_out_of_range(self):
        for beyond in (-1001, 1001, LEAST_SIGNED, GREATEST_SIGNED):
            self.assert_refused(MADE, shape_rewards(0, [beyond, 0]), -22)
            self.assert_refused(MADE, shape_rewards(1, [0, beyond]), -22)

    def test_a_reward_of_100000_is_kept_and_one_of_100001_refused(self):
        # The potential -1 adds 1 to the reward for staying in state 0, the potential 1 takes 1 from it.
        for sign in (1, -1):
            nearly = one_reward(1000 * sign, 100) + [shape_rewards(0, [sign, 0])]
            self.assertEqual(rewards_of(2, 1, 0, *nearly)[0], 99999 * sign)
            full = nearly + [shape_rewards(0, [-sign, 0])]
            self.assertEqual(answer(*full), [0])
            self.assertEqual(rewards_of(2, 1, 0, *full)[0], 100000 * sign)
            self.assert_refused(full, shape_rewards(0, [-sign, 0]), -75)
            self.assert_refused(full, shape_rewards(0, [-1000 * sign, 0]), -75)

    def test_a_reward_too_large_for_the_last_action_and_state(self):
        # The potentials 1 and 0 add 1 to the reward from state 1 to state 0, -1 and 0 take 1 from it.
        for sign in (1, -1):
            made = [create(2, 3, 1, 2), set_reward(1, 1, 2, 0, [1000 * sign]), scale_rewards(1, 100)]
            self.assertEqual(answer(*made, shape_rewards(1, [-sign, 0])), [0])
            self.assert_refused(made, shape_rewards(1, [sign, 0]), -75)

    def test_the_rewards_of_the_other_table_do_not_matter(self):
        self.assertEqual(answer(*one_reward(1000, 100), shape_rewards(1, [-1000, 0])), [0])

    def test_the_order_of_its_errors(self):
        full = one_reward(1000, 100)
        self.assert_refused(full, shape_rewards(2, []), -2)
        self.assert_refused(full, shape_rewards(2, [1001, 0]), -2)
        self.assert_refused(full, shape_rewards(2, [-1, 0]), -2)
        self.assert_refused(full, shape_rewards(0, [-1001, 0]), -22)
        self.assert_refused(full, shape_rewards(0, [-1, 0, 0]), -22)
        self.assert_refused(full, shape_rewards(0, [-1]), -22)


class ScaleRewards(Refusals):
    def test_multiplies_all_rewards_of_the_table(self):
        made = MADE + [scale_rewards(1, 7)]
        self.assertEqual(answer(*made), [0])
        self.assertEqual(rewards_of(2, 2, 0, *made), [1, 2, 3, 4, 5, 6, 7, 8])
        self.assertEqual(rewards_of(2, 2, 1, *made), [-7, -14, -21, -28, -35, -42, -49, -56])

    def test_takes_the_least_and_the_greatest_factor(self):
        for factor in (1, 100):
            made = MADE + [scale_rewards(0, factor)]
            self.assertEqual(answer(*made), [0])
            self.assertEqual(rewards_of(2, 2, 0, *made), [reward * factor for reward in range(1, 9)])

    def test_refuses_a_table_that_does_not_exist(self):
        for table in (2, GREATEST):
            self.assert_refused(MADE, scale_rewards(table, 1), -2)

    def test_refuses_a_factor_out_of_range(self):
        for factor in (0, 101, GREATEST):
            self.assert_refused(MADE, scale_rewards(0, factor), -22)

    def test_a_reward_of_100000_is_kept(self):
        for sign in (1, -1):
            full = one_reward(1000 * sign, 100)
            self.assertEqual(rewards_of(2, 1, 0, *full), [100000 * sign, 0, 0, 0])
            self.assertEqual(answer(*full, scale_rewards(0, 1)), [0])
            self.assert_refused(full, scale_rewards(0, 2), -75)

    def test_a_reward_of_100001_is_refused(self):
        # 9091 * 11 is 100001: shaping makes the reward for staying in state 0 so large.
        for sign in (1, -1):
            made = [
                create(2, 1, 1, 10),
                set_rewards(0, [91 * sign, 0, 0, 0]),
                shape_rewards(0, [-1000 * sign, 0]),
            ]
            self.assertEqual(rewards_of(2, 1, 0, *made), [9091 * sign, 10000 * sign, -1000 * sign, 0])
            smaller = made + [set_reward(0, 0, 0, 1, [0])]
            self.assert_refused(smaller, scale_rewards(0, 11), -75)
            self.assertEqual(answer(*smaller, scale_rewards(0, 10)), [0])

    def test_a_single_reward_too_large_at_any_place(self):
        for place in range(8):
            rewards = [0] * 8
            rewards[place] = -1000
            made = [create(2, 2, 1, 2), set_rewards(1, rewards), scale_rewards(1, 100)]
            self.assert_refused(made, scale_rewards(1, 2), -75)

    def test_the_rewards_of_the_other_table_do_not_matter(self):
        self.assertEqual(answer(*one_reward(1000, 100), scale_rewards(1, 100)), [0])

    def test_a_copy_scales_apart(self):
        made = MADE + [copy_rewards(1), scale_rewards(1, 2)]
        self.assertEqual(rewards_of(2, 2, 0, *made), [1, 2, 3, 4, 5, 6, 7, 8])

    def test_the_order_of_its_errors(self):
        full = one_reward(1000, 100)
        self.assert_refused(full, scale_rewards(2, 0), -2)
        self.assert_refused(full, scale_rewards(2, 101), -2)
        self.assert_refused(full, scale_rewards(2, 2), -2)
        self.assert_refused(full, scale_rewards(0, 101), -22)
        self.assert_refused(full, scale_rewards(0, 0), -22)



if __name__ == "__main__":
    unittest.main()
