"""set_reward, set_rewards and copy_rewards."""

import unittest

from tests.helper import GREATEST, GREATEST_SIGNED, LEAST_SIGNED, MADE, Refusals, answer, ask, copy_rewards
from tests.helper import create, optimal_values, rewards_of, scale_rewards, set_reward, set_rewards

OUT_OF_RANGE = [-1001, 1001, LEAST_SIGNED, GREATEST_SIGNED]


class SetReward(Refusals):
    def test_answers_0_and_the_previous_value(self):
        given = ask(
            create(2, 2, 1, 2),
            set_reward(0, 1, 0, 1, [7]),
            set_reward(0, 1, 0, 1, [-3]),
            set_reward(0, 1, 0, 1, [0]),
            set_reward(0, 1, 0, 1, [5]),
        )
        self.assertEqual(given, [[8], [0, 0], [0, 7], [0, -3], [0, 0]])

    def test_sets_one_reward_alone(self):
        for states, actions in ((2, 1), (2, 3), (3, 2), (4, 3)):
            place = 0
            for state in range(states):
                for action in range(actions):
                    for following in range(states):
                        made = [create(states, actions, 1, 2), set_reward(1, state, action, following, [9])]
                        expected = [0] * (states * actions * states)
                        expected[place] = 9
                        if place % 5 == 0:
                            self.assertEqual(rewards_of(states, actions, 0, *made), [0] * len(expected))
                        self.assertEqual(rewards_of(states, actions, 1, *made), expected)
                        place += 1

    def test_takes_the_least_and_the_greatest(self):
        for value in (-1000, 1000):
            given = ask(create(2, 1, 1, 2), set_reward(0, 0, 0, 1, [value]), set_reward(0, 0, 0, 1, [0]))
            self.assertEqual(given[1:], [[0, 0], [0, value]])

    def test_the_previous_value_may_be_beyond_what_can_be_handed_in(self):
        for value in (1000, -1000):
            given = answer(
                create(2, 1, 1, 2),
                set_reward(0, 0, 0, 1, [value]),
                scale_rewards(0, 100),
                set_reward(0, 0, 0, 1, [1]),
            )
            self.assertEqual(given, [0, value * 100])

    def test_refuses_what_does_not_exist(self):
        for beyond in (2, GREATEST):
            self.assert_refused(MADE, set_reward(beyond, 0, 0, 0, [1]), -2)
            self.assert_refused(MADE, set_reward(0, beyond, 0, 0, [1]), -2)
            self.assert_refused(MADE, set_reward(0, 0, beyond, 0, [1]), -2)
            self.assert_refused(MADE, set_reward(0, 0, 0, beyond, [1]), -2)

    def test_the_sizes_of_the_process_tell_what_exists(self):
        made = [create(4, 3, 1, 2)]
        self.assertEqual(answer(*made, set_reward(1, 3, 2, 3, [1])), [0, 0])
        self.assert_refused(made, set_reward(1, 4, 2, 3, [1]), -2)
        self.assert_refused(made, set_reward(1, 3, 3, 3, [1]), -2)
        self.assert_refused(made, set_reward(1, 3, 2, 4, [1]), -2)
        self.assert_refused([create(3, 1, 1, 2)], set_reward(1, 0, 1, 0, [1]), -2)

    def test_refuses_other_lists_than_one_reward(self):
        for value in ([], [1, 1], [0, 0, 0], [1, 2, 3, 4]):
            self.assert_refused(MADE, set_reward(0, 0, 0, 0, value), -22)
        for beyond in OUT_OF_RANGE:
            self.assert_refused(MADE, set_reward(0, 0, 0, 0, [beyond]), -22)

    def test_looks_first_for_what_does_not_exist(self):
        for value in ([], [1, 1], [1001], [-1001]):
            self.assert_refused(MADE, set_reward(2, 0, 0, 0, value), -2)
            self.assert_refused(MADE, set_reward(0, 2, 0, 0, value), -2)
            self.assert_refused(MADE, set_reward(0, 0, 2, 0, value), -2)
            self.assert_refused(MADE, set_reward(0, 0, 0, 2, value), -2)


class SetRewards(Refusals):
    def test_sets_all_by_state_then_action_then_next_state(self):
        for states in (2, 3, 4):
            for actions in (1, 2, 3):
                rewards = list(range(-3, states * actions * states - 3))
                for table in (0, 1):
                    made = [create(states, actions, 1, 2), set_rewards(table, rewards)]
                    self.assertEqual(answer(*made), [0])
                    self.assertEqual(rewards_of(states, actions, table, *made), rewards)
                    self.assertEqual(rewards_of(states, actions, 1 - table, *made), [0] * len(rewards))

    def test_takes_the_least_and_the_greatest(self):
        rewards = [-1000, 1000, 1000, -1000]
        made = [create(2, 1, 1, 2), set_rewards(1, rewards)]
        self.assertEqual(answer(*made), [0])
        self.assertEqual(rewards_of(2, 1, 1, *made), rewards)

    def test_refuses_a_table_that_does_not_exist(self):
        for table in (2, GREATEST):
            self.assert_refused(MADE, set_rewards(table, [0] * 8), -2)

    def test_refuses_another_length(self):
        for length in (0, 1, 7, 9, 50):
            self.assert_refused(MADE, set_rewards(0, [0] * length), -22)
        for length in (0, 47, 49, 50):
            self.assert_refused([create(4, 3, 1, 2)], set_rewards(1, [1] * length), -22)
        self.assertEqual(answer(create(4, 3, 1, 2), set_rewards(1, [1] * 48)), [0])

    def test_refuses_a_reward_out_of_range_at_any_place(self):
        for beyond in OUT_OF_RANGE:
            for place in range(8):
                rewards = [50] * 8
                rewards[place] = beyond
                self.assert_refused(MADE, set_rewards(0, rewards), -22)

    def test_looks_first_for_the_table(self):
        for rewards in ([], [0] * 7, [1001] * 8):
            self.assert_refused(MADE, set_rewards(2, rewards), -2)


class CopyRewards(Refusals):
    def test_takes_the_rewards_of_the_other_table(self):
        first = [1, 2, 3, 4, 5, 6, 7, 8]
        second = [-1, -2, -3, -4, -5, -6, -7, -8]
        for table, expected in ((0, second), (1, first)):
            made = MADE + [copy_rewards(table)]
            self.assertEqual(answer(*made), [0])
            self.assertEqual(rewards_of(2, 2, 0, *made), expected)
            self.assertEqual(rewards_of(2, 2, 1, *made), expected)

    def test_the_tables_change_apart_afterwards(self):
        for copied in (0, 1):
            for changed in (0, 1):
                made = MADE + [copy_rewards(copied)]
                kept = rewards_of(2, 2, 1 - changed, *made)
                later = made + [set_reward(changed, 0, 0, 0, [77])]
                self.assertEqual(rewards_of(2, 2, 1 - changed, *later), kept)
                self.assertEqual(rewards_of(2, 2, changed, *later), [77] + kept[1:])

    def test_copies_rewards_beyond_what_can_be_handed_in(self):
        made = [create(2, 1, 1, 2), set_rewards(0, [1000, -1000, 0, 1]), scale_rewards(0, 100), copy_rewards(1)]
        self.assertEqual(rewards_of(2, 1, 1, *made), [100000, -100000, 0, 100])
        self.assertEqual(answer(*made, optimal_values(1)), [2, 200000, 1, 200, 1])

    def test_refuses_a_table_that_does_not_exist(self):
        for table in (2, 3, GREATEST):
            self.assert_refused(MADE, copy_rewards(table), -2)


if __name__ == "__main__":
    unittest.main()
