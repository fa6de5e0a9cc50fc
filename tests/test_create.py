"""create, and -11 while there is no process."""

import unittest

from tests.helper import GREATEST, action_value, answer, are_equivalent, ask, copy_rewards, create, distinguishes
from tests.helper import distinguishing_world, expected_reward, get_transition, optimal_actions, optimal_policy
from tests.helper import optimal_values, policy_values, regrets, same_optimal_actions, scale_rewards
from tests.helper import set_deterministic, set_reward, set_rewards, set_transition, shape_rewards, snapshot
from tests.helper import value_with_transition

EVERY_OTHER_CALL = [
    set_reward(0, 0, 0, 0, [1]),
    set_rewards(0, [0] * 8),
    copy_rewards(0),
    shape_rewards(0, [0, 0]),
    scale_rewards(0, 1),
    set_transition(0, 0, [1, 1]),
    get_transition(0, 0),
    set_deterministic([0, 0, 0, 0]),
    are_equivalent(),
    optimal_values(0),
    action_value(0, 0, 0),
    optimal_actions(0, 0),
    optimal_policy(0),
    policy_values(0, [0, 0]),
    same_optimal_actions(),
    regrets(),
    distinguishes([0, 0, 0, 0]),
    distinguishing_world(),
    expected_reward(0, 0, 0),
    value_with_transition(0, 0, 0, 0, [1, 1]),
]

# Each of these would be refused for another reason too, if there were a process.
WRONG_CALLS = [
    set_reward(2, 9, 9, 9, []),
    set_rewards(2, []),
    copy_rewards(2),
    shape_rewards(2, []),
    scale_rewards(2, 0),
    set_transition(9, 9, []),
    get_transition(9, 9),
    set_deterministic([]),
    optimal_values(2),
    action_value(2, 9, 9),
    action_value(GREATEST, GREATEST, GREATEST),
    optimal_actions(2, 9),
    optimal_policy(2),
    policy_values(2, []),
    policy_values(0, [9, 9]),
    policy_values(0, [0] * 6),
    distinguishes([]),
    distinguishes([9, 9]),
    distinguishes([GREATEST] * 14),
    expected_reward(2, 9, 9),
    value_with_transition(9, 9, 2, 9, []),
    value_with_transition(0, 0, 0, 0, []),
    value_with_transition(0, 0, 0, 0, [0, 0]),
    value_with_transition(0, 0, 0, 0, [10, 0]),
]

REFUSED_CREATES = [
    create(0, 1, 1, 2),
    create(1, 1, 1, 2),
    create(5, 1, 1, 2),
    create(GREATEST, 1, 1, 2),
    create(2, 0, 1, 2),
    create(2, 4, 1, 2),
    create(2, GREATEST, 1, 2),
    create(2, 1, 0, 1),
    create(2, 1, 0, 2),
    create(2, 1, 0, 0),
    create(2, 1, 1, 0),
    create(2, 1, 1, 1),
    create(2, 1, 10, 10),
    create(2, 1, 3, 2),
    create(2, 1, 1, 11),
    create(2, 1, 10, 11),
    create(2, 1, GREATEST, 2),
    create(2, 1, 1, GREATEST),
    create(GREATEST, GREATEST, GREATEST, GREATEST),
]


class Create(unittest.TestCase):
    def test_answers_the_number_of_rewards(self):
        expected = {
            (2, 1): 4, (2, 2): 8, (2, 3): 12,
            (3, 1): 9, (3, 2): 18, (3, 3): 27,
            (4, 1): 16, (4, 2): 32, (4, 3): 48,
        }
        for sizes, count in expected.items():
            self.assertEqual(ask(create(*sizes, 1, 2)), [[count]])

    def test_every_discount_within_the_limits(self):
        for den in range(2, 11):
            for num in range(1, den):
                self.assertEqual(ask(create(3, 2, num, den)), [[18]], (num, den))

    def test_refuses_what_is_beyond_a_limit(self):
        for call in REFUSED_CREATES:
            self.assertEqual(ask(call), [[-22]], call)

    def test_all_rewards_are_0_and_every_action_leads_back(self):
        for states in (2, 3, 4):
            for actions in (1, 2, 3):
                tables, transitions, values = snapshot(states, actions, create(states, actions, 1, 2))
                self.assertEqual(values, [[states] + [0, 1] * states] * 2)
                self.assertEqual(tables, [[0] * (states * actions * states)] * 2)
                expected = [
                    [states] + [int(state == following) for following in range(states)]
                    for state in range(states)
                    for _ in range(actions)
                ]
                self.assertEqual(transitions, expected)

    def test_all_optimal_values_are_0_over_1_at_first(self):
        given = ask(create(3, 2, 9, 10), optimal_values(0), optimal_values(1), are_equivalent())
        self.assertEqual(given, [[18], [3, 0, 1, 0, 1, 0, 1], [3, 0, 1, 0, 1, 0, 1], [1]])

    def test_refused_keeps_the_process(self):
        made = [
            create(2, 2, 1, 2),
            set_rewards(0, [1, 2, 3, 4, 5, 6, 7, 8]),
            set_rewards(1, [8, 7, 6, 5, 4, 3, 2, 1]),
            set_transition(1, 0, [3, 4]),
        ]
        before = snapshot(2, 2, *made)
        values = answer(*made, optimal_values(0))
        for call in REFUSED_CREATES:
            self.assertEqual(answer(*made, call), [-22])
            self.assertEqual(snapshot(2, 2, *made, call), before)
            self.assertEqual(answer(*made, call, optimal_values(0)), values)

    def test_answered_replaces_the_process(self):
        made = [
            create(2, 2, 1, 2),
            set_rewards(0, [1, 2, 3, 4, 5, 6, 7, 8]),
            set_rewards(1, [8, 7, 6, 5, 4, 3, 2, 1]),
            set_deterministic([1, 1, 0, 0]),
        ]
        for again in (create(2, 2, 1, 2), create(4, 3, 9, 10), create(3, 1, 2, 3)):
            self.assertEqual(snapshot(again[1], again[2], *made, again), snapshot(again[1], again[2], again))

    def test_answered_replaces_the_sizes_and_the_discount(self):
        given = ask(
            create(2, 1, 1, 2),
            create(3, 2, 2, 3),
            set_reward(0, 2, 1, 2, [1]),
            optimal_values(0),
            create(2, 1, 1, 2),
            set_reward(0, 1, 0, 1, [1]),
            optimal_values(0),
            get_transition(2, 0),
            get_transition(0, 1),
        )
        expected = [[4], [18], [0, 0], [3, 0, 1, 0, 1, 3, 1], [4], [0, 0], [2, 0, 1, 2, 1], [-2], [-2]]
        self.assertEqual(given, expected)


class NoProcess(unittest.TestCase):
    def test_every_call_but_create(self):
        for call in EVERY_OTHER_CALL + WRONG_CALLS:
            self.assertEqual(ask(call), [[-11]], call)

    def test_several_in_one_request(self):
        given = ask(*EVERY_OTHER_CALL)
        self.assertEqual(given, [[-11]] * 20)

    def test_after_a_refused_create(self):
        for refused in REFUSED_CREATES:
            given = ask(refused, *EVERY_OTHER_CALL, *WRONG_CALLS)
            self.assertEqual(given, [[-22]] + [[-11]] * (len(EVERY_OTHER_CALL) + len(WRONG_CALLS)))

    def test_until_a_create_is_answered(self):
        given = ask(are_equivalent(), create(1, 1, 1, 2), are_equivalent(), create(2, 1, 1, 2), are_equivalent())
        self.assertEqual(given, [[-11], [-22], [-11], [4], [1]])

    def test_what_was_called_ahead_of_create_is_not_kept(self):
        made = [set_reward(0, 0, 0, 0, [5]), set_transition(0, 0, [1, 1]), create(2, 1, 1, 2)]
        self.assertEqual(snapshot(2, 1, *made), snapshot(2, 1, create(2, 1, 1, 2)))


if __name__ == "__main__":
    unittest.main()
