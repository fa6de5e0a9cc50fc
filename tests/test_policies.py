"""policy_values and regrets."""

from itertools import product

from tests.helper import GREATEST, Numbers, Reckoned, Refusals, answer, are_equivalent, ask, ask_all, copy_rewards
from tests.helper import create, optimal_policy, optimal_values, policy_values, regrets, scale_rewards
from tests.helper import set_deterministic, set_reward, set_rewards, set_transition, shape_rewards, written

SIZES = [(states, actions) for states in (2, 3, 4) for actions in (1, 2, 3)]

# The process of the document's examples.
EXAMPLE = [
    create(2, 2, 1, 2),
    set_deterministic([0, 1, 1, 0]),
    set_reward(0, 0, 1, 1, [4]),
    set_reward(0, 1, 0, 1, [2]),
]


class PolicyValues(Refusals):
    def test_policies_that_are_not_the_best(self):
        # V1 = 2 + 1/2 * V1 by action 0; V0 = 4 + 1/2 * V1 by action 1; both ways together V0 = 4 + 1/4 * V0.
        for policy, expected in (
            ([0, 0], [0, 1, 4, 1]),
            ([1, 0], [6, 1, 4, 1]),
            ([0, 1], [0, 1, 0, 1]),
            ([1, 1], [16, 3, 8, 3]),
        ):
            self.assertEqual(answer(*EXAMPLE, policy_values(0, policy)), [2] + expected)
            self.assertEqual(answer(*EXAMPLE, policy_values(1, policy)), [2, 0, 1, 0, 1])

    def test_weights_that_are_not_deterministic_and_negative_values(self):
        made = [create(2, 2, 1, 2), set_transition(0, 1, [1, 2]), set_rewards(1, [0, 0, -3, 1, 0, 0, 0, -5])]
        # By action 1: V0 = 1/3 * (-3 + 1/2 * V0) + 2/3 * (1 + 1/2 * V1), V1 = -5 + 1/2 * V1
        self.assertEqual(answer(*made, policy_values(1, [1, 1])), [2, -22, 5, -10, 1])
        self.assertEqual(answer(*made, policy_values(1, [1, 0])), [2, -2, 5, 0, 1])
        self.assertEqual(answer(*made, policy_values(1, [0, 1])), [2, 0, 1, -10, 1])

    def test_the_optimal_policy_attains_the_optimal_values(self):
        numbers = Numbers(61)
        for states, actions in SIZES:
            process = Reckoned.drawn(numbers, states, actions, 1000)
            for table in (0, 1):
                policy = answer(*process.calls(), optimal_policy(table))[1:]
                given = ask(*process.calls(), optimal_values(table), policy_values(table, policy))[-2:]
                self.assertEqual(given[0], given[1])

    def test_agrees_with_the_words(self):
        numbers = Numbers(62)
        for states, actions in SIZES:
            for largest in (2, 1000):
                process = Reckoned.drawn(numbers, states, actions, largest)
                policies = [list(policy) for policy in product(range(actions), repeat=states)]
                for table in (0, 1):
                    given = ask_all(process.calls(), [policy_values(table, policy) for policy in policies])
                    expected = [[states] + written(process.values_under(table, policy)) for policy in policies]
                    self.assertEqual(given, expected)

    def test_refuses_a_table_that_does_not_exist(self):
        for table in (2, 3, GREATEST):
            self.assert_refused(EXAMPLE, policy_values(table, [0, 0]), -2)

    def test_refuses_another_length(self):
        for states in (2, 3, 4):
            made = [create(states, 2, 1, 2)]
            self.assertEqual(answer(*made, policy_values(0, [1] * states)), [states] + [0, 1] * states)
            for length in range(7):
                if length != states:
                    self.assert_refused(made, policy_values(1, [0] * length), -22)

    def test_refuses_an_action_that_does_not_exist_at_any_place(self):
        for actions in (1, 2, 3):
            made = [create(3, actions, 1, 2)]
            self.assertEqual(answer(*made, policy_values(0, [actions - 1] * 3)), [3] + [0, 1] * 3)
            for beyond in (actions, actions + 1, GREATEST):
                for place in range(3):
                    policy = [0, 0, 0]
                    policy[place] = beyond
                    self.assert_refused(made, policy_values(0, policy), -22)

    def test_a_state_is_not_an_action(self):
        self.assert_refused([create(4, 2, 1, 2)], policy_values(0, [3, 3, 3, 3]), -22)

    def test_looks_first_for_the_table(self):
        for policy in ([], [0], [0, 0, 0], [2, 0], [GREATEST] * 6):
            self.assert_refused(EXAMPLE, policy_values(2, policy), -2)
            self.assert_refused(EXAMPLE, policy_values(1, policy), -22)

    def test_leaves_the_process_as_it_is(self):
        self.assert_left(EXAMPLE, policy_values(0, [0, 1]))


class Regrets(Refusals):
    def test_nothing_is_lost_by_equivalent_tables(self):
        numbers = Numbers(63)
        for states, actions in SIZES:
            process = Reckoned.drawn(numbers, states, actions, 100)
            made = process.calls() + [copy_rewards(1), shape_rewards(1, numbers.row(states, -100, 100))]
            self.assertEqual(ask(*made, are_equivalent(), regrets())[-2:], [[1], [states] + [0, 1] * states])

    def test_above_0_by_hand(self):
        # Table 0 wants to stay in 0 and to leave 1, table 1 pays 3 for staying in 1 alone.
        made = [create(2, 2, 1, 2), set_deterministic([0, 1, 1, 0]), set_rewards(0, [2, 0, 0, 0, 0, 0, 0, 0])]
        made.append(set_reward(1, 1, 0, 1, [3]))
        self.assertEqual(answer(*made, optimal_policy(0)), [2, 0, 1])
        self.assertEqual(answer(*made, regrets()), [2, 3, 1, 6, 1])

    def test_a_fraction_and_values_below_0(self):
        # By table 1 action 0 is -1/2 for ever, action 1 -2 for ever, which table 0 wants.
        made = [create(2, 2, 1, 3), set_transition(0, 0, [1, 1]), set_rewards(0, [0, 0, 5, 0, 0, 0, 0, 0])]
        made.append(set_rewards(1, [-1, 0, -2, 0, 0, 0, 0, 0]))
        # V0 = 1/2 * (-1 + 1/3 * V0) is -3/5; by action 1 it is -3.
        self.assertEqual(answer(*made, optimal_values(1)), [2, -3, 5, 0, 1])
        self.assertEqual(answer(*made, regrets()), [2, 12, 5, 0, 1])

    def test_the_optimal_policy_of_table_0_is_one_of_several(self):
        # By table 0 both actions are optimal; the one with the smaller number is followed.
        made = [create(2, 2, 1, 2)]
        self.assertEqual(answer(*made, set_reward(1, 0, 1, 0, [5]), regrets()), [2, 10, 1, 0, 1])
        self.assertEqual(answer(*made, set_reward(1, 0, 0, 0, [5]), regrets()), [2, 0, 1, 0, 1])
        three = [create(2, 3, 1, 2), set_rewards(0, [0, 0, 4, 0, 4, 0, 0, 0, 0, 0, 0, 0])]
        self.assertEqual(answer(*three, set_rewards(1, [9, 0, 1, 0, 2, 0] + [0] * 6), regrets()), [2, 16, 1, 0, 1])

    def test_table_1_is_the_one_that_pays(self):
        given = ask(*EXAMPLE, regrets(), copy_rewards(1), set_rewards(0, [0] * 8), regrets())
        # All of table 0 is 0 at last: action 0 is followed in both states and gets 0 and 4 of 6 and 4.
        self.assertEqual([given[4], given[-1]], [[2, 0, 1, 0, 1], [2, 6, 1, 0, 1]])

    def test_the_greatest_regret(self):
        made = [create(4, 3, 9, 10), set_rewards(1, [-1000] * 4 + ([1000] * 4 + [-1000] * 8) * 3 + [1000] * 8)]
        made += [scale_rewards(1, 100), set_rewards(0, [1, 1, 1, 1] + [0] * 44)]
        made += [set_deterministic([0] * 12)]
        given = answer(*made, regrets())
        # In state 0 action 0 is followed: -100000 for ever instead of 100000; the others end up there.
        self.assertEqual(given[:3], [4, 2000000, 1])
        self.assertEqual(given, [4] + written(self.reckoned_greatest()))

    def reckoned_greatest(self):
        rewards = [-100000] * 4 + ([100000] * 4 + [-100000] * 8) * 3 + [100000] * 8
        process = Reckoned(4, 3, 9, 10, [[1, 1, 1, 1] + [0] * 44, rewards], [[1, 0, 0, 0]] * 12)
        return process.regrets()

    def test_agrees_with_the_words(self):
        numbers = Numbers(64)
        some = 0
        for states, actions in SIZES:
            for largest in (1, 1, 5, 1000):
                for world in (False, True):
                    process = Reckoned.drawn(numbers, states, actions, largest)
                    if world:
                        process = process.in_world(numbers.row(states * actions, 0, states - 1))
                    expected = process.regrets()
                    some += max(expected) > 0
                    self.assertEqual(answer(*process.calls(), regrets()), [states] + written(expected))
        self.assertGreater(some, 20)

    def test_numerators_beyond_64_bits(self):
        numbers = Numbers(65)
        transitions = [numbers.row(4, 7, 9) for _ in range(12)]
        process = Reckoned(4, 3, 9, 10, [numbers.row(48, -1000, 1000) for _ in range(2)], transitions)
        given = answer(*process.calls(), regrets())
        self.assertEqual(given, [4] + written(process.regrets()))
        self.assertGreater(max(given), 2 ** 64)

    def test_leaves_the_process_as_it_is(self):
        self.assert_left(EXAMPLE, regrets())
        self.assertEqual(answer(*EXAMPLE, regrets(), regrets()), [2, 0, 1, 0, 1])
