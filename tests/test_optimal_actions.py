"""optimal_actions, optimal_policy and same_optimal_actions."""

from tests.helper import GREATEST, Numbers, Reckoned, Refusals, answer, ask, ask_all, copy_rewards, create
from tests.helper import optimal_actions, optimal_policy, same_optimal_actions, scale_rewards, set_deterministic
from tests.helper import set_reward, set_rewards, set_transition, shape_rewards

SIZES = [(states, actions) for states in (2, 3, 4) for actions in (1, 2, 3)]

# Every action leads back, so what an action pays tells how good it is.
STAYING = [create(2, 3, 1, 2)]


def paying(table, first, second):
    """The rewards of a table where staying in either state pays these by each action, and moving pays nothing."""
    rewards = [number for pay in first for number in (pay, 0)] + [number for pay in second for number in (0, pay)]
    return set_rewards(table, rewards)


def drawn_processes(seed):
    """Processes of all sizes; with small rewards and deterministic transitions several actions are often optimal."""
    numbers = Numbers(seed)
    for states, actions in SIZES:
        for largest in (1, 1000):
            for _ in range(6):
                process = Reckoned.drawn(numbers, states, actions, largest)
                yield process
                yield process.in_world(numbers.row(states * actions, 0, states - 1))


class OptimalActions(Refusals):
    def test_one_optimal_action(self):
        for best in range(3):
            pay = [-1, -1, -1]
            pay[best] = 0
            given = ask(*STAYING, paying(1, pay, [0, 5, 0]), optimal_actions(1, 0), optimal_actions(1, 1))
            self.assertEqual(given[2:], [[1, best], [1, 1]])

    def test_several_in_increasing_order(self):
        for pay, expected in (([3, 3, 1], [0, 1]), ([3, 1, 3], [0, 2]), ([1, 3, 3], [1, 2]), ([-2, -2, -3], [0, 1])):
            given = ask(*STAYING, paying(0, pay, [0, 0, 9]), optimal_actions(0, 0), optimal_actions(0, 1))
            self.assertEqual(given[2:], [[2] + expected, [1, 2]])

    def test_all_of_them(self):
        for states, actions in SIZES:
            made = [create(states, actions, 9, 10), set_rewards(0, [-7] * (states * actions * states))]
            for moves in ([], [set_deterministic([states - 1] * (states * actions))]):
                questions = [optimal_actions(table, state) for table in (0, 1) for state in range(states)]
                given = ask_all(made + moves, questions)
                self.assertEqual(given, [[actions] + list(range(actions))] * (2 * states))

    def test_an_action_that_is_worse_by_very_little_is_not_optimal(self):
        # Everything pays 999 on average, but for action 2 in state 0, which pays 998 once in ten times.
        made = [create(2, 3, 9, 10), set_rewards(0, [999, 999, 998, 1000, 999, 998] + [999] * 6)]
        made += [set_transition(0, 1, [4, 4]), set_transition(0, 2, [9, 1])]
        self.assertEqual(answer(*made, optimal_actions(0, 0)), [2, 0, 1])
        self.assertEqual(answer(*made, optimal_actions(0, 1)), [3, 0, 1, 2])
        self.assertEqual(answer(*made, set_reward(0, 0, 2, 1, [999]), optimal_actions(0, 0)), [3, 0, 1, 2])

    def test_several_that_are_optimal_by_different_ways(self):
        # Going to 1 pays nothing at once and 4 for ever there; staying pays 2 for ever: both are 4.
        made = [create(2, 2, 1, 2), set_deterministic([0, 1, 1, 1])]
        made += [set_reward(0, 0, 0, 0, [2]), set_reward(0, 1, 0, 1, [4])]
        self.assertEqual(ask(*made, optimal_actions(0, 0), optimal_actions(0, 1))[4:], [[2, 0, 1], [1, 0]])
        self.assertEqual(answer(*made, set_reward(0, 1, 0, 1, [3]), optimal_actions(0, 0)), [1, 0])
        self.assertEqual(answer(*made, set_reward(0, 1, 0, 1, [5]), optimal_actions(0, 0)), [1, 1])

    def test_what_pays_less_at_once_can_be_the_best(self):
        made = [create(2, 2, 9, 10), set_deterministic([0, 1, 1, 1])]
        made += [set_reward(0, 0, 0, 0, [1]), set_reward(0, 0, 1, 1, [-50]), set_reward(0, 1, 1, 1, [9])]
        self.assertEqual(answer(*made, optimal_actions(0, 0)), [1, 1])
        self.assertEqual(answer(*made, set_reward(0, 0, 1, 1, [-72]), optimal_actions(0, 0)), [1, 0])

    def test_agrees_with_the_words(self):
        for process in drawn_processes(51):
            questions = [optimal_actions(table, state) for table in (0, 1) for state in range(process.states)]
            expected = [[len(actions)] + actions for table in (0, 1) for actions in process.optimal(table)]
            self.assertEqual(ask_all(process.calls(), questions), expected)

    def test_refuses_what_does_not_exist(self):
        for states, actions in ((2, 3), (3, 1), (4, 2)):
            made = [create(states, actions, 1, 2)]
            self.assertEqual(answer(*made, optimal_actions(1, states - 1)), [actions] + list(range(actions)))
            for beyond in (2, 3, GREATEST):
                self.assert_refused(made, optimal_actions(beyond, 0), -2)
            for beyond in (states, states + 1, GREATEST):
                self.assert_refused(made, optimal_actions(1, beyond), -2)
            self.assert_refused(made, optimal_actions(2, states), -2)

    def test_leaves_the_process_as_it_is(self):
        self.assert_left(STAYING + [paying(0, [1, 2, 3], [4, 5, 6])], optimal_actions(0, 1))


class OptimalPolicy(Refusals):
    def test_takes_the_optimal_action_with_the_smallest_number(self):
        for first, second, expected in (
            ([3, 3, 1], [0, 0, 0], [0, 0]),
            ([1, 3, 3], [0, 2, 2], [1, 1]),
            ([1, 1, 3], [2, 1, 2], [2, 0]),
            ([-5, -4, -4], [-1, -1, 0], [1, 2]),
        ):
            for table in (0, 1):
                given = answer(*STAYING, paying(table, first, second), optimal_policy(table))
                self.assertEqual(given, [2] + expected)

    def test_by_each_table(self):
        made = STAYING + [paying(0, [1, 0, 0], [0, 0, 1]), paying(1, [0, 1, 0], [0, 1, 0])]
        self.assertEqual(ask(*made, optimal_policy(0), optimal_policy(1))[3:], [[2, 0, 2], [2, 1, 1]])

    def test_is_all_0_where_all_actions_are_optimal(self):
        for states, actions in SIZES:
            self.assertEqual(answer(create(states, actions, 9, 10), optimal_policy(1)), [states] + [0] * states)

    def test_agrees_with_the_words(self):
        for process in drawn_processes(52):
            given = ask(*process.calls(), optimal_policy(0), optimal_policy(1))[-2:]
            expected = [[process.states] + [actions[0] for actions in process.optimal(table)] for table in (0, 1)]
            self.assertEqual(given, expected)

    def test_refuses_a_table_that_does_not_exist(self):
        for table in (2, 3, GREATEST):
            self.assert_refused(STAYING, optimal_policy(table), -2)

    def test_leaves_the_process_as_it_is(self):
        self.assert_left(STAYING + [paying(0, [1, 2, 3], [4, 5, 6])], optimal_policy(0))


class SameOptimalActions(Refusals):
    def assert_same(self, result, *made):
        self.assertEqual(answer(*made, same_optimal_actions()), [result], made)

    def test_the_same_and_others(self):
        made = STAYING + [paying(0, [0, 1, 0], [2, 2, 0])]
        self.assert_same(1, *made, paying(1, [-9, -8, -9], [7, 7, -7]))
        self.assert_same(1, *made, copy_rewards(1), scale_rewards(1, 3), shape_rewards(1, [5, -6]))
        self.assert_same(0, *made)
        self.assert_same(0, *made, paying(1, [1, 0, 0], [2, 2, 0]))
        self.assert_same(0, *made, paying(1, [0, 1, 0], [2, 0, 2]))

    def test_the_optimal_policies_are_the_same_but_not_the_optimal_actions(self):
        for first, second in (([1, 1, 0], [1, 0, 0]), ([1, 1, 1], [1, 1, 0]), ([1, 0, 1], [1, 1, 0])):
            for tables in ((0, 1), (1, 0)):
                made = STAYING + [paying(tables[0], first, [0, 1, 0]), paying(tables[1], second, [0, 1, 0])]
                given = ask(*made, optimal_policy(0), optimal_policy(1), same_optimal_actions())[3:]
                self.assertEqual(given, [[2, 0, 1], [2, 0, 1], [0]])

    def test_as_many_optimal_actions_but_others(self):
        self.assert_same(0, *STAYING, paying(0, [1, 1, 0], [0, 0, 0]), paying(1, [0, 1, 1], [0, 0, 0]))

    def test_a_single_state_can_differ(self):
        for states in (2, 3, 4):
            for state in range(states):
                made = [create(states, 2, 1, 2), set_reward(1, state, 1, state, [1])]
                self.assert_same(0, *made)
                self.assert_same(1, *made, set_reward(0, state, 1, state, [1000]))

    def test_the_same_though_the_tables_are_not_equivalent(self):
        self.assert_same(1, create(2, 1, 1, 2), set_rewards(1, [4, -3, 2, 1]))
        self.assert_same(1, *STAYING, paying(0, [1, 2, 3], [0, 0, 0]), paying(1, [0, 0, 999], [5, 5, 5]))

    def test_agrees_with_the_words(self):
        found = {True: 0, False: 0}
        for process in drawn_processes(53):
            differs = process.differs()
            found[differs] += 1
            self.assert_same(int(not differs), *process.calls())
        self.assertGreater(min(found.values()), 20)

    def test_leaves_the_process_as_it_is(self):
        self.assert_left(STAYING + [paying(0, [1, 2, 3], [4, 5, 6])], same_optimal_actions())
