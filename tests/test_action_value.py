"""action_value and expected_reward."""

from tests.helper import GREATEST, Numbers, Reckoned, Refusals, action_value, answer, ask, ask_all, create
from tests.helper import expected_reward, scale_rewards, set_deterministic, set_reward, set_rewards, set_transition
from tests.helper import written

# V0 = 3/4 * 1/2 * V0 + 1/4 * (1 + 1/2 * V1) by action 0, which is 2/5; V1 = 0 by both actions.
WEIGHED = [
    create(2, 2, 1, 2),
    set_transition(0, 0, [3, 1]),
    set_transition(0, 1, [1, 2]),
    set_rewards(0, [0, 1, -3, 0, 0, 0, 0, 0]),
    set_rewards(1, [-2, 1, 8, -4, 0, 0, 0, -6]),
]


def drawn_processes(numbers, largest):
    for states in (2, 3, 4):
        for actions in (1, 2, 3):
            for _ in range(4):
                yield Reckoned.drawn(numbers, states, actions, largest)


def every_choice(process):
    return [
        (table, state, action)
        for table in (0, 1)
        for state in range(process.states)
        for action in range(process.actions)
    ]


class RefusesWhatDoesNotExist:
    """What both calls refuse: they have the same arguments and errors."""

    def test_answers_for_the_least_and_the_greatest_numbers(self):
        for states, actions in ((2, 1), (2, 3), (3, 2), (4, 1), (4, 3)):
            for table in (0, 1):
                for state in (0, states - 1):
                    for action in (0, actions - 1):
                        given = answer(create(states, actions, 1, 2), self.call(table, state, action))
                        self.assertEqual(given, [0, 0, 1])

    def test_refuses_what_does_not_exist(self):
        for states, actions in ((2, 1), (2, 3), (3, 2), (4, 1), (4, 3)):
            made = [create(states, actions, 1, 2), set_rewards(0, list(range(states * actions * states)))]
            for beyond in (2, 3, GREATEST):
                self.assert_refused(made, self.call(beyond, 0, 0), -2)
            for beyond in (states, states + 1, GREATEST):
                self.assert_refused(made, self.call(1, beyond, 0), -2)
            for beyond in (actions, actions + 1, GREATEST):
                self.assert_refused(made, self.call(0, 1, beyond), -2)
            self.assert_refused(made, self.call(2, states, actions), -2)

    def test_leaves_the_process_as_it_is(self):
        self.assert_left(WEIGHED, self.call(0, 0, 1))


class ActionValue(RefusesWhatDoesNotExist, Refusals):
    call = staticmethod(action_value)

    def test_weights_that_are_not_deterministic_by_hand(self):
        self.assertEqual(answer(*WEIGHED, action_value(0, 0, 0)), [0, 2, 5])
        # 1/3 * (-3 + 1/2 * 2/5) + 2/3 * 1/2 * 0
        self.assertEqual(answer(*WEIGHED, action_value(0, 0, 1)), [0, -14, 15])
        self.assertEqual(answer(*WEIGHED, action_value(0, 1, 1)), [0, 0, 1])

    def test_by_the_other_table(self):
        # By table 1 it is V0 = 0 by action 1 and V1 = 0 by action 0: 3/4 * -2 + 1/4 * 1 + 0 is -5/4.
        given = ask_all(WEIGHED, [action_value(1, state, action) for state in (0, 1) for action in (0, 1)])
        self.assertEqual(given, [[0, -5, 4], [0, 0, 1], [0, 0, 1], [0, -6, 1]])

    def test_what_comes_later_is_at_its_best_and_not_by_this_action(self):
        # Action 1 pays 4 once; then action 0 pays 6 for ever, which is 12.
        made = [create(2, 2, 1, 2), set_reward(0, 0, 0, 0, [6]), set_reward(0, 0, 1, 0, [4])]
        self.assertEqual(answer(*made, action_value(0, 0, 0)), [0, 12, 1])
        self.assertEqual(answer(*made, action_value(0, 0, 1)), [0, 10, 1])

    def test_a_value_of_zero_that_is_weighed_up(self):
        # V0 = 1/4 * (-6 + 1/3 * V0) + 3/4 * (-4 + 1/3 * V1) with V1 = 18
        made = [create(2, 1, 1, 3), set_transition(0, 0, [1, 3]), set_rewards(0, [-6, -4, 0, 12])]
        self.assertEqual(answer(*made, action_value(0, 1, 0)), [0, 18, 1])
        self.assertEqual(answer(*made, action_value(0, 0, 0)), [0, 0, 1])

    def test_the_greatest_and_the_least_values(self):
        for sign in (1, -1):
            made = [create(4, 3, 9, 10), set_rewards(1, [1000 * sign] * 48), scale_rewards(1, 100)]
            made.append(set_transition(3, 2, [9, 9, 9, 8]))
            self.assertEqual(answer(*made, action_value(1, 3, 2)), [0, 1000000 * sign, 1])

    def test_agrees_with_the_words(self):
        for numbers, largest in ((Numbers(41), 1000), (Numbers(42), 1)):
            for process in drawn_processes(numbers, largest):
                given = ask_all(process.calls(), [action_value(*choice) for choice in every_choice(process)])
                best = [process.best(0), process.best(1)]
                expected = [process.expected(*choice, best[choice[0]]) for choice in every_choice(process)]
                self.assertEqual(given, [[0] + written([value]) for value in expected])

    def test_numerators_and_denominators_that_are_large(self):
        numbers = Numbers(43)
        transitions = [numbers.row(4, 7, 9) for _ in range(12)]
        process = Reckoned(4, 3, 9, 10, [numbers.row(48, -1000, 1000) for _ in range(2)], transitions)
        given = ask_all(process.calls(), [action_value(*choice) for choice in every_choice(process)])
        best = [process.best(0), process.best(1)]
        expected = [process.expected(*choice, best[choice[0]]) for choice in every_choice(process)]
        self.assertEqual(given, [[0] + written([value]) for value in expected])
        self.assertGreater(max(denominator for _, _, denominator in given), 2 ** 28)


class ExpectedReward(RefusesWhatDoesNotExist, Refusals):
    call = staticmethod(expected_reward)

    def test_by_hand(self):
        questions = [expected_reward(table, state, action) for table in (0, 1) for state in (0, 1) for action in (0, 1)]
        given = ask_all(WEIGHED, questions)
        # The last but two: 1/3 * 8 + 2/3 * -4 is 0.
        expected = [[1, 4], [-1, 1], [0, 1], [0, 1], [-5, 4], [0, 1], [0, 1], [-6, 1]]
        self.assertEqual(given, [[0] + fraction for fraction in expected])

    def test_is_in_lowest_terms_though_the_weights_are_not(self):
        made = [create(3, 1, 1, 2), set_rewards(0, [-5, 3, 0] + [0] * 6)]
        for weights in ([2, 1, 1], [4, 2, 2], [6, 3, 3], [8, 4, 4]):
            given = answer(*made, set_transition(0, 0, weights), expected_reward(0, 0, 0))
            self.assertEqual(given, [0, -7, 4])

    def test_only_the_reward_of_the_next_state_counts_in_a_deterministic_world(self):
        made = [create(2, 2, 1, 2), set_rewards(1, [1, 2, 3, 4, 5, 6, 7, 8]), set_deterministic([0, 1, 1, 0])]
        questions = [expected_reward(1, state, action) for state in (0, 1) for action in (0, 1)]
        self.assertEqual(ask(*made, *questions)[3:], [[0, 1, 1], [0, 4, 1], [0, 6, 1], [0, 7, 1]])

    def test_neither_the_discount_nor_what_comes_later_counts(self):
        for num, den in ((1, 10), (1, 2), (9, 10)):
            made = [create(2, 1, num, den), set_rewards(0, [1, 1000, -3, 1000])]
            self.assertEqual(answer(*made, set_transition(0, 0, [1, 1]), expected_reward(0, 0, 0)), [0, 1001, 2])

    def test_agrees_with_the_words(self):
        for process in drawn_processes(Numbers(44), 1000):
            given = ask_all(process.calls(), [expected_reward(*choice) for choice in every_choice(process)])
            none = [0] * process.states
            expected = [process.expected(*choice, none) for choice in every_choice(process)]
            self.assertEqual(given, [[0] + written([reward]) for reward in expected])
