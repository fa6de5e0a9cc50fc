"""set_transition, get_transition and set_deterministic."""

import unittest

from tests.helper import GREATEST, Refusals, answer, ask, create, get_transition, set_deterministic
from tests.helper import set_transition, snapshot, transitions_of

MADE = [create(3, 2, 1, 2), set_transition(0, 1, [1, 2, 3]), set_transition(2, 0, [0, 9, 4])]


class SetTransition(Refusals):
    def test_answers_the_sum_and_sets_these_weights_alone(self):
        self.assertEqual(ask(*MADE), [[18], [6], [13]])
        expected = [[3, 1, 0, 0], [3, 1, 2, 3], [3, 0, 1, 0], [3, 0, 1, 0], [3, 0, 9, 4], [3, 0, 0, 1]]
        self.assertEqual(transitions_of(3, 2, *MADE), expected)

    def test_every_state_and_action(self):
        for states in (2, 3, 4):
            for actions in (1, 2, 3):
                made = [create(states, actions, 1, 2)]
                expected = []
                for state in range(states):
                    for action in range(actions):
                        weights = [state, action, 1, 5][:states]
                        made.append(set_transition(state, action, weights))
                        expected.append([states] + weights)
                        if not any(weights):
                            expected[-1] = [states, 1, 0]
                self.assertEqual(transitions_of(states, actions, *made), expected)

    def test_takes_the_least_and_the_greatest_weights(self):
        self.assertEqual(answer(create(4, 1, 1, 2), set_transition(3, 0, [9, 9, 9, 9])), [36])
        for weights in ([1, 0, 0, 0], [0, 0, 0, 1], [0, 9, 0, 0]):
            given = ask(create(4, 1, 1, 2), set_transition(3, 0, weights), get_transition(3, 0))
            self.assertEqual(given[1:], [[sum(weights)], [4] + weights])

    def test_refuses_what_does_not_exist(self):
        for state in (3, GREATEST):
            self.assert_refused(MADE, set_transition(state, 0, [1, 1, 1]), -2)
        for action in (2, GREATEST):
            self.assert_refused(MADE, set_transition(0, action, [1, 1, 1]), -2)

    def test_refuses_another_length(self):
        for length in (0, 1, 2, 4, 5, 6):
            self.assert_refused(MADE, set_transition(0, 0, [1] * length), -22)

    def test_refuses_a_weight_greater_than_9(self):
        for beyond in (10, GREATEST):
            for place in range(3):
                weights = [1, 1, 1]
                weights[place] = beyond
                self.assert_refused(MADE, set_transition(0, 0, weights), -22)

    def test_refuses_weights_that_are_all_0(self):
        for states in (2, 3, 4):
            self.assert_refused([create(states, 1, 1, 2)], set_transition(0, 0, [0] * states), -22)

    def test_looks_first_for_what_does_not_exist(self):
        for weights in ([], [1, 1], [10, 0, 0], [0, 0, 0]):
            self.assert_refused(MADE, set_transition(3, 0, weights), -2)
            self.assert_refused(MADE, set_transition(0, 2, weights), -2)


class GetTransition(Refusals):
    def test_answers_the_number_of_states_and_the_weights_as_they_were_set(self):
        # Weights are answered as they are, not as probabilities in lowest terms.
        given = ask(create(2, 2, 1, 2), set_transition(1, 1, [4, 8]), get_transition(1, 1), get_transition(1, 0))
        self.assertEqual(given[2:], [[2, 4, 8], [2, 0, 1]])

    def test_leaves_the_process_as_it_is(self):
        self.assertEqual(snapshot(3, 2, *MADE, get_transition(0, 1)), snapshot(3, 2, *MADE))
        self.assertEqual(ask(*MADE, get_transition(0, 1), get_transition(0, 1))[3:], [[3, 1, 2, 3]] * 2)

    def test_refuses_what_does_not_exist(self):
        for state in (3, 4, GREATEST):
            self.assert_refused(MADE, get_transition(state, 0), -2)
        for action in (2, 3, GREATEST):
            self.assert_refused(MADE, get_transition(0, action), -2)
        self.assertEqual(answer(*MADE, get_transition(2, 1)), [3, 0, 0, 1])


class SetDeterministic(Refusals):
    def test_is_ordered_by_state_then_action(self):
        made = MADE + [set_deterministic([0, 1, 2, 0, 1, 1])]
        self.assertEqual(answer(*made), [0])
        expected = [[3, 1, 0, 0], [3, 0, 1, 0], [3, 0, 0, 1], [3, 1, 0, 0], [3, 0, 1, 0], [3, 0, 1, 0]]
        self.assertEqual(transitions_of(3, 2, *made), expected)

    def test_all_sizes(self):
        for states in (2, 3, 4):
            for actions in (1, 2, 3):
                next_states = [(place * 3 + 1) % states for place in range(states * actions)]
                made = [create(states, actions, 1, 2), set_deterministic(next_states)]
                expected = [[states] + [int(state == goal) for state in range(states)] for goal in next_states]
                self.assertEqual(transitions_of(states, actions, *made), expected)

    def test_one_transition_may_be_set_afterwards(self):
        made = [create(2, 2, 1, 2), set_deterministic([1, 1, 1, 1]), set_transition(0, 1, [2, 7])]
        self.assertEqual(transitions_of(2, 2, *made), [[2, 0, 1], [2, 2, 7], [2, 0, 1], [2, 0, 1]])

    def test_refuses_another_length(self):
        for length in (0, 1, 5, 7, 14):
            self.assert_refused(MADE, set_deterministic([0] * length), -22)
        for length in (0, 11, 13, 14):
            self.assert_refused([create(4, 3, 1, 2)], set_deterministic([1] * length), -22)
        self.assertEqual(answer(create(4, 3, 1, 2), set_deterministic([3] * 12)), [0])

    def test_refuses_a_state_that_does_not_exist_at_any_place(self):
        for beyond in (3, 4, GREATEST):
            for place in range(6):
                next_states = [1] * 6
                next_states[place] = beyond
                self.assert_refused(MADE, set_deterministic(next_states), -22)



if __name__ == "__main__":
    unittest.main()
