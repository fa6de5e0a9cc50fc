"""distinguishes, distinguishing_world and value_with_transition."""

from tests.helper import GREATEST, MADE, Numbers, Reckoned, Refusals, answer, are_equivalent, ask, ask_all
from tests.helper import copy_rewards, create, distinguishes, distinguishing_world, get_transition, optimal_values
from tests.helper import same_optimal_actions, set_deterministic, set_reward, set_rewards, set_transition
from tests.helper import shape_rewards, snapshot, value_with_transition, written

SIZES = [(states, actions) for states in (2, 3, 4) for actions in (1, 2, 3)]
FEW_WORLDS = [(2, 1), (2, 2), (2, 3), (3, 1)]

# Tables that only differ for going from 0 to 1 by action 0, and transitions that are not deterministic.
ONE_WAY = [create(2, 2, 1, 2), set_reward(1, 0, 0, 1, [1]), set_transition(0, 0, [3, 4]), set_transition(1, 1, [9, 1])]

# Each is a process and the first of its worlds that distinguishes the tables, which isn't the very first of all.
LATE_WORLDS = [
    ([create(2, 2, 5, 6), set_rewards(0, [2, 1, 0, 0, 3, -2, 0, -1]), set_rewards(1, [2, 1, -1, 0, 3, -2, 1, -1])],
     [1, 0, 1, 1]),
    ([create(2, 2, 8, 10), set_rewards(0, [-2, 2, 3, -3, 1, 0, -1, 3]), set_rewards(1, [-2, 0, 3, -4, 1, 0, -1, 3])],
     [1, 1, 1, 0]),
    ([create(2, 3, 5, 8), set_rewards(0, [1, -2, 3, -1, 1, -3, 1, 1, 2, -2, 1, 0]),
      set_rewards(1, [1, -2, 3, 0, 1, -3, 1, 1, 2, -2, 1, 0])],
     [1, 1, 1, 1, 0, 0]),
]


def nearly_equivalent(numbers, states, actions):
    """Tables that differ by shaping but for one or two rewards: some worlds distinguish them, and some don't."""
    process = Reckoned.drawn(numbers, states, actions, 3)
    changed = list(process.tables[0])
    for _ in range(numbers.draw(1, 2)):
        changed[numbers.draw(0, len(changed) - 1)] += numbers.draw(-2, 2)
    potentials = numbers.row(states, -3, 3)
    shaped = [
        changed[(state * actions + action) * states + following]
        + process.num * potentials[following] - process.den * potentials[state]
        for state in range(states)
        for action in range(actions)
        for following in range(states)
    ]
    return Reckoned(states, actions, process.num, process.den, [process.tables[0], shaped], process.transitions)


class Distinguishes(Refusals):
    def test_by_hand(self):
        # Going to 1 by action 0 pays by table 1 alone; where nothing goes there by it the tables are the same.
        for world, expected in (
            ([0, 0, 0, 0], 0),
            ([0, 1, 1, 0], 0),
            ([1, 0, 0, 0], 1),
            ([1, 1, 1, 1], 1),
            ([1, 0, 0, 1], 1),
        ):
            self.assertEqual(answer(*ONE_WAY, distinguishes(world)), [expected], world)

    def test_is_what_same_optimal_actions_denies_in_this_world(self):
        numbers = Numbers(71)
        for states, actions in SIZES:
            for _ in range(6):
                process = nearly_equivalent(numbers, states, actions)
                world = numbers.row(states * actions, 0, states - 1)
                made = process.calls()
                given = ask(*made, distinguishes(world), set_deterministic(world), same_optimal_actions())
                self.assertEqual(given[-3][0], 1 - given[-1][0])

    def test_agrees_with_the_words(self):
        numbers = Numbers(72)
        found = {True: 0, False: 0}
        for states, actions in SIZES:
            for _ in range(12):
                process = nearly_equivalent(numbers, states, actions)
                worlds = [numbers.row(states * actions, 0, states - 1) for _ in range(5)]
                given = ask_all(process.calls(), [distinguishes(world) for world in worlds])
                expected = [process.in_world(world).differs() for world in worlds]
                self.assertEqual(given, [[int(differs)] for differs in expected])
                for differs in expected:
                    found[differs] += 1
        self.assertGreater(min(found.values()), 20)

    def test_the_transitions_of_the_process_do_not_matter(self):
        for world, expected in (([0, 1, 1, 0], 0), ([1, 0, 0, 1], 1)):
            for moves in ([], [set_deterministic([0, 0, 0, 0])], [set_deterministic([1, 0, 0, 0])]):
                self.assertEqual(answer(*ONE_WAY, *moves, distinguishes(world)), [expected])

    def test_leaves_the_process_as_it_is(self):
        for world in ([0, 0, 0, 0], [1, 0, 1, 0]):
            self.assert_left(ONE_WAY, distinguishes(world))

    def test_refuses_another_length(self):
        for states, actions in SIZES:
            made = [create(states, actions, 1, 2), set_transition(0, 0, [1] * states)]
            self.assertEqual(answer(*made, distinguishes([states - 1] * (states * actions))), [0])
            for length in {0, 1, states * actions - 1, states * actions + 1, 14} - {states * actions}:
                self.assert_refused(made, distinguishes([0] * length), -22)

    def test_refuses_a_state_that_does_not_exist_at_any_place(self):
        for states, actions in ((2, 2), (3, 2), (4, 1)):
            made = [create(states, actions, 1, 2), set_transition(0, 0, [1] * states)]
            for beyond in (states, states + 1, GREATEST):
                for place in range(states * actions):
                    world = [1] * (states * actions)
                    world[place] = beyond
                    self.assert_refused(made, distinguishes(world), -22)


class DistinguishingWorld(Refusals):
    def test_the_first_of_several_by_hand(self):
        # Each of these distinguishes them: [1, 0, 0, 0] is the first, [1, 0, 0, 1] the next one.
        self.assertEqual(answer(*ONE_WAY, distinguishing_world()), [4, 1, 0, 0, 0])
        made = ONE_WAY[:1] + [set_reward(1, 1, 1, 1, [-1])]
        self.assertEqual(answer(*made, distinguishing_world()), [4, 0, 0, 0, 1])

    def test_the_very_first_of_all(self):
        for actions in (2, 3):
            made = [create(2, actions, 1, 2), set_reward(1, 0, 0, 0, [1])]
            self.assertEqual(answer(*made, distinguishing_world()), [2 * actions] + [0] * (2 * actions))

    def test_late_ones(self):
        for made, world in LATE_WORLDS:
            self.assertEqual(answer(*made, distinguishing_world()), [len(world)] + world)
            self.assertEqual(answer(*made, distinguishes(world)), [1])

    def test_agrees_with_the_words(self):
        numbers = Numbers(73)
        found = {}
        for states, actions in FEW_WORLDS:
            for _ in range(12):
                process = nearly_equivalent(numbers, states, actions)
                firsts = [world for world in process.worlds() if process.in_world(world).differs()][:1]
                expected = [len(firsts[0])] + firsts[0] if firsts else [-33]
                self.assertEqual(answer(*process.calls(), distinguishing_world()), expected)
                found[tuple(expected)] = True
        self.assertGreater(len(found), 8)

    def test_the_transitions_of_the_process_do_not_matter(self):
        for made, world in LATE_WORLDS:
            actions = made[0][2]
            for moves in (set_deterministic(world), set_deterministic([0] * len(world)), set_transition(1, 1, [7, 2])):
                self.assertEqual(answer(*made, moves, distinguishing_world()), [2 * actions] + world)

    def test_no_world_distinguishes_equivalent_tables(self):
        for states, actions in FEW_WORLDS:
            rewards = Numbers(74).row(states * actions * states, -100, 100)
            made = [create(states, actions, 2, 3), set_rewards(0, rewards), copy_rewards(1)]
            self.assert_refused(made, distinguishing_world(), -33)
            self.assert_refused(made + [shape_rewards(1, [5] + [-3] * (states - 1))], distinguishing_world(), -33)

    def test_no_world_distinguishes_tables_with_a_single_action(self):
        for states in (2, 3):
            made = [create(states, 1, 1, 2), set_reward(1, 0, 0, 1, [1])]
            self.assertEqual(answer(*made, are_equivalent()), [0])
            self.assert_refused(made, distinguishing_world(), -33)

    def test_tables_that_are_not_equivalent_may_be_distinguished_by_none(self):
        made = [create(2, 2, 1, 2), set_rewards(0, [4, -1, 3, 9, 2, 0, 0, 7])]
        made.append(set_rewards(1, [8, -2, 6, 18, 4, 0, 0, 14]))
        self.assertEqual(ask(*made, are_equivalent(), distinguishing_world())[3:], [[0], [-33]])

    def test_more_than_64_worlds_are_refused_and_64_are_not(self):
        for states, actions in SIZES:
            for value, otherwise in (([0], -33), ([1], 2 * actions)):
                made = [create(states, actions, 1, 2), set_reward(1, 0, 0, 0, value)]
                if (states, actions) not in FEW_WORLDS:
                    self.assert_refused(made, distinguishing_world(), -75)
                elif actions == 1:
                    self.assert_refused(made, distinguishing_world(), -33)
                else:
                    self.assertEqual(answer(*made, distinguishing_world())[0], otherwise)

    def test_leaves_the_process_as_it_is(self):
        for made, world in LATE_WORLDS:
            self.assert_left(made, distinguishing_world())
            self.assert_left(made + [set_transition(0, 1, [5, 6])], distinguishing_world())
            self.assert_left(made + [set_deterministic(world)], distinguishing_world())
            self.assert_left(made + [set_deterministic([1] * len(world))], distinguishing_world())


class ValueWithTransition(Refusals):
    def test_by_hand(self):
        # With the weights 3 and 1: V0 = 3/4 * 1/2 * V0 + 1/4 * (1 + 1/2 * V1), V1 = -1 + 1/2 * V1
        made = [create(2, 1, 1, 2), set_rewards(1, [0, 1, 0, -1])]
        self.assertEqual(answer(*made, value_with_transition(0, 0, 1, 0, [3, 1])), [0, 0, 1])
        self.assertEqual(answer(*made, value_with_transition(0, 0, 1, 1, [3, 1])), [0, -2, 1])
        self.assertEqual(answer(*made, value_with_transition(1, 0, 1, 1, [1, 1])), [0, -2, 3])
        self.assertEqual(answer(*made, value_with_transition(1, 0, 0, 1, [1, 1])), [0, 0, 1])

    def test_the_value_of_another_state_than_the_changed_one(self):
        made = [create(3, 2, 1, 2), set_deterministic([1, 0, 1, 1, 2, 2]), set_reward(0, 2, 0, 2, [8])]
        self.assertEqual(answer(*made, optimal_values(0)), [3, 0, 1, 0, 1, 16, 1])
        self.assertEqual(answer(*made, value_with_transition(1, 1, 0, 0, [0, 0, 1])), [0, 4, 1])
        self.assertEqual(answer(*made, value_with_transition(1, 1, 0, 1, [0, 0, 1])), [0, 8, 1])
        self.assertEqual(answer(*made, value_with_transition(2, 0, 0, 2, [1, 0, 0])), [0, 0, 1])

    def test_is_the_optimal_value_once_the_transition_is_set(self):
        numbers = Numbers(75)
        for states, actions in SIZES:
            for _ in range(5):
                made = Reckoned.drawn(numbers, states, actions, 1000).calls()
                state, valued = numbers.row(2, 0, states - 1)
                action, table = numbers.draw(0, actions - 1), numbers.draw(0, 1)
                weights = numbers.weights(states)
                given = answer(*made, value_with_transition(state, action, table, valued, weights))
                values = answer(*made, set_transition(state, action, weights), optimal_values(table))
                self.assertEqual(given, [0] + values[1 + 2 * valued:3 + 2 * valued])

    def test_agrees_with_the_words(self):
        numbers = Numbers(76)
        for states, actions in SIZES:
            process = Reckoned.drawn(numbers, states, actions, 1000)
            for state in range(states):
                for action in range(actions):
                    weights = numbers.weights(states)
                    transitions = list(process.transitions)
                    transitions[state * actions + action] = weights
                    best = process.with_transitions(transitions).best(0)
                    questions = [value_with_transition(state, action, 0, valued, weights) for valued in range(states)]
                    given = ask_all(process.calls(), questions)
                    self.assertEqual(given, [[0] + written([value]) for value in best])

    def test_the_same_weights_change_nothing(self):
        made = [create(2, 2, 1, 2), set_rewards(0, [1, 2, 3, 4, 5, 6, 7, 8]), set_transition(0, 1, [1, 3])]
        values = answer(*made, optimal_values(0))
        self.assertEqual(answer(*made, value_with_transition(0, 1, 0, 0, [1, 3])), [0] + values[1:3])
        self.assertEqual(answer(*made, value_with_transition(0, 1, 0, 0, [2, 6])), [0] + values[1:3])

    def test_takes_the_least_and_the_greatest_arguments(self):
        for states, actions in SIZES:
            made = [create(states, actions, 9, 10), set_rewards(1, [100] * (states * actions * states))]
            for weights in ([0] * (states - 1) + [1], [9] * states, [9] + [0] * (states - 1)):
                call = value_with_transition(states - 1, actions - 1, 1, states - 1, weights)
                self.assertEqual(answer(*made, call), [0, 1000, 1])
                self.assertEqual(answer(*made, value_with_transition(0, 0, 0, 0, weights)), [0, 0, 1])

    def test_refuses_what_does_not_exist(self):
        for states, actions in ((2, 3), (3, 1), (4, 2)):
            made = [create(states, actions, 1, 2), set_transition(0, 0, [2] * states)]
            weights = [1] * states
            for beyond in (states, states + 1, GREATEST):
                self.assert_refused(made, value_with_transition(beyond, 0, 0, 0, weights), -2)
                self.assert_refused(made, value_with_transition(0, 0, 0, beyond, weights), -2)
            for beyond in (actions, actions + 1, GREATEST):
                self.assert_refused(made, value_with_transition(0, beyond, 0, 0, weights), -2)
            for beyond in (2, 3, GREATEST):
                self.assert_refused(made, value_with_transition(0, 0, beyond, 0, weights), -2)

    def test_refuses_weights_that_are_not_as_specified(self):
        for states in (2, 3, 4):
            made = [create(states, 2, 1, 2), set_transition(0, 0, [2] * states)]
            for length in range(7):
                if length != states:
                    self.assert_refused(made, value_with_transition(0, 0, 0, 0, [1] * length), -22)
            self.assert_refused(made, value_with_transition(0, 0, 0, 0, [0] * states), -22)
            for beyond in (10, GREATEST):
                for place in range(states):
                    weights = [1] * states
                    weights[place] = beyond
                    self.assert_refused(made, value_with_transition(1, 1, 1, 1, weights), -22)

    def test_looks_first_for_what_does_not_exist(self):
        for weights in ([], [1], [0, 0], [10, 1], [GREATEST] * 6):
            for numbers in ((2, 0, 0, 0), (0, 2, 0, 0), (0, 0, 2, 0), (0, 0, 0, 2)):
                self.assert_refused(MADE, value_with_transition(*numbers, weights), -2)
            self.assert_refused(MADE, value_with_transition(1, 1, 1, 1, weights), -22)

    def test_leaves_the_process_as_it_is(self):
        made = MADE + [set_transition(1, 0, [2, 3])]
        call = value_with_transition(1, 0, 0, 1, [9, 1])
        self.assert_left(made, call)
        self.assertEqual(ask(*made, call, call, get_transition(1, 0))[-1], [2, 2, 3])

    def test_several_in_one_request_do_not_know_of_each_other(self):
        calls = [value_with_transition(0, 0, 0, 0, [1, 9]), value_with_transition(1, 1, 0, 0, [9, 1])]
        alone = [answer(*MADE, call) for call in calls]
        self.assertEqual(ask(*MADE, *calls, *reversed(calls))[len(MADE):], alone + alone[::-1])
        self.assertEqual(snapshot(2, 2, *MADE, *calls), snapshot(2, 2, *MADE))
