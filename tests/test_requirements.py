"""The points 1 to 6 of the document's requirements, each over many processes."""

import unittest
from fractions import Fraction
from itertools import product

from tests.helper import Numbers, Reckoned, action_value, answer, are_equivalent, ask, ask_all, copy_rewards
from tests.helper import distinguishes, distinguishing_world, optimal_actions, optimal_values, policy_values, read
from tests.helper import regrets, rewards_of, same_optimal_actions, scale_rewards, set_deterministic, set_rewards
from tests.helper import set_transition, shape_rewards

SIZES = [(states, actions) for states in (2, 3, 4) for actions in (1, 2, 3)]
FEW_WORLDS = [(2, 1), (2, 2), (2, 3), (3, 1)]


def processes(seed, times=3, largest=(1, 5, 100)):
    """Numbers and a process drawn with them, of every size; small rewards often make several actions optimal."""
    numbers = Numbers(seed)
    for states, actions in SIZES:
        for _ in range(times):
            for limit in largest:
                yield numbers, Reckoned.drawn(numbers, states, actions, limit)


def equivalent(numbers, process):
    """The calls that make the process with table 1 equivalent to table 0.

    A constant is shaped in as well, so that the potentials need not be whole.
    """
    more = numbers.draw(-20, 20)
    made = process.calls() + [set_rewards(1, [reward + more for reward in process.tables[0]])]
    return made + [shape_rewards(1, numbers.row(process.states, -100, 100))]


def moved(numbers, process):
    """Some calls that change the transitions: none, to a world, or to other weights."""
    yield []
    yield [set_deterministic(numbers.row(process.states * process.actions, 0, process.states - 1))]
    yield [
        set_transition(state, action, numbers.weights(process.states))
        for state in range(process.states)
        for action in range(process.actions)
    ]


def actions_of(process, made):
    """The optimal actions of every state by table 0 and by table 1."""
    given = ask_all(made, [optimal_actions(table, state) for table in (0, 1) for state in range(process.states)])
    return given[:process.states], given[process.states:]


def values_of(made, table):
    return read(answer(*made, optimal_values(table))[1:])


class Requirements(unittest.TestCase):
    def test_1_equivalent_tables_agree_on_the_optimal_actions(self):
        for numbers, process in processes(81):
            made = equivalent(numbers, process)
            self.assertEqual(answer(*made, are_equivalent()), [1])
            for moves in moved(numbers, process):
                self.assertEqual(answer(*made, *moves, same_optimal_actions()), [1])
                first, second = actions_of(process, made + moves)
                self.assertEqual(first, second)

    def test_1_equivalent_tables_differ_by_the_potentials_in_the_optimal_values(self):
        not_whole = 0
        for numbers, process in processes(82, times=1):
            made = equivalent(numbers, process)
            tables = [rewards_of(process.states, process.actions, table, *made) for table in (0, 1)]
            stays = [(state * process.actions) * process.states + state for state in range(process.states)]
            potentials = [-(tables[1][stay] - tables[0][stay]) / (1 - process.discount) for stay in stays]
            not_whole += any(potential.denominator > 1 for potential in potentials)
            for moves in moved(numbers, process):
                first, second = [values_of(made + moves, table) for table in (0, 1)]
                self.assertEqual(second, [value - potential for value, potential in zip(first, potentials)])
        self.assertGreater(not_whole, 5)

    def test_2_no_policy_has_a_greater_value_than_the_optimal_value(self):
        for _, process in processes(83, times=1):
            made = process.calls()
            policies = [list(policy) for policy in product(range(process.actions), repeat=process.states)]
            for table in (0, 1):
                best = values_of(made, table)
                given = ask_all(made, [policy_values(table, policy) for policy in policies])
                values = [read(row[1:]) for row in given]
                for row in values:
                    self.assertTrue(all(value <= most for value, most in zip(row, best, strict=True)))
                # There is a policy that attains the optimal values of all states.
                self.assertIn(best, values)

    def test_3_every_state_has_an_optimal_action_and_none_has_a_greater_value(self):
        for _, process in processes(84, times=2):
            made = process.calls()
            for table, listed in enumerate(actions_of(process, made)):
                best = values_of(made, table)
                for state in range(process.states):
                    given = ask_all(made, [action_value(table, state, action) for action in range(process.actions)])
                    values = [Fraction(*row[1:]) for row in given]
                    self.assertEqual(max(values), best[state])
                    optimal = [action for action, value in enumerate(values) if value == best[state]]
                    self.assertEqual(listed[state], [len(optimal)] + optimal)
                    self.assertGreaterEqual(listed[state][0], 1)

    def test_4_a_table_equivalent_to_a_multiple_of_the_other_has_the_same_optimal_actions(self):
        others = 0
        for numbers, process in processes(85):
            factor = numbers.draw(2, 100)
            shaped = shape_rewards(1, numbers.row(process.states, -100, 100))
            for made in (
                process.calls() + [copy_rewards(1), scale_rewards(1, factor), shaped],
                process.calls() + [copy_rewards(1), shaped, scale_rewards(0, factor)],
            ):
                others += answer(*made, are_equivalent()) == [0]
                for moves in moved(numbers, process):
                    self.assertEqual(answer(*made, *moves, same_optimal_actions()), [1])
                    first, second = actions_of(process, made + moves)
                    self.assertEqual(first, second)
        self.assertGreater(others, 100)

    def test_5_no_world_distinguishes_equivalent_tables(self):
        numbers = Numbers(86)
        for states, actions in FEW_WORLDS:
            for largest in (1, 100):
                process = Reckoned.drawn(numbers, states, actions, largest)
                made = equivalent(numbers, process)
                self.assertEqual(answer(*made, distinguishing_world()), [-33])
                given = ask_all(made, [distinguishes(world) for world in process.worlds()])
                self.assertEqual(given, [[0]] * len(given))

    def test_5_no_world_distinguishes_equivalent_tables_where_there_are_many(self):
        for numbers, process in processes(87):
            made = equivalent(numbers, process)
            length = process.states * process.actions
            given = ask_all(made, [distinguishes(numbers.row(length, 0, process.states - 1)) for _ in range(20)])
            self.assertEqual(given, [[0]] * 20)

    def test_5_the_reported_world_is_the_first_that_distinguishes(self):
        numbers = Numbers(88)
        found = {True: 0, False: 0}
        for states, actions in FEW_WORLDS:
            for _ in range(25):
                process = Reckoned.drawn(numbers, states, actions, 1)
                made = process.calls()
                given = answer(*made, distinguishing_world())
                found[given == [-33]] += 1
                worlds = process.worlds()
                ahead = worlds if given == [-33] else worlds[:worlds.index(given[1:])]
                self.assertEqual(ask_all(made, [distinguishes(world) for world in ahead]), [[0]] * len(ahead))
                if given != [-33]:
                    self.assertEqual(given[0], states * actions)
                    self.assertEqual(answer(*made, distinguishes(given[1:])), [1])
                    self.assertEqual(answer(*made, set_deterministic(given[1:]), same_optimal_actions()), [0])
        self.assertGreater(min(found.values()), 20)

    def test_6_regrets_are_never_negative(self):
        some = 0
        for numbers, process in processes(89):
            for moves in moved(numbers, process):
                given = answer(*process.calls(), *moves, regrets())
                self.assertEqual(given[0], process.states)
                lost = read(given[1:])
                self.assertGreaterEqual(min(lost), 0)
                some += max(lost) > 0
        self.assertGreater(some, 50)

    def test_6_regrets_are_0_for_equivalent_tables(self):
        for numbers, process in processes(90):
            made = equivalent(numbers, process)
            for moves in moved(numbers, process):
                self.assertEqual(answer(*made, *moves, regrets()), [process.states] + [0, 1] * process.states)


class TheSameInOneRequest(unittest.TestCase):
    def test_the_answers_agree_with_one_another(self):
        for _, process in processes(91, times=1):
            made = process.calls()
            given = ask(*made, same_optimal_actions(), regrets(), optimal_values(1))[-3:]
            first, second = actions_of(process, made)
            self.assertEqual(given[0], [int(first == second)])
            followed = answer(*made, policy_values(1, [actions[1] for actions in first]))
            lost = [most - value for most, value in zip(read(given[2][1:]), read(followed[1:]))]
            self.assertEqual(read(given[1][1:]), lost)
