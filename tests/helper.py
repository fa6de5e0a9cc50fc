"""Writes calls in the form of the interface and reads what is answered; makes numbers and reckons for the tests."""

import unittest
from fractions import Fraction
from itertools import product

from shapedrewards.process import answers

GREATEST = 4294967295
GREATEST_SIGNED = 2147483647
LEAST_SIGNED = -2147483648


def create(state_count, action_count, discount_num, discount_den):
    return [0, state_count, action_count, discount_num, discount_den]


def set_reward(table, state, action, following, value):
    return [1, table, state, action, following, len(value), *value]


def set_rewards(table, values):
    return [2, table, len(values), *values]


def copy_rewards(table):
    return [3, table]


def shape_rewards(table, potentials):
    return [4, table, len(potentials), *potentials]


def scale_rewards(table, factor):
    return [5, table, factor]


def set_transition(state, action, weights):
    return [6, state, action, len(weights), *weights]


def get_transition(state, action):
    return [7, state, action]


def set_deterministic(next_states):
    return [8, len(next_states), *next_states]


def are_equivalent():
    return [9]


def optimal_values(table):
    return [10, table]


def action_value(table, state, action):
    return [11, table, state, action]


def optimal_actions(table, state):
    return [12, table, state]


def optimal_policy(table):
    return [13, table]


def policy_values(table, policy):
    return [14, table, len(policy), *policy]


def same_optimal_actions():
    return [15]


def regrets():
    return [16]


def distinguishes(next_states):
    return [17, len(next_states), *next_states]


def distinguishing_world():
    return [18]


def expected_reward(table, state, action):
    return [19, table, state, action]


def value_with_transition(state, action, table, valued, weights):
    return [20, state, action, table, valued, len(weights), *weights]


def ask(*calls):
    """The answer of each call, as a list of lists."""
    given = answers([number for call in calls for number in call])
    split = []
    position = 0
    while position < len(given):
        behind = position + 1 + given[position]
        split.append(given[position + 1:behind])
        position = behind
    if position != len(given) or len(split) != len(calls):
        raise AssertionError(f"{len(calls)} calls, but answered is {given}")
    return split


def answer(*calls):
    """The answer of the last call."""
    return ask(*calls)[-1]


def ask_all(made, questions):
    """The answer of each question, where no question changes what the calls ahead of it made."""
    found = []
    # A request has at most 60 calls.
    step = 60 - len(made)
    for start in range(0, len(questions), step):
        found += ask(*made, *questions[start:start + step])[len(made):]
    return found


def written(fractions):
    """Fractions as they are answered."""
    return [number for fraction in fractions for number in (fraction.numerator, fraction.denominator)]


def read(numbers):
    """What is answered as numerators and denominators, as fractions."""
    return [Fraction(*pair) for pair in zip(numbers[::2], numbers[1::2], strict=True)]


def rewards_of(state_count, action_count, table, *calls):
    """All rewards of a table after the calls, read one by one from set_reward's old values."""
    readers = [
        set_reward(table, state, action, following, [0])
        for state in range(state_count)
        for action in range(action_count)
        for following in range(state_count)
    ]
    # A request has at most 60 calls; so that every request here keeps to that, read in parts.
    found = []
    for start in range(0, len(readers), 20):
        found += [given[1] for given in ask(*calls, *readers[start:start + 20])[len(calls):]]
    return found


def transitions_of(state_count, action_count, *calls):
    """The weights for every state and action after the calls, each as get_transition answers them."""
    readers = [get_transition(state, action) for state in range(state_count) for action in range(action_count)]
    return ask(*calls, *readers)[len(calls):]


def snapshot(state_count, action_count, *calls):
    """All that a process of these sizes holds after the calls; its discount shows in the values alone."""
    tables = [rewards_of(state_count, action_count, table, *calls) for table in (0, 1)]
    values = ask(*calls, optimal_values(0), optimal_values(1))[len(calls):]
    return tables, transitions_of(state_count, action_count, *calls), values


class Numbers:
    """Numbers that look random and are the same in every run."""

    def __init__(self, seed):
        self.state = seed

    def draw(self, least, greatest):
        self.state = (self.state * 6364136223846793005 + 1442695040888963407) % 2 ** 64
        return least + (self.state >> 33) % (greatest - least + 1)

    def row(self, length, least, greatest):
        return [self.draw(least, greatest) for _ in range(length)]

    def weights(self, length):
        row = self.row(length, 0, 9)
        return row if any(row) else [1] * length


class Reckoned:
    """A process reckoned in fractions as the document's words say, to compare the answers with."""

    def __init__(self, states, actions, num, den, tables, transitions):
        self.states, self.actions, self.num, self.den = states, actions, num, den
        self.tables, self.transitions = tables, transitions
        self.discount = Fraction(num, den)

    @classmethod
    def drawn(cls, numbers, states, actions, largest):
        den = numbers.draw(2, 10)
        tables = [numbers.row(states * actions * states, -largest, largest) for _ in range(2)]
        transitions = [numbers.weights(states) for _ in range(states * actions)]
        return cls(states, actions, numbers.draw(1, den - 1), den, tables, transitions)

    def calls(self):
        made = [create(self.states, self.actions, self.num, self.den)]
        made += [set_rewards(table, self.tables[table]) for table in (0, 1)]
        for place, weights in enumerate(self.transitions):
            made.append(set_transition(place // self.actions, place % self.actions, weights))
        return made

    def with_transitions(self, transitions):
        return Reckoned(self.states, self.actions, self.num, self.den, self.tables, transitions)

    def in_world(self, next_states):
        return self.with_transitions([[int(q == goal) for q in range(self.states)] for goal in next_states])

    def expected(self, table, state, action, following):
        """The expected reward and the discount times what is expected of these values of the next states."""
        place = state * self.actions + action
        paid = self.tables[table][place * self.states:(place + 1) * self.states]
        total = sum(self.transitions[place])
        shares = [Fraction(weight, total) for weight in self.transitions[place]]
        return sum(share * (pay + self.discount * more) for share, pay, more in zip(shares, paid, following))

    def values_under(self, table, policy):
        """The values under a policy, each unknown put in the place of itself in the equations behind it."""
        rows = []
        for state, action in enumerate(policy):
            weights = self.transitions[state * self.actions + action]
            row = [-self.discount * Fraction(weight, sum(weights)) for weight in weights]
            row[state] += 1
            rows.append(row + [self.expected(table, state, action, [0] * self.states)])
        for column in range(self.states):
            rows[column] = [number / rows[column][column] for number in rows[column]]
            for below in range(column + 1, self.states):
                factor = rows[below][column]
                rows[below] = [own - factor * other for own, other in zip(rows[below], rows[column])]
        values = [Fraction(0)] * self.states
        for state in reversed(range(self.states)):
            later = sum(rows[state][q] * values[q] for q in range(state + 1, self.states))
            values[state] = rows[state][-1] - later
        return values

    def best(self, table):
        """The optimal values, by taking better actions as long as there are any."""
        policy = [0] * self.states
        while True:
            values = self.values_under(table, policy)
            better = []
            for state in range(self.states):
                of_actions = [self.expected(table, state, action, values) for action in range(self.actions)]
                kept = of_actions[policy[state]] == max(of_actions)
                better.append(policy[state] if kept else of_actions.index(max(of_actions)))
            if better == policy:
                return values
            policy = better

    def optimal(self, table):
        """The optimal actions of every state."""
        best = self.best(table)
        return [
            [action for action in range(self.actions) if self.expected(table, state, action, best) == best[state]]
            for state in range(self.states)
        ]

    def regrets(self):
        followed = self.values_under(1, [actions[0] for actions in self.optimal(0)])
        return [most - value for most, value in zip(self.best(1), followed)]

    def differs(self):
        return self.optimal(0) != self.optimal(1)

    def worlds(self):
        """Every world in lexicographic order."""
        return [list(world) for world in product(range(self.states), repeat=self.states * self.actions)]


# A process of 2 states and 2 actions whose rewards are all different.
MADE = [create(2, 2, 1, 2), set_rewards(0, [1, 2, 3, 4, 5, 6, 7, 8]), set_rewards(1, [-1, -2, -3, -4, -5, -6, -7, -8])]


class Refusals(unittest.TestCase):
    """To be built upon by the tests of calls that can be refused."""

    def assert_refused(self, made, call, code):
        """The call is answered with the code alone, and leaves what the calls ahead of it made as it was."""
        sizes = made[0][1:3]
        self.assertEqual(answer(*made, call), [code], call)
        self.assertEqual(snapshot(*sizes, *made, call), snapshot(*sizes, *made), call)

    def assert_left(self, made, call):
        """The call is answered, and leaves what the calls ahead of it made as it was."""
        sizes = made[0][1:3]
        self.assertGreaterEqual(answer(*made, call)[0], 0, call)
        self.assertEqual(snapshot(*sizes, *made, call), snapshot(*sizes, *made), call)
