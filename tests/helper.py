"""Writes calls in the form of the interface and reads what is answered; makes numbers for the tests."""

import unittest

from shapedrewards.process import answers

GREATEST = 4294967295
GREATEST_SIGNED = 2147483647
LEAST_SIGNED = -2147483648


def create(state_count, action_count, discount_num, discount_den):
    return [0, state_count, action_count, discount_num, discount_den]


def set_reward(table, state, action, following, value):
    return [1, table, state, action, following, len(value), *value]


def set_rewards(table, values):
    return [2, table, len(values), *values]


def copy_rewards(table):
    return [3, table]


def shape_rewards(table, potentials):
    return [4, table, len(potentials), *potentials]


def scale_rewards(table, factor):
    return [5, table, factor]


def set_transition(state, action, weights):
    return [6, state, action, len(weights), *weights]


def get_transition(state, action):
    return [7, state, action]


def set_deterministic(next_states):
    return [8, len(next_states), *next_states]


def are_equivalent():
    return [9]


def optimal_values(table):
    return [10, table]


def ask(*calls):
    """The answer of each call, as a list of lists."""
    given = answers([number for call in calls for number in call])
    split = []
    position = 0
    while position < len(given):
        behind = position + 1 + given[position]
        split.append(given[position + 1:behind])
        position = behind
    if position != len(given) or len(split) != len(calls):
        raise AssertionError(f"{len(calls)} calls, but answered is {given}")
    return split


def answer(*calls):
    """The answer of the last call."""
    return ask(*calls)[-1]


def rewards_of(state_count, action_count, table, *calls):
    """All rewards of a table after the calls, read one by one from set_reward's old values."""
    readers = [
        set_reward(table, state, action, following, [0])
        for state in range(state_count)
        for action in range(action_count)
        for following in range(state_count)
    ]
    # A request has at most 60 calls; so that every request here keeps to that, read in parts.
    found = []
    for start in range(0, len(readers), 20):
        found += [given[1] for given in ask(*calls, *readers[start:start + 20])[len(calls):]]
    return found


def transitions_of(state_count, action_count, *calls):
    """The weights for every state and action after the calls, each as get_transition answers them."""
    readers = [get_transition(state, action) for state in range(state_count) for action in range(action_count)]
    return ask(*calls, *readers)[len(calls):]


def snapshot(state_count, action_count, *calls):
    """All that a process of these sizes holds after the calls, but its discount."""
    tables = [rewards_of(state_count, action_count, table, *calls) for table in (0, 1)]
    return tables, transitions_of(state_count, action_count, *calls)


class Numbers:
    """Numbers that look random and are the same in every run."""

    def __init__(self, seed):
        self.state = seed

    def draw(self, least, greatest):
        self.state = (self.state * 6364136223846793005 + 1442695040888963407) % 2 ** 64
        return least + (self.state >> 33) % (greatest - least + 1)

    def row(self, length, least, greatest):
        return [self.draw(least, greatest) for _ in range(length)]

    def weights(self, length):
        row = self.row(length, 0, 9)
        return row if any(row) else [1] * length


# A process of 2 states and 2 actions whose rewards are all different.
MADE = [create(2, 2, 1, 2), set_rewards(0, [1, 2, 3, 4, 5, 6, 7, 8]), set_rewards(1, [-1, -2, -3, -4, -5, -6, -7, -8])]


class Refusals(unittest.TestCase):
    """To be built upon by the tests of calls that can be refused."""

    def assert_refused(self, made, call, code):
        """The call is answered with the code alone, and leaves what the calls ahead of it made as it was."""
        sizes = made[0][1:3]
        self.assertEqual(answer(*made, call), [code], call)
        self.assertEqual(snapshot(*sizes, *made, call), snapshot(*sizes, *made), call)
