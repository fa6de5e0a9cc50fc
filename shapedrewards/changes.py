"""The calls that change a process; each gives back its answer.

A call looks at all that could refuse it before it changes anything.
"""

from shapedrewards.codes import NOT_THERE, OUT_OF_LIMITS, TOO_LARGE
from shapedrewards.limits import action_exists, can_be_given, can_be_next_states, can_be_rewards, can_be_weights
from shapedrewards.limits import choice_exists, state_exists, table_exists
from shapedrewards.model import deterministic, reward_place, transition_place


def set_reward(model, table, state, action, following, given):
    """Set one reward."""
    if not (choice_exists(model, table, state, action) and state_exists(model, following)):
        return [NOT_THERE]
    if not can_be_given(given, 1):
        return [OUT_OF_LIMITS]
    place = reward_place(model, state, action, following)
    old_value = model.rewards[table][place]
    model.rewards[table][place] = given[0]
    return [0, old_value]


def set_rewards(model, table, given):
    """Set all rewards of a table."""
    if not table_exists(table):
        return [NOT_THERE]
    if not can_be_given(given, model.reward_count):
        return [OUT_OF_LIMITS]
    model.rewards[table] = list(given)
    return [0]


def copy_rewards(model, table):
    """Replace the rewards of a table by those of the other one."""
    if not table_exists(table):
        return [NOT_THERE]
    # A copy, so that what changes one table later leaves the other as it is.
    model.rewards[table] = list(model.rewards[1 - table])
    return [0]


def shape_rewards(model, table, potentials):
    """Shape a table by the potentials times the denominator of the discount."""
    if not table_exists(table):
        return [NOT_THERE]
    if not can_be_given(potentials, model.state_count):
        return [OUT_OF_LIMITS]
    return replace_rewards(model, table, shaped(model, model.rewards[table], potentials))


def shaped(model, rewards, potentials):
    """Give a table's rewards as they are once shaped."""
    found = []
    for state in range(model.state_count):
        for action in range(model.action_count):
            for following in range(model.state_count):
                reward = rewards[reward_place(model, state, action, following)]
                gained = model.discount_num * potentials[following]
                found.append(reward + gained - model.discount_den * potentials[state])
    return found


def scale_rewards(model, table, factor):
    """Multiply all rewards of a table by the factor."""
    if not table_exists(table):
        return [NOT_THERE]
    if not 1 <= factor <= 100:
        return [OUT_OF_LIMITS]
    return replace_rewards(model, table, [reward * factor for reward in model.rewards[table]])


def replace_rewards(model, table, rewards):
    """Put these rewards in the place of a table's, unless one of them is too large."""
    if not can_be_rewards(rewards):
        return [TOO_LARGE]
    model.rewards[table] = rewards
    return [0]


def set_transition(model, state, action, weights):
    """Set the weights of the next states."""
    if not (state_exists(model, state) and action_exists(model, action)):
        return [NOT_THERE]
    if not can_be_weights(model, weights):
        return [OUT_OF_LIMITS]
    model.weights[transition_place(model, state, action)] = list(weights)
    return [sum(weights)]


def set_deterministic(model, next_states):
    """Let every action in every state lead to one next state."""
    if not can_be_next_states(model, next_states):
        return [OUT_OF_LIMITS]
    model.weights = deterministic(model, next_states)
    return [0]
