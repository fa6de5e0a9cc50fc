"""The calls that ask about a process and leave it as it is; each gives back its answer."""

from shapedrewards.codes import NOT_THERE
from shapedrewards.fraction import written
from shapedrewards.limits import action_exists, state_exists, table_exists
from shapedrewards.model import reward_place, transition_place
from shapedrewards.worth import best_values


def get_transition(model, state, action):
    """Answer the weights of the next states."""
    if not (state_exists(model, state) and action_exists(model, action)):
        return [NOT_THERE]
    return [model.state_count] + model.weights[transition_place(model, state, action)]


def are_equivalent(model):
    """Answer whether the tables are equivalent."""
    for state in range(model.state_count):
        for action in range(model.action_count):
            for following in range(model.state_count):
                if not differs_by_shaping(model, state, action, following):
                    return [0]
    return [1]


def differs_by_shaping(model, state, action, following):
    """Tell whether the only potentials that can shape table 0 into table 1 do so for this reward.

    Such a potential is minus the gain of staying in its state, divided by
    (1 - discount). Both sides are compared multiplied by the denominator of the
    discount less its numerator, so that they are whole.
    """
    lost_share = model.discount_den - model.discount_num
    taken = model.discount_den * gain_of_staying(model, state)
    given = model.discount_num * gain_of_staying(model, following)
    return lost_share * reward_gain(model, state, action, following) == taken - given


def gain_of_staying(model, state):
    """Give how much more table 1 than table 0 rewards action 0 where it leads back to its state."""
    return reward_gain(model, state, 0, state)


def reward_gain(model, state, action, following):
    """Give how much more table 1 than table 0 rewards this step."""
    place = reward_place(model, state, action, following)
    return model.rewards[1][place] - model.rewards[0][place]


def optimal_values(model, table):
    """Answer the optimal value of every state."""
    if not table_exists(table):
        return [NOT_THERE]
    return [model.state_count] + written(best_values(model, table))
