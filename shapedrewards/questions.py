"""The calls that ask about a process and leave it as it is; each gives back its answer."""

from shapedrewards.choices import best_actions, best_policy, tables_agree
from shapedrewards.codes import NOT_THERE, OUT_OF_LIMITS
from shapedrewards.fraction import less, written
from shapedrewards.limits import action_exists, can_be_policy, choice_exists, state_exists, table_exists
from shapedrewards.model import reward_place, transition_place
from shapedrewards.worth import average_reward, best_values, values_under, worth_of_action


def get_transition(model, state, action):
    """Answer the weights of the next states."""
    if not (state_exists(model, state) and action_exists(model, action)):
        return [NOT_THERE]
    return [model.state_count] + model.weights[transition_place(model, state, action)]


def are_equivalent(model):
    """Answer whether the tables are equivalent."""
    for state in range(model.state_count):
        for action in range(model.action_count):
            for following in range(model.state_count):
                if not differs_by_shaping(model, state, action, following):
                    return [0]
    return [1]


def differs_by_shaping(model, state, action, following):
    """Tell whether the only potentials that can shape table 0 into table 1 do so for this reward.

    Such a potential is minus the gain of staying in its state, divided by
    (1 - discount). Both sides are compared multiplied by the denominator of the
    discount less its numerator, so that they are whole.
    """
    lost_share = model.discount_den - model.discount_num
    taken = model.discount_den * gain_of_staying(model, state)
    given = model.discount_num * gain_of_staying(model, following)
    return lost_share * reward_gain(model, state, action, following) == taken - given


def gain_of_staying(model, state):
    """Give how much more table 1 than table 0 rewards action 0 where it leads back to its state."""
    return reward_gain(model, state, 0, state)


def reward_gain(model, state, action, following):
    """Give how much more table 1 than table 0 rewards this step."""
    place = reward_place(model, state, action, following)
    return model.rewards[1][place] - model.rewards[0][place]


def optimal_values(model, table):
    """Answer the optimal value of every state."""
    if not table_exists(table):
        return [NOT_THERE]
    return [model.state_count] + written(best_values(model, table))


def action_value(model, table, state, action):
    """Answer the value of an action."""
    if not choice_exists(model, table, state, action):
        return [NOT_THERE]
    return [0] + written([worth_of_action(model, table, state, action, best_values(model, table))])


def optimal_actions(model, table, state):
    """Answer the optimal actions in a state."""
    if not (table_exists(table) and state_exists(model, state)):
        return [NOT_THERE]
    actions = best_actions(model, table, state, best_values(model, table))
    return [len(actions)] + actions


def optimal_policy(model, table):
    """Answer the optimal policy of a table."""
    if not table_exists(table):
        return [NOT_THERE]
    return [model.state_count] + best_policy(model, table)


def policy_values(model, table, policy):
    """Answer the value of every state under a policy."""
    if not table_exists(table):
        return [NOT_THERE]
    if not can_be_policy(model, policy):
        return [OUT_OF_LIMITS]
    return [model.state_count] + written(values_under(model, table, policy))


def same_optimal_actions(model):
    """Answer whether the optimal actions by both tables are the same in every state."""
    return [1 if tables_agree(model) else 0]


def regrets(model):
    """Answer what is lost, by table 1, in every state by following the optimal policy of table 0."""
    best = best_values(model, 1)
    reached = values_under(model, 1, best_policy(model, 0))
    return [model.state_count] + written([less(most, value) for most, value in zip(best, reached)])


def expected_reward(model, table, state, action):
    """Answer the expected reward of an action."""
    if not choice_exists(model, table, state, action):
        return [NOT_THERE]
    return [0] + written([average_reward(model, table, state, action)])
