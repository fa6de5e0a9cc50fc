"""The actions that are the best by a reward table."""

from shapedrewards.fraction import same
from shapedrewards.worth import best_values, worth_of_action


def best_actions(model, table, state, best):
    """Give the optimal actions in a state in increasing order, where these are the optimal values of all states."""
    return [
        action for action in range(model.action_count)
        if same(worth_of_action(model, table, state, action, best), best[state])
    ]


def best_actions_everywhere(model, table):
    """Give the optimal actions of every state."""
    best = best_values(model, table)
    return [best_actions(model, table, state, best) for state in range(model.state_count)]


def best_policy(model, table):
    """Give the policy that takes the optimal action with the smallest number in every state."""
    return [actions[0] for actions in best_actions_everywhere(model, table)]


def tables_agree(model):
    """Tell whether both tables have the same optimal actions in every state."""
    return best_actions_everywhere(model, 0) == best_actions_everywhere(model, 1)
