"""The exact values of states, under a policy and at their best, and of actions."""

from shapedrewards.fraction import added, greater
from shapedrewards.model import reward_place, transition_place
from shapedrewards.rows import every_row


def weighted_rewards(model, table, state, action):
    """Give the sum of the action's rewards, each multiplied by the weight of its next state."""
    weights = model.weights[transition_place(model, state, action)]
    first = reward_place(model, state, action, 0)
    rewards = model.rewards[table][first:first + model.state_count]
    return sum([weight * reward for weight, reward in zip(weights, rewards)])


def average_reward(model, table, state, action):
    """Give the expected reward of the action."""
    weights = model.weights[transition_place(model, state, action)]
    return (weighted_rewards(model, table, state, action), sum(weights))


def equation(model, table, state, action):
    """Give the linear equation for the value of a state in which the action is taken.

    The factors of the values of all states come first, then the right side. Both
    sides are multiplied by the denominator of the discount and by the sum of the
    weights, so that all of it is whole.
    """
    weights = model.weights[transition_place(model, state, action)]
    row = [-model.discount_num * weight for weight in weights]
    row[state] = row[state] + model.discount_den * sum(weights)
    row.append(model.discount_den * weighted_rewards(model, table, state, action))
    return row


def solution(rows):
    """Solve linear equations in whole numbers, each given with its right side last.

    Every division leaves no rest: what stands in the rows are always determinants
    of parts of what was given. No pivot is 0, and the last one, which is the
    denominator of the whole solution, is above 0: in each equation of a policy
    the factor of its own state is greater than all others together.
    """
    current = rows
    divisor = 1
    for column in range(len(rows)):
        leading = current[column]
        current = [
            row if place == column else cleared(row, leading, column, divisor)
            for place, row in enumerate(current)
        ]
        divisor = leading[column]
    return [(row[len(rows)], divisor) for row in current]


def cleared(row, leading, column, divisor):
    """Give a row with 0 in the column, by taking the leading row from it."""
    pivot = leading[column]
    factor = row[column]
    return [(pivot * own - factor * other) // divisor for own, other in zip(row, leading)]


def values_under(model, table, policy):
    """Give the value of every state under a policy, as fractions that need not be in lowest terms."""
    return solution([equation(model, table, state, action) for state, action in enumerate(policy)])


def best_values(model, table):
    """Give the optimal value of every state, as fractions that need not be in lowest terms."""
    policies = every_row(model.state_count, model.action_count)
    best = values_under(model, table, policies[0])
    for policy in policies[1:]:
        best = [greater(old, new) for old, new in zip(best, values_under(model, table, policy))]
    return best


def worth_of_action(model, table, state, action, best):
    """Give the value of an action, where these are the optimal values of all states."""
    weights = model.weights[transition_place(model, state, action)]
    weighted = (0, 1)
    for weight, value in zip(weights, best):
        weighted = added(weighted, (weight * value[0], value[1]))
    later = (model.discount_num * weighted[0], model.discount_den * sum(weights) * weighted[1])
    return added(average_reward(model, table, state, action), later)
