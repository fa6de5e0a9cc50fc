"""The exact values of the states, under a policy and at their best."""

from shapedrewards.fraction import greater
from shapedrewards.model import reward_place, transition_place


def equation(model, table, state, action):
    """Give the linear equation for the value of a state in which the action is taken.

    The factors of the values of all states come first, then the right side. Both
    sides are multiplied by the denominator of the discount and by the sum of the
    weights, so that all of it is whole.
    """
    weights = model.weights[transition_place(model, state, action)]
    first = reward_place(model, state, action, 0)
    rewards = model.rewards[table][first:first + model.state_count]
    row = [-model.discount_num * weight for weight in weights]
    row[state] = row[state] + model.discount_den * sum(weights)
    row.append(model.discount_den * sum([weight * reward for weight, reward in zip(weights, rewards)]))
    return row


def solution(rows):
    """Solve linear equations in whole numbers, each given with its right side last.

    Every division leaves no rest: what stands in the rows are always determinants
    of parts of what was given. No pivot is 0, and the last one, which is the
    denominator of the whole solution, is above 0: in each equation of a policy
    the factor of its own state is greater than all others together.
    """
    current = rows
    divisor = 1
    for column in range(len(rows)):
        leading = current[column]
        current = [
            row if place == column else cleared(row, leading, column, divisor)
            for place, row in enumerate(current)
        ]
        divisor = leading[column]
    return [(row[len(rows)], divisor) for row in current]


def cleared(row, leading, column, divisor):
    """Give a row with 0 in the column, by taking the leading row from it."""
    pivot = leading[column]
    factor = row[column]
    return [(pivot * own - factor * other) // divisor for own, other in zip(row, leading)]


def values_under(model, table, policy):
    """Give the value of every state under a policy, as fractions that need not be in lowest terms."""
    return solution([equation(model, table, state, action) for state, action in enumerate(policy)])


def all_policies(model):
    """Give every policy there is."""
    policies = [[]]
    for state in range(model.state_count):
        longer = []
        for policy in policies:
            for action in range(model.action_count):
                longer.append(policy + [action])
        policies = longer
    return policies


def best_values(model, table):
    """Give the optimal value of every state, as fractions that need not be in lowest terms."""
    policies = all_policies(model)
    best = values_under(model, table, policies[0])
    for policy in policies[1:]:
        best = [greater(old, new) for old, new in zip(best, values_under(model, table, policy))]
    return best
