"""The calls on one decision process with two reward tables."""

from shapedrewards.changes import copy_rewards, scale_rewards, set_deterministic, set_reward, set_rewards
from shapedrewards.changes import set_transition, shape_rewards
from shapedrewards.codes import NO_PROCESS, OUT_OF_LIMITS
from shapedrewards.forms import read_calls
from shapedrewards.limits import can_be_created
from shapedrewards.model import Model
from shapedrewards.questions import action_value, are_equivalent, expected_reward, get_transition, optimal_actions
from shapedrewards.questions import optimal_policy, optimal_values, policy_values, regrets, same_optimal_actions
from shapedrewards.worlds import distinguishes, distinguishing_world, value_with_transition


def answers(calls):
    """Answer the calls in order: for each of them how many numbers are answered, then these."""
    model = None
    given = []
    for number, numbers, row in read_calls(calls):
        if number == 0 and not can_be_created(numbers[0], numbers[1], numbers[2], numbers[3]):
            answer = [OUT_OF_LIMITS]
        elif number == 0:
            model = Model(numbers[0], numbers[1], numbers[2], numbers[3])
            answer = [model.reward_count]
        elif model is None:
            answer = [NO_PROCESS]
        else:
            answer = answer_with(model, number, numbers, row)
        given.append(len(answer))
        given.extend(answer)
    return given


def answer_with(model, number, numbers, row):
    """Answer a call on a process that is there."""
    if number <= 8 and number != 7:
        return changed(model, number, numbers, row)
    return asked(model, number, numbers, row)


def changed(model, number, numbers, row):
    """Answer one of the calls that change the process."""
    if number == 1:
        return set_reward(model, numbers[0], numbers[1], numbers[2], numbers[3], row)
    if number == 2:
        return set_rewards(model, numbers[0], row)
    if number == 3:
        return copy_rewards(model, numbers[0])
    if number == 4:
        return shape_rewards(model, numbers[0], row)
    if number == 5:
        return scale_rewards(model, numbers[0], numbers[1])
    if number == 6:
        return set_transition(model, numbers[0], numbers[1], row)
    return set_deterministic(model, row)


def asked(model, number, numbers, row):
    """Answer one of the calls that leave the process as it is."""
    if number == 7:
        return get_transition(model, numbers[0], numbers[1])
    if number == 9:
        return are_equivalent(model)
    if number == 10:
        return optimal_values(model, numbers[0])
    if number == 11:
        return action_value(model, numbers[0], numbers[1], numbers[2])
    if number == 12:
        return optimal_actions(model, numbers[0], numbers[1])
    if number == 13:
        return optimal_policy(model, numbers[0])
    if number == 14:
        return policy_values(model, numbers[0], row)
    if number == 15:
        return same_optimal_actions(model)
    if number == 16:
        return regrets(model)
    if number == 19:
        return expected_reward(model, numbers[0], numbers[1], numbers[2])
    return asked_of_worlds(model, number, numbers, row)


def asked_of_worlds(model, number, numbers, row):
    """Answer one of the calls that ask what would be with other transitions."""
    if number == 17:
        return distinguishes(model, row)
    if number == 18:
        return distinguishing_world(model)
    return value_with_transition(model, numbers[0], numbers[1], numbers[2], numbers[3], row)
