"""The calls that ask what would be with other transitions; each gives back its answer.

They work on another process, so that the one they are asked of stays as it is.
"""

from shapedrewards.choices import tables_agree
from shapedrewards.codes import NO_WORLD, NOT_THERE, OUT_OF_LIMITS, TOO_MANY_WORLDS
from shapedrewards.fraction import written
from shapedrewards.limits import GREATEST_WORLD_COUNT, can_be_next_states, can_be_weights, choice_exists
from shapedrewards.limits import state_exists, world_count
from shapedrewards.model import deterministic, transition_place, with_weights
from shapedrewards.rows import every_row
from shapedrewards.worth import best_values


def tells_apart(model, next_states):
    """Tell whether the optimal actions by the two tables differ somewhere in this world."""
    return not tables_agree(with_weights(model, deterministic(model, next_states)))


def distinguishes(model, next_states):
    """Answer whether a world distinguishes the tables."""
    if not can_be_next_states(model, next_states):
        return [OUT_OF_LIMITS]
    return [1 if tells_apart(model, next_states) else 0]


def distinguishing_world(model):
    """Answer the lexicographically first world that distinguishes the tables."""
    if world_count(model) > GREATEST_WORLD_COUNT:
        return [TOO_MANY_WORLDS]
    for next_states in every_row(model.state_count * model.action_count, model.state_count):
        if tells_apart(model, next_states):
            return [len(next_states)] + next_states
    return [NO_WORLD]


def value_with_transition(model, state, action, table, valued, weights):
    """Answer the optimal value of a state if an action had other weights."""
    if not (choice_exists(model, table, state, action) and state_exists(model, valued)):
        return [NOT_THERE]
    if not can_be_weights(model, weights):
        return [OUT_OF_LIMITS]
    transitions = list(model.weights)
    transitions[transition_place(model, state, action)] = weights
    return [0] + written([best_values(with_weights(model, transitions), table)[valued]])
