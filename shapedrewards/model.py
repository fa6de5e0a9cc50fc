"""What a decision process holds."""


class Model:
    """The sizes, the discount, both reward tables and the weights of the transitions.

    Each reward table is one list, ordered by state, then action, then next state.
    The weights have one list per state and action, ordered by state, then action.
    """

    def __init__(self, state_count, action_count, discount_num, discount_den):
        self.state_count = state_count
        self.action_count = action_count
        self.discount_num = discount_num
        self.discount_den = discount_den
        self.reward_count = state_count * action_count * state_count
        self.rewards = [[0] * self.reward_count, [0] * self.reward_count]
        # At first every action leads back to its state.
        self.weights = [certain(state_count, place // action_count) for place in range(state_count * action_count)]


def certain(state_count, following):
    """Give the weights by which one next state alone can come."""
    return [1 if state == following else 0 for state in range(state_count)]


def deterministic(model, next_states):
    """Give the weights of all transitions in a deterministic world."""
    return [certain(model.state_count, state) for state in next_states]


def with_weights(model, weights):
    """Give another process that has these weights, and is the same in all else.

    It shares no list with the first one, so nothing that is done with it can reach that.
    """
    other = Model(model.state_count, model.action_count, model.discount_num, model.discount_den)
    other.rewards = [list(rewards) for rewards in model.rewards]
    other.weights = [list(row) for row in weights]
    return other


def transition_place(model, state, action):
    """Tell where the weights for a state and an action stand."""
    return state * model.action_count + action


def reward_place(model, state, action, following):
    """Tell where a reward stands in its table."""
    return transition_place(model, state, action) * model.state_count + following
