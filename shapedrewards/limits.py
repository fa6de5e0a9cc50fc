"""What exists in a process, and which arguments are within their limits."""

LEAST_GIVEN = -1000
GREATEST_GIVEN = 1000
LEAST_REWARD = -100000
GREATEST_REWARD = 100000
GREATEST_WEIGHT = 9
GREATEST_WORLD_COUNT = 64


def can_be_created(state_count, action_count, discount_num, discount_den):
    """Tell whether there can be a process of these sizes with this discount."""
    sizes_fit = 2 <= state_count <= 4 and 1 <= action_count <= 3
    return sizes_fit and 1 <= discount_num < discount_den <= 10


def table_exists(table):
    """Tell whether there is a reward table of this number."""
    return 0 <= table <= 1


def state_exists(model, state):
    """Tell whether there is a state of this number."""
    return 0 <= state < model.state_count


def action_exists(model, action):
    """Tell whether there is an action of this number."""
    return 0 <= action < model.action_count


def choice_exists(model, table, state, action):
    """Tell whether there are such a table, such a state and such an action."""
    return table_exists(table) and state_exists(model, state) and action_exists(model, action)


def all_within(numbers, least, greatest):
    """Tell whether none of the numbers is less than the least or greater than the greatest."""
    return all([least <= number <= greatest for number in numbers])


def can_be_given(numbers, wanted_count):
    """Tell whether a list of rewards or potentials has the wanted length and is within its limits."""
    return len(numbers) == wanted_count and all_within(numbers, LEAST_GIVEN, GREATEST_GIVEN)


def can_be_rewards(numbers):
    """Tell whether a table may hold all of these rewards once it is shaped or scaled."""
    return all_within(numbers, LEAST_REWARD, GREATEST_REWARD)


def can_be_weights(model, weights):
    """Tell whether these can be the weights of the next states."""
    fitting = len(weights) == model.state_count and all_within(weights, 0, GREATEST_WEIGHT)
    return fitting and sum(weights) > 0


def can_be_next_states(model, next_states):
    """Tell whether these name an existing next state for every state and action."""
    if len(next_states) != model.state_count * model.action_count:
        return False
    return all([state_exists(model, state) for state in next_states])


def can_be_policy(model, policy):
    """Tell whether these name an existing action for every state."""
    return len(policy) == model.state_count and all([action_exists(model, action) for action in policy])


def world_count(model):
    """Give how many deterministic worlds there are."""
    count = 1
    for place in range(model.state_count * model.action_count):
        count = count * model.state_count
    return count
