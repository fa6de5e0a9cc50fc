"""How the calls of a request are written one behind another in a list."""

# By a call's number: how many whole numbers it has ahead of its row.
NUMBERS_AHEAD = (4, 4, 1, 1, 1, 2, 2, 2, 0, 0, 1, 3, 2, 1, 1, 0, 0, 0, 0, 3, 4)
# The calls that have a row; no call has more than one.
WITH_ROW = (1, 2, 4, 6, 8, 14, 17, 20)


def read_calls(calls):
    """Give the calls in order, each as its number, its whole numbers and its row (empty where it has none)."""
    found = []
    position = 0
    while position < len(calls):
        number = calls[position]
        behind_numbers = position + 1 + NUMBERS_AHEAD[number]
        numbers = calls[position + 1:behind_numbers]
        position = behind_numbers
        row = []
        if number in WITH_ROW:
            position = behind_numbers + 1 + calls[behind_numbers]
            row = calls[behind_numbers + 1:position]
        found.append((number, numbers, row))
    return found
