"""All rows of a length."""


def every_row(length, beyond):
    """Give every row of so many numbers from 0 to below the limit, in lexicographic order."""
    rows = [[]]
    for place in range(length):
        longer = []
        for row in rows:
            for number in range(beyond):
                longer.append(row + [number])
        rows = longer
    return rows
