"""Exact fractions, each a numerator and a denominator above 0, which need not be in lowest terms."""


def greatest_common_divisor(first, second):
    """Give the greatest whole number that divides both; they are 0 or above, and not both 0."""
    while second != 0:
        rest = first % second
        first = second
        second = rest
    return first


def lowest_terms(fraction):
    """Give the same fraction with the least denominator; zero is 0 over 1."""
    divisor = greatest_common_divisor(abs(fraction[0]), fraction[1])
    return (fraction[0] // divisor, fraction[1] // divisor)


def added(first, second):
    """Give the sum of two fractions."""
    return (first[0] * second[1] + second[0] * first[1], first[1] * second[1])


def less(first, second):
    """Give the first fraction less the second one."""
    return added(first, (-second[0], second[1]))


def same(first, second):
    """Tell whether two fractions, in whatever terms, are the same number."""
    return first[0] * second[1] == second[0] * first[1]


def greater(first, second):
    """Give the greater of two fractions."""
    return first if first[0] * second[1] >= second[0] * first[1] else second


def written(fractions):
    """Give the numerator and the denominator of every fraction, in lowest terms, one behind another."""
    numbers = []
    for fraction in fractions:
        lowest = lowest_terms(fraction)
        numbers.append(lowest[0])
        numbers.append(lowest[1])
    return numbers
