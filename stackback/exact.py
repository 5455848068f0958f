"""Exact numbers: pairs of a numerator and a denominator, which is above 0, in lowest terms."""

LARGEST = 1000000000000000000


def common_divisor(a, b):
    """The greatest whole number that divides both; a and b are not below 0."""
    while b != 0:
        rest = a % b
        a = b
        b = rest
    return a


def lowest_terms(numerator, denominator):
    """The pair for numerator / denominator, which has a denominator above 0."""
    divisor = common_divisor(abs(numerator), denominator)
    return (numerator // divisor, denominator // divisor)


def is_right_pair(numerator, denominator):
    """Whether a number of an expression may be written with these two."""
    if numerator < 0 or denominator < 1 or numerator > LARGEST or denominator > LARGEST:
        return False
    return common_divisor(numerator, denominator) == 1
