"""Sums of rounded quotients."""


def quotient_sum(many, divisor, factor, start):
    """The sum of (factor * i + start) // divisor over i from 0 up to, not including, many."""
    total = 0
    while many > 0:
        total = total + many * (many - 1) // 2 * (factor // divisor) + many * (start // divisor)
        factor = factor % divisor
        start = start % divisor
        # What is left is counted by columns instead of rows: the quotients turn over, as in Euclid's division.
        top = factor * many + start
        many = top // divisor
        start = top % divisor
        factor, divisor = divisor, factor
    return total
