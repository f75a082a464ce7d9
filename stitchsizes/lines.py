"""Lines: tuples (x, y) that stand for the number x + y * k at each count k."""


def value_at(line, k):
    """The number that a line stands for at a count."""
    return line[0] + line[1] * k


def raised(line, number):
    """The line that is greater by a number everywhere."""
    return (line[0] + number, line[1])


def scaled(line, factor):
    """The line that is so many times as great everywhere."""
    return (line[0] * factor, line[1] * factor)


def line_sum(one, other):
    """Two lines together."""
    return (one[0] + other[0], one[1] + other[1])


def line_gap(one, other):
    """How much greater one line is than another one."""
    return (one[0] - other[0], one[1] - other[1])


def total_of(lines):
    """Several lines together."""
    return (sum([x for x, _ in lines]), sum([y for _, y in lines]))


def part_of_line(line, first, step):
    """The line at the counts first, first + step, first + 2 * step and so on."""
    return (line[0] + line[1] * first, line[1] * step)
