"""Numbers: tuples (top, bottom) of whole numbers in lowest terms, bottom from 1 on."""

from leadtimes.errors import NoNumber


def is_whole(thing):
    """Whether a thing of whatever kind is a whole number."""
    # True and False are ints to Python, but no whole numbers here.
    return isinstance(thing, int) and not isinstance(thing, bool)


def greatest_divisor(one, other):
    """The greatest whole number that divides both of two whole numbers, not both 0."""
    divisor = abs(one)
    rest = abs(other)
    while rest != 0:
        left_over = divisor % rest
        divisor = rest
        rest = left_over
    return divisor


def is_number(thing):
    """Whether a thing of whatever kind is a number."""
    if not isinstance(thing, tuple) or len(thing) != 2:
        return False
    if not is_whole(thing[0]) or not is_whole(thing[1]):
        return False
    return thing[1] >= 1 and greatest_divisor(thing[0], thing[1]) == 1


def number_of(top, bottom):
    """The number that stands for top divided by bottom."""
    if not is_whole(top) or not is_whole(bottom) or bottom == 0:
        raise NoNumber("a number is made of two whole numbers, the second one not 0")
    divisor = greatest_divisor(top, bottom)
    if bottom < 0:
        # Dividing by a divisor below 0 moves the sign to the top.
        divisor = -divisor
    return (top // divisor, bottom // divisor)


def sum_of(a, b):
    """a and b together."""
    return number_of(a[0] * b[1] + b[0] * a[1], a[1] * b[1])


def difference_of(a, b):
    """a less b."""
    return number_of(a[0] * b[1] - b[0] * a[1], a[1] * b[1])


def product_of(a, b):
    """a times b."""
    return number_of(a[0] * b[0], a[1] * b[1])


def quotient_of(a, b):
    """a divided by b; NoNumber where b is 0."""
    # Where b is 0 the bottom is 0, which number_of refuses.
    return number_of(a[0] * b[1], a[1] * b[0])


def is_less(a, b):
    """Whether a is less than b."""
    # Bottoms are above 0, so multiplying by them keeps the order.
    return a[0] * b[1] < b[0] * a[1]


def rising(numbers):
    """Numbers in a new list, the lesser ones first."""
    told = []
    for number in numbers:
        at = len(told)
        while at > 0 and is_less(number, told[at - 1]):
            at -= 1
        told.insert(at, number)
    return told
