"""Forms: linear functions of x and y with integers."""

from stitchsizes.checks import is_integer
from stitchsizes.errors import InvalidForm, InvalidNumber


class Form:
    """The function x * X + y * Y + constant of two numbers X and Y."""

    def __init__(self, x=0, y=0, constant=0):
        for number in (x, y, constant):
            if not is_integer(number):
                raise InvalidNumber(number)
        self._x = x
        self._y = y
        self._constant = constant

    @property
    def x(self):
        """The factor of x."""
        return self._x

    @property
    def y(self):
        """The factor of y."""
        return self._y

    @property
    def constant(self):
        """The number at the end."""
        return self._constant

    @property
    def is_number(self):
        """Whether the form is the same number everywhere."""
        return self._x == 0 and self._y == 0

    def at(self, x, y=0):
        """The value of the form at two integers."""
        for number in (x, y):
            if not is_integer(number):
                raise InvalidNumber(number)
        return self._x * x + self._y * y + self._constant

    def put(self, first, second):
        """The form that results if x is replaced by one form, and y by another one."""
        for form in (first, second):
            if not isinstance(form, Form):
                raise InvalidForm(form)
        return first * self._x + second * self._y + self._constant

    def __add__(self, other):
        right = _as_form(other)
        return Form(self._x + right.x, self._y + right.y, self._constant + right.constant)

    def __sub__(self, other):
        right = _as_form(other)
        return Form(self._x - right.x, self._y - right.y, self._constant - right.constant)

    def __mul__(self, other):
        if not is_integer(other):
            raise InvalidForm(other)
        return Form(self._x * other, self._y * other, self._constant * other)

    def __neg__(self):
        return Form(-self._x, -self._y, -self._constant)

    def __eq__(self, other):
        return isinstance(other, Form) and _numbers_of(self) == _numbers_of(other)

    def __str__(self):
        return str(_text_of(self._x, self._y, self._constant))

    def __repr__(self):
        return f"Form({self._x}, {self._y}, {self._constant})"


def _as_form(value):
    if isinstance(value, Form):
        return value
    if not is_integer(value):
        raise InvalidForm(value)
    return Form(0, 0, value)


def _numbers_of(form):
    return (form.x, form.y, form.constant)


def _text_of(x, y, constant):
    """The terms that are not 0, with their signs between."""
    text = ""
    for factor, letter in ((x, "x"), (y, "y"), (constant, "")):
        if factor != 0:
            text = f"{text}{_sign(factor, text)}{_amount(factor, letter)}"
    return text if text else "0"


def _sign(factor, ahead):
    """What stands between a term and the text ahead of it."""
    if not ahead:
        return "-" if factor < 0 else ""
    return " - " if factor < 0 else " + "


def _amount(factor, letter):
    if letter and abs(factor) == 1:
        return letter
    return f"{abs(factor)}{letter}"
