"""Forms: [31] and the interface of forms.py."""

import unittest

from support import Case, FAR, drawn, is_int, only
from stitchsizes.errors import InvalidForm, InvalidNumber
from stitchsizes.forms import Form

TEXTS = {
    (2, -1, 3): "2x - y + 3", (-1, 10, 0): "-x + 10y", (0, 1, 0): "y", (0, 0, 0): "0", (1, 0, 0): "x", (-1, 0, 0): "-x",
    (0, -1, 0): "-y", (0, 0, 1): "1", (0, 0, -1): "-1", (0, 0, -12): "-12", (1, 1, 1): "x + y + 1",
    (-1, -1, -1): "-x - y - 1", (0, -2, 5): "-2y + 5", (3, 0, -7): "3x - 7", (1, -3, 0): "x - 3y", (0, 1, -1): "y - 1",
    (FAR, -FAR, FAR): f"{FAR}x - {FAR}y + {FAR}", (11, 1, -1): "11x + y - 1", (-11, -10, 0): "-11x - 10y",
}


def drawn_numbers(chance, most=9):
    return tuple(chance.randint(-most, most) for _ in range(3))


class TestForm(Case):
    def test_properties(self):
        form = Form(2, -1, 3)
        self.assertEqual((form.x, form.y, form.constant, form.is_number), (2, -1, 3, False))
        self.is_fixed(form, "x", "y", "constant", "is_number")
        self.assertEqual(Form(), Form(0, 0, 0))
        self.assertEqual(Form(1), Form(x=1, y=0, constant=0))
        self.assertEqual(Form(0, 1), Form(y=1))
        self.assertEqual(Form(constant=4), Form(0, 0, 4))

    def test_is_number(self):
        told = [form.is_number for form in (Form(0, 0, 5), Form(), Form(1), Form(0, 1), Form(1, -1))]
        self.assertEqual(told, [True, True, False, False, False])

    def test_wrong_numbers(self):
        wrong = only(lambda value: not is_int(value))
        self.all_fail(InvalidNumber, "value", wrong, lambda value: Form(value, None, None))
        self.all_fail(InvalidNumber, "value", wrong, lambda value: Form(0, value, None))
        self.all_fail(InvalidNumber, "value", wrong, lambda value: Form(0, 0, value))

    def test_at(self):
        self.assertEqual((Form(2, -1, 3).at(5, 7), Form(2, -1, 3).at(-5), Form(2, -1, 3).at(x=1, y=-1)), (6, -7, 6))
        self.assertEqual(Form(FAR, 1, -2).at(FAR, 5), FAR * FAR + 3)
        wrong = only(lambda value: not is_int(value))
        self.all_fail(InvalidNumber, "value", wrong, lambda value: Form(1).at(value, None))
        self.all_fail(InvalidNumber, "value", wrong, lambda value: Form(1).at(0, value))

    def test_texts(self):
        for numbers, text in TEXTS.items():
            self.assertEqual(str(Form(*numbers)), text)
            self.assertEqual(f"{Form(*numbers)}", text)

    def test_texts_can_be_read(self):
        chance = drawn(41)
        for _ in range(300):
            numbers = drawn_numbers(chance, chance.choice([1, 2, 20, FAR]))
            text = str(Form(*numbers))
            read = [0, 0, 0]
            for term in text.replace(" - ", " + -").split(" + "):
                at = 0 if term.endswith("x") else 1 if term.endswith("y") else 2
                factor = term.rstrip("xy")
                if at < 2 and factor in ("", "-"):
                    factor += "1"
                read[at] = int(factor)
            self.assertEqual(tuple(read), numbers)

    def test_repr(self):
        self.assertEqual(repr(Form(2, -1, 3)), "Form(2, -1, 3)")
        self.assertEqual(repr(Form()), "Form(0, 0, 0)")
        self.assertEqual(repr(Form(0, 0, -FAR)), f"Form(0, 0, -{FAR})")

    def test_equality(self):
        self.equal_only_to(Form(2, -1, 3), Form(2, -1, 3))
        for other in (Form(3, -1, 3), Form(2, 1, 3), Form(2, -1, -3), Form(-2, 1, -3)):
            self.assertTrue(Form(2, -1, 3) != other)
            self.assertFalse(Form(2, -1, 3) == other)
        self.equal_only_to(Form(0, 0, 5))


class TestOperators(Case):
    def test_values(self):
        chance = drawn(42)
        for _ in range(300):
            most = chance.choice([3, 50, FAR])
            one, other = Form(*drawn_numbers(chance, most)), Form(*drawn_numbers(chance, most))
            number, x, y = chance.randint(-most, most), chance.randint(-most, most), chance.randint(-most, most)
            first, second = Form(*drawn_numbers(chance, most)), Form(*drawn_numbers(chance, most))
            for form, value in (
                (one + other, one.at(x, y) + other.at(x, y)), (one - other, one.at(x, y) - other.at(x, y)),
                (one + number, one.at(x, y) + number), (one - number, one.at(x, y) - number),
                (one * number, one.at(x, y) * number), (-one, -one.at(x, y)),
                (one.put(first, second), one.at(first.at(x, y), second.at(x, y))),
            ):
                self.assertIs(type(form), Form)
                self.assertEqual(form.at(x, y), value)

    def test_examples(self):
        form = Form(2, -1, 3)
        self.assertEqual((form + Form(1, 1, 1), form - Form(1, 1, 1)), (Form(3, 0, 4), Form(1, -2, 2)))
        self.assertEqual((form + 4, form - 4, form * -2, form * 0, -form),
                         (Form(2, -1, 7), Form(2, -1, -1), Form(-4, 2, -6), Form(), Form(-2, 1, -3)))
        self.assertEqual(form.put(first=Form(0, 1, 1), second=Form(1, 0, 10)), Form(-1, 2, -5))
        self.assertEqual(Form(1).put(Form(1, 2, 3), Form()), Form(1, 2, 3))
        self.assertEqual(Form(0, 1).put(Form(), Form(1, 2, 3)), Form(1, 2, 3))
        self.assertEqual(form, Form(2, -1, 3))

    def test_wrong_values(self):
        wrong = only(lambda value: not is_int(value) and not isinstance(value, Form))
        self.all_fail(InvalidForm, "value", wrong, lambda value: Form(1) + value)
        self.all_fail(InvalidForm, "value", wrong, lambda value: Form(1) - value)
        factors = only(lambda value: not is_int(value))
        self.all_fail(InvalidForm, "value", factors, lambda value: Form(1) * value)
        form = Form(3)
        self.fails(InvalidForm, {"value": form}, lambda: Form(1) * form)
        forms = only(lambda value: not isinstance(value, Form))
        self.all_fail(InvalidForm, "value", forms, lambda value: Form(1).put(value, None))
        self.all_fail(InvalidForm, "value", forms, lambda value: Form().put(Form(), value))

    def test_nothing_is_on_the_left(self):
        for call in (lambda: "a" + Form(1), lambda: [1] * Form(1), lambda: () + Form(1)):
            with self.assertRaises(TypeError):
                call()


if __name__ == "__main__":
    unittest.main()
