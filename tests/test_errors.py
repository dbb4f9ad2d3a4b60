import unittest

from moredone import errors

FIELDS = {
    "NoName": ("value",), "BadText": ("place",), "BadLine": ("number",), "Tangled": (), "NoLog": ("number",),
    "NoPlace": ("place",), "NotDone": (), "Endless": ("name",), "NoWay": (), "Twice": ("name",),
    "NoPerson": ("name",), "NoRule": ("name",), "Taken": ("name",), "Stopped": ("number", "word"),
    "NothingDone": (), "NotCoarse": ("name",), "Gainsaid": ("log",), "NoBadge": ("name",),
}


class Kinds(unittest.TestCase):
    def test_rule_error_is_a_value_error(self):
        self.assertEqual(errors.RuleError.__bases__, (ValueError,))

    def test_each_is_directly_under_rule_error(self):
        for name in FIELDS:
            self.assertEqual(getattr(errors, name).__bases__, (errors.RuleError,), name)

    def test_there_are_just_these(self):
        classes = {name for name, value in vars(errors).items() if isinstance(value, type)}
        self.assertEqual(classes, set(FIELDS) | {"RuleError"})
        self.assertEqual(len(FIELDS), 18)

    def test_each_can_be_raised_and_caught_as_a_rule_error_and_a_value_error(self):
        for name, fields in FIELDS.items():
            for caught in (getattr(errors, name), errors.RuleError, ValueError):
                with self.assertRaises(caught):
                    raise getattr(errors, name)(*fields)

    def test_none_catches_another_one(self):
        for name, fields in FIELDS.items():
            for other in FIELDS:
                made = getattr(errors, name)(*fields)
                self.assertEqual(isinstance(made, getattr(errors, other)), name == other)


class Values(unittest.TestCase):
    KINDS = (True, False, None, 0, -3, 10 ** 30, "", "B", (), ("a", "b"), [], ["a"], {"a": 1}, 1.5, object(), ValueError)

    def check(self, made, fields, values):
        for field, value in zip(fields, values):
            self.assertIs(getattr(made, field), value)
        self.assertEqual(set(vars(made)), set(fields))

    def test_each_keeps_what_it_is_given_by_place_and_by_name(self):
        for name, fields in FIELDS.items():
            for at in range(len(self.KINDS)):
                values = [self.KINDS[at - shift] for shift in range(len(fields))]
                made = getattr(errors, name)
                self.check(made(*values), fields, values)
                self.check(made(**dict(zip(fields, values))), fields, values)

    def test_stopped_tells_number_and_word_apart(self):
        made = errors.Stopped(1, "NoPlace")
        self.assertEqual((made.number, made.word), (1, "NoPlace"))
        made = errors.Stopped(word="NoPlace", number=1)
        self.assertEqual((made.number, made.word), (1, "NoPlace"))

    def test_each_needs_all_of_its_values(self):
        for name, fields in FIELDS.items():
            if fields:
                with self.assertRaises(TypeError):
                    getattr(errors, name)(*fields[1:])

    def test_two_of_a_kind_share_nothing(self):
        one, other = errors.NoName("A"), errors.NoName("B")
        self.assertEqual((one.value, other.value), ("A", "B"))


if __name__ == "__main__":
    unittest.main()
