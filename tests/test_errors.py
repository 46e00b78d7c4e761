import unittest

from amidread import errors
from tests.helpers import ODD_VALUES

PARAMETERS = {
    "BadFormat": ("part",), "BadWord": ("word",), "BadRecord": ("record",), "InvalidText": ("line",),
    "OtherLetters": (), "NoReading": ("word",), "TwoReadings": ("one", "other"),
    "NotEnough": ("ahead", "behind"), "NotSure": ("place",), "NoBook": ("length",),
    "EvenLength": ("length",), "NameTaken": ("name",), "UnknownName": ("name",),
}


class Errors(unittest.TestCase):
    def test_bases(self):
        self.assertEqual(errors.ReadError.__bases__, (Exception,))
        self.assertEqual(len(PARAMETERS), 13)
        for name in PARAMETERS:
            self.assertEqual(getattr(errors, name).__bases__, (errors.ReadError,), name)

    def test_by_position(self):
        for name, parameters in PARAMETERS.items():
            for at, value in enumerate(ODD_VALUES):
                values = [value, ODD_VALUES[at - 1]][:len(parameters)]
                made = getattr(errors, name)(*values)
                for parameter, given in zip(parameters, values):
                    self.assertIs(getattr(made, parameter), given)

    def test_by_name(self):
        for name, parameters in PARAMETERS.items():
            for at, value in enumerate(ODD_VALUES):
                values = [value, ODD_VALUES[at - 1]][:len(parameters)]
                made = getattr(errors, name)(**dict(zip(parameters, values)))
                self.assertEqual(sorted(vars(made)), sorted(parameters))
                for parameter, given in zip(parameters, values):
                    self.assertIs(getattr(made, parameter), given)

    def test_raised_and_caught(self):
        for name, parameters in PARAMETERS.items():
            with self.assertRaises(errors.ReadError):
                raise getattr(errors, name)(*parameters)

    def test_wrong_numbers_of_parameters(self):
        for name, parameters in PARAMETERS.items():
            with self.assertRaises(TypeError):
                getattr(errors, name)(*parameters, 1)
            if parameters:
                with self.assertRaises(TypeError):
                    getattr(errors, name)(*parameters[1:])

    def test_no_attribute(self):
        self.assertEqual(vars(errors.OtherLetters()), {})
