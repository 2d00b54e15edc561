import fewtraps.errors as errors
from tests.cases import Case

NAMES = (
    "BadMap BadWish BadPlace BadNumber BadLot BadFree BadStanding TooMany Twice NoRoad NotWished BadPlay BadEvents "
    "BadWarden NoBound Over BadThread BadRoad Unlike Running BadProgram BadCell BadInputs Ended BadWeave BadText "
    "NoName NoPlace BadName NothingToUndo NothingToRedo"
).split()


class TestErrors(Case):
    def test_refused_stands_under_value_error(self):
        self.assertEqual(errors.Refused.__bases__, (ValueError,))

    def test_each_other_class_stands_directly_under_refused(self):
        for name in NAMES:
            with self.subTest(name):
                self.assertEqual(getattr(errors, name).__bases__, (errors.Refused,))
                self.assertEqual(getattr(errors, name).__module__, "fewtraps.errors")

    def test_there_are_no_other_classes(self):
        there = [name for name, thing in vars(errors).items() if isinstance(thing, type)]
        self.assertEqual(sorted(there), sorted(NAMES + ["Refused"]))

    def test_each_keeps_its_one_argument(self):
        for name in NAMES + ["Refused"]:
            for what in (0, -1, "ann", True, None, (1, 2)):
                with self.subTest(name, what=what):
                    self.same(getattr(errors, name)(what).what, what)
                    self.same(getattr(errors, name)(what=what).what, what)

    def test_each_takes_just_one_argument(self):
        for name in NAMES + ["Refused"]:
            with self.subTest(name):
                self.assertRaises(TypeError, getattr(errors, name))
                self.assertRaises(TypeError, getattr(errors, name), 1, 2)

    def test_they_are_raised_and_caught(self):
        for name in NAMES:
            with self.subTest(name):
                with self.assertRaises(errors.Refused) as caught:
                    raise getattr(errors, name)(7)
                self.assertEqual(caught.exception.what, 7)
