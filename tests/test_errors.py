import unittest

from numberpapers import errors

WITHOUT = (
    "NotFit TooSmall ByNought TooShort TooGreat NotPrime IsPrime NotUnit NoRoot NotRoot NotProper NotTurn "
    "NotDiscriminant NotPrimitive NotSame NotWord NotTurned NoHeight NotNear NotSimple NotDeed NotDone NotUndone"
).split()
WITH = {
    "NotRow": ["place"], "NotPaper": ["place"], "NotSmooth": ["place"], "NotSheet": ["place"],
    "Clash": ["one", "other"], "NoUnit": ["common"], "Barred": ["common"], "HasCommon": ["common"],
    "TooMany": ["limit"], "TooWide": ["limit"], "TooDeep": ["limit"], "TooHard": ["limit"],
    "NotForm": ["rule"], "NotRiver": ["rule"], "IsSquare": ["root"], "NotStore": ["rule", "place"],
    "NotInStore": ["prime"], "NotClaim": ["rule", "place"],
}


class Errors(unittest.TestCase):  # [2]
    def test_all_are_direct_subclasses(self):
        self.assertEqual(errors.NumberError.__bases__, (ValueError,))
        for name in WITHOUT + list(WITH):
            self.assertEqual(getattr(errors, name).__bases__, (errors.NumberError,), name)

    def test_those_without_attributes(self):
        for name in WITHOUT:
            self.assertEqual(vars(getattr(errors, name)()), {})

    def test_those_with_attributes(self):
        for name, attributes in WITH.items():
            values = [3, "word"][:len(attributes)]
            error = getattr(errors, name)(*values)
            self.assertEqual([getattr(error, a) for a in attributes], values)
            self.assertEqual(list(vars(error)), attributes)
            named = getattr(errors, name)(**dict(zip(attributes, values)))
            self.assertEqual(vars(named), vars(error))

    def test_no_others(self):
        found = [name for name, value in vars(errors).items() if isinstance(value, type)]
        self.assertEqual(sorted(found), sorted(WITHOUT + list(WITH) + ["NumberError"]))
