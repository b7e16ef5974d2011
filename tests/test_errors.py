import unittest

from censers import errors
from censers.errors import BadText, CenserError, Clash, NoFit

PLAIN = (
    "BadMany BadWay NoCenser BadOrder BadNumber NoLot BadMark BadTray NoWood Empty TooFew BadSaying NoSaying "
    "Withdrawn BadName Taken Full NoListener UnderWay NoRound Opened Misfit BadDeed Nothing"
).split()
WITH_FIELD = ["Clash", "NoFit", "BadText"]


class Classes(unittest.TestCase):
    def test_any_refusal_is_a_value_error(self):
        self.assertEqual(CenserError.__bases__, (ValueError,))

    def test_each_stands_under_censer_error_by_itself(self):
        for name in PLAIN + WITH_FIELD:
            with self.subTest(name):
                refusal = getattr(errors, name)
                self.assertEqual(refusal.__name__, name)
                self.assertEqual(refusal.__bases__, (CenserError,))
                self.assertTrue(issubclass(refusal, ValueError))

    def test_none_stands_under_another(self):
        for name in PLAIN + WITH_FIELD:
            for other in PLAIN + WITH_FIELD:
                under = issubclass(getattr(errors, name), getattr(errors, other))
                self.assertEqual(under, name == other, (name, other))

    def test_no_class_beside_the_list(self):
        found = [name for name, value in vars(errors).items() if isinstance(value, type)]
        self.assertEqual(sorted(found), sorted(PLAIN + WITH_FIELD + ["CenserError"]))

    def test_each_plain_one_is_raised_and_taken(self):
        for name in PLAIN:
            with self.subTest(name), self.assertRaises(CenserError):
                raise getattr(errors, name)("words")


class Fields(unittest.TestCase):
    def test_ring(self):
        self.assertEqual(Clash([0, 3]).ring, [0, 3])
        self.assertEqual(Clash(ring=[]).ring, [])

    def test_ring_is_a_list_of_its_own(self):
        handed = [4, 1]
        clash = Clash(handed)
        handed.append(7)
        self.assertEqual(clash.ring, [4, 1])

    def test_paper(self):
        paper = ("cases", 0, 1, ("ring", 0, 1), ("few",))
        self.assertEqual(NoFit(paper).paper, paper)
        self.assertEqual(NoFit(paper=("counts",)).paper, ("counts",))

    def test_row(self):
        self.assertEqual(BadText(0).row, 0)
        self.assertEqual(BadText(row=12).row, 12)

    def test_a_field_is_each_object_s_own(self):
        first, second = BadText(1), BadText(2)
        self.assertEqual((first.row, second.row), (1, 2))

    def test_fields_are_there_when_taken(self):
        with self.assertRaises(CenserError) as taken:
            raise Clash([2])
        self.assertEqual(taken.exception.ring, [2])
        with self.assertRaises(CenserError) as taken:
            raise NoFit(("few",))
        self.assertEqual(taken.exception.paper, ("few",))
        with self.assertRaises(CenserError) as taken:
            raise BadText(5)
        self.assertEqual(taken.exception.row, 5)

    def test_none_is_made_without_its_field(self):
        for refusal in (Clash, NoFit, BadText):
            with self.assertRaises(TypeError):
                refusal()


if __name__ == "__main__":
    unittest.main()
