import unittest

from censers.errors import BadTray, Empty, NoWood
from censers.tray import Tray
from tests.helper import FAR

SIX = [("aloe", 3), ("cedar", 0), ("elm", 99), ("oak", 1), ("pine", 20), ("z", 7)]
BAD_NAMES = ("", "abcdefghijklm", "a" * 1000, "Aloe", "alOe", "aloE", "a b", " a", "a ", "a\n", "\na", "a1", "1", "a-b",
             "`", "{", "a`", "z{", "@", "a_b", "~", "abcdefghijk.")


class Made(unittest.TestCase):
    def refused(self, woods):
        with self.assertRaises(BadTray):
            Tray(woods)

    def test_one_and_six_woods(self):
        self.assertEqual(Tray([("oak", 4)]).all_woods(), [("oak", 4)])
        self.assertEqual(Tray(SIX).all_woods(), SIX)

    def test_none_and_seven_woods(self):
        self.refused([])
        self.refused(SIX + [("ash", 1)])
        self.refused([("a" * length, 1) for length in range(1, 13)])

    def test_names(self):
        for name in ("a", "z", "az", "abcdefghijkl", "mnopqrstuvwx", "z" * 12):
            self.assertEqual(Tray([(name, 1)]).all_woods(), [(name, 1)])

    def test_bad_names_at_any_place(self):
        for name in BAD_NAMES:
            self.refused([(name, 1)])
            for place in range(6):
                self.refused(SIX[:place] + [(name, 1)] + SIX[place + 1:])

    def test_a_bad_sign_at_any_place(self):
        for place in range(12):
            for sign in "A{` 0-\n":
                self.refused([("abcdefghijkl"[:place] + sign + "abcdefghijkl"[place + 1:], 1)])

    def test_a_name_twice(self):
        self.refused([("oak", 1), ("oak", 1)])
        self.refused([("oak", 1), ("oak", 2)])
        for place in range(1, 6):
            self.refused(SIX[:place] + [(SIX[0][0], 5)] + SIX[place + 1:])

    def test_packets(self):
        for packets in (0, 1, 50, 99):
            self.assertEqual(Tray([("oak", packets)]).packets("oak"), packets)

    def test_bad_packets_at_any_place(self):
        for packets in (-1, -2, 100, 101) + FAR:
            self.refused([("oak", packets)])
            for place in range(6):
                self.refused(SIX[:place] + [(SIX[place][0], packets)] + SIX[place + 1:])

    def test_all_of_it_bad(self):
        self.refused([("", -1)] * 7)


class Asked(unittest.TestCase):
    def test_the_order_handed_in(self):
        self.assertEqual(Tray(SIX[::-1]).all_woods(), SIX[::-1])
        self.assertEqual(Tray([("b", 1), ("a", 2), ("c", 0)]).all_woods(), [("b", 1), ("a", 2), ("c", 0)])

    def test_packets(self):
        tray = Tray(SIX)
        for name, packets in SIX:
            self.assertEqual(tray.packets(name), packets)

    def test_total(self):
        self.assertEqual(Tray(SIX).total(), 130)
        self.assertEqual(Tray([("oak", 0)]).total(), 0)
        self.assertEqual(Tray([(name, 99) for name, packets in SIX]).total(), 594)

    def test_names_that_are_not_there(self):
        tray = Tray(SIX)
        for name in ("oaks", "oa", "ash") + BAD_NAMES:
            with self.assertRaises(NoWood):
                tray.packets(name)
            with self.assertRaises(NoWood):
                tray.less(name)
        self.assertEqual(tray.all_woods(), SIX)


class Less(unittest.TestCase):
    def test_one_packet_fewer(self):
        for place, (name, packets) in enumerate(SIX):
            if packets:
                tray = Tray(SIX)
                fewer = tray.less(name)
                self.assertIsInstance(fewer, Tray)
                self.assertEqual(fewer.all_woods(), SIX[:place] + [(name, packets - 1)] + SIX[place + 1:])
                self.assertEqual((fewer.packets(name), fewer.total()), (packets - 1, 129))
                self.assertEqual((tray.packets(name), tray.total()), (packets, 130))
                self.assertEqual(tray.all_woods(), SIX)

    def test_down_to_the_last_one(self):
        tray = Tray([("oak", 99), ("elm", 1)])
        for left in range(98, -1, -1):
            tray = tray.less("oak")
            self.assertEqual(tray.all_woods(), [("oak", left), ("elm", 1)])
        with self.assertRaises(Empty):
            tray.less("oak")
        self.assertEqual(tray.less("elm").total(), 0)

    def test_none_left(self):
        tray = Tray(SIX)
        with self.assertRaises(Empty):
            tray.less("cedar")
        with self.assertRaises(Empty):
            tray.less("oak").less("oak")
        self.assertEqual(tray.all_woods(), SIX)

    def test_two_trays_go_their_own_ways(self):
        tray = Tray(SIX)
        one, other = tray.less("aloe"), tray.less("elm").less("aloe")
        self.assertEqual((one.packets("aloe"), one.packets("elm")), (2, 99))
        self.assertEqual((other.packets("aloe"), other.packets("elm")), (2, 98))


class Kept(unittest.TestCase):
    def test_the_list_handed_in_stays_and_may_be_changed(self):
        handed = list(SIX)
        tray = Tray(handed)
        self.assertEqual(handed, SIX)
        handed.clear()
        self.assertEqual(tray.all_woods(), SIX)
        self.assertEqual(tray.total(), 130)

    def test_the_lists_told_may_be_changed(self):
        tray = Tray(SIX)
        tray.all_woods().append(("ash", 1))
        tray.all_woods()[0] = ("ash", 5)
        self.assertEqual(tray.all_woods(), SIX)
        fewer = tray.less("elm")
        fewer.all_woods().clear()
        self.assertEqual(fewer.total(), 129)

    def test_the_pairs_are_tuples(self):
        for pair in Tray(SIX).less("oak").all_woods():
            self.assertIsInstance(pair, tuple)


if __name__ == "__main__":
    unittest.main()
