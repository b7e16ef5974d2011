import itertools
import random
import unittest

from censers.errors import BadMany, BadSaying, Clash, NoCenser, NoFit, NoSaying, Withdrawn
from censers.sayings import Sayings
from tests.helper import FAR, all_sayings, bad_sayings, fits_saying, fitting, is_paper, made, outside_sayings, pairs
from tests.helper import rows_said, some_made

ROUND = [("unlike", 0, 1), ("unlike", 1, 2), ("unlike", 3, 2), ("unlike", 3, 4), ("unlike", 0, 4)]


def of_two(said):
    """The alike and unlike ones among the sayings."""
    return [saying for saying in said if saying[0] in ("alike", "unlike")]


def distances(standing, one, other):
    """The length of a shortest walk from the one to the other by alike sayings, and by these and one unlike one."""
    far = 10 ** 6
    reach = {(one, False): 0}
    for turn in range(40):
        for number, (word, *two) in standing:
            for here, there in (two, two[::-1]) if len(two) == 2 else ():
                for unlike in (False, True) if word == "alike" else (False,):
                    length = reach.get((here, unlike), far) + 1
                    tip = (there, unlike or word == "unlike")
                    reach[tip] = min(reach.get(tip, far), length)
    return reach.get((other, False), far), reach.get((other, True), far)


def walked(standing, one, other, numbers):
    """The words of the sayings that lead from the one censer to the other, one behind another; None if they don't."""
    at, words, known = one, [], dict(standing)
    for number in numbers:
        word, *two = known[number]
        if len(two) != 2 or at not in two:
            return None
        at = two[1 - two.index(at)]
        words.append(word)
    return words if at == other else None


class Said(unittest.TestCase):
    def test_numbers_from_nought_on(self):
        sayings = Sayings(3)
        self.assertEqual((sayings.censers(), sayings.said(), sayings.standing()), (3, 0, []))
        said = [("alike", 0, 1), ("least", 2), ("unlike", 2, 0), ("most", 2), ("most", 3)]
        self.assertEqual([sayings.say(saying) for saying in said], [0, 1, 2, 3, 4])
        self.assertEqual(sayings.said(), 5)
        self.assertEqual(sayings.standing(), list(enumerate(said)))

    def test_counts_of_censers(self):
        for censers in range(1, 10):
            self.assertEqual(Sayings(censers).censers(), censers)
        for censers in (0, -1, 10, 11) + FAR:
            with self.assertRaises(BadMany):
                Sayings(censers)

    def test_said_once_more(self):
        sayings = Sayings(3)
        self.assertEqual([sayings.say(("alike", 0, 1)) for turn in range(3)], [0, 1, 2])
        self.assertEqual([sayings.say(("least", 2)) for turn in range(2)], [3, 4])
        self.assertEqual([saying for number, saying in sayings.standing()], [("alike", 0, 1)] * 3 + [("least", 2)] * 2)
        self.assertEqual(sayings.withdraw(1), ("alike", 0, 1))
        self.assertEqual(sayings.told(0, 1), "alike")
        self.assertEqual(sayings.say(("alike", 0, 1)), 5)

    def test_one_censer(self):
        sayings = Sayings(1)
        self.assertEqual([sayings.say(("least", 1)), sayings.say(("most", 1))], [0, 1])
        for bad in bad_sayings(1):
            with self.assertRaises(BadSaying):
                sayings.say(bad)

    def test_standing_is_fresh(self):
        sayings = made(3, [("alike", 0, 1), ("least", 2)])
        sayings.standing().clear()
        sayings.standing()[0] = (7, ("most", 1))
        self.assertEqual(sayings.standing(), [(0, ("alike", 0, 1)), (1, ("least", 2))])


class Refused(unittest.TestCase):
    def refused(self, sayings, saying, error):
        """The refusal of the saying; nothing is changed by it."""
        before = sayings.standing(), sayings.said(), sayings.censers()
        with self.assertRaises(error) as caught:
            sayings.say(saying)
        self.assertIs(type(caught.exception), error)
        self.assertEqual((sayings.standing(), sayings.said(), sayings.censers()), before)
        return caught.exception

    def test_bad_ones(self):
        for censers in (2, 3, 9):
            for sayings in (Sayings(censers), made(censers, [("alike", 0, 1)]), made(censers, [("most", 1)])):
                for bad in bad_sayings(censers):
                    self.refused(sayings, bad, BadSaying)
                for bad in outside_sayings(censers):
                    self.refused(sayings, bad, NoCenser)
                self.assertEqual(sayings.say(("least", 1)), len(sayings.standing()) - 1)

    def test_clash_of_two_sayings(self):
        self.assertEqual(self.refused(made(2, [("alike", 0, 1)]), ("unlike", 0, 1), Clash).ring, [0])
        self.assertEqual(self.refused(made(2, [("alike", 0, 1)]), ("unlike", 1, 0), Clash).ring, [0])
        self.assertEqual(self.refused(made(2, [("unlike", 0, 1)]), ("alike", 0, 1), Clash).ring, [0])
        self.assertEqual(self.refused(made(2, [("unlike", 1, 0)]), ("alike", 0, 1), Clash).ring, [0])

    def test_clash_by_a_longer_ring(self):
        sayings = made(5, [("alike", 0, 1), ("most", 4), ("alike", 2, 1), ("unlike", 2, 3), ("alike", 3, 4)])
        self.assertEqual(self.refused(sayings, ("alike", 0, 4), Clash).ring, [0, 2, 3, 4])
        self.assertEqual(self.refused(sayings, ("unlike", 2, 0), Clash).ring, [2, 0])
        sayings.say(("unlike", 0, 4))
        self.assertEqual(self.refused(sayings, ("alike", 0, 4), Clash).ring, [5])
        self.assertEqual(self.refused(sayings, ("alike", 3, 0), Clash).ring[::-1], [5, 4])

    def test_the_ring_is_fresh(self):
        sayings = made(3, [("alike", 0, 1), ("alike", 1, 2)])
        self.refused(sayings, ("unlike", 0, 2), Clash).ring.clear()
        self.assertEqual(self.refused(sayings, ("unlike", 0, 2), Clash).ring, [0, 1])
        self.assertEqual(sayings.standing(), [(0, ("alike", 0, 1)), (1, ("alike", 1, 2))])

    def test_clash_goes_ahead_of_no_fit(self):
        sayings = made(3, [("alike", 0, 1), ("least", 2), ("most", 2)])
        self.assertEqual(self.refused(sayings, ("unlike", 0, 1), Clash).ring, [0])
        sayings = made(2, [("unlike", 0, 1), ("least", 2)])
        self.assertEqual(self.refused(sayings, ("alike", 0, 1), Clash).ring, [0])

    def test_no_fit(self):
        for censers, said, saying in (
            (3, [("least", 2)], ("most", 1)),
            (3, [("most", 2)], ("least", 3)),
            (3, [("alike", 0, 1)], ("least", 3)),
            (3, [("least", 3)], ("alike", 0, 2)),
            (3, [("most", 1)], ("unlike", 0, 2)),
            (3, [("unlike", 0, 1), ("most", 2), ("unlike", 2, 1)], ("unlike", 0, 2)),
            (5, ROUND, ("most", 2)),
            (5, ROUND[:4] + [("most", 2)], ROUND[4]),
            (9, [("most", 2)] + ROUND[1:], ROUND[0]),
        ):
            found = self.refused(made(censers, said), saying, NoFit)
            self.assertTrue(is_paper(censers, said + [saying], found.paper), (said, saying, found.paper))

    def test_against_all_ways(self):
        for censers in range(1, 6):
            for seed in range(30):
                self.turns(censers, seed, 25)

    def turns(self, censers, seed, count):
        """Say and withdraw at random beside a plain record; each answer is checked."""
        source = random.Random(seed)
        sayings, record, given = Sayings(censers), {}, 0
        choice = all_sayings(censers) + [("least", min(2, censers)), ("most", max(1, censers - 1))] * censers
        for turn in range(count):
            if record and source.random() < 0.3:
                number = source.choice(sorted(record))
                self.assertEqual(sayings.withdraw(number), record.pop(number))
            else:
                saying = source.choice(choice)
                standing = [record[number] for number in sorted(record)]
                if self.say(sayings, standing, saying, given):
                    record[given] = saying
                    given += 1
            self.assertEqual(sayings.standing(), sorted(record.items()))
            self.assertEqual(sayings.said(), given)
        return sayings

    def say(self, sayings, standing, saying, given):
        """Whether the saying is taken; what is told is checked against all ways."""
        censers = sayings.censers()
        if saying in of_two([saying]) and not fitting(censers, of_two(standing) + [saying]):
            ring = self.refused(sayings, saying, Clash).ring
            self.check_ring(sayings.standing(), saying, ring)
            return False
        if not fitting(censers, standing + [saying]):
            paper = self.refused(sayings, saying, NoFit).paper
            self.assertTrue(is_paper(censers, standing + [saying], paper))
            return False
        self.assertEqual(sayings.say(saying), given)
        return True

    def check_ring(self, standing, saying, ring):
        word, one, other = saying
        alike, unlike = distances(standing, one, other)
        self.assertIsInstance(ring, list)
        words = walked(standing, one, other, ring)
        self.assertEqual(words.count("unlike"), 1 if word == "alike" else 0)
        self.assertEqual(len(ring), unlike if word == "alike" else alike)


class Withdrawal(unittest.TestCase):
    def test_withdrawn(self):
        sayings = made(3, [("alike", 0, 1), ("least", 2), ("unlike", 2, 0)])
        self.assertEqual(sayings.withdraw(1), ("least", 2))
        self.assertEqual(sayings.standing(), [(0, ("alike", 0, 1)), (2, ("unlike", 2, 0))])
        self.assertEqual(sayings.said(), 3)
        self.assertEqual(sayings.withdraw(2), ("unlike", 2, 0))
        self.assertEqual(sayings.withdraw(0), ("alike", 0, 1))
        self.assertEqual((sayings.standing(), sayings.said()), ([], 3))

    def test_numbers_are_not_given_again(self):
        sayings = made(3, [("alike", 0, 1), ("least", 2)])
        sayings.withdraw(1)
        sayings.withdraw(0)
        self.assertEqual(sayings.say(("unlike", 0, 1)), 2)
        self.assertEqual(sayings.standing(), [(2, ("unlike", 0, 1))])

    def test_what_was_refused_may_be_said_behind_it(self):
        sayings = made(3, [("alike", 0, 1), ("alike", 1, 2)])
        with self.assertRaises(Clash):
            sayings.say(("unlike", 0, 2))
        sayings.withdraw(1)
        self.assertEqual(sayings.say(("unlike", 0, 2)), 2)
        with self.assertRaises(Clash):
            sayings.say(("alike", 1, 2))

    def test_withdrawn_already(self):
        sayings = made(3, [("alike", 0, 1), ("least", 2)])
        sayings.withdraw(0)
        for turn in range(2):
            with self.assertRaises(Withdrawn):
                sayings.withdraw(0)
        self.assertEqual((sayings.standing(), sayings.said()), ([(1, ("least", 2))], 2))

    def test_numbers_never_given(self):
        empty, some = Sayings(3), made(3, [("alike", 0, 1), ("least", 2)])
        some.withdraw(1)
        for number in (2, 3, -1, -2, -3) + FAR:
            for sayings in (empty, some):
                with self.assertRaises(NoSaying):
                    sayings.withdraw(number)
        with self.assertRaises(NoSaying):
            empty.withdraw(0)
        with self.assertRaises(Clash):
            some.say(("unlike", 0, 1))
        with self.assertRaises(NoSaying):
            some.withdraw(2)
        self.assertEqual((some.standing(), some.said()), ([(0, ("alike", 0, 1))], 2))


class Twins(unittest.TestCase):
    def test_each_goes_its_own_way(self):
        for turned in (False, True):
            one = made(4, [("alike", 0, 1), ("least", 2), ("most", 3)])
            one.withdraw(1)
            other = one.twin()
            self.assertIsInstance(other, Sayings)
            first, second = (other, one) if turned else (one, other)
            before = [(0, ("alike", 0, 1)), (2, ("most", 3))]
            self.assertEqual((first.standing(), second.standing()), (before, before))
            self.assertEqual((first.said(), second.said(), second.censers()), (3, 3, 4))
            first.withdraw(0)
            self.assertEqual(first.say(("unlike", 0, 1)), 3)
            self.assertEqual((second.standing(), second.said()), (before, 3))
            self.assertEqual((first.told(0, 1), second.told(0, 1)), ("unlike", "alike"))
            self.assertEqual(second.say(("unlike", 2, 3)), 3)
            with self.assertRaises(Withdrawn):
                second.withdraw(1)
            self.assertEqual(first.standing(), [(2, ("most", 3)), (3, ("unlike", 0, 1))])


class Chains(unittest.TestCase):
    def check(self, sayings, one, other):
        standing = sayings.standing()
        alike, unlike = distances(standing, one, other)
        told = sayings.chain(one, other)
        if min(alike, unlike) == 10 ** 6:
            self.assertIsNone(told)
            return None
        word, numbers = told
        self.assertIsInstance(numbers, list)
        words = walked(standing, one, other, numbers)
        self.assertEqual(word, "unlike" if "unlike" in words else "alike")
        self.assertLessEqual(words.count("unlike"), 1)
        self.assertEqual(len(numbers), min(alike, unlike))
        return word

    def test_ordinary(self):
        said = [("alike", 0, 1), ("least", 2), ("unlike", 2, 1), ("alike", 2, 3), ("unlike", 4, 3)]
        sayings = made(6, said)
        self.assertEqual(sayings.chain(0, 1), ("alike", [0]))
        self.assertEqual(sayings.chain(1, 0), ("alike", [0]))
        self.assertEqual(sayings.chain(0, 3), ("unlike", [0, 2, 3]))
        self.assertEqual(sayings.chain(3, 0), ("unlike", [3, 2, 0]))
        self.assertIsNone(sayings.chain(0, 4))
        self.assertIsNone(sayings.chain(0, 5))

    def test_of_a_censer_and_itself(self):
        for sayings in (Sayings(3), made(3, [("alike", 0, 1), ("unlike", 1, 2)])):
            for censer in range(3):
                self.assertEqual(sayings.chain(censer, censer), ("alike", []))

    def test_the_fewest(self):
        sayings = made(6, [("alike", k, k + 1) for k in range(5)])
        self.assertEqual(sayings.chain(0, 5), ("alike", [0, 1, 2, 3, 4]))
        sayings.say(("alike", 4, 1))
        self.assertEqual(sayings.chain(0, 5), ("alike", [0, 5, 4]))
        sayings.withdraw(5)
        self.assertEqual(sayings.chain(5, 0), ("alike", [4, 3, 2, 1, 0]))
        sayings.withdraw(2)
        self.assertIsNone(sayings.chain(0, 5))
        sayings.say(("unlike", 0, 5))
        self.assertEqual(sayings.chain(5, 1), ("unlike", [6, 0]))

    def test_counts_of_woods_make_no_chain(self):
        sayings = made(2, [("most", 1)])
        self.assertIsNone(sayings.chain(0, 1))
        self.assertIsNone(made(2, [("least", 2)]).chain(0, 1))

    def test_against_a_search(self):
        told = set()
        for censers in range(2, 10):
            for seed in range(12):
                sayings = some_made(censers, 2 * seed + 2, seed)
                for one, other in pairs(censers):
                    told.add(self.check(sayings, one, other))
        self.assertEqual(told, {None, "alike", "unlike"})

    def test_long_chains(self):
        for censers in range(3, 10):
            order = random.Random(censers).sample(range(censers), censers)
            for place in range(censers):
                said = [("alike", one, other) for one, other in zip(order, order[1:])]
                if place < len(said):
                    said[place] = ("unlike", *said[place][:0:-1])
                closing = ("unlike" if place < len(said) else "alike", order[0], order[-1])
                for more in ([], [closing]):
                    sayings = made(censers, said + more)
                    for one, other in pairs(censers):
                        self.check(sayings, one, other)

    def test_the_list_is_fresh(self):
        sayings = made(3, [("alike", 0, 1), ("alike", 1, 2)])
        sayings.chain(0, 2)[1].clear()
        sayings.chain(0, 0)[1].append(5)
        self.assertEqual(sayings.chain(0, 2), ("alike", [0, 1]))
        self.assertEqual(sayings.chain(0, 0), ("alike", []))

    def test_censers_outside(self):
        for censers in (1, 3, 9):
            sayings = Sayings(censers)
            for ask in (sayings.chain, sayings.told, sayings.why):
                for bad in (-1, -2, censers, censers + 1) + FAR:
                    for one, other in ((bad, 0), (0, bad), (bad, bad), (bad, bad + 1)):
                        with self.assertRaises(NoCenser):
                            ask(one, other)


class Told(unittest.TestCase):
    def check(self, sayings, one, other):
        """What is told of the two; what is told with it is checked by itself."""
        said = rows_said(sayings)
        why = sayings.why(one, other)
        self.assertIsInstance(why, tuple)
        word, *things = why
        self.assertEqual(sayings.told(one, other), word)
        if one == other:
            self.assertEqual(why, ("alike", None))
        elif word == "either":
            self.assertEqual(len(things), 2)
            for way, saying in zip(things, (("alike", one, other), ("unlike", one, other))):
                self.assertIn(way, fitting(sayings.censers(), []))
                self.assertTrue(all(fits_saying(way, each) for each in said + [saying]))
        else:
            against = {"alike": "unlike", "unlike": "alike"}[word]
            self.assertEqual(len(things), 1)
            self.assertTrue(is_paper(sayings.censers(), said + [(against, one, other)], things[0]))
        return word

    def test_ordinary(self):
        sayings = made(4, [("alike", 0, 1), ("unlike", 1, 2)])
        self.assertEqual(sayings.told(0, 1), "alike")
        self.assertEqual(sayings.told(2, 0), "unlike")
        self.assertEqual(sayings.told(3, 0), "either")
        sayings.say(("most", 2))
        sayings.say(("unlike", 3, 0))
        self.assertEqual(sayings.told(3, 2), "alike")
        sayings.withdraw(2)
        self.assertEqual(sayings.told(3, 2), "either")

    def test_by_counts_alone(self):
        self.assertEqual(made(3, [("most", 1)]).told(0, 2), "alike")
        self.assertEqual(made(3, [("least", 3)]).told(0, 2), "unlike")
        self.assertEqual(made(3, [("least", 2), ("alike", 0, 1)]).told(0, 2), "unlike")

    def test_against_all_ways(self):
        told = set()
        for censers in range(1, 6):
            for seed in range(30):
                sayings = some_made(censers, 3 + seed % 10, seed)
                ways = fitting(censers, rows_said(sayings))
                for one, other in pairs(censers):
                    found = {way[one] == way[other] for way in ways}
                    word = {(True,): "alike", (False,): "unlike"}.get(tuple(found), "either")
                    self.assertEqual(self.check(sayings, one, other), word)
                    told.add(word)
        self.assertEqual(told, {"alike", "unlike", "either"})

    def test_nine_censers(self):
        told = set()
        for said in ([], ROUND + [("most", 3), ("alike", 5, 6)], [("most", 2)] + ROUND[1:] + [("unlike", 5, 6)],
                     [("unlike", k, (k + 1) % 9) for k in range(8)] + [("most", 2)],
                     [("least", 8), ("alike", 0, 8)], [("most", 1)], [("least", 9)],
                     [("unlike", *two) for two in itertools.combinations(range(4), 2)] + [("most", 4), ("unlike", 0, 8),
                      ("unlike", 1, 8), ("unlike", 8, 2)]):
            sayings = made(9, said)
            for one, other in pairs(9):
                told.add(self.check(sayings, one, other))
        self.assertEqual(told, {"alike", "unlike", "either"})
        self.assertEqual(sayings.told(3, 8), "alike")

    def test_questions_change_nothing(self):
        sayings = made(4, [("alike", 0, 1), ("most", 2)])
        for one, other in pairs(4):
            sayings.why(one, other)
            sayings.told(one, other)
            sayings.chain(one, other)
        self.assertEqual((sayings.standing(), sayings.said()), ([(0, ("alike", 0, 1)), (1, ("most", 2))], 2))


if __name__ == "__main__":
    unittest.main()
