"""Crowds that come, and shortest ways (points 2 and 8)."""

import itertools
import unittest

from crowdsay import comings
from crowdsay.comings import comes, way
from crowdsay.customs import Custom
from crowdsay.errors import NoMeeting, TooMany
from crowdsay.meetings import can_be_done, trail

GATES = (("inn", "z"),)
# It goes on for ever: z z to z m, and back.
SWING = Custom(("z", "m"), (("z", "z", "z", "m"), ("z", "m", "z", "z")), GATES)
NO_ROWS = Custom(("z", "m"), (), GATES)
FALL = Custom(("z", "m", "a"), (("z", "z", "m", "a"), ("m", "a", "a", "a")), GATES)
# Two ways of like length to one crowd, by rows 0, 2 or 1, 0; and a shorter one by row 3.
FORK = Custom(
    ("z", "m", "a", "b"),
    (("z", "z", "z", "m"), ("z", "m", "m", "m"), ("z", "a", "a", "b"), ("m", "m", "a", "a")),
    GATES,
)
# Behind row 0 each x may become a y, and each p a q, by itself: 1 + (x + 1) times (p + 1) crowds.
GRID = Custom(
    ("e", "g", "s", "f", "x", "y", "p", "q"),
    (("e", "g", "s", "f"), ("s", "x", "s", "y"), ("s", "p", "s", "q")),
    (("inn", "e"),),
)


def customs_of(kinds, step):
    """Each step-th one of all customs of these kinds."""
    pairs = list(itertools.combinations_with_replacement(kinds, 2))
    for number, ends in enumerate(itertools.product(pairs, repeat=len(pairs))):
        if number % step == 0:
            rows = tuple([one + other for one, other in zip(pairs, ends) if one != other])
            yield Custom(kinds, rows, (("inn", kinds[0]),))


def crowds_of(many_kinds, most_folk):
    for crowd in itertools.product(range(most_folk + 1), repeat=many_kinds):
        if 1 <= sum(crowd) <= most_folk:
            yield crowd


def next_crowds(custom, crowd):
    return [(number, trail(custom, crowd, [number])[-1]) for number in can_be_done(custom, crowd)]


def all_that_come(custom, crowd):
    found = {crowd}
    while True:
        more = found | {come for one in found for _, come in next_crowds(custom, one)}
        if more == found:
            return found
        found = more


def least_ways(custom, crowd):
    """To each crowd that comes the least of the shortest lists, by trying all lists of each length in order."""
    ways = {crowd: []}
    layer = {crowd: []}
    while layer:
        following = {}
        for one, numbers in layer.items():
            for number, come in next_crowds(custom, one):
                longer = [*numbers, number]
                if come not in ways and (come not in following or longer < following[come]):
                    following[come] = longer
        ways.update(following)
        layer = following
    return ways


class ComesTest(unittest.TestCase):
    def refused(self, custom, crowd, most):
        with self.assertRaises(TooMany) as caught:
            comes(custom, crowd, most=most)
        self.assertEqual(caught.exception.most, most)

    def test_all_is_defined_in_this_file(self):
        for thing in (comes, way):
            self.assertEqual(thing.__module__, "crowdsay.comings")
        self.assertEqual(comings.MOST_CROWDS, 400)

    def test_the_crowd_itself_comes(self):
        self.assertEqual(comes(NO_ROWS, (3, 4)), [(3, 4)])
        self.assertEqual(comes(SWING, (1, 0)), [(1, 0)])
        self.assertEqual(comes(SWING, (0, 9)), [(0, 9)])

    def test_all_that_come_as_tuples_rise(self):
        self.assertEqual(comes(FALL, (4, 0, 0)), [(0, 0, 4), (0, 1, 3), (0, 2, 2), (2, 0, 2), (2, 1, 1), (4, 0, 0)])
        self.assertEqual(comes(FALL, (3, 0, 0)), [(1, 0, 2), (1, 1, 1), (3, 0, 0)])
        self.assertEqual(comes(FALL, (2, 1, 1)), [(0, 0, 4), (0, 1, 3), (0, 2, 2), (2, 0, 2), (2, 1, 1)])

    def test_where_meetings_go_on_for_ever(self):
        self.assertEqual(comes(SWING, (3, 0)), [(1, 2), (2, 1), (3, 0)])
        self.assertEqual(comes(SWING, (1, 2)), [(1, 2), (2, 1), (3, 0)])

    def test_numbers_rise_as_numbers(self):
        self.assertEqual(comes(SWING, (11, 0))[0], (1, 10))
        self.assertEqual(comes(SWING, (11, 0)), [(z, 11 - z) for z in range(1, 12)])

    def test_just_as_many_as_most(self):
        self.assertEqual(len(comes(FALL, (4, 0, 0), most=6)), 6)
        self.assertEqual(len(comes(SWING, (300, 0), most=300)), 300)
        self.assertEqual(len(comes(FALL, (4, 0, 0), most=7)), 6)

    def test_one_more_than_most(self):
        self.refused(FALL, (4, 0, 0), 5)
        self.refused(SWING, (300, 0), 299)
        self.refused(SWING, (3, 0), 2)

    def test_most_one(self):
        self.assertEqual(comes(NO_ROWS, (3, 4), most=1), [(3, 4)])
        self.assertEqual(comes(SWING, (1, 0), most=1), [(1, 0)])
        self.refused(SWING, (2, 0), 1)

    def test_most_left_out_is_four_hundred(self):
        self.assertEqual(len(comes(GRID, (0, 0, 1, 1, 19, 0, 19, 0))), 400)
        with self.assertRaises(TooMany) as caught:
            comes(GRID, (1, 1, 0, 0, 19, 0, 19, 0))
        self.assertEqual(caught.exception.most, 400)
        self.assertEqual(len(comes(GRID, (1, 1, 0, 0, 19, 0, 19, 0), most=401)), 401)

    def test_up_to_a_thousand(self):
        kinds = ("s", "x", "y", "p", "q", "u", "v")
        rows = (("s", "x", "s", "y"), ("s", "p", "s", "q"), ("s", "u", "s", "v"))
        cube = Custom(kinds, rows, (("inn", "s"),))
        told = comes(cube, (1, 9, 0, 9, 0, 9, 0), most=1000)
        self.assertEqual(len(told), 1000)
        self.assertEqual(told, sorted(told))
        self.refused(cube, (1, 9, 0, 9, 0, 9, 0), 999)
        self.refused(cube, (1, 100, 0, 99, 0, 100, 0), 1000)

    def test_of_many_kinds_and_all_rows(self):
        letters = "abcdefghijklmnopqrstuvwxyz"
        kinds = tuple([one + other for one in "abc" for other in letters][:60])
        pairs = list(itertools.combinations_with_replacement(range(60), 2))
        ends = [(58, 59) if pair == (59, 59) else (59, 59) for pair in pairs]
        rows = tuple([tuple([kinds[place] for place in one + other]) for one, other in zip(pairs, ends)])
        custom = Custom(kinds, rows, (("inn", kinds[0]),), most=60)
        self.assertEqual(len(comes(custom, tuple([0] * 58 + [300, 0]), most=1000)), 301)
        self.refused(custom, tuple([5] * 60), 1000)

    def test_against_all_that_come_one_by_one(self):
        customs = list(customs_of(("z", "m"), 1)) + list(customs_of(("z", "m", "a"), 977))
        for custom in customs:
            for crowd in crowds_of(len(custom), 4):
                with self.subTest(custom=custom.rows, crowd=crowd):
                    self.assertEqual(comes(custom, crowd), sorted(all_that_come(custom, crowd)))

    def test_the_told_list_is_new_and_the_askers_own(self):
        told = comes(SWING, (3, 0))
        self.assertIs(type(told), list)
        self.assertTrue(all(type(crowd) is tuple for crowd in told))
        told.clear()
        told.append((9, 9))
        self.assertEqual(comes(SWING, (3, 0)), [(1, 2), (2, 1), (3, 0)])

    def test_by_name(self):
        self.assertEqual(comes(most=3, crowd=(3, 0), custom=SWING), [(1, 2), (2, 1), (3, 0)])
        with self.assertRaises(TypeError):
            comes(SWING, (3, 0), 3)


class WayTest(unittest.TestCase):
    def refused(self, custom, one, other, most):
        with self.assertRaises(TooMany) as caught:
            way(custom, one, other, most=most)
        self.assertEqual(caught.exception.most, most)

    def test_from_a_crowd_to_itself(self):
        self.assertEqual(way(SWING, (3, 0), (3, 0)), [])
        self.assertEqual(way(NO_ROWS, (3, 0), (3, 0)), [])
        self.assertEqual(way(FALL, (0, 0, 4), (0, 0, 4)), [])

    def test_the_shortest(self):
        self.assertEqual(way(FALL, (4, 0, 0), (0, 0, 4)), [0, 0, 1, 1])
        self.assertEqual(way(FALL, (4, 0, 0), (2, 0, 2)), [0, 1])
        self.assertEqual(way(SWING, (3, 0), (1, 2)), [0, 0])
        self.assertEqual(way(SWING, (1, 2), (3, 0)), [1, 1])

    def test_of_the_shortest_the_least(self):
        # Of three z's one becomes m, then all of the others do: by 0, 0 no more than by 0, 1.
        self.assertEqual(way(FORK, (3, 0, 0, 0), (1, 2, 0, 0)), [0, 0])
        self.assertEqual(way(FORK, (3, 0, 0, 0), (0, 3, 0, 0)), [0, 0, 1])
        self.assertEqual(way(FORK, (3, 2, 0, 0), (2, 1, 2, 0)), [0, 3])
        self.assertEqual(way(FORK, (1, 2, 1, 0), (0, 0, 3, 1)), [2, 3])

    def test_a_short_way_goes_ahead_of_a_lesser_one(self):
        custom = Custom(("z", "m", "a"), (("z", "z", "z", "m"), ("z", "m", "a", "a"), ("m", "m", "a", "a")), GATES)
        self.assertEqual(trail(custom, (2, 1, 0), [0, 2])[-1], (1, 0, 2))
        self.assertEqual(way(custom, (2, 1, 0), (1, 0, 2)), [1])
        self.assertEqual(way(custom, (3, 1, 0), (1, 1, 2)), [0, 1])
        self.assertEqual(way(custom, (0, 4, 0), (0, 0, 4)), [2, 2])

    def test_none_where_there_is_no_way(self):
        self.assertIsNone(way(NO_ROWS, (3, 4), (4, 3)))
        self.assertIsNone(way(FALL, (0, 0, 4), (4, 0, 0)))
        self.assertIsNone(way(SWING, (3, 0), (0, 3)))
        self.assertIsNone(way(SWING, (3, 0), (2, 0)))
        self.assertIsNone(way(SWING, (3, 0), (2, 2)))

    def test_just_as_many_as_most_come(self):
        self.assertEqual(way(FALL, (4, 0, 0), (0, 0, 4), most=6), [0, 0, 1, 1])
        self.assertIsNone(way(FALL, (4, 0, 0), (0, 4, 0), most=6))
        self.assertEqual(way(NO_ROWS, (3, 0), (3, 0), most=1), [])
        self.assertIsNone(way(NO_ROWS, (3, 0), (2, 1), most=1))

    def test_more_than_most_come_from_the_first_one(self):
        self.refused(FALL, (4, 0, 0), (0, 0, 4), 5)
        self.refused(SWING, (300, 0), (1, 299), 299)

    def test_refused_though_the_way_is_short_or_none_is(self):
        self.refused(FALL, (4, 0, 0), (4, 0, 0), 5)
        self.refused(FALL, (4, 0, 0), (2, 1, 1), 5)
        self.refused(FALL, (4, 0, 0), (0, 4, 0), 5)
        self.refused(SWING, (3, 0), (3, 0), 1)
        self.refused(SWING, (3, 0), (0, 3), 2)

    def test_only_what_comes_from_the_first_one_counts(self):
        self.assertIsNone(way(FALL, (0, 0, 4), (4, 0, 0), most=1))

    def test_most_left_out_is_four_hundred(self):
        last = (0, 0, 1, 1, 0, 19, 0, 19)
        self.assertEqual(way(GRID, (0, 0, 1, 1, 19, 0, 19, 0), last), [1] * 19 + [2] * 19)
        with self.assertRaises(TooMany) as caught:
            way(GRID, (1, 1, 0, 0, 19, 0, 19, 0), last)
        self.assertEqual(caught.exception.most, 400)
        self.assertEqual(way(GRID, (1, 1, 0, 0, 19, 0, 19, 0), last, most=401), [0] + [1] * 19 + [2] * 19)

    def test_long_ways(self):
        self.assertEqual(way(SWING, (300, 0), (1, 299)), [0] * 299)
        self.assertEqual(way(SWING, (1, 299), (300, 0), most=1000), [1] * 299)

    def test_against_all_lists_in_order(self):
        customs = list(customs_of(("z", "m"), 1)) + list(customs_of(("z", "m", "a"), 1483))
        for custom in customs:
            crowds = list(crowds_of(len(custom), 4))
            for one in crowds:
                ways = least_ways(custom, one)
                for other in crowds:
                    with self.subTest(custom=custom.rows, one=one, other=other):
                        self.assertEqual(way(custom, one, other), ways.get(other))

    def test_what_is_told_leads_there(self):
        for other in comes(FORK, (3, 2, 1, 0)):
            numbers = way(FORK, (3, 2, 1, 0), other)
            self.assertEqual(trail(FORK, (3, 2, 1, 0), numbers)[-1], other)
            with self.assertRaises(NoMeeting):
                trail(FORK, other, [*numbers, 4])

    def test_the_told_list_is_new_and_the_askers_own(self):
        told = way(SWING, (3, 0), (1, 2))
        self.assertIs(type(told), list)
        told.append(7)
        self.assertEqual(way(SWING, (3, 0), (1, 2)), [0, 0])
        way(SWING, (3, 0), (3, 0)).append(7)
        self.assertEqual(way(SWING, (3, 0), (3, 0)), [])

    def test_by_name(self):
        self.assertEqual(way(most=400, other=(1, 2), one=(3, 0), custom=SWING), [0, 0])
        with self.assertRaises(TypeError):
            way(SWING, (3, 0), (1, 2), 400)

    def test_nothing_of_the_custom_changes(self):
        shown = repr(FORK)
        way(FORK, (3, 0, 0, 0), (0, 3, 0, 0))
        comes(FORK, (3, 0, 0, 0))
        self.refused(FORK, (3, 0, 0, 0), (0, 3, 0, 0), 1)
        self.assertEqual(repr(FORK), shown)


if __name__ == "__main__":
    unittest.main()
