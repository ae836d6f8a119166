"""cells_at, reached_at and comers at each moment of stories."""

import copy
import random
import unittest

from maybegone.stories import cells_at, comers, reached_at
from telling import random_story, scene, slow_comers, slow_reached

TWO = (
    (("make", 0), ("stand", "x", 0)), (("make", 1), ("stand", "y", 1)), (("hold", 1, "f", 0),), (("stand", "x", None),),
    (("stand", "y", None),), (("ask", 0),), (("ask", 1),),
)


def made(many):
    """An item that makes so many cells, for which no name stands."""
    return tuple(("make", cell) for cell in range(many))


class Cells(unittest.TestCase):

    def test_first_middle_last(self):
        self.assertEqual([cells_at(TWO, moment) for moment in range(8)], [0, 1, 2, 2, 2, 2, 2, 2])

    def test_cells_of_the_last_item(self):
        story = ((), (("make", 0), ("make", 1)))
        self.assertEqual([cells_at(story, moment) for moment in range(3)], [0, 0, 2])

    def test_the_empty_story(self):
        self.assertEqual(cells_at((), 0), 0)
        self.assertEqual(reached_at((), 0), ())


class Reached(unittest.TestCase):

    def test_first_middle_last(self):
        self.assertEqual(
            [reached_at(TWO, moment) for moment in range(8)], [(), (0,), (0, 1), (0, 1), (0, 1), (), (), ()])

    def test_what_the_last_item_does(self):
        story = (made(2), (("stand", "x", 1),))
        self.assertEqual([reached_at(story, moment) for moment in range(3)], [(), (), (1,)])

    def test_a_name_that_stands_for_another_cell(self):
        story = (made(2), (("stand", "x", 0),), (("stand", "x", 1),), (("stand", "x", 0), ("stand", "x", None)))
        self.assertEqual([reached_at(story, moment) for moment in range(5)], [(), (), (0,), (1,), ()])

    def test_a_name_that_stands_for_nothing_already(self):
        story = (made(1), (("stand", "x", None),), (("stand", "x", None),), (("stand", "x", 0),))
        self.assertEqual([reached_at(story, moment) for moment in range(5)], [(), (), (), (), (0,)])

    def test_two_names_for_a_cell(self):
        story = (made(1), (("stand", "x", 0), ("stand", "y", 0)), (("stand", "x", None),), (("stand", "y", None),))
        self.assertEqual([reached_at(story, moment) for moment in range(5)], [(), (), (0,), (0,), ()])

    def test_kept_cells(self):
        story = (made(3), (("hold", 2, "f", 0),), (("keep", 2), ("keep", 2)), (("hold", 2, "f", 1),), (("stand", "x", 2), ("stand", "x", None)))
        self.assertEqual([reached_at(story, moment) for moment in range(6)], [(), (), (), (0, 2), (1, 2), (1, 2)])

    def test_a_field_filled_anew_and_emptied(self):
        story = (
            made(3), (("stand", "x", 0), ("hold", 0, "f", 1)), (("hold", 0, "f", 2),), (("hold", 0, "f", None),),
            (("hold", 0, "f", None),), (("hold", 0, "f", 1), ("hold", 0, "g", 2)), (("hold", 0, "f", None),),
        )
        self.assertEqual(
            [reached_at(story, moment) for moment in range(8)],
            [(), (), (0, 1), (0, 2), (0,), (0,), (0, 1, 2), (0, 2)])

    def test_the_same_field_of_two_cells(self):
        story = (made(4), (("stand", "x", 0), ("stand", "y", 1)), (("hold", 0, "f", 2), ("hold", 1, "f", 3)), (("hold", 0, "f", None),))
        self.assertEqual(reached_at(story, 3), (0, 1, 2, 3))
        self.assertEqual(reached_at(story, 4), (0, 1, 3))

    def test_rings(self):
        story = (made(3), (("hold", 0, "f", 1), ("hold", 1, "f", 2), ("hold", 2, "f", 0)), (("stand", "x", 1),), (("stand", "x", None),))
        self.assertEqual([reached_at(story, moment) for moment in range(5)], [(), (), (), (0, 1, 2), ()])

    def test_a_cell_that_holds_itself(self):
        story = (made(1) + (("hold", 0, "f", 0),), (("stand", "x", 0),), (("stand", "x", None),))
        self.assertEqual([reached_at(story, moment) for moment in range(4)], [(), (), (0,), ()])

    def test_a_field_has_the_name_of_a_name(self):
        story = (made(2), (("stand", "f", 0), ("hold", 0, "f", 1)), (("stand", "f", None), ("stand", "g", 0)))
        self.assertEqual(reached_at(story, 3), (0, 1))


class Comers(unittest.TestCase):

    def test_first_middle_last(self):
        self.assertEqual(comers(TWO, 1, 0), (0,))
        self.assertEqual(comers(TWO, 2, 0), (0,))
        self.assertEqual(comers(TWO, 3, 0), (0, 1))
        self.assertEqual(comers(TWO, 7, 0), (0, 1))
        self.assertEqual(comers(TWO, 7, 1), (1,))

    def test_rings_and_towers(self):
        story = (made(5), (("hold", 0, "f", 1), ("hold", 1, "f", 2), ("hold", 2, "f", 1), ("hold", 3, "f", 4)), (("hold", 2, "f", 3),))
        self.assertEqual([comers(story, 2, cell) for cell in range(5)], [(0,), (0, 1, 2), (0, 1, 2), (3,), (3, 4)])
        self.assertEqual([comers(story, 3, cell) for cell in range(5)], [(0,), (0, 1), (0, 1, 2), (0, 1, 2, 3), (0, 1, 2, 3, 4)])

    def test_reached_cells_come_too(self):
        story = (made(2), (("stand", "x", 0), ("hold", 0, "f", 1), ("hold", 0, "g", 0)))
        self.assertEqual(comers(story, 2, 1), (0, 1))
        self.assertEqual(comers(story, 2, 0), (0,))


class AllStories(unittest.TestCase):

    def test_random_stories(self):
        source = random.Random(11)
        reached = 0
        for _ in range(400):
            story = random_story(source, source.randrange(12), source.randrange(1, 7), 4)
            held = copy.deepcopy(story)
            for moment in range(len(story) + 1):
                many = scene(story, moment)[0]
                self.assertEqual(cells_at(story, moment), many)
                self.assertEqual(reached_at(story, moment), slow_reached(story, moment))
                self.assertIs(type(reached_at(story, moment)), tuple)
                reached += 0 < len(reached_at(story, moment)) < many
                for cell in range(many):
                    self.assertEqual(comers(story, moment, cell), slow_comers(story, moment, cell))
            self.assertEqual(story, held)
        self.assertGreater(reached, 200)

    def test_a_large_story(self):
        # 800 items, 2000 events, 200 cells.
        story = tuple(
            [(("make", k), ("stand", "x", k), ("hold", k, "f", max(k - 1, 0))) for k in range(200)]
            + [(("hold", k % 200, "g", (k * 7) % 200), ("hold", k % 200, "g", None)) for k in range(600)])
        self.assertEqual(len(story), 800)
        self.assertEqual(reached_at(story, 800), tuple(range(200)))
        self.assertEqual(comers(story, 500, 0), tuple(range(200)))
        self.assertEqual(comers(story, 100, 98), (98, 99))


if __name__ == "__main__":
    unittest.main()
