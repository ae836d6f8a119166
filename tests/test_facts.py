"""Facts: what is known of the cells of a story behind each answer."""

import copy
import random
import unittest

from maybegone.errors import Clash, GoneError, NoQuestion
from maybegone.stories import Facts, cells_at, steps_hold
from telling import (
    agreeing, births, closure_fates, questions, random_story, schedules, slow_fate, slow_steps_hold, slow_window,
)

STORY = (
    (("make", 0), ("stand", "x", 0)), (("make", 1), ("stand", "y", 1)), (("hold", 1, "f", 0),), (("stand", "x", None),),
    (("stand", "y", None),), (("ask", 0),), (("ask", 1),),
)


def seen(facts):
    """All that the facts tell."""
    story = facts.story
    nodes = [(cell, moment) for moment in range(len(story)) for cell in range(cells_at(story, moment))]
    return (
        story, facts.told, len(facts), [facts.fate(*node) for node in nodes], [facts.reasons(*node) for node in nodes],
        [facts.window(cell) for cell in range(len(births(story)))],
    )


def tower(many, asked):
    """Each cell holds the one ahead of it; then nothing is reached, and the questions are asked, one in each item."""
    story = [(("make", 0), ("stand", "x", 0))]
    story += [(("make", k), ("hold", k, "f", k - 1), ("stand", "x", k)) for k in range(1, many)]
    story += [(("stand", "x", None),)] + [(("ask", cell),) for cell in asked]
    return tuple(story)


class Telling(unittest.TestCase):

    def test_len_and_told(self):
        facts = Facts(STORY)
        self.assertEqual((facts.story, facts.told, len(facts)), (STORY, (), 2))
        self.assertEqual(facts.tell(1), 1)
        self.assertEqual((facts.told, len(facts)), ((1,), 1))
        self.assertEqual(facts.tell(1), 2)
        self.assertEqual((facts.told, len(facts)), ((1, 1), 0))

    def test_no_question(self):
        facts = Facts(STORY, (0, 0))
        before = seen(facts)
        for answer in (0, 1):
            with self.assertRaises(NoQuestion) as caught:
                facts.tell(answer)
            self.assertIsInstance(caught.exception, GoneError)
        self.assertEqual(seen(facts), before)
        self.assertRaises(NoQuestion, Facts(()).tell, 0)
        self.assertRaises(NoQuestion, Facts((), ()).tell, 1)

    def test_clash(self):
        facts = Facts(STORY, (1,))
        before = seen(facts)
        for _ in range(2):
            with self.assertRaises(Clash) as caught:
                facts.tell(0)
            self.assertEqual(steps_hold(STORY, (1, 0), caught.exception.steps), "clash")
            self.assertIsNone(steps_hold(STORY, (1,), caught.exception.steps))
            self.assertEqual(seen(facts), before)
        self.assertEqual(facts.tell(1), 2)

    def test_the_constructor_raises_what_tell_raises(self):
        with self.assertRaises(Clash) as caught:
            Facts(STORY, (1, 0))
        self.assertEqual(steps_hold(STORY, (1, 0), caught.exception.steps), "clash")
        self.assertRaises(NoQuestion, Facts, STORY, (1, 1, 0))
        self.assertRaises(NoQuestion, Facts, STORY, (0, 0, 0))
        # In the order in which the answers are told.
        self.assertRaises(Clash, Facts, STORY, (1, 0, 0))
        self.assertRaises(NoQuestion, Facts, (), (0,))

    def test_answers_by_keyword(self):
        self.assertEqual(Facts(STORY, answers=(0,)).told, (0,))
        self.assertEqual(Facts(story=STORY).told, ())

    def test_a_question_about_a_reached_cell(self):
        story = ((("make", 0), ("stand", "x", 0)), (("ask", 0),), (("stand", "x", None),), (("ask", 0),))
        with self.assertRaises(Clash) as caught:
            Facts(story, (1,))
        self.assertEqual(steps_hold(story, (1,), caught.exception.steps), "clash")
        self.assertEqual([Facts(story, (0, k)).window(0) for k in (0, 1)], [(None, None), (3, 3)])

    def test_two_questions_in_one_item(self):
        story = ((("make", 0), ("make", 1), ("hold", 1, "f", 0)), (("ask", 0), ("ask", 1), ("ask", 0)))
        self.assertRaises(Clash, Facts, story, (1, 0))
        self.assertRaises(Clash, Facts, story, (0, 1, 1))
        self.assertEqual(Facts(story, (0, 1, 0)).fate(1, 1), "gone")
        self.assertEqual(Facts(story, (1, 1, 1)).fate(1, 1), "gone")

    def test_what_an_item_does_is_not_so_at_its_own_moment(self):
        # The cell is reached from moment 2 on, and the question is asked at moment 1.
        story = ((("make", 0),), (("stand", "x", 0), ("ask", 0), ("stand", "x", None)), (("ask", 0),))
        self.assertEqual(Facts(story, (1, 1)).window(0), (1, 1))
        story = ((("make", 0),), (("stand", "x", 0), ("ask", 0)), (("ask", 0),))
        self.assertRaises(Clash, Facts, story, (1,))
        self.assertEqual(Facts(story).window(0), (None, None))

    def test_kinds(self):
        facts = Facts(STORY, (1,))
        self.assertIs(type(facts.told), tuple)
        self.assertIs(type(facts.tell(1)), int)
        self.assertIs(type(facts.window(0)), tuple)
        self.assertIs(type(facts.reasons(1, 6)), tuple)
        self.assertIs(type(facts.reasons(1, 6)[0]), tuple)


class Twins(unittest.TestCase):

    def test_unlike_answers(self):
        facts = Facts(STORY)
        one, other = facts.twin(), facts.twin()
        self.assertIsInstance(one, Facts)
        before = seen(facts)
        self.assertEqual(seen(one), before)
        one.tell(1)
        self.assertEqual(seen(facts), before)
        self.assertEqual(seen(other), before)
        other.tell(0)
        self.assertEqual(other.twin().tell(1), 2)
        self.assertEqual(seen(one), seen(Facts(STORY, (1,))))
        self.assertEqual(seen(other), seen(Facts(STORY, (0,))))
        facts.tell(0)
        facts.tell(0)
        self.assertEqual(seen(one), seen(Facts(STORY, (1,))))
        self.assertEqual((one.told, other.told, facts.told), ((1,), (0,), (0, 0)))

    def test_a_twin_of_a_twin_that_clashes(self):
        facts = Facts(STORY, (1,)).twin().twin()
        self.assertRaises(Clash, facts.tell, 0)
        self.assertEqual(seen(facts), seen(Facts(STORY, (1,))))
        self.assertEqual(facts.tell(1), 2)


class Windows(unittest.TestCase):

    def test_cells_that_are_never_gone(self):
        story = ((("make", 0), ("stand", "x", 0)), (("make", 1), ("keep", 1), ("stand", "y", 1)), (("stand", "y", None),), ())
        facts = Facts(story)
        self.assertEqual([facts.window(0), facts.window(1)], [(None, None), (None, None)])

    def test_a_cell_that_is_never_reached(self):
        self.assertEqual(Facts(((), (("make", 0),), (), ())).window(0), (2, None))

    def test_a_cell_of_the_last_item(self):
        story = ((("make", 0), ("stand", "x", 0)), (("make", 1), ("hold", 1, "f", 0), ("stand", "x", None)))
        facts = Facts(story)
        self.assertEqual([facts.window(0), facts.window(1)], [(None, None), (None, None)])

    def test_what_the_last_item_does(self):
        # At no moment of the story cell 1 holds cell 0, and cell 0 is not reached at any one.
        story = ((("make", 0), ("make", 1)), (("ask", 0),), (("ask", 0), ("hold", 1, "f", 0), ("stand", "x", 0)))
        facts = Facts(story, (1,))
        self.assertEqual([facts.window(0), facts.window(1)], [(1, 1), (1, None)])
        self.assertEqual(Facts(story, (0,)).window(0), (2, None))

    def test_a_gone_cell_that_is_held_anew(self):
        # No program does this: cell 1 takes hold of cell 0 when that one is gone.
        story = ((("make", 0), ("make", 1), ("make", 2)), (("ask", 0),), (("hold", 1, "f", 0),), (("hold", 2, "f", 1),), (), (("ask", 2),))
        facts = Facts(story, (1,))
        self.assertEqual([facts.window(cell) for cell in range(3)], [(1, 1), (1, 3), (1, 4)])
        self.assertEqual(facts.fate(2, 5), "gone")
        self.assertRaises(Clash, facts.tell, 0)
        self.assertEqual(Facts(story, (0,)).window(0), (2, None))
        # And if cell 2 is there at the end, so are all below it, up to when they were held.
        story = story[:1] + ((),) + story[2:] + ((("ask", 0),),)
        self.assertEqual([Facts(story, (0,)).window(cell) for cell in range(3)], [(6, None), (6, None), (6, None)])
        self.assertEqual([Facts(story, (0, 1)).window(cell) for cell in range(3)], [(6, 6), (6, 6), (6, 6)])

    def test_a_hold_that_ended(self):
        story = ((("make", 0), ("make", 1)), (("hold", 1, "f", 0),), (), (("hold", 1, "f", None),), (), (("ask", 1),), (("ask", 0),))
        self.assertEqual(Facts(story, (0,)).window(0), (4, None))
        self.assertEqual(Facts(story, (1,)).window(0), (1, None))
        # If cell 0 was gone while it was held, cell 1 was gone, too.
        self.assertEqual(Facts(story, (0, 1)).window(0), (4, 6))

    def test_a_ring(self):
        story = ((("make", 0), ("make", 1), ("hold", 0, "f", 1), ("hold", 1, "f", 0)), (), (("ask", 0),), (), (("ask", 1),))
        self.assertEqual([Facts(story, (1,)).window(cell) for cell in range(2)], [(1, 2), (1, 2)])
        self.assertEqual([Facts(story, (0,)).window(cell) for cell in range(2)], [(3, None), (3, None)])
        self.assertEqual([Facts(story, (0, 1)).window(cell) for cell in range(2)], [(3, 4), (3, 4)])
        self.assertRaises(Clash, Facts, story, (1, 0))


class AllSchedules(unittest.TestCase):
    """Small stories, of which all schedules can be gone through."""

    def check(self, facts, found):
        story = facts.story
        self.assertTrue(found)
        self.assertEqual(len(facts), len(questions(story)) - len(facts.told))
        for cell in range(len(births(story))):
            self.assertEqual(facts.window(cell), slow_window(story, found, cell), (story, facts.told, cell))
        for moment in range(len(story)):
            for cell in range(cells_at(story, moment)):
                fate = slow_fate(found, cell, moment)
                self.assertEqual(facts.fate(cell, moment), fate, (story, facts.told, cell, moment))
                steps = facts.reasons(cell, moment)
                if fate == "open":
                    self.assertIsNone(steps)
                else:
                    self.assertEqual(steps[-1][:3], (cell, moment, fate))
                    self.assertEqual(slow_steps_hold(story, facts.told, steps), "hold")
                    self.assertEqual(steps_hold(story, facts.told, steps), "hold")

    def check_telling(self, facts, answer, found):
        """Tells a twin the answer and returns it, or None if that clashes."""
        told = facts.told + (answer,)
        twin = facts.twin()
        before = seen(twin)
        if agreeing(facts.story, told, found):
            self.assertEqual(twin.tell(answer), len(told))
            self.assertEqual(twin.told, told)
        else:
            with self.assertRaises(Clash) as caught:
                twin.tell(answer)
            self.assertEqual(slow_steps_hold(facts.story, told, caught.exception.steps), "clash")
            self.assertEqual(steps_hold(facts.story, told, caught.exception.steps), "clash")
            self.assertEqual(seen(twin), before)
            twin = None
        self.assertEqual(seen(facts), before)
        return twin

    def test_random_stories(self):
        source = random.Random(13)
        counts = {"stories": 0, "clashes": 0, "answers": 0}
        while counts["stories"] < 500:
            story = random_story(source, source.randrange(1, 10), source.randrange(1, 5), source.randrange(0, 7))
            found = schedules(story)
            if len(found) > 600:
                continue
            counts["stories"] += 1
            held = copy.deepcopy(story)
            left = [Facts(story)]
            while left:
                facts = left.pop()
                agreed = agreeing(story, facts.told, found)
                self.check(facts, agreed)
                if not len(facts):
                    self.assertRaises(NoQuestion, facts.tell, 0)
                    continue
                twins = [self.check_telling(facts, answer, agreed) for answer in (0, 1)]
                counts["clashes"] += twins.count(None)
                counts["answers"] += 2
                left += [twin for twin in twins if twin is not None]
            self.assertEqual(story, held)
        self.assertGreater(counts["clashes"], 200)
        self.assertGreater(counts["answers"], 800)

    def test_the_same_calls_return_the_same(self):
        source = random.Random(14)
        for _ in range(60):
            story = random_story(source, 8, 4, 3)
            self.assertEqual(seen(Facts(story)), seen(Facts(story)))
            facts = Facts(story)
            self.assertEqual(seen(facts), seen(facts))


class LargeStories(unittest.TestCase):

    def check(self, facts):
        fates = closure_fates(facts.story, facts.told)
        for (cell, moment), fate in fates.items():
            self.assertEqual(facts.fate(cell, moment), fate)
        for cell in range(len(births(facts.story))):
            kinds = [fates[(cell, m)] for m in range(births(facts.story)[cell], len(facts.story))]
            first = kinds.count("there") + births(facts.story)[cell]
            last = first + kinds.count("open")
            ends = [m if m < len(facts.story) else None for m in (first, last)]
            self.assertEqual(facts.window(cell), tuple(ends))

    def test_random_stories(self):
        source = random.Random(15)
        clashes = 0
        for _ in range(40):
            story = random_story(source, source.randrange(20, 50), source.randrange(5, 14), 20)
            facts = Facts(story)
            while len(facts):
                answer = source.randrange(2)
                told = facts.told + (answer,)
                if closure_fates(story, told) is None:
                    with self.assertRaises(Clash) as caught:
                        facts.tell(answer)
                    self.assertEqual(steps_hold(story, told, caught.exception.steps), "clash")
                    clashes += 1
                    answer = 1 - answer
                facts.tell(answer)
                self.check(facts)
            fates = closure_fates(story, facts.told)
            for cell, moment in source.sample(sorted(fates), min(30, len(fates))):
                steps = facts.reasons(cell, moment)
                if fates[(cell, moment)] != "open":
                    self.assertEqual(steps[-1][:3], (cell, moment, fates[(cell, moment)]))
                    self.assertEqual(steps_hold(story, facts.told, steps), "hold")
        self.assertGreater(clashes, 100)

    def test_towers(self):
        # Whatever is known of one end is known of the other one.
        many = 100
        story = tower(many, (99, 0, 0, 99))
        facts = Facts(story, (0,))
        first = len(story) - 4
        self.assertEqual([facts.window(cell) for cell in (0, 50, 99)], [(first + 1, None)] * 3)
        self.assertEqual(facts.fate(0, first), "there")
        self.assertEqual(facts.fate(0, first + 1), "open")
        steps = facts.reasons(0, 60)
        self.assertEqual(steps[-1][:3], (0, 60, "there"))
        self.assertEqual(slow_steps_hold(story, (0,), steps), "hold")
        facts.tell(1)
        self.assertEqual([facts.window(cell) for cell in (0, 50, 99)], [(first + 1, first + 1)] * 3)
        steps = facts.reasons(99, len(story) - 1)
        self.assertEqual(steps[-1][:3], (99, len(story) - 1, "gone"))
        self.assertEqual(slow_steps_hold(story, (0, 1), steps), "hold")
        facts.tell(1)
        with self.assertRaises(Clash) as caught:
            facts.tell(0)
        self.assertEqual(slow_steps_hold(story, (0, 1, 1, 0), caught.exception.steps), "clash")
        self.assertEqual(facts.tell(1), 4)

    def test_towers_from_below(self):
        story = tower(100, (0, 99))
        with self.assertRaises(Clash) as caught:
            Facts(story, (1, 0))
        self.assertEqual(slow_steps_hold(story, (1, 0), caught.exception.steps), "clash")
        self.assertEqual(Facts(story, (0, 1)).window(0), (len(story) - 1, None))

    def test_many_questions_and_items(self):
        # 200 questions and 800 items: enough of these that a slow way would be felt.
        story = tower(100, [k // 2 for k in range(200)]) + ((),) * 499
        self.assertEqual(len(story), 800)
        for at in range(0, 200, 4):
            facts = Facts(story, (0,) * at)
            self.assertEqual(facts.fate(99, 799), "open")
            last = facts.twin()
            last.tell(1)
            self.assertEqual(last.fate(99, 799), "gone")
            self.assertEqual(last.reasons(99, 799)[-1][:3], (99, 799, "gone"))
            if at % 2 == 0:
                self.assertRaises(Clash, last.tell, 0)
        facts = Facts(story, (0,) * 200)
        self.assertEqual((len(facts), len(facts.told)), (0, 200))
        # The last question is about the cell that comes to all others.
        self.assertEqual([facts.window(cell) for cell in (0, 99)], [(301, None), (301, None)])

    def test_many_fields_that_are_filled_again_and_again(self):
        source = random.Random(16)
        items = [[("make", k), ("stand", "x", k)] for k in range(200)] + [[("stand", "x", None)]] + [[] for _ in range(599)]
        for item in items[200:]:
            item.extend(("hold", source.randrange(200), source.choice("fgh"), source.randrange(200)) for _ in range(2))
        for item in items[600:]:
            item.append(("ask", source.randrange(200)))
        story = tuple(tuple(item) for item in items)
        self.assertEqual((len(story), len(questions(story))), (800, 200))
        for seed in range(20):
            source = random.Random(seed)
            facts = Facts(story)
            while len(facts):
                cell, moment = questions(story)[len(facts.told)]
                fate = facts.fate(cell, moment)
                facts.tell(source.randrange(2) if fate == "open" else int(fate == "gone"))
            for cell in range(0, 200, 20):
                fate = facts.fate(cell, 799)
                if fate != "open":
                    steps = facts.reasons(cell, 799)
                    self.assertEqual(steps[-1][:3], (cell, 799, fate))
                    self.assertEqual(steps_hold(story, facts.told, steps), "hold")


if __name__ == "__main__":
    unittest.main()
