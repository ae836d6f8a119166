"""steps_hold: what steps are, and which of them clash."""

import copy
import random
import unittest

from maybegone.errors import Clash
from maybegone.stories import Facts, cells_at, steps_hold
from telling import questions, random_story, slow_steps_hold

# Cell 1 holds cell 0 from moment 3 on; both are reached up to moment 4.
STORY = (
    (("make", 0), ("stand", "x", 0)), (("make", 1), ("stand", "y", 1)), (("hold", 1, "f", 0),), (("stand", "x", None),),
    (("stand", "y", None),), (("ask", 0),), (("ask", 1),), (("ask", 1), ("ask", 0)),
)
GONE = (0, 5, "gone", ("asked", 0))
THERE = (1, 6, "there", ("asked", 1))


class Wheres(unittest.TestCase):

    def hold(self, answers, *steps):
        result = steps_hold(STORY, answers, steps)
        self.assertEqual(result, slow_steps_hold(STORY, answers, steps))
        return result


class Asked(Wheres):

    def test_right(self):
        self.assertEqual(self.hold((1,), GONE), "hold")
        self.assertEqual(self.hold((0,), (0, 5, "there", ("asked", 0))), "hold")
        self.assertEqual(self.hold((0, 0, 1, 1), (0, 7, "gone", ("asked", 3))), "hold")
        self.assertEqual(self.hold((0, 0, 1, 1), (1, 7, "gone", ("asked", 2)), (1, 6, "there", ("asked", 1))), "hold")

    def test_the_answer_says_something_else(self):
        self.assertIsNone(self.hold((0,), GONE))
        self.assertIsNone(self.hold((1,), (0, 5, "there", ("asked", 0))))

    def test_another_cell_or_moment(self):
        self.assertIsNone(self.hold((1,), (1, 5, "gone", ("asked", 0))))
        self.assertIsNone(self.hold((1,), (0, 6, "gone", ("asked", 0))))
        self.assertIsNone(self.hold((1,), (0, 4, "gone", ("asked", 0))))
        self.assertIsNone(self.hold((1, 1, 1, 1), (1, 7, "gone", ("asked", 1))))
        self.assertIsNone(self.hold((1, 1, 1, 1), (1, 7, "gone", ("asked", 3))))

    def test_a_question_that_has_no_answer(self):
        self.assertIsNone(self.hold((), GONE))
        self.assertIsNone(self.hold((0,), THERE))
        self.assertIsNone(self.hold((1, 1, 1, 1), (0, 5, "gone", ("asked", 4))))
        self.assertIsNone(self.hold((1, 1, 1, 1), (0, 5, "gone", ("asked", -4))))
        self.assertIsNone(self.hold((1, 1, 1, 1), (0, 7, "gone", ("asked", -1))))
        self.assertIsNone(self.hold((1,), (0, 5, "gone", ("asked", 10 ** 50))))

    def test_what_is_no_number(self):
        for number in (False, "0", None, (0,), [0], {}, (), ("asked", 0)):
            self.assertIsNone(self.hold((1, 1), (0, 5, "gone", ("asked", number))))
        self.assertIsNone(self.hold((1, 1), (1, 6, "gone", ("asked", True))))


class Reached(Wheres):

    def test_right(self):
        self.assertEqual(self.hold((), (0, 4, "there", ("reached",))), "hold")
        self.assertEqual(self.hold((), (0, 1, "there", ("reached",)), (1, 2, "there", ("reached",))), "hold")
        self.assertEqual(self.hold((), (1, 4, "there", ("reached",))), "hold")

    def test_not_reached(self):
        self.assertIsNone(self.hold((), (0, 5, "there", ("reached",))))
        self.assertIsNone(self.hold((0,), (0, 5, "there", ("reached",))))
        self.assertIsNone(self.hold((), (1, 7, "there", ("reached",))))

    def test_reached_and_gone(self):
        self.assertIsNone(self.hold((), (0, 4, "gone", ("reached",))))

    def test_too_long(self):
        self.assertIsNone(self.hold((), (0, 4, "there", ("reached", 0))))
        self.assertIsNone(self.hold((), (0, 1, "there", ("reached",)), (0, 4, "there", ("reached", 0))))

    def test_kept_and_rings(self):
        story = ((("make", 0), ("make", 1), ("hold", 0, "f", 1), ("hold", 1, "g", 0)), (("keep", 1),), ())
        self.assertEqual(steps_hold(story, (), ((0, 2, "there", ("reached",)),)), "hold")
        self.assertIsNone(steps_hold(story, (), ((0, 1, "there", ("reached",)),)))


class Holder(Wheres):

    def test_right(self):
        self.assertEqual(self.hold((1,), GONE, (1, 5, "gone", ("holder", 0))), "hold")

    def test_at_another_moment(self):
        self.assertIsNone(self.hold((1,), GONE, (1, 6, "gone", ("holder", 0))))
        self.assertIsNone(self.hold((1,), GONE, (1, 4, "gone", ("holder", 0))))
        self.assertEqual(self.hold((1,), GONE, (0, 6, "gone", ("later", 0)), (1, 6, "gone", ("holder", 1))), "hold")

    def test_held_and_holder_the_wrong_way_round(self):
        self.assertIsNone(self.hold((0, 1), (1, 6, "gone", ("asked", 1)), (0, 6, "gone", ("holder", 0))))

    def test_another_state(self):
        self.assertIsNone(self.hold((1,), GONE, (1, 5, "there", ("holder", 0))))
        self.assertIsNone(self.hold((0,), (0, 5, "there", ("asked", 0)), (1, 5, "gone", ("holder", 0))))
        self.assertIsNone(self.hold((0,), (0, 5, "there", ("asked", 0)), (1, 5, "there", ("holder", 0))))

    def test_another_row(self):
        rows = (GONE, (0, 6, "gone", ("later", 0)), (1, 6, "gone", ("holder", 1)))
        self.assertEqual(self.hold((1,), *rows), "hold")
        self.assertIsNone(self.hold((1,), *rows[:2], (1, 6, "gone", ("holder", 0))))

    def test_a_later_row_or_its_own(self):
        self.assertIsNone(self.hold((1,), (1, 5, "gone", ("holder", 1)), GONE))
        self.assertIsNone(self.hold((1,), GONE, (1, 5, "gone", ("holder", 1))))
        self.assertIsNone(self.hold((1,), GONE, (1, 5, "gone", ("holder", 2))))
        self.assertIsNone(self.hold((1,), GONE, (1, 5, "gone", ("holder", -1))))
        self.assertIsNone(self.hold((1,), GONE, (1, 5, "gone", ("holder", -2))))

    def test_true_is_no_number(self):
        self.assertIsNone(self.hold((1,), GONE, (1, 5, "gone", ("holder", False))))
        rows = ((0, 4, "there", ("reached",)), GONE)
        self.assertEqual(self.hold((1,), *rows, (1, 5, "gone", ("holder", 1))), "hold")
        self.assertIsNone(self.hold((1,), *rows, (1, 5, "gone", ("holder", True))))

    def test_a_field_that_holds_no_more(self):
        story = (
            (("make", 0), ("make", 1), ("make", 2), ("hold", 0, "f", 1)), (("hold", 0, "f", 2),), (("hold", 0, "f", None),), (("ask", 1),),
        )
        for moment, result in ((1, "hold"), (2, None), (3, None)):
            asked = story[:moment] + ((("ask", 1),) + story[moment],) + story[moment + 1:]
            steps = ((1, moment, "gone", ("asked", 0)), (0, moment, "gone", ("holder", 0)))
            self.assertEqual(steps_hold(asked, (1,), steps), result)

    def test_a_cell_that_holds_itself(self):
        story = ((("make", 0), ("hold", 0, "f", 0)), (("ask", 0),))
        steps = ((0, 1, "gone", ("asked", 0)), (0, 1, "gone", ("holder", 0)))
        self.assertEqual(steps_hold(story, (1,), steps), "hold")
        self.assertIsNone(steps_hold(story, (1,), steps[1:]))


class Held(Wheres):

    def test_right(self):
        self.assertEqual(self.hold((0, 0), THERE, (0, 6, "there", ("held", 0))), "hold")

    def test_at_another_moment(self):
        self.assertIsNone(self.hold((0, 0), THERE, (0, 5, "there", ("held", 0))))
        self.assertIsNone(self.hold((0, 0), THERE, (0, 7, "there", ("held", 0))))

    def test_ahead_of_the_hold(self):
        rows = (THERE, (1, 3, "there", ("earlier", 0)), (1, 2, "there", ("earlier", 0)))
        self.assertEqual(self.hold((0, 0), *rows, (0, 3, "there", ("held", 1))), "hold")
        self.assertIsNone(self.hold((0, 0), *rows, (0, 2, "there", ("held", 2))))

    def test_the_wrong_way_round(self):
        self.assertIsNone(self.hold((0,), (0, 5, "there", ("asked", 0)), (1, 5, "there", ("held", 0))))

    def test_another_state(self):
        self.assertIsNone(self.hold((0, 0), THERE, (0, 6, "gone", ("held", 0))))
        self.assertIsNone(self.hold((0, 1), (1, 6, "gone", ("asked", 1)), (0, 6, "gone", ("held", 0))))
        self.assertIsNone(self.hold((0, 1), (1, 6, "gone", ("asked", 1)), (0, 6, "there", ("held", 0))))

    def test_a_later_row_or_its_own(self):
        self.assertIsNone(self.hold((0, 0), (0, 6, "there", ("held", 1)), THERE))
        self.assertIsNone(self.hold((0, 0), THERE, (0, 6, "there", ("held", 1))))


class LaterAndEarlier(Wheres):

    def test_right(self):
        self.assertEqual(self.hold((1,), GONE, (0, 6, "gone", ("later", 0)), (0, 7, "gone", ("later", 1))), "hold")
        self.assertEqual(self.hold((1,), GONE, (0, 7, "gone", ("later", 0))), "hold")
        self.assertEqual(self.hold((0, 0), THERE, (1, 5, "there", ("earlier", 0)), (1, 2, "there", ("earlier", 0))), "hold")

    def test_the_same_moment(self):
        self.assertIsNone(self.hold((1,), GONE, (0, 5, "gone", ("later", 0))))
        self.assertIsNone(self.hold((0, 0), THERE, (1, 6, "there", ("earlier", 0))))

    def test_the_wrong_way(self):
        self.assertIsNone(self.hold((1,), GONE, (0, 4, "gone", ("later", 0))))
        self.assertIsNone(self.hold((0, 0), THERE, (1, 7, "there", ("earlier", 0))))

    def test_another_cell(self):
        self.assertIsNone(self.hold((1,), GONE, (1, 6, "gone", ("later", 0))))
        self.assertIsNone(self.hold((0, 0), THERE, (0, 5, "there", ("earlier", 0))))

    def test_another_state(self):
        self.assertIsNone(self.hold((1,), GONE, (0, 6, "there", ("later", 0))))
        self.assertIsNone(self.hold((1,), GONE, (0, 4, "gone", ("earlier", 0))))
        self.assertIsNone(self.hold((0, 0), THERE, (1, 7, "there", ("later", 0))))
        self.assertIsNone(self.hold((0, 0), THERE, (1, 5, "gone", ("earlier", 0))))
        self.assertIsNone(self.hold((1,), GONE, (0, 4, "there", ("earlier", 0))))
        self.assertIsNone(self.hold((0, 0), THERE, (1, 7, "gone", ("later", 0))))

    def test_a_later_row_or_its_own(self):
        self.assertIsNone(self.hold((1,), (0, 6, "gone", ("later", 1)), GONE))
        self.assertIsNone(self.hold((1,), GONE, (0, 6, "gone", ("later", 1))))
        self.assertIsNone(self.hold((0, 0), (1, 5, "there", ("earlier", 1)), THERE))


class Rows(Wheres):

    def test_no_rows(self):
        self.assertEqual(self.hold(()), "hold")
        self.assertEqual(steps_hold((), (), ()), "hold")

    def test_values_that_are_no_steps(self):
        for value in (None, 0, 1, True, "", "hold", [], {}, [GONE], {"a": GONE}, (None,), (0,), ("",), ("gone",), ((),), ([],), ({},),
                      GONE, (GONE, None), (GONE, ()), 10 ** 59, ((GONE,),), (GONE, (GONE,)), STORY, "abcd", ("abcd",)):
            self.assertIsNone(steps_hold(STORY, (1,), value))

    def test_a_wrong_row_anywhere(self):
        rows = (GONE, (1, 5, "gone", ("holder", 0)), (1, 6, "gone", ("later", 1)))
        self.assertEqual(self.hold((1, 0), *rows, THERE), "clash")
        for at in range(4):
            for wrong in (None, (), 5, (0, 5, "gone"), [0, 5, "gone", ("asked", 0)]):
                self.assertIsNone(self.hold((1, 0), *(rows[:at] + (wrong,) + rows[at:] + (THERE,))))

    def test_too_short_and_too_long(self):
        self.assertIsNone(self.hold((1,), GONE[:3]))
        self.assertIsNone(self.hold((1,), GONE + (0,)))
        for why in ((), ("asked",), ("asked", 0, 0), ("reached", None), ("holder",), ("later",), (0,), ("asked", 0, None)):
            self.assertIsNone(self.hold((1,), (0, 5, "gone", why)))
        for why in (("later",), ("later", 0, 0), ("later", 0, ()), ()):
            self.assertIsNone(self.hold((1,), GONE, (0, 6, "gone", why)))

    def test_lists_in_the_place_of_tuples(self):
        self.assertIsNone(steps_hold(STORY, (1,), [GONE]))
        self.assertIsNone(steps_hold(STORY, (1,), (list(GONE),)))
        self.assertIsNone(steps_hold(STORY, (1,), ((0, 5, "gone", ["asked", 0]),)))

    def test_states_and_words(self):
        for state in ("", "GONE", "open", None, 1, True, ("gone",), ["gone"], {"gone": 1}):
            self.assertIsNone(self.hold((1,), (0, 5, state, ("asked", 0))))
        for word in ("", "Asked", "ask", None, 0, ("asked",), ["asked"], {}, "hold", "reached", "there"):
            self.assertIsNone(self.hold((1,), (0, 5, "gone", (word, 0))))
        for why in (None, 0, "asked", "reached", {"asked": 0}, ["reached"]):
            self.assertIsNone(self.hold((1,), (0, 5, "gone", why)))
            self.assertIsNone(self.hold((1,), (0, 4, "there", why)))

    def test_moments_and_cells_that_the_story_does_not_have(self):
        for cell, moment in ((2, 4), (-1, 4), (-2, 4), (0, -1), (0, -4), (0, 0), (1, 1), (1, 0), (0, 8), (0, 9), (10 ** 59, 4), (0, 10 ** 59)):
            self.assertIsNone(self.hold((), (cell, moment, "there", ("reached",))))

    def test_what_is_no_cell_or_moment(self):
        for wrong in (True, False, None, "0", (0,), [0], {}):
            self.assertIsNone(self.hold((), (wrong, 4, "there", ("reached",))))
            self.assertIsNone(self.hold((), (0, wrong, "there", ("reached",))))
        self.assertIsNone(self.hold((), (True, 2, "there", ("reached",))))
        self.assertIsNone(self.hold((), (0, True, "there", ("reached",))))

    def test_cells_that_are_made_in_the_last_item(self):
        story = ((), (("make", 0), ("stand", "x", 0)))
        for moment in range(3):
            self.assertIsNone(steps_hold(story, (), ((0, moment, "there", ("reached",)),)))


class Clashes(Wheres):

    def test_the_same_cell_and_moment(self):
        rows = (GONE, (1, 5, "gone", ("holder", 0)), (1, 6, "gone", ("later", 1)), THERE)
        self.assertEqual(self.hold((1, 0), *rows), "clash")
        self.assertEqual(self.hold((1, 0), *rows, (1, 4, "there", ("reached",))), "clash")
        self.assertEqual(self.hold((1, 0), THERE, GONE, (1, 6, "gone", ("later", 3))), None)
        self.assertEqual(self.hold((1, 0), THERE, GONE, (1, 5, "gone", ("holder", 1)), (1, 6, "gone", ("later", 2))), "clash")

    def test_other_cells_or_moments(self):
        self.assertEqual(self.hold((1, 0), GONE, THERE), "hold")
        self.assertEqual(self.hold((1, 0), GONE, (1, 5, "gone", ("holder", 0)), THERE), "hold")
        self.assertEqual(self.hold((1, 0), GONE, THERE, (1, 5, "there", ("earlier", 1))), "hold")
        self.assertEqual(self.hold((0, 1), (0, 5, "there", ("asked", 0)), (1, 6, "gone", ("asked", 1))), "hold")

    def test_unlike_answers_at_one_moment(self):
        story = ((("make", 0),), (("ask", 0), ("ask", 0)))
        rows = ((0, 1, "gone", ("asked", 0)), (0, 1, "there", ("asked", 1)))
        self.assertEqual(steps_hold(story, (1, 0), rows), "clash")
        self.assertIsNone(steps_hold(story, (1, 1), rows))

    def test_a_reached_cell_that_is_said_to_be_gone(self):
        story = ((("make", 0), ("stand", "x", 0)), (("ask", 0),))
        rows = ((0, 1, "gone", ("asked", 0)), (0, 1, "there", ("reached",)))
        self.assertEqual(steps_hold(story, (1,), rows), "clash")


def changed_steps(source, steps):
    """The steps with some part changed a little."""
    rows = list(steps)
    at = source.randrange(len(rows))
    cell, moment, state, why = rows[at]
    last = why[-1] if len(why) == 2 else 0
    rows[at] = source.choice((
        (cell + 1, moment, state, why), (cell - 1, moment, state, why), (cell, moment + 1, state, why), (cell, moment - 1, state, why),
        (cell, moment, "there" if state == "gone" else "gone", why), (cell, moment, state, why[:1]), (cell, moment, state, why + (0,)),
        (cell, moment, state, (why[0], last + 1)), (cell, moment, state, (why[0], last - 1)), (cell, moment, state, (why[0], bool(last))),
        (cell, moment, state, ("reached",)), (cell, moment, state, (source.choice(("later", "earlier", "held", "holder", "asked")), last)),
        (bool(cell), moment, state, why), (cell, moment, state, list(why)), (cell, moment, state), [cell, moment, state, why],
        (cell, moment, state, (why[0], source.randrange(len(rows)))), rows[source.randrange(len(rows))],
    ))
    if source.randrange(6) == 0:
        rows.pop(source.randrange(len(rows)))
    if source.randrange(6) == 0:
        source.shuffle(rows)
    return tuple(rows)


class AllSteps(unittest.TestCase):

    def test_against_the_slow_way(self):
        source = random.Random(12)
        results = {"clash": 0, "hold": 0, None: 0}
        for _ in range(500):
            story = random_story(source, source.randrange(3, 10), 4, 6)
            facts = Facts(story)
            found = []
            while len(facts):
                try:
                    facts.tell(source.randrange(2))
                except Clash as clash:
                    found.append(clash.steps)
                    break
            answers = facts.told + tuple(source.randrange(2) for _ in questions(story)[len(facts.told):])
            places = [(cell, moment) for moment in range(len(story)) for cell in range(cells_at(story, moment))]
            known = [facts.reasons(cell, moment) for cell, moment in places]
            found += source.sample([steps for steps in known if steps], min(4, len([steps for steps in known if steps])))
            if found:
                found.append(source.choice(found) + found[0])
            for steps in found:
                for value in (steps, changed_steps(source, steps), changed_steps(source, steps), steps[1:]):
                    for told in (facts.told, answers):
                        result = steps_hold(story, told, value)
                        self.assertEqual(result, slow_steps_hold(story, told, value), (story, told, value))
                        self.assertEqual(result, steps_hold(story, told, copy.deepcopy(value)))
                        results[result] += 1
        self.assertGreater(min(results.values()), 100, results)

    def test_nothing_is_changed(self):
        value = (GONE, [1, 5, "gone", ["holder", {"a": [0]}]])
        held = copy.deepcopy(value)
        steps_hold(STORY, (1,), value)
        self.assertEqual(value, held)


if __name__ == "__main__":
    unittest.main()
