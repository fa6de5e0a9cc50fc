"""The one function of the interface: how calls are read and answers given back."""

import contextlib
import io
import unittest

from shapedrewards.process import answers
from tests.helper import GREATEST, GREATEST_SIGNED, LEAST_SIGNED, are_equivalent, ask, copy_rewards, create
from tests.helper import get_transition, optimal_values, scale_rewards, set_deterministic, set_reward, set_rewards
from tests.helper import set_transition, shape_rewards

SMALL = [
    create(2, 1, 1, 2),
    set_rewards(0, [1, 2, 3, 4]),
    set_transition(0, 0, [3, 1]),
    shape_rewards(0, [1, -1]),
    set_reward(0, 0, 0, 0, [5]),
    set_deterministic([1, 0]),
    get_transition(0, 0),
    optimal_values(0),
]

# Calls of the next stage, each with as many numbers as its form tells.
LATER_CALLS = [
    [11, 0, 1, 1],
    [12, 0, 1],
    [13, 1],
    [14, 0, 0],
    [14, 0, 2, 1, 0],
    [14, 0, 6, 9, 9, 9, 9, 9, 9],
    [15],
    [16],
    [17, 0],
    [17, 4, 0, 1, 1, 0],
    [17, 14] + [9] * 14,
    [18],
    [19, 1, 0, 1],
    [20, 1, 0, 1, 0, 0],
    [20, 1, 0, 1, 0, 2, 9, 1],
    [20, 1, 0, 1, 0, 6, 9, 9, 9, 9, 9, 9],
]


def joined(calls):
    return [number for call in calls for number in call]


class Examples(unittest.TestCase):
    start = [
        create(2, 2, 1, 2),
        set_deterministic([0, 1, 1, 0]),
        set_reward(0, 0, 1, 1, [4]),
        set_reward(0, 1, 0, 1, [2]),
        optimal_values(0),
    ]

    def test_the_rows_of_this_stage(self):
        given = ask(
            *self.start,
            copy_rewards(1),
            shape_rewards(1, [1, 0]),
            are_equivalent(),
            optimal_values(1),
        )
        expected = [[8], [0], [0, 0], [0, 0], [2, 6, 1, 4, 1], [0], [0], [1], [2, 4, 1, 4, 1]]
        self.assertEqual(given, expected)

    def test_the_rows_of_this_stage_among_the_others(self):
        given = ask(
            *self.start,
            [13, 0],
            [15],
            [16],
            copy_rewards(1),
            shape_rewards(1, [1, 0]),
            are_equivalent(),
            optimal_values(1),
            [14, 0, 2, 0, 0],
            [12, 2, 0],
        )
        self.assertEqual(given[:5], [[8], [0], [0, 0], [0, 0], [2, 6, 1, 4, 1]])
        self.assertEqual(given[8:12], [[0], [0], [1], [2, 4, 1, 4, 1]])


class Form(unittest.TestCase):
    def test_each_answer_comes_behind_how_many_numbers_it_has(self):
        calls = [9, 0, 2, 2, 1, 2, 8, 4, 0, 1, 1, 0, 1, 0, 0, 1, 1, 1, 4, 1, 0, 1, 0, 1, 1, 2, 10, 0, 7, 0, 1, 10, 2]
        expected = [1, -11, 1, 8, 1, 0, 2, 0, 0, 2, 0, 0, 5, 2, 6, 1, 4, 1, 3, 2, 0, 1, 1, -2]
        self.assertEqual(answers(calls), expected)

    def test_one_call_alone(self):
        self.assertEqual(answers([0, 2, 2, 1, 2]), [1, 8])
        self.assertEqual(answers([0, 1, 2, 1, 2]), [1, -22])
        self.assertEqual(answers([9]), [1, -11])

    def test_whole_numbers_and_never_true_or_false(self):
        given = answers(joined(SMALL + [are_equivalent(), copy_rewards(1), are_equivalent()]))
        self.assertIs(type(given), list)
        self.assertEqual({type(number) for number in given}, {int})

    def test_lists_of_every_length_are_read_to_their_end(self):
        refused = [set_reward(0, 0, 0, 0, [7] * length) for length in (0, 2, 3, 4)]
        refused += [set_rewards(1, [7] * length) for length in range(51) if length != 4]
        for first in range(0, len(refused), 40):
            part = refused[first:first + 40]
            given = ask(create(2, 1, 1, 2), *part, set_rewards(1, [7] * 4), set_reward(1, 0, 0, 0, [8]))
            self.assertEqual(given, [[4]] + [[-22]] * len(part) + [[0], [0, 7]])
        refused = [shape_rewards(0, [7] * length) for length in (0, 1, 3, 4, 5, 6)]
        refused += [set_transition(0, 0, [7] * length) for length in (0, 1, 3, 4, 5, 6)]
        refused += [set_deterministic([1] * length) for length in range(15) if length != 2]
        given = ask(create(2, 1, 1, 2), *refused, set_deterministic([1, 1]), get_transition(0, 0))
        self.assertEqual(given, [[4]] + [[-22]] * len(refused) + [[0], [2, 0, 1]])

    def test_numbers_in_a_list_are_not_taken_for_calls(self):
        given = ask(create(2, 1, 1, 2), set_rewards(0, [0, 2, 1, 9]), set_rewards(0, [9, 9]), optimal_values(0))
        self.assertEqual(given, [[4], [0], [-22], [2, 0, 1, 18, 1]])

    def test_the_greatest_numbers_that_may_be_handed_in(self):
        most = GREATEST
        calls = [
            create(2, 1, 1, 2),
            create(most, most, most, most),
            set_reward(most, most, most, most, [GREATEST_SIGNED] * 4),
            set_rewards(most, [LEAST_SIGNED] * 50),
            copy_rewards(most),
            shape_rewards(most, [GREATEST_SIGNED] * 6),
            scale_rewards(most, most),
            set_transition(most, most, [most] * 6),
            get_transition(most, most),
            set_deterministic([most] * 14),
            optimal_values(most),
            set_reward(0, 0, 0, 0, [LEAST_SIGNED]),
            set_rewards(0, [GREATEST_SIGNED] * 4),
            shape_rewards(0, [LEAST_SIGNED] * 2),
            scale_rewards(0, most),
            set_transition(0, 0, [most] * 2),
            set_deterministic([most] * 2),
        ]
        expected = [4, -22, -2, -2, -2, -2, -2, -2, -2, -22, -2, -22, -22, -22, -22, -22, -22]
        self.assertEqual(ask(*calls), [[code] for code in expected])

    def test_the_longest_request(self):
        calls = [create(4, 3, 9, 10)] + [set_rewards(0, [1] * 50)] * 59
        self.assertEqual(ask(*calls), [[48]] + [[-22]] * 59)
        calls = [create(4, 3, 9, 10)] + [optimal_values(0)] * 59
        self.assertEqual(ask(*calls), [[48]] + [[4, 0, 1, 0, 1, 0, 1, 0, 1]] * 59)

    def test_calls_of_the_next_stage_are_read_by_their_form(self):
        for later in LATER_CALLS:
            given = ask(later, *SMALL[:2], later, set_reward(0, 0, 0, 1, [7]), later, get_transition(1, 0))
            self.assertEqual(given[0], [-11])
            self.assertEqual(given[1:3] + [given[4], given[6]], [[4], [0], [0, 2], [2, 0, 1]])


class NothingElse(unittest.TestCase):
    def test_what_is_handed_in_is_the_same_afterwards(self):
        calls = joined(SMALL)
        same = list(calls)
        answers(calls)
        self.assertEqual(calls, same)

    def test_what_is_handed_in_is_not_changed_for_a_while_either(self):
        class Watched(list):
            def refuse(self, *given):
                raise AssertionError("what is handed in is changed")

            __setitem__ = __delitem__ = __iadd__ = __imul__ = refuse
            append = extend = insert = pop = remove = clear = sort = reverse = refuse

        self.assertEqual(answers(Watched(joined(SMALL))), answers(joined(SMALL)))

    def test_one_time_does_not_know_of_another(self):
        first = answers(joined(SMALL))
        self.assertEqual(answers(joined(SMALL)), first)
        self.assertEqual(answers(get_transition(0, 0)), [1, -11])
        self.assertEqual(answers(joined([create(2, 1, 1, 2), optimal_values(0)])), [1, 4, 5, 2, 0, 1, 0, 1])
        self.assertEqual(answers(joined(SMALL)), first)

    def test_what_is_given_back_may_be_changed(self):
        first = answers(joined(SMALL))
        kept = list(first)
        first.clear()
        self.assertEqual(answers(joined(SMALL)), kept)

    def test_it_prints_nothing(self):
        printed, complained = io.StringIO(), io.StringIO()
        with contextlib.redirect_stdout(printed), contextlib.redirect_stderr(complained):
            answers(joined(SMALL))
        self.assertEqual(printed.getvalue() + complained.getvalue(), "")


if __name__ == "__main__":
    unittest.main()
