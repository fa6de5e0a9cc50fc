"""The one function of the interface: how calls are read and answers given back."""

import ast
import contextlib
import io
import pathlib
import re
import unittest

from shapedrewards.process import answers
from tests.helper import GREATEST, GREATEST_SIGNED, LEAST_SIGNED, Numbers, Reckoned, action_value, answer
from tests.helper import are_equivalent, ask, copy_rewards, create, distinguishes, distinguishing_world
from tests.helper import expected_reward, get_transition, optimal_actions, optimal_policy, optimal_values
from tests.helper import policy_values, regrets, same_optimal_actions, scale_rewards, set_deterministic
from tests.helper import set_reward, set_rewards, set_transition, shape_rewards, value_with_transition, written

SMALL = [
    create(2, 1, 1, 2),
    set_rewards(0, [1, 2, 3, 4]),
    set_transition(0, 0, [3, 1]),
    shape_rewards(0, [1, -1]),
    set_reward(0, 0, 0, 0, [5]),
    set_deterministic([1, 0]),
    get_transition(0, 0),
    optimal_values(0),
]

# Every call of the interface, answered and refused.
ALL = SMALL + [
    copy_rewards(1),
    scale_rewards(1, 2),
    set_reward(1, 0, 0, 0, [-7]),
    set_transition(0, 0, [2, 7]),
    are_equivalent(),
    action_value(0, 0, 0),
    optimal_actions(1, 1),
    optimal_policy(1),
    policy_values(1, [0, 0]),
    same_optimal_actions(),
    regrets(),
    distinguishes([1, 0]),
    distinguishing_world(),
    expected_reward(1, 0, 0),
    value_with_transition(0, 0, 1, 1, [5, 4]),
    get_transition(0, 0),
    action_value(2, 0, 0),
    policy_values(1, [1, 0]),
    distinguishes([2, 0]),
    value_with_transition(0, 0, 1, 1, [0, 0]),
    create(3, 1, 10, 10),
    optimal_values(1),
    create(2, 2, 2, 3),
    set_rewards(1, [0, 0, 3, 3, 0, 0, 0, 0]),
    distinguishing_world(),
    regrets(),
]

def joined(calls):
    return [number for call in calls for number in call]


class Examples(unittest.TestCase):
    def test_all_rows_as_one_request(self):
        rows = [
            (create(2, 2, 1, 2), [8]),
            (set_deterministic([0, 1, 1, 0]), [0]),
            (set_reward(0, 0, 1, 1, [4]), [0, 0]),
            (set_reward(0, 1, 0, 1, [2]), [0, 0]),
            (optimal_values(0), [2, 6, 1, 4, 1]),
            (optimal_policy(0), [2, 1, 0]),
            (same_optimal_actions(), [0]),
            (regrets(), [2, 0, 1, 0, 1]),
            (copy_rewards(1), [0]),
            (shape_rewards(1, [1, 0]), [0]),
            (are_equivalent(), [1]),
            (optimal_values(1), [2, 4, 1, 4, 1]),
            (policy_values(0, [0, 0]), [2, 0, 1, 4, 1]),
            (optimal_actions(2, 0), [-2]),
        ]
        calls = joined([call for call, _ in rows])
        expected = joined([[len(answered)] + answered for _, answered in rows])
        self.assertEqual(answers(calls), expected)


class Readme(unittest.TestCase):
    def test_its_example_is_answered_as_it_says(self):
        text = (pathlib.Path(__file__).resolve().parent.parent / "README.md").read_text()
        calls, said = re.search(r"\nanswers\((\[.*?\])\)\n# (\[.*?\])\n", text, re.DOTALL).groups()
        self.assertEqual(answers(ast.literal_eval(calls)), ast.literal_eval(said))


class Form(unittest.TestCase):
    def test_each_answer_comes_behind_how_many_numbers_it_has(self):
        calls = [9, 0, 2, 2, 1, 2, 8, 4, 0, 1, 1, 0, 1, 0, 0, 1, 1, 1, 4, 1, 0, 1, 0, 1, 1, 2, 10, 0, 7, 0, 1, 10, 2]
        expected = [1, -11, 1, 8, 1, 0, 2, 0, 0, 2, 0, 0, 5, 2, 6, 1, 4, 1, 3, 2, 0, 1, 1, -2]
        self.assertEqual(answers(calls), expected)

    def test_one_call_alone(self):
        self.assertEqual(answers([0, 2, 2, 1, 2]), [1, 8])
        self.assertEqual(answers([0, 1, 2, 1, 2]), [1, -22])
        self.assertEqual(answers([9]), [1, -11])

    def test_whole_numbers_and_never_true_or_false(self):
        given = answers(joined(ALL + [copy_rewards(1), are_equivalent()]))
        self.assertIs(type(given), list)
        self.assertEqual({type(number) for number in given}, {int})

    def test_lists_of_every_length_are_read_to_their_end(self):
        refused = [set_reward(0, 0, 0, 0, [7] * length) for length in (0, 2, 3, 4)]
        refused += [set_rewards(1, [7] * length) for length in range(51) if length != 4]
        for first in range(0, len(refused), 40):
            part = refused[first:first + 40]
            given = ask(create(2, 1, 1, 2), *part, set_rewards(1, [7] * 4), set_reward(1, 0, 0, 0, [8]))
            self.assertEqual(given, [[4]] + [[-22]] * len(part) + [[0], [0, 7]])
        refused = [shape_rewards(0, [7] * length) for length in (0, 1, 3, 4, 5, 6)]
        refused += [set_transition(0, 0, [7] * length) for length in (0, 1, 3, 4, 5, 6)]
        refused += [set_deterministic([1] * length) for length in range(15) if length != 2]
        given = ask(create(2, 1, 1, 2), *refused, set_deterministic([1, 1]), get_transition(0, 0))
        self.assertEqual(given, [[4]] + [[-22]] * len(refused) + [[0], [2, 0, 1]])
        refused = [policy_values(0, [0] * length) for length in (0, 1, 3, 4, 5, 6)]
        refused += [value_with_transition(0, 0, 0, 0, [7] * length) for length in (0, 1, 3, 4, 5, 6)]
        refused += [distinguishes([1] * length) for length in range(15) if length != 2]
        given = ask(create(2, 1, 1, 2), *refused, distinguishes([1, 1]), get_transition(0, 0))
        self.assertEqual(given, [[4]] + [[-22]] * len(refused) + [[0], [2, 1, 0]])

    def test_numbers_in_a_list_are_not_taken_for_calls(self):
        given = ask(create(2, 1, 1, 2), set_rewards(0, [0, 2, 1, 9]), set_rewards(0, [9, 9]), optimal_values(0))
        self.assertEqual(given, [[4], [0], [-22], [2, 0, 1, 18, 1]])

    def test_the_greatest_numbers_that_may_be_handed_in(self):
        most = GREATEST
        calls = [
            create(2, 1, 1, 2),
            create(most, most, most, most),
            set_reward(most, most, most, most, [GREATEST_SIGNED] * 4),
            set_rewards(most, [LEAST_SIGNED] * 50),
            copy_rewards(most),
            shape_rewards(most, [GREATEST_SIGNED] * 6),
            scale_rewards(most, most),
            set_transition(most, most, [most] * 6),
            get_transition(most, most),
            set_deterministic([most] * 14),
            optimal_values(most),
            set_reward(0, 0, 0, 0, [LEAST_SIGNED]),
            set_rewards(0, [GREATEST_SIGNED] * 4),
            shape_rewards(0, [LEAST_SIGNED] * 2),
            scale_rewards(0, most),
            set_transition(0, 0, [most] * 2),
            set_deterministic([most] * 2),
            action_value(most, most, most),
            optimal_actions(most, most),
            optimal_policy(most),
            policy_values(most, [most] * 6),
            policy_values(0, [most] * 2),
            distinguishes([most] * 14),
            distinguishes([most] * 2),
            expected_reward(most, most, most),
            value_with_transition(most, most, most, most, [most] * 6),
            value_with_transition(0, 0, 0, 0, [most] * 2),
        ]
        expected = [4, -22, -2, -2, -2, -2, -2, -2, -2, -22, -2, -22, -22, -22, -22, -22, -22]
        expected += [-2, -2, -2, -2, -22, -22, -22, -2, -2, -22]
        self.assertEqual(ask(*calls), [[code] for code in expected])

    def test_the_longest_request(self):
        calls = [create(4, 3, 9, 10)] + [set_rewards(0, [1] * 50)] * 59
        self.assertEqual(ask(*calls), [[48]] + [[-22]] * 59)
        calls = [create(4, 3, 9, 10)] + [optimal_values(0)] * 59
        self.assertEqual(ask(*calls), [[48]] + [[4, 0, 1, 0, 1, 0, 1, 0, 1]] * 59)

    def test_the_longest_request_with_64_worlds(self):
        process = Reckoned.drawn(Numbers(101), 2, 3, 1000)
        alike = process.calls() + [scale_rewards(0, 100), copy_rewards(1), shape_rewards(1, [1000, -1000])]
        alike += [distinguishing_world()] * (60 - len(alike))
        self.assertEqual(len(alike), 60)
        self.assertEqual(ask(*alike)[12:], [[-33]] * 48)
        firsts = [world for world in process.worlds() if process.in_world(world).differs()][:1]
        made = process.calls()
        given = ask(*made, *[distinguishing_world()] * (60 - len(made)))
        self.assertEqual(given[len(made):], [[6] + firsts[0]] * (60 - len(made)))

    def test_the_longest_request_with_4_states_and_3_actions(self):
        numbers = Numbers(102)
        transitions = [numbers.row(4, 1, 9) for _ in range(12)]
        process = Reckoned(4, 3, 9, 10, [numbers.row(48, -1000, 1000) for _ in range(2)], transitions)
        other = process.with_transitions(transitions[:7] + [[9, 8, 7, 6]] + transitions[8:])
        made = process.calls()
        for call, expected in (
            (optimal_values(1), [4] + written(process.best(1))),
            (optimal_actions(0, 3), [len(process.optimal(0)[3])] + process.optimal(0)[3]),
            (optimal_policy(1), [4] + [actions[0] for actions in process.optimal(1)]),
            (same_optimal_actions(), [int(not process.differs())]),
            (regrets(), [4] + written(process.regrets())),
            (distinguishes([3] * 12), [int(process.in_world([3] * 12).differs())]),
            (distinguishing_world(), [-75]),
            (value_with_transition(2, 1, 0, 3, [9, 8, 7, 6]), [0] + written(other.best(0)[3:])),
        ):
            count = 60 - len(made)
            self.assertEqual(ask(*made, *[call] * count)[len(made):], [expected] * count)

    def test_each_call_reads_its_arguments_in_the_order_of_its_form(self):
        # Most of these would be refused if two of their arguments changed places.
        made = [create(4, 3, 1, 2), set_rewards(1, [8] * 48), set_deterministic([3] * 12)]
        for call, expected in (
            (action_value(1, 3, 2), [0, 16, 1]),
            (optimal_actions(1, 3), [3, 0, 1, 2]),
            (policy_values(1, [2, 2, 2, 2]), [4, 16, 1, 16, 1, 16, 1, 16, 1]),
            (expected_reward(1, 3, 2), [0, 8, 1]),
            (value_with_transition(3, 2, 1, 3, [0, 0, 0, 9]), [0, 16, 1]),
            (value_with_transition(3, 0, 1, 2, [0, 0, 0, 9]), [0, 16, 1]),
        ):
            self.assertEqual(ask(*made, call, are_equivalent())[3:], [expected, [1]])
        few = [create(2, 3, 1, 2)]
        self.assertEqual(answer(*few, action_value(0, 1, 2)), [0, 0, 1])
        self.assertEqual(answer(*few, expected_reward(0, 1, 2)), [0, 0, 1])
        self.assertEqual(answer(*few, value_with_transition(1, 2, 0, 1, [1, 1])), [0, 0, 1])
        self.assertEqual(answer(*few, value_with_transition(2, 1, 0, 1, [1, 1])), [-2])


class NothingElse(unittest.TestCase):
    def test_what_is_handed_in_is_the_same_afterwards(self):
        calls = joined(ALL)
        same = list(calls)
        answers(calls)
        self.assertEqual(calls, same)

    def test_what_is_handed_in_is_not_changed_for_a_while_either(self):
        class Watched(list):
            def refuse(self, *given):
                raise AssertionError("what is handed in is changed")

            __setitem__ = __delitem__ = __iadd__ = __imul__ = refuse
            append = extend = insert = pop = remove = clear = sort = reverse = refuse

        self.assertEqual(answers(Watched(joined(ALL))), answers(joined(ALL)))

    def test_one_time_does_not_know_of_another(self):
        first = answers(joined(ALL))
        self.assertEqual(answers(joined(ALL)), first)
        self.assertEqual(answers(get_transition(0, 0)), [1, -11])
        self.assertEqual(answers(regrets()), [1, -11])
        self.assertEqual(answers(joined([create(2, 1, 1, 2), optimal_values(0)])), [1, 4, 5, 2, 0, 1, 0, 1])
        self.assertEqual(answers(joined(ALL)), first)

    def test_what_is_given_back_may_be_changed(self):
        first = answers(joined(ALL))
        kept = list(first)
        first.clear()
        self.assertEqual(answers(joined(ALL)), kept)

    def test_it_prints_nothing(self):
        printed, complained = io.StringIO(), io.StringIO()
        with contextlib.redirect_stdout(printed), contextlib.redirect_stderr(complained):
            answers(joined(ALL))
        self.assertEqual(printed.getvalue() + complained.getvalue(), "")


if __name__ == "__main__":
    unittest.main()
