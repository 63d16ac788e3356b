"""What promise 2 asks of every function: questions (function, list of things handed in) and their answers."""

import copy

from oneofall.errors import OneError


def answer(call, things):
    try:
        return call(*things)
    except OneError as error:
        return ("refused", error.at)


def assert_handed_in_is_as_before(case, questions):
    for call, things in questions:
        before = copy.deepcopy(things)
        answer(call, things)
        case.assertEqual(things, before)


def assert_same_answer(case, questions):
    firsts = [answer(call, things) for call, things in questions]
    for turn in range(2):
        case.assertEqual([answer(call, copy.deepcopy(things)) for call, things in questions], firsts)


def assert_lists_are_the_askers_own(case, questions):
    for call, things in questions:
        told = answer(call, things)
        for thing in things:
            if isinstance(thing, list):
                case.assertIsNot(told, thing)
        if isinstance(told, list):
            whole = list(told)
            told.reverse()
            told.append("more")
            again = answer(call, things)
            case.assertIsNot(again, told)
            case.assertEqual(again, whole)
            again.clear()
            case.assertEqual(answer(call, things), whole)


def assert_change_behind_a_call_is_nothing(case, questions):
    for call, things in questions:
        for k, thing in enumerate(things):
            if isinstance(thing, (list, dict)):
                mine = copy.deepcopy(things)
                told = answer(call, mine)
                whole = copy.deepcopy(told)
                mine[k].clear()
                answer(call, mine)
                case.assertEqual(told, whole)
                case.assertEqual(answer(call, copy.deepcopy(things)), whole)


class Keeping:
    """The tests of all that for the questions of a test case."""

    QUESTIONS = ()

    def test_handed_in_is_as_before(self):
        assert_handed_in_is_as_before(self, self.QUESTIONS)

    def test_same_question_has_the_same_answer(self):
        assert_same_answer(self, self.QUESTIONS)

    def test_lists_told_are_the_askers_own(self):
        assert_lists_are_the_askers_own(self, self.QUESTIONS)

    def test_what_is_changed_behind_a_call_changes_nothing_told(self):
        assert_change_behind_a_call_is_nothing(self, self.QUESTIONS)
