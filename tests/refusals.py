"""What the tests of several modules ask of a refusal."""

from oneofall.errors import NoProgram, NoTree, OneError


def assert_no_program(case, at, call, *things):
    """The call is refused with NoProgram at the number told."""
    assert_refused(case, NoProgram, NoTree, at, call, things)


def assert_no_tree(case, at, call, *things):
    """The call is refused with NoTree at the place told."""
    assert_refused(case, NoTree, NoProgram, at, call, things)


def assert_refused(case, kind, other, at, call, things):
    with case.assertRaises(kind) as taken:
        call(*things)
    error = taken.exception
    case.assertIsInstance(error, OneError)
    case.assertIsInstance(error, ValueError)
    case.assertNotIsInstance(error, other)
    case.assertIs(type(error.at), int)
    case.assertEqual(error.at, at)
