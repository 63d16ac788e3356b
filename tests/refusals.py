"""What the tests of several modules ask of a refusal."""

from oneofall.errors import NoProgram, NoTree, OneError


def assert_no_program(case, at, call, *things):
    """The call is refused with NoProgram at the number told."""
    with case.assertRaises(NoProgram) as taken:
        call(*things)
    error = taken.exception
    case.assertIsInstance(error, OneError)
    case.assertIsInstance(error, ValueError)
    case.assertNotIsInstance(error, NoTree)
    case.assertIs(type(error.at), int)
    case.assertEqual(error.at, at)
