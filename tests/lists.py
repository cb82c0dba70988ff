"""Point 1: what functions do with the lists that they are passed and that they return."""

import copy


def check_lists(case, function, *arguments, **options):
    """Check that a call changes no list, and that it returns a new list if it returns one."""
    before = [copy.deepcopy(item) for item in arguments if isinstance(item, list)]
    first = function(*arguments, **options)
    second = function(*arguments, **options)
    case.assertEqual([item for item in arguments if isinstance(item, list)], before)
    case.assertEqual(first, second)
    if isinstance(first, list):
        expected = list(first)
        case.assertIsNot(first, second)
        for argument in arguments:
            case.assertIsNot(first, argument)
        first.append(None)
        case.assertEqual(second, expected)
        case.assertEqual(function(*arguments, **options), expected)
        case.assertEqual([item for item in arguments if isinstance(item, list)], before)
