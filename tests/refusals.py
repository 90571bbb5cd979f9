"""How the tests look at a refusal."""

from markedties.errors import BadMarks, BadTree, NoBound, NoComb, NotGood, TieError

REFUSALS = [BadTree, BadMarks, NotGood, NoBound, NoComb]


def check_refusal(case, refusal, ask, *handed_in):
    """It is a TieError and a ValueError, of its own class and of none of the other four."""
    with case.assertRaises(TieError) as caught:
        ask(*handed_in)
    case.assertIsInstance(caught.exception, ValueError)
    met = [one for one in REFUSALS if isinstance(caught.exception, one)]
    case.assertEqual(met, [refusal])
