"""The refusals of the package."""


class RowError(ValueError):
    """Any refusal."""


class BadRule(RowError):
    """What was handed in as a rule is none, or does not go with the other one."""


class BadRow(RowError):
    """What was handed in as a piece or a ring is none of the rule's."""


class TooWide(RowError):
    """What two rules come to together is too great for a rule."""


class NoBack(RowError):
    """The rule is not turned back."""


class BadText(RowError):
    """What was handed in as a text is the text of no rule."""
