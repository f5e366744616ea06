"""The refusals of the program."""


class SpanError(ValueError):
    """What all refusals are."""


class BadStretch(SpanError):
    """A low, a high, a mark or a place is no whole number, or a low is greater than its high."""


class Twice(SpanError):
    """A stretch that is kept already is put again."""


class Missing(SpanError):
    """A stretch that is not kept is taken."""
