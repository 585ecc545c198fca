"""The refusals of the package."""


class BaseError(ValueError):
    """What every refusal of the package is."""


class BadBase(BaseError):
    """What was handed in as a base is none."""


class BadPair(BaseError):
    """What was handed in as a pair is none."""


class BadRow(BaseError):
    """What was handed in as a row is none of the base's figures."""


class BadNumber(BaseError):
    """What was handed in as a number is no whole number from 0 on."""


class Never(BaseError):
    """No row tells the pair, so it has no number."""
