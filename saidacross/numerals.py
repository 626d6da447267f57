"""Decimal numbers in texts."""


def number_of(text, most):
    """The integer from 0 to `most` of which this is the text, or None if it is of none."""
    # The length comes first: great numbers cannot be read by Python.
    if len(text) == 0 or len(text) > len(str(most)):
        return None
    if not all([sign in "0123456789" for sign in text]) or str(int(text)) != text:
        return None
    return int(text) if int(text) <= most else None
