"""The texts of scales."""

from onescale.errors import BadText
from onescale.helpers import number_of
from onescale.scales import scale_error

# No bound has more: it is at most 24 times 99999.
MOST_FIGURES = 7


def scale_text(scale):
    """The text of a scale."""
    rows, bound = scale
    return " ".join([str(bound) + ":"] + [str(button) + "=" + str(weight) for button, weight in rows])


def read_scale(value):
    """The scale of which value is the text."""
    if not isinstance(value, str):
        raise BadText()
    head, colon, rest = value.partition(": ")
    if colon == "":
        raise BadText()
    scale = (tuple([_read_row(word) for word in rest.split(" ")]), number_of(head, MOST_FIGURES))
    if scale_error(scale) is not None:
        raise BadText()
    return scale


def _read_row(word):
    """The button and the weight that a word tells."""
    button, sign, weight = word.partition("=")
    if sign == "":
        raise BadText()
    return (number_of(button, MOST_FIGURES), number_of(weight, MOST_FIGURES))
