"""Names that a board keeps, and the rules that they have: trees and scales."""

from onescale.bounds import MAX_NAME
from onescale.errors import BadScale, BadTree, NoName, NoTree
from onescale.fromscales import nest_of
from onescale.lots import goes
from onescale.scalealike import scales_alike
from onescale.scales import scale_error, scale_goes
from onescale.scaletexts import scale_text
from onescale.told import alike, told
from onescale.trips import tree_error
from onescale.triptexts import tree_text

LETTERS = "abcdefghijklmnopqrstuvwxyz"


def is_name(value):
    """Whether any value is a name."""
    if not isinstance(value, str) or not 1 <= len(value) <= MAX_NAME:
        return False
    return value != "none" and not [sign for sign in value if sign not in LETTERS]


def check_rule(value):
    """Any value has to be a tree or a scale; what looks like neither is told as a wrong tree."""
    if isinstance(value, tuple) and len(value) == 2 and isinstance(value[0], tuple):
        error = scale_error(value)
        if error is not None:
            raise BadScale(error)
    else:
        error = tree_error(value)
        if error is not None:
            raise BadTree(error)


def rule_at(table, value):
    """The rule of a name that is kept in a table, a dict of names; value is any value."""
    if not isinstance(value, str) or value not in table:
        raise NoName(value)
    return table[value]


def is_scale(rule):
    """Whether a rule is a scale, not a tree."""
    return isinstance(rule, tuple) and isinstance(rule[0], tuple)


def rule_text(rule):
    """The text of a rule; unlike rules have unlike texts."""
    return scale_text(rule) if is_scale(rule) else tree_text(rule)


def rule_goes(rule, lot):
    """Whether a rule goes with a lot."""
    return scale_goes(rule, lot) if is_scale(rule) else goes(rule, lot)


def rules_alike(one, other):
    """Whether with each lot both rules go, or neither does."""
    if is_scale(one) and is_scale(other):
        return scales_alike(one, other)
    if is_scale(one):
        return _does_as(other, one)
    if is_scale(other):
        return _does_as(one, other)
    return alike(one, other)


def _does_as(tree, scale):
    """Whether a tree does what a scale does."""
    try:
        return nest_of(scale) == told(tree)
    except NoTree:
        return False
