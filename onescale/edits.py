"""Edits of boards as tuples, and the tables that they make of tables: dicts of the rules of names, in order.

A table is never changed: each edit makes a new one.
"""

from onescale.bounds import BATCH, MAX_NAMES
from onescale.deeds import as_one, bounded, dissolved, exchanged, put, taken_out
from onescale.errors import BadBatch, Rejected, TooMany, TripError, Unfit
from onescale.fromscales import nest_of
from onescale.nests import scale_of
from onescale.rules import check_rule, is_name, is_scale, rule_at

# How many arguments each edit has; and each deed, behind its tree.
EDIT_ARGUMENTS = {"keep": 2, "drop": 1, "deed": 3, "pack": 2, "unpack": 2, "batch": 1}
DEED_ARGUMENTS = {"put": 2, "taken_out": 1, "bounded": 2, "dissolved": 1, "as_one": 2, "exchanged": 2}


def is_edit(value):
    """Whether any value is a tuple of the word of an edit and of as many arguments as it has."""
    if not isinstance(value, tuple) or not value or not isinstance(value[0], str):
        return False
    return EDIT_ARGUMENTS.get(value[0]) == len(value) - 1


def table_behind(table, edit):
    """The table that an edit makes of a table."""
    word = edit[0]
    if word == "keep":
        return _kept(table, edit[1], edit[2])
    if word == "drop":
        return _dropped(table, edit[1])
    if word == "deed":
        return _changed(table, edit[1], edit[2], edit[3])
    if word == "pack":
        return _packed(table, edit[1], edit[2])
    if word == "unpack":
        return _unpacked(table, edit[1], edit[2])
    return _behind_batch(table, edit[1])


def _kept(table, name, rule):
    """The table with a rule for a name."""
    if not is_name(name):
        raise Unfit()
    check_rule(rule)
    return _with_rule(table, name, rule)


def _with_rule(table, name, rule):
    """The table with a rule, known to be one, for a name, known to be one."""
    if name not in table and len(table) == MAX_NAMES:
        raise TooMany(MAX_NAMES)
    rules = dict(table)
    rules[name] = rule
    return {kept: rules[kept] for kept in sorted(rules)}


def _dropped(table, name):
    """The table without a name."""
    rule_at(table, name)
    return {kept: rule for kept, rule in table.items() if kept != name}


def _changed(table, name, word, items):
    """The table in which a deed is done on the tree of a name."""
    tree = _rule_for(table, name, False)
    if not isinstance(word, str) or word not in DEED_ARGUMENTS:
        raise Unfit()
    if not isinstance(items, tuple) or len(items) != DEED_ARGUMENTS[word]:
        raise Unfit()
    return _with_rule(table, name, _deed_done(tree, word, items))


def _rule_for(table, name, wants_scale):
    """The rule of a name, which has to be a scale, or has to be a tree."""
    rule = rule_at(table, name)
    if is_scale(rule) != wants_scale:
        raise Unfit()
    return rule


def _deed_done(tree, word, items):
    """The tree that a deed makes of a tree."""
    if word == "put":
        return put(tree, items[0], items[1])
    if word == "taken_out":
        return taken_out(tree, items[0])
    if word == "bounded":
        return bounded(tree, items[0], items[1])
    if word == "dissolved":
        return dissolved(tree, items[0])
    if word == "as_one":
        return as_one(tree, items[0], items[1])
    return exchanged(tree, items[0], items[1])


def _packed(table, name, other):
    """The table in which another name has the scale of the tree of a name."""
    tree = _rule_for(table, name, False)
    if not is_name(other):
        raise Unfit()
    return _with_rule(table, other, scale_of(tree))


def _unpacked(table, name, other):
    """The table in which another name has the tree of the scale of a name."""
    scale = _rule_for(table, name, True)
    if not is_name(other):
        raise Unfit()
    return _with_rule(table, other, nest_of(scale))


def _behind_batch(table, edits):
    """The table that edits make of a table one behind another."""
    if not isinstance(edits, tuple) or len(edits) > BATCH:
        raise BadBatch()
    if [edit for edit in edits if not is_edit(edit) or edit[0] == "batch"]:
        raise BadBatch()
    behind = table
    for place, edit in enumerate(edits):
        try:
            behind = table_behind(behind, edit)
        except TripError:
            raise Rejected(place)
    return behind
