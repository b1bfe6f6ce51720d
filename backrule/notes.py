"""Rules as texts."""

from backrule.errors import BadText
from backrule.rules import is_rule, need_rule

FIGURES = "0123456789"


def shown(rule):
    """The text of a rule."""
    need_rule(rule)
    signs, wide, table = rule
    return f"{signs} {wide} {_word_of(table)}"


def read(text):
    """The rule of which this is the text."""
    if type(text) is not str:
        raise BadText("this is no text")
    # Split at each single blank: one too many gives a word too many.
    words = text.split(" ")
    if len(words) != 3 or len(words[0]) != 1 or len(words[1]) != 1:
        raise BadText("this is not a rule's signs, its wide and its table")
    rule = (_figure_of(words[0]), _figure_of(words[1]), _table_of(words[2]))
    if not is_rule(rule):
        raise BadText("this is the text of no rule")
    return rule


def _word_of(table):
    return "".join([FIGURES[cell] for cell in table])


def _table_of(word):
    return tuple([_figure_of(mark) for mark in word])


def _figure_of(mark):
    # What is no figure becomes -1, which is nowhere in a rule.
    return FIGURES.find(mark)
