"""The reader: from texts to trees."""

from eacharm.brackets import item_of
from eacharm.reading import Reading


def read_program(text):
    """The tree of a program's text; raises BadText."""
    return Reading().read_tree(item_of(text))


def read_expression(text):
    """The node of an expression's text; raises BadText."""
    return Reading().read_node("E", item_of(text))


def read_declaration(text):
    """The node of a declaration's text; raises BadText."""
    return Reading().read_node("any", item_of(text))
