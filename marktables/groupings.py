"""Groupings of the variables of a query, and the shapes that they give it."""

from marktables.queries import Query, different_atoms


def groupings(query):
    """All groupings of the query, in ascending order."""
    yield from _continued(query.variables, ())


def is_grouping(query, value):
    """Whether the value, which may be any value, is a grouping of the query."""
    known = list(groupings(query))
    return value in known


def grouping_of(values, variables):
    """The grouping that puts two of the variables into one group exactly if they have equal values."""
    least = {}
    # The variables ascend, so the first one with a value is the least one of its group.
    for value, variable in zip(values, variables):
        least.setdefault(value, variable)
    return tuple([least[value] for value in values])


def shape(query, grouping, once):
    """The grouped query; with once, every distinct atom stands in it once."""
    grouped = query.image(grouping)
    return single_atoms(grouped) if once else grouped


def single_atoms(query):
    """The query with every distinct atom once."""
    return Query(query.head, different_atoms(query))


def _continued(variables, chosen):
    """All groupings that begin with what is chosen for the first variables, in ascending order."""
    if len(chosen) == len(variables):
        yield chosen
        return
    # A variable joins an earlier group, under its least variable, or begins one; it is greater than the earlier ones.
    for variable in [*sorted(set(chosen)), variables[len(chosen)]]:
        longer = (*chosen, variable)
        yield from _continued(variables, longer)
