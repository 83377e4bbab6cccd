"""The search for maps and ways: values for variables by which every atom becomes one of some facts."""


def choices_of(atoms, facts):
    """For each atom its variables and what they may become: the values of the facts with its table and places.

    Atoms are tuples (table, variables); facts are different tuples (table, values).
    """
    return [(variables, _values_for(table, len(variables), facts)) for table, variables in atoms]


def assignments(variables, choices, values=()):
    """All tuples that begin with the values, one value for each variable, that agree with the choices.

    A choice is a tuple of variables and a list of the tuples that they may become; every variable is in one.
    The tuples come in ascending order.
    """
    if not all([rows for _, rows in choices]):
        return
    if len(values) == len(variables):
        yield values
        return
    variable = variables[len(values)]
    for value in _candidates(variable, choices):
        narrowed = _narrowed(choices, variable, value)
        longer = (*values, value)
        yield from assignments(variables, narrowed, longer)


def _values_for(table, count, facts):
    """The list of the values of the facts with this table and so many values."""
    return [values for other, values in facts if other == table and len(values) == count]


def _candidates(variable, choices):
    """The ascending list of the values that the first choice with the variable has for it."""
    for places, rows in choices:
        if variable in places:
            at = places.index(variable)
            return sorted({row[at] for row in rows})
    return []


def _narrowed(choices, variable, value):
    """The choices without the tuples that give the variable another value."""
    return [(places, _agreeing(places, rows, variable, value)) for places, rows in choices]


def _agreeing(places, rows, variable, value):
    """The list of the tuples that give the variable, wherever it stands, this value."""
    at = [k for k, other in enumerate(places) if other == variable]
    return [row for row in rows if all([row[k] == value for k in at])]
