"""What polynomial answers tell: what deletions leave, what they take away, and what changes bring."""

from itertools import combinations

from marktables.errors import InvalidNames, InvalidTables, TooMany
from marktables.names import is_name
from marktables.polynomials import Polynomial
from marktables.tables import Tables, polynomial_answers

MOST_NAMES = 10


def after(polynomial, names):
    """The polynomial without the terms whose monomials contain one of the names."""
    if not isinstance(names, (list, tuple)) or not all([is_name(name) for name in names]):
        raise InvalidNames("not a list or tuple of names")
    gone = {name: True for name in names}
    return Polynomial([term for term in polynomial.terms if not any([name in gone for name in term[0]])])


def reasons(polynomial):
    """The ascending list of the sets of names of monomials of which no proper subset is such a set."""
    found = sorted({_support(monomial) for monomial, _ in polynomial.terms})
    bits = {name: 1 << k for k, name in enumerate(_names_in(found))}
    # One integer for each set of names, as so many sets are compared with one another.
    masks = [sum([bits[name] for name in support]) for support in found]
    return [support for support, mask in zip(found, masks) if _is_least(mask, masks)]


def least_deletions(polynomial):
    """The ascending list of the smallest sets of names that have a name in common with every reason."""
    wanted = reasons(polynomial)
    names = _names_in(wanted)
    if len(names) > MOST_NAMES:
        raise TooMany(len(names))
    for size in range(len(names) + 1):
        found = [chosen for chosen in combinations(names, size) if _meets_all(chosen, wanted)]
        if found:
            return found
    return []


def difference(tables, union, names, rows):
    """By how much answers are more without the rows with these names and with the further rows, where not 0."""
    known = tables.names
    if not isinstance(names, (list, tuple)) or not all([name in known for name in names]):
        raise InvalidNames("not a list or tuple of names of rows")
    if not isinstance(rows, (list, tuple)):
        raise InvalidTables(("rows",))
    remaining = [row for row in tables.rows if row[0] not in names]
    old = polynomial_answers(tables, union)
    new = polynomial_answers(Tables([*remaining, *rows]), union)
    return changes(old, new)


def changes(old, new):
    """A dict from answer rows to what the new polynomials are more than the old ones, where this is not 0."""
    nothing = Polynomial(())
    found = {}
    for head in sorted({head for part in (old, new) for head in part}):
        change = new.get(head, nothing) - old.get(head, nothing)
        if change != nothing:
            found[head] = change
    return found


def _support(monomial):
    """The ascending tuple of the different names of a monomial."""
    return tuple(sorted(set(monomial)))


def _names_in(supports):
    """The ascending list of the different names in tuples of names."""
    return sorted({name for support in supports for name in support})


def _is_least(mask, masks):
    """Whether none of the masks stands for a proper subset of what the mask stands for."""
    return not any([(other & mask) == other and other != mask for other in masks])


def _meets_all(chosen, wanted):
    """Whether the chosen names have a name in common with each of the tuples."""
    return all([any([name in chosen for name in reason]) for reason in wanted])
