"""Whether one union is within another one for a measure, with papers and counterexamples, and how they are checked."""

from marktables.entries import MIXED, found_entry, is_entry
from marktables.groupings import is_grouping
from marktables.integers import is_plain_integer
from marktables.marks import is_number
from marktables.measures import check_measure, check_telling
from marktables.pairings import PAIRED, first_wrong_pairings, found_pairings
from marktables.queries import check_alike
from marktables.unions import same_lists
from marktables.witness import answer_at, weighed, witness


def within(one, other, measure):
    """A tuple ("yes", paper), or ("no", number, grouping, weights) for a database on which it is not so."""
    check_alike(one.queries, other.queries)
    check_telling(measure)
    if measure.label in PAIRED:
        return found_pairings(one, other, measure.label)
    paper = []
    for number, query in enumerate(one.queries):
        entry, weights = found_entry(query, other, measure.label)
        if entry is None:
            return "no", number, query.variables, weights
        paper.append(entry)
    return "yes", paper


def witness_rows(one, measure, answer):
    """The tuple of the rows, the marks and the head row that a right answer ("no", ..) stands for."""
    _, number, grouping, weights = answer
    rows, head = witness(one.queries[number].image(grouping))
    return rows, _marks(rows, measure, weights), head


def check_within(one, other, measure, answer):
    """The first thing that is wrong with the answer, which may be any value, or None."""
    check_alike(one.queries, other.queries)
    check_telling(measure)
    if not _is_answer(one, answer):
        return ("answer",)
    if answer[0] == "no":
        return _wrong_no(one, other, measure, answer)
    number = _first_wrong_entry(one, other, measure.label, answer[1])
    return None if number is None else ("entry", number)


def equal(one, other, measure):
    """Whether both unions have equal answers, by the measure, on all databases with fitting marks."""
    check_alike(one.queries, other.queries)
    check_measure(measure)
    if measure.label in ("numbers", "polynomials"):
        return same_lists(one, other)
    return within(one, other, measure)[0] == "yes" and within(other, one, measure)[0] == "yes"


def _marks(rows, measure, weights):
    """A dict from the names of the rows to their marks."""
    if measure.label in MIXED:
        return weighed(rows, weights)
    return {row[0]: measure.named(row[0]) for row in rows}


def _is_answer(one, value):
    """Whether the value is a tuple with a paper of as many entries as there are queries, or of a counterexample."""
    if not isinstance(value, tuple) or not value:
        return False
    if value[0] == "yes":
        return len(value) == 2 and isinstance(value[1], list) and len(value[1]) == len(one)
    return value[0] == "no" and len(value) == 4


def _first_wrong_entry(one, other, label, paper):
    """The least number of an entry that is not right, or None."""
    if label in PAIRED:
        return first_wrong_pairings(one, other, label, paper)
    for number, query in enumerate(one.queries):
        if not is_entry(query, other, label, paper[number]):
            return number
    return None


def _wrong_no(one, other, measure, answer):
    """The first thing that is wrong with an answer ("no", number, grouping, weights), or None."""
    _, number, grouping, weights = answer
    if not is_plain_integer(number) or not 0 <= number < len(one):
        return ("number",)
    query = one.queries[number]
    if not _is_fitting_grouping(query, measure.label, grouping):
        return ("grouping",)
    rows, head = witness(query.image(grouping))
    if not _are_weights(rows, measure.label, weights):
        return ("weights",)
    marks = _marks(rows, measure, weights)
    left = answer_at(rows, head, one, measure, marks)
    right = answer_at(rows, head, other, measure, marks)
    return ("at most",) if measure.at_most(left, right) else None


def _is_fitting_grouping(query, label, value):
    """Whether the value is a grouping that a counterexample for the measure may have."""
    return is_grouping(query, value) if label in PAIRED else value == query.variables


def _are_weights(rows, label, value):
    """Whether the value is a tuple of an integer from 0 for each row, or () where the measure has no weights."""
    if label not in MIXED:
        return value == ()
    return isinstance(value, tuple) and len(value) == len(rows) and all([is_number(weight) for weight in value])
