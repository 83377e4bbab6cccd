"""What papers are good for: they carry ways, serve other measures, and are put one after the other."""

from math import lcm

from marktables.entries import MIXED, SINGLE
from marktables.errors import NotImplied
from marktables.groupings import grouping_of
from marktables.measures import check_telling
from marktables.order import implies
from marktables.pairings import PAIRED


def carried(one, measure, paper, number, way):
    """The list of the ways, with the numbers of their queries, that the paper makes of a way of this query."""
    check_telling(measure)
    query = one.queries[number]
    if measure.label in PAIRED:
        pairing = _pairing_for(paper[number], grouping_of(way, query.variables))
        moves = [_map_of_pairing(pairing)]
    else:
        moves = [(j, value) for j, value, _ in _timed(measure.label, paper[number])]
    return [(j, _followed(value, query.variables, way)) for j, value in moves]


def converted(first, second, paper):
    """The paper for the second measure that a paper for the first one gives."""
    if not implies(first, second):
        raise NotImplied("the first measure does not imply the second one")
    return [_converted_entry(first.label, second.label, entry) for entry in paper]


def joined_papers(one, middle, other, measure, first, second):
    """The paper for the first and the last union that papers for neighbours give."""
    check_telling(measure)
    if measure.label in PAIRED:
        return [_joined_pairings(entry, second) for entry in first]
    return [_joined_entry(measure.label, middle, entry, second) for entry in first]


def _followed(value, variables, further):
    """The tuple in which each of the variables in value is replaced by the entry of further at its place."""
    new = dict(zip(variables, further))
    return tuple([new[variable] for variable in value])


def _timed(label, entry):
    """The list of tuples of a number, a map and its times in an entry; where there are no times, once."""
    if label in MIXED:
        return list(entry)
    parts = [entry] if label in SINGLE else entry
    return [(j, value, 1) for j, value in parts]


def _pairing_for(entry, grouping):
    """The pairing of the entry for this grouping."""
    return [pairing for pairing in entry if pairing[0] == grouping][0]


def _map_of_pairing(pairing):
    """The number of the query of the other union, and where the pairing leads its variables."""
    _, j, partner, names = pairing
    return j, _followed(partner, sorted(set(partner)), names)


def _converted_entry(label, wanted, entry):
    """The entry for the wanted measure that an entry for the measure with this label gives."""
    if label == wanted or wanted in PAIRED:
        return list(entry) if isinstance(entry, list) else entry
    if label in PAIRED:
        # In the last grouping all variables are apart.
        moves = [_map_of_pairing(entry[-1])]
    else:
        moves = [(j, value) for j, value, _ in _timed(label, entry)]
    if wanted in SINGLE:
        return moves[0]
    return [(j, value, 1) for j, value in moves] if wanted in MIXED else moves


def _joined_pairings(entry, second):
    """The list of pairings of the entry, each followed by one of the second paper."""
    joined = []
    for grouping, i, partner, names in entry:
        _, j, last, inner = _pairing_for(second[i], partner)
        joined.append((grouping, j, last, _followed(inner, sorted(set(partner)), names)))
    return joined


def _joined_entry(label, middle, entry, second):
    """The entry of maps that are followed by those of the second paper."""
    sums = [sum([times for _, _, times in _timed(label, each)]) for each in second]
    common = 1
    for total in sums:
        common = lcm(common, total)
    found = {}
    for i, outer, times in _timed(label, entry):
        # So often each entry of the second paper is taken that all have the common sum of times.
        taken = times * (common // sums[i])
        variables = middle.queries[i].variables
        for j, inner, many in _timed(label, second[i]):
            move = (j, _followed(inner, variables, outer))
            found[move] = found.get(move, 0) + taken * many
    if label in MIXED:
        return [(*move, times) for move, times in found.items()]
    moves = list(found)
    return moves[0] if label in SINGLE else moves
