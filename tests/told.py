"""What the document says of papers and counterexamples, word by word, for several tests; and unions to try it on."""

from itertools import permutations, product
from random import Random

from marktables.measures import Bags, Cheapest, Counted, Dearest, Holds, Polynomials, Which, Why
from marktables.queries import Query
from marktables.unions import Union

TELLING = [Holds(), Which(), Why(), Bags(), Cheapest(), Dearest(), Counted(), Polynomials()]

# Texts of unions with heads of one length and tables of the same numbers of places.
TEXTS = [
    [
        "<- a x", "<- a x, a x", "<- a x, a y", "<- a x, a x, a y", "<- a x, a y, a y", "<- a x\n<- a x", "<- a x, a y, a z",
        "<- a x, a x, a y, a y", "<- a x, a x, a x, a y", "<- a x\n<- a x, a y", "<- a x, b x", "<- a x, b y",
        "<- a x, a y, b y", "<- a x, b x\n<- a x, b y", "<- a x, a y\n<- a x, a y\n<- a x, a x", "<- b x",
        "<- a w, a x, a y, a z", "<- a w, a w, a x, a y", "<- a x, a x, a x", "<- a x, b x, b y",
    ],
    [
        "<- a x y", "<- a x x", "<- a x y, a x y", "<- a x y, a y z", "<- a x y, a y x", "<- a x y, a x z",
        "<- a x y\n<- a x x", "<- a x y, a y z\n<- a x y", "<- a x y, a y z, a z x", "<- a x x, a x y",
        "<- a x y, a y z, a y z", "<- a x y, a z y, a z w", "<- a x y, a y z, a z w", "<- a x y, a x y, a y z",
    ],
    [
        "x <- a x y", "y <- a x y", "x <- a x y, a x z", "x <- a x y, a y z", "x <- a x y, a x y", "x <- a x x",
        "x <- a x y\ny <- a x y", "x <- a x y, b y", "x <- a x y, b x", "x <- b x", "x <- b x\nx <- a x y, b x",
        "x <- b x, b y", "x <- b x, b x, b y", "x <- b x, b y, b z", "x <- a x y, a z y, b z", "x <- b x, b x",
        "x <- a x y, a x z, a x z",
    ],
    [
        "x y <- a x y", "y x <- a x y", "x x <- a x y", "x x <- a x x", "x y <- a x y, a y x", "x y <- a x z, a z y",
        "x y <- a x y\ny x <- a x y", "x y <- a x y, a x y, a x z", "x y <- a x z, a y z", "x y <- a x y, a z y, a x z",
    ],
]


def union_of(text):
    """The union with these queries, whose atoms and which may stand in any order."""
    queries = []
    for line in text.split("\n"):
        head, atoms = line.split("<-")
        parts = [part.split() for part in atoms.split(",")]
        queries.append(Query(tuple(head.split()), [(part[0], tuple(part[1:])) for part in parts]))
    return Union(*queries)


def unions():
    """Lists of unions that may be compared."""
    return [[union_of(text) for text in texts] for texts in TEXTS]


def pairs():
    """All pairs of unions that may be compared."""
    return [(one, other) for group in unions() for one in group for other in group]


def random_query(random, head, names, tables, most):
    while True:
        atoms = []
        for _ in range(random.randrange(1, most + 1)):
            table, places = random.choice(tables)
            atoms.append((table, tuple(random.choice(names) for _ in range(places))))
        if random.random() < 0.3:
            atoms.append(random.choice(atoms))
        used = [name for _, variables in atoms for name in variables]
        return Query(tuple(random.choice(used) for _ in range(head)), atoms)


def random_pairs(seed, count, names="wxyz", most=4):
    """Pairs of unions that may be compared, with a few queries each."""
    random = Random(seed)
    for _ in range(count):
        head = random.choice([0, 0, 1, 1, 2])
        tables = random.choice([[("a", 1)], [("a", 1), ("b", 1)], [("a", 2)], [("a", 2), ("b", 1)], [("a", 3)]])
        made = []
        for _ in range(2):
            queries = [random_query(random, head, names, tables, most) for _ in range(random.choice([1, 1, 2, 3]))]
            made.append(Union(*queries))
        # Often the other union has something of the one.
        if random.random() < 0.5 and len(made[1]) < 3:
            made[1] = Union(*made[1].queries, random.choice(made[0].queries))
        yield made


def moved(source, value):
    """The head and the list of the atoms that the query becomes."""
    new = dict(zip(source.variables, value))
    atoms = [(table, tuple(new[name] for name in names)) for table, names in source.atoms]
    return tuple(new[name] for name in source.head), atoms


def is_map_told(source, goal, value):
    if type(value) is not tuple or len(value) != len(source.variables):
        return False
    if not all(type(entry) is str and entry in goal.variables for entry in value):
        return False
    head, atoms = moved(source, value)
    return head == goal.head and set(atoms) <= set(goal.atoms)


def maps_told(query, other):
    """All maps into the query."""
    return [(j, value) for j, source in enumerate(other.queries)
            for value in product(query.variables, repeat=len(source.variables)) if is_map_told(source, query, value)]


def counts_told(query, other, j, value):
    """For each distinct atom of the query how many atoms become it, and how often it stands there."""
    atoms = moved(other.queries[j], value)[1]
    return [(atoms.count(atom), query.atoms.count(atom)) for atom in sorted(set(query.atoms))]


def integer(value, least):
    return type(value) is int and value >= least


def is_map_into(query, other, part):
    j, value = part
    return integer(j, 0) and j < len(other.queries) and is_map_told(other.queries[j], query, value)


def is_entry_told(query, other, label, entry):
    if label in ("holds", "why", "bags"):
        if type(entry) is not tuple or len(entry) != 2 or not is_map_into(query, other, entry):
            return False
        met = counts_told(query, other, *entry)
        if label == "bags":
            return all(many == own for many, own in met)
        return label == "holds" or all(many >= 1 for many, _ in met)
    length = 2 if label == "which" else 3
    if type(entry) is not list or not entry or not all(type(part) is tuple and len(part) == length for part in entry):
        return False
    if not all(is_map_into(query, other, part[:2]) for part in entry):
        return False
    if len({part[:2] for part in entry}) != len(entry) or not all(integer(part[-1], 1) for part in entry if length == 3):
        return False
    together = [0] * len(set(query.atoms))
    for part in entry:
        for k, (many, _) in enumerate(counts_told(query, other, *part[:2])):
            together[k] += many * (part[2] if length == 3 else 1)
    if label == "which":
        return min(together) >= 1
    total = sum(part[2] for part in entry)
    own = [query.atoms.count(atom) * total for atom in sorted(set(query.atoms))]
    return all(x <= y for x, y in zip(together, own)) if label == "cheapest" else all(
        x >= y for x, y in zip(together, own))


def groupings_told(query):
    """All groupings in ascending order."""
    found = set()
    for groups in product(range(len(query.variables)), repeat=len(query.variables)):
        found.add(tuple(query.variables[groups.index(group)] for group in groups))
    return sorted(found)


def shape_told(query, grouping, label):
    grouped = query.image(grouping)
    return Query(grouped.head, sorted(set(grouped.atoms))) if label == "counted" else grouped


def is_pairing_told(query, other, label, part):
    grouping, j, partner, names = part
    if not integer(j, 0) or j >= len(other.queries) or partner not in groupings_told(other.queries[j]):
        return False
    given, wanted = shape_told(other.queries[j], partner, label), shape_told(query, grouping, label)
    if type(names) is not tuple or names not in list(permutations(wanted.variables)):
        return False
    return len(names) == len(given.variables) and given.image(names) == wanted


def wrong_entry_told(one, other, label, paper):
    """The least number of an entry that is wrong, or None."""
    taken = []
    for k, query in enumerate(one.queries):
        if label not in ("counted", "polynomials"):
            if not is_entry_told(query, other, label, paper[k]):
                return k
            continue
        entry = paper[k]
        if type(entry) is not list or not all(type(part) is tuple and len(part) == 4 for part in entry):
            return k
        if [part[0] for part in entry] != groupings_told(query):
            return k
        for part in entry:
            if not is_pairing_told(query, other, label, part) or part[1:3] in taken:
                return k
            taken.append(part[1:3])
    return None


def answer_told(rows, union, measure, marks, head):
    """The answer at the head row, way by way: every tuple of values is tried."""
    values = sorted({value for _, _, each in rows for value in each})
    name_of = {(table, each): name for name, table, each in rows}
    found = measure.zero()
    for query in union.queries:
        for way in product(values, repeat=len(query.variables)):
            reached, atoms = moved(query, way)
            if reached != head or not all(atom in name_of for atom in atoms):
                continue
            mark = measure.one()
            for atom in atoms:
                mark = measure.times(mark, marks[name_of[atom]])
            found = measure.plus(found, mark)
    return found


def witness_told(one, measure, answer):
    """The database of a counterexample: rows, marks and head row."""
    _, number, grouping, weights = answer
    query = one.queries[number].image(grouping)
    head, atoms = moved(query, range(len(query.variables)))
    rows = [("r" + letter, *atom) for letter, atom in zip("abcdef", sorted(set(atoms)))]
    if measure.label in ("cheapest", "dearest"):
        marks = {row[0]: weight for row, weight in zip(rows, weights)}
    else:
        marks = {row[0]: measure.named(row[0]) for row in rows}
    return rows, marks, head
