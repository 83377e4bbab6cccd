"""Unions: 1 to 3 queries whose answers are collected."""

from marktables.errors import InvalidText, InvalidUnion
from marktables.queries import Query, check_alike, first_clash, normal

MOST_QUERIES = 3


class Union:
    """1 to 3 queries with heads of one length and tables of the same numbers of places."""

    def __init__(self, *queries):
        reason = _union_error(queries)
        if reason is not None:
            raise InvalidUnion(reason)
        self._queries = tuple(sorted(queries, key=_order))

    @property
    def queries(self):
        """The tuple of the queries in ascending order of (head, atoms), with repetitions."""
        return self._queries

    @classmethod
    def read(cls, text):
        """The union with this text."""
        queries = [Query.read(line) for line in text.split("\n")]
        try:
            union = Union(*queries)
        except InvalidUnion:
            raise InvalidText("no union has this text") from None
        # Lines in another order give a union, too, but not one with this text.
        if str(union) != text:
            raise InvalidText("no union has this text")
        return union

    def __or__(self, other):
        queries = self._queries + other._queries
        return Union(*queries)

    def __eq__(self, other):
        return isinstance(other, Union) and self._queries == other._queries

    def __len__(self):
        return len(self._queries)

    def __str__(self):
        return "\n".join([str(query) for query in self._queries])


def normal_union(union):
    """The union of the normal queries of the queries."""
    queries = [normal(query) for query in union.queries]
    return Union(*queries)


def same_lists(one, other):
    """Whether the queries of both unions are the same up to the names of variables and the order."""
    check_alike(one.queries, other.queries)
    return normal_union(one) == normal_union(other)


def _union_error(queries):
    """The first reason why these are no union, or None."""
    if not 1 <= len(queries) <= MOST_QUERIES:
        return ("queries",)
    for k, query in enumerate(queries):
        if not isinstance(query, Query):
            return ("query", k)
    for k, query in enumerate(queries):
        if len(query.head) != len(queries[0].head):
            return ("head", k)
    clash = first_clash(queries)
    if clash is not None:
        return ("places", clash)
    return None


def _order(query):
    """By what the queries of a union are put in order."""
    return query.head, query.atoms
