import unittest
from random import Random

from marktables.desk import Desk
from marktables.errors import (
    InvalidDeed, InvalidDeeds, InvalidName, InvalidTables, KnownTitle, NothingToRedo, NothingToUndo, UnknownRow,
    UnknownTitle)
from marktables.measures import Why
from marktables.polynomials import Polynomial
from marktables.tables import Tables, polynomial_answers
from marktables.unions import Union
from told import union_of
from values import nested, no_names

ROWS = [("r", "edge", (1, 2)), ("s", "edge", (2, 2)), ("t", "edge", (2, 3))]
PAIRS = union_of("x z <- edge x y, edge y z")
ENDS = union_of("x <- edge x y\nx <- edge y x")


def texts(answers):
    return {head: str(polynomial) for head, polynomial in answers.items()}


def state(desk):
    """All that can be read of a desk but for news."""
    return desk.tables, desk.titles, desk.log, [texts(desk.answer(title)) for title in desk.titles]


def deeds_ahead(desk):
    """How many deeds can be undone and done once more; the desk is afterwards as before."""
    undone = redone = 0
    try:
        while True:
            desk.back()
            undone += 1
    except NothingToUndo:
        pass
    try:
        while True:
            desk.again()
            redone += 1
    except NothingToRedo:
        pass
    for _ in range(redone - undone):
        desk.back()
    return undone, redone


class Deeds(unittest.TestCase):
    def test_an_empty_desk(self):
        for desk in [Desk(), Desk([]), Desk(()), Desk(rows=[])]:
            self.assertEqual([desk.tables, desk.titles, desk.log], [Tables([]), (), ()])

    def test_rows_come_and_go(self):
        desk = Desk(ROWS[:1])
        self.assertIsNone(desk.put(ROWS[1]))
        self.assertEqual(desk.tables, Tables(ROWS[:2]))
        self.assertIsNone(desk.take("r"))
        self.assertEqual(desk.tables, Tables(ROWS[1:2]))
        desk.put(row=("r", "edge", (7, 7)))
        self.assertEqual(desk.tables.rows, (("r", "edge", (7, 7)), ROWS[1]))
        self.assertEqual(desk.log, (("put", ROWS[1]), ("take", "r"), ("put", ("r", "edge", (7, 7)))))
        self.assertIs(type(desk.log), tuple)

    def test_titles_come_and_go(self):
        desk = Desk(ROWS)
        self.assertIsNone(desk.watch("pairs", PAIRS))
        desk.watch(union=ENDS, title="ends")
        self.assertEqual(desk.titles, ("ends", "pairs"))
        self.assertIs(type(desk.titles), tuple)
        self.assertIsNone(desk.drop("pairs"))
        self.assertEqual(desk.titles, ("ends",))
        desk.watch("pairs", ENDS)
        self.assertEqual(texts(desk.answer("pairs")), texts(polynomial_answers(Tables(ROWS), ENDS)))
        self.assertEqual(desk.log, (("watch", "pairs"), ("watch", "ends"), ("drop", "pairs"), ("watch", "pairs")))

    def test_answers_are_those_of_now(self):
        desk = Desk(ROWS)
        desk.watch("pairs", PAIRS)
        self.assertEqual(texts(desk.answer("pairs")), {(1, 2): "r s", (1, 3): "r t", (2, 2): "s s", (2, 3): "s t"})
        desk.take("s")
        self.assertEqual(texts(desk.answer(title="pairs")), {(1, 3): "r t"})
        desk.put(("a", "edge", (3, 1)))
        self.assertEqual(desk.answer("pairs"), polynomial_answers(desk.tables, PAIRS))
        desk.take("t")
        desk.take("r")
        self.assertEqual(desk.answer("pairs"), {})
        first = desk.answer("pairs")
        first[()] = None
        self.assertEqual(desk.answer("pairs"), {})

    def test_what_was_read_stays(self):
        rows = list(ROWS)
        desk = Desk(rows)
        desk.watch("pairs", PAIRS)
        read = desk.tables, desk.titles, desk.log, desk.answer("pairs")
        kept = Tables(ROWS), ("pairs",), (("watch", "pairs"),), polynomial_answers(Tables(ROWS), PAIRS)
        desk.put(("a", "edge", (9, 9)))
        desk.attempt([("take", "r"), ("drop", "pairs")])
        rows.clear()
        self.assertEqual(read, kept)
        desk.back()
        desk.back()
        desk.back()
        self.assertEqual(read, kept)
        self.assertEqual(desk.tables, Tables(ROWS))


class Errors(unittest.TestCase):
    def refused(self, error, call, desk, attribute=None, value=None):
        """The call raises the error and changes nothing, not even what can be undone and done once more."""
        desk.put(("z", "other", (0,)))
        desk.back()
        before, ahead = state(desk), deeds_ahead(desk)
        with self.assertRaises(error) as caught:
            call()
        self.assertIs(type(caught.exception), error)
        if attribute is not None:
            found = getattr(caught.exception, attribute)
            self.assertEqual(found, value)
            self.assertIs(type(found), type(value))
        self.assertEqual(state(desk), before)
        self.assertEqual(deeds_ahead(desk), ahead)
        self.assertEqual(ahead[1], ahead[0] + 1)

    def desk(self):
        desk = Desk(ROWS)
        desk.watch("pairs", PAIRS)
        return desk

    def test_rows_of_a_new_desk(self):
        for rows, reason in [
                (None, ("rows",)), ({}, ("rows",)), ([None], ("row", 0)), ([ROWS[0], ROWS[0]], ("name", 1)),
                ([ROWS[0], ("s", "edge", (1,))], ("places", 1)), ([ROWS[0], ("s", "edge", (1, 2))], ("repeated", 1)),
                ([("r", "edge", (k,)) for k in range(7)], ("rows",)), ("", ("rows",))]:
            with self.assertRaises(InvalidTables) as caught:
                Desk(rows)
            self.assertEqual(caught.exception.reason, reason)

    def test_put(self):
        desk = self.desk()
        for value, reason in [
                (("q", "edge", (1,)), ("places", 3)), (("s", "edge", (5, 5)), ("name", 3)),
                (("s", "edge", (2, 2)), ("name", 3)), (("q", "edge", (2, 2)), ("repeated", 3)),
                (("q", "edge", (True, 1)), ("row", 3)), (["q", "edge", (5, 5)], ("row", 3)), (("q", "edge"), ("row", 3))]:
            self.refused(InvalidTables, lambda: desk.put(value), desk, "reason", reason)
        for value in no_names():
            self.refused(InvalidTables, lambda: desk.put(value), desk, "reason", ("row", 3))
        full = Desk([("abcdef"[k], "a", (k,)) for k in range(6)])
        with self.assertRaises(InvalidTables) as caught:
            full.put(None)
        self.assertEqual(caught.exception.reason, ("rows",))
        self.assertEqual(len(full.tables), 6)
        self.assertEqual(full.log, ())

    def test_take(self):
        desk = self.desk()
        for value in [*no_names(), "q", "edge", ROWS[0], ("r",), "R"]:
            self.refused(UnknownRow, lambda: desk.take(value), desk, "name", value)

    def test_watch(self):
        desk = self.desk()
        for value in no_names():
            self.refused(InvalidName, lambda: desk.watch(value, PAIRS), desk)
        self.refused(KnownTitle, lambda: desk.watch("pairs", PAIRS), desk, "title", "pairs")
        self.refused(KnownTitle, lambda: desk.watch("pairs", ENDS), desk, "title", "pairs")
        desk.drop("pairs")
        desk.watch("pairs", ENDS)

    def test_drop_answer_news(self):
        desk = self.desk()
        for value in [*no_names(), "ends", "pair", PAIRS, ("pairs",)]:
            for call in (desk.drop, desk.answer, desk.news):
                self.refused(UnknownTitle, lambda: call(value), desk, "title", value)

    def test_nothing_to_undo_or_redo(self):
        desk = Desk(ROWS)
        with self.assertRaises(NothingToUndo):
            desk.back()
        with self.assertRaises(NothingToRedo):
            desk.again()
        desk.take("r")
        with self.assertRaises(NothingToRedo):
            desk.again()
        desk.back()
        with self.assertRaises(NothingToUndo):
            desk.back()
        self.assertEqual(desk.tables, Tables(ROWS))
        desk.again()
        with self.assertRaises(NothingToRedo):
            desk.again()
        self.assertEqual(desk.tables, Tables(ROWS[1:]))


class BackAndAgain(unittest.TestCase):
    def done(self):
        """A desk after deeds of all kinds, and its states before each of them and at the end."""
        desk = Desk(ROWS)
        deeds = [
            lambda: desk.watch("pairs", PAIRS), lambda: desk.put(("a", "edge", (3, 3))), lambda: desk.take("r"),
            lambda: desk.watch("ends", ENDS), lambda: desk.attempt([("drop", "pairs"), ("put", ("r", "other", (1,)))]),
            lambda: desk.drop("ends"), lambda: desk.watch("ends", PAIRS), lambda: desk.attempt((("take", "r"),)),
        ]
        states = [state(desk)]
        for deed in deeds:
            self.assertIsNone(deed())
            states.append(state(desk))
        return desk, states

    def test_each_state_again(self):
        desk, states = self.done()
        for _ in range(2):
            for before in states[-2::-1]:
                self.assertIsNone(desk.back())
                self.assertEqual(state(desk), before)
            for after in states[1:]:
                self.assertIsNone(desk.again())
                self.assertEqual(state(desk), after)

    def test_to_and_fro(self):
        random = Random(91)
        desk, states = self.done()
        at = len(states) - 1
        for _ in range(300):
            step = random.choice([-1, 1])
            if step == -1 and at > 0:
                desk.back()
            elif step == 1 and at < len(states) - 1:
                desk.again()
            else:
                step = 0
            at += step
            self.assertEqual(state(desk), states[at])

    def test_a_new_deed_ends_what_could_be_done_once_more(self):
        deeds = [
            lambda desk: desk.put(("q", "z", (1,))), lambda desk: desk.take("s"), lambda desk: desk.watch("one", ENDS),
            lambda desk: desk.drop("pairs"), lambda desk: desk.attempt([("take", "s")]),
        ]
        for deed in deeds:
            desk, states = self.done()
            for _ in range(5):
                desk.back()
            deed(desk)
            with self.assertRaises(NothingToRedo):
                desk.again()
            desk.back()
            self.assertEqual(state(desk), states[-6])
            desk.again()
            with self.assertRaises(NothingToRedo):
                desk.again()

    def test_what_is_no_deed_ends_nothing(self):
        desk, states = self.done()
        for _ in range(5):
            desk.back()
        for call in [lambda: desk.answer("pairs"), lambda: desk.news("pairs"), lambda: desk.attempt([]),
                     lambda: desk.attempt(()), lambda: desk.tables, lambda: desk.log]:
            call()
        for call in [lambda: desk.put(None), lambda: desk.take("zz"), lambda: desk.watch("pairs", ENDS),
                     lambda: desk.watch("", ENDS), lambda: desk.drop("zz"), lambda: desk.attempt([("take", "zz")]),
                     lambda: desk.attempt(None), lambda: desk.attempt([("drop", "pairs"), 1])]:
            with self.assertRaises(ValueError):
                call()
        for after in states[-5:]:
            desk.again()
            self.assertEqual(state(desk), after)

    def test_the_row_of_a_deed_that_is_done_once_more(self):
        desk = Desk(ROWS)
        desk.put(("q", "edge", (8, 8)))
        desk.back()
        self.assertEqual(desk.log, ())
        desk.again()
        self.assertEqual(desk.log, (("put", ("q", "edge", (8, 8))),))


class Attempts(unittest.TestCase):
    def desk(self):
        desk = Desk(ROWS)
        desk.watch("pairs", PAIRS)
        desk.watch("ends", ENDS)
        return desk

    def test_several_deeds_are_one(self):
        for kind in (list, tuple):
            desk = self.desk()
            before = state(desk)
            self.assertIsNone(desk.attempt(deeds=kind([
                ("take", "r"), ("put", ("r", "edge", (5, 5))), ("drop", "ends"), ("take", "s")])))
            self.assertEqual(desk.tables.rows, (("r", "edge", (5, 5)), ROWS[2]))
            self.assertEqual(desk.titles, ("pairs",))
            self.assertEqual(desk.log, (("watch", "pairs"), ("watch", "ends"), ("attempt", 4)))
            after = state(desk)
            desk.back()
            self.assertEqual(state(desk), before)
            desk.again()
            self.assertEqual(state(desk), after)

    def test_each_deed_sees_those_before_it(self):
        desk = Desk([("abcdef"[k], "a", (k,)) for k in range(6)])
        with self.assertRaises(InvalidTables) as caught:
            desk.attempt([("put", ("g", "a", (6,))), ("take", "a")])
        self.assertEqual(caught.exception.reason, ("rows",))
        desk.attempt([("take", "a"), ("put", ("g", "a", (6,)))])
        self.assertEqual(desk.tables.names, ("b", "c", "d", "e", "f", "g"))
        desk.attempt([("take", "g"), ("put", ("g", "a", (6,))), ("take", "g")])
        self.assertEqual(desk.log, (("attempt", 2), ("attempt", 3)))
        with self.assertRaises(UnknownRow):
            desk.attempt([("take", "b"), ("take", "b")])
        with self.assertRaises(InvalidTables) as caught:
            desk.attempt([("take", "b"), ("take", "c"), ("put", ("h", "a", (5,)))])
        self.assertEqual(caught.exception.reason, ("repeated", 3))
        desk.watch("one", union_of("x <- a x"))
        with self.assertRaises(UnknownTitle):
            desk.attempt([("drop", "one"), ("drop", "one")])

    def test_empty_ones_change_nothing(self):
        desk = self.desk()
        desk.back()
        before = state(desk)
        for deeds in ([], ()):
            self.assertIsNone(desk.attempt(deeds))
            self.assertEqual(state(desk), before)
        desk.again()
        self.assertEqual(desk.titles, ("ends", "pairs"))

    def refused(self, desk, deeds, error, attribute=None, value=None):
        kept = repr(deeds)
        desk.put(("z", "other", (0,)))
        desk.back()
        before, ahead = state(desk), deeds_ahead(desk)
        desk.news("pairs")
        desk.news("ends")
        with self.assertRaises(error) as caught:
            desk.attempt(deeds)
        self.assertIs(type(caught.exception), error)
        if attribute:
            self.assertEqual(getattr(caught.exception, attribute), value)
        self.assertEqual([desk.news("pairs"), desk.news("ends")], [{}, {}])
        self.assertEqual(state(desk), before)
        self.assertEqual(deeds_ahead(desk), ahead)
        self.assertEqual(repr(deeds), kept)

    def test_no_list_or_tuple(self):
        desk = self.desk()
        for value in [value for value in no_names() if not isinstance(value, (list, tuple))]:
            self.refused(desk, value, InvalidDeeds)

    def test_deeds_of_another_form(self):
        desk = self.desk()
        right = [("take", "r"), ("drop", "pairs"), ("put", ("r", "other", (1,)))]
        wrong = [
            *no_names(), ("take",), ("take", "r", "s"), ["take", "r"], ("Take", "r"), ("watch", "one"), ("back", None),
            ("watch", "one", PAIRS), ("attempt", []), ("attempt", 1), (None, "r"), (("take",), "r"), (PAIRS, "r"),
            (Polynomial([]), "r"), ("r", "take"), "ab", ("", "r"), ({}, "r"), ([], "r"), (Why(), "r"), ("news", "pairs"),
            ("again",), nested(30), (True, "r"),
        ]
        for value in wrong:
            for place in range(4):
                deeds = [*right[:place], value, *right[place:]]
                self.refused(desk, deeds, InvalidDeed, "number", place)
                self.refused(desk, tuple(deeds), InvalidDeed, "number", place)
        self.refused(desk, [*right, None, None], InvalidDeed, "number", 3)

    def test_deeds_that_are_refused(self):
        desk = self.desk()
        right = [("take", "r"), ("drop", "pairs"), ("put", ("r", "other", (1,)))]
        for value, error, attribute, told in [
                (("take", "zz"), UnknownRow, "name", "zz"), (("take", None), UnknownRow, "name", None),
                (("take", ["r"]), UnknownRow, "name", ["r"]), (("drop", "zz"), UnknownTitle, "title", "zz"),
                (("drop", []), UnknownTitle, "title", []), (("drop", PAIRS), UnknownTitle, "title", PAIRS)]:
            for place in range(4):
                self.refused(desk, [*right[:place], value, *right[place:]], error, attribute, told)
                # What is wrong behind it is not come to.
                self.refused(desk, [*right[:place], value, None], error, attribute, told)
                self.refused(desk, [*right[:place], None, value], InvalidDeed, "number", place)
        for value in [*no_names(), ("q", "edge", (True, 1)), ["q", "edge", (1, 5)]]:
            for place in range(4):
                reason = ("row", 3 if place in (0, 3) else 2)
                self.refused(desk, [*right[:place], ("put", value), *right[place:]], InvalidTables, "reason", reason)


class Model:
    """A desk told in a simple way: whole states are kept."""

    def __init__(self):
        self.rows, self.unions, self.log, self.seen = [], {}, [], {}
        self.past, self.future = [], []

    def kept(self):
        return list(self.rows), dict(self.unions), list(self.log)

    def restore(self, kept):
        before = set(self.unions)
        self.rows, self.unions, self.log = list(kept[0]), dict(kept[1]), list(kept[2])
        for title in list(self.seen):
            if title not in before or title not in self.unions:
                del self.seen[title]

    def deed(self, entry, change):
        kept = self.kept()
        change()
        self.log.append(entry)
        self.past.append(kept)
        self.future = []
        self.seen = {title: answers for title, answers in self.seen.items() if title in self.unions}

    def back(self):
        self.future.append(self.kept())
        self.restore(self.past.pop())

    def again(self):
        self.past.append(self.kept())
        self.restore(self.future.pop())

    def news(self, title):
        new = polynomial_answers(Tables(self.rows), self.unions[title])
        old = self.seen.get(title, {})
        self.seen[title] = new
        zero = Polynomial([])
        found = {head: new.get(head, zero) - old.get(head, zero) for head in sorted({*new, *old})}
        return {head: each for head, each in found.items() if each != zero}


class LongRuns(unittest.TestCase):
    def test_as_a_simple_model(self):
        for seed in range(40):
            random = Random(seed)
            desk, model = Desk(), Model()
            for _ in range(120):
                self.step(random, desk, model)
                self.assertEqual(desk.tables, Tables(model.rows))
                self.assertEqual(desk.titles, tuple(sorted(model.unions)))
                self.assertEqual(desk.log, tuple(model.log))
                for title in desk.titles:
                    if random.random() < 0.2:
                        found = desk.news(title)
                        self.assertEqual(list(found.items()), list(model.news(title).items()))

    def step(self, random, desk, model):
        name, title = random.choice("rstuvw"), random.choice(["one", "two"])
        row = (name, "edge", (random.randrange(3), random.randrange(3)))
        word = random.choice(["put", "put", "take", "watch", "drop", "back", "back", "again", "again", "attempt"])
        try:
            if word == "put":
                desk.put(row)
                model.deed(("put", row), lambda: model.rows.append(row))
            elif word == "take":
                desk.take(name)
                model.deed(("take", name), lambda: self.take(model, name))
            elif word == "watch":
                union = random.choice([PAIRS, ENDS])
                desk.watch(title, union)
                model.deed(("watch", title), lambda: model.unions.update({title: union}))
            elif word == "drop":
                desk.drop(title)
                model.deed(("drop", title), lambda: model.unions.pop(title))
            elif word == "attempt":
                self.attempt(random, desk, model)
            elif word == "back":
                self.assertEqual(bool(model.past), self.tried(desk.back, NothingToUndo))
                if model.past:
                    model.back()
            else:
                self.assertEqual(bool(model.future), self.tried(desk.again, NothingToRedo))
                if model.future:
                    model.again()
        except (InvalidTables, UnknownRow, KnownTitle, UnknownTitle):
            pass

    def tried(self, call, error):
        try:
            call()
        except error:
            return False
        return True

    def take(self, model, name):
        model.rows = [row for row in model.rows if row[0] != name]

    def attempt(self, random, desk, model):
        deeds, rows, unions = [], list(model.rows), dict(model.unions)
        for _ in range(random.randrange(4)):
            if rows and random.random() < 0.5:
                gone = random.choice(rows)
                rows = [row for row in rows if row != gone]
                deeds.append(("take", gone[0]))
            elif unions and random.random() < 0.6:
                title = random.choice(sorted(unions))
                del unions[title]
                deeds.append(("drop", title))
            else:
                row = (random.choice("rstuvw"), "edge", (random.randrange(3), random.randrange(3)))
                rows = [*rows, row]
                deeds.append(("put", row))
        if random.random() < 0.3:
            deeds.append(("take", "none"))
        desk.attempt(deeds)

        def change():
            model.rows, model.unions = rows, unions
        if deeds:
            model.deed(("attempt", len(deeds)), change)


class News(unittest.TestCase):
    def test_told(self):
        desk = Desk(ROWS[:1])
        desk.watch("ends", ENDS)
        self.assertEqual(texts(desk.news("ends")), {(1,): "r", (2,): "r"})
        self.assertEqual(desk.news("ends"), {})
        desk.put(ROWS[1])
        self.assertEqual(texts(desk.news(title="ends")), {(2,): "2 s"})
        desk.take("r")
        desk.put(ROWS[2])
        self.assertEqual(texts(desk.news("ends")), {(1,): "-r", (2,): "-r + t", (3,): "t"})

    def test_changes_that_come_to_nothing(self):
        desk = Desk(ROWS)
        desk.watch("ends", ENDS)
        desk.news("ends")
        desk.take("r")
        desk.put(ROWS[0])
        self.assertEqual(desk.news("ends"), {})

    def test_back_does_not_undo_what_was_seen(self):
        desk = Desk(ROWS[:1])
        desk.watch("ends", ENDS)
        desk.put(ROWS[1])
        first = texts(desk.news("ends"))
        self.assertEqual(first, {(1,): "r", (2,): "r + 2 s"})
        desk.back()
        self.assertEqual(texts(desk.news("ends")), {(2,): "-2 s"})
        desk.again()
        self.assertEqual(texts(desk.news("ends")), {(2,): "2 s"})

    def test_a_title_that_comes_again_has_seen_nothing(self):
        whole = texts(polynomial_answers(Tables(ROWS), ENDS))
        comings = [
            lambda desk: (desk.drop("ends"), desk.watch("ends", ENDS)), lambda desk: (desk.drop("ends"), desk.back()),
            lambda desk: (desk.back(), desk.again()), lambda desk: (desk.back(), desk.watch("ends", ENDS)),
            lambda desk: (desk.attempt([("drop", "ends")]), desk.back()),
            lambda desk: (desk.attempt([("drop", "ends")]), desk.watch("ends", ENDS)),
            lambda desk: (desk.drop("ends"), desk.back(), desk.again(), desk.back()),
        ]
        for come in comings:
            desk = Desk(ROWS)
            desk.watch("pairs", PAIRS)
            desk.news("pairs")
            desk.watch("ends", ENDS)
            self.assertEqual(texts(desk.news("ends")), whole)
            self.assertEqual(desk.news("ends"), {})
            come(desk)
            self.assertEqual(texts(desk.news("ends")), whole)
            # The other title stayed.
            self.assertEqual(desk.news("pairs"), {})

    def test_an_attempt_that_is_refused_keeps_what_was_seen(self):
        desk = Desk(ROWS)
        desk.watch("ends", ENDS)
        desk.news("ends")
        for deeds in [[("drop", "ends"), ("take", "zz")], [("drop", "ends"), None], [("take", "r"), ("drop", "zz")]]:
            with self.assertRaises((UnknownRow, InvalidDeed, UnknownTitle)):
                desk.attempt(deeds)
            self.assertEqual(desk.news("ends"), {})

    def test_the_sum_of_all_news_is_the_answer(self):
        random = Random(92)
        desk = Desk(ROWS)
        desk.watch("ends", ENDS)
        total = {}
        for k in range(60):
            if random.random() < 0.5 and len(desk.tables) < 6:
                desk.put(("abcdefghijklmnopqrstuvwxyz"[k % 26] + "x", "edge", (k, random.randrange(3))))
            elif len(desk.tables):
                desk.take(random.choice(desk.tables.names))
            for head, change in desk.news("ends").items():
                total[head] = total.get(head, Polynomial([])) + change
            left = {head: each for head, each in sorted(total.items()) if each != Polynomial([])}
            self.assertEqual(left, desk.answer("ends"))

    def test_new_dicts(self):
        desk = Desk(ROWS)
        desk.watch("ends", ENDS)
        first = desk.news("ends")
        self.assertEqual(list(first), sorted(first))
        first.clear()
        self.assertEqual(desk.news("ends"), {})
        second = desk.news("ends")
        second[(1,)] = None
        self.assertEqual(desk.news("ends"), {})


class Examples(unittest.TestCase):
    def test_of_the_document(self):
        desk = Desk([("r", "edge", (1, 2))])
        desk.watch("pairs", Union.read("x z <- edge x y, edge y z"))
        first = desk.news("pairs")
        desk.put(("s", "edge", (2, 2)))
        second = desk.news("pairs")
        desk.back()
        self.assertEqual(
            [len(first), texts(second), texts(desk.news("pairs"))],
            [0, {(1, 2): "r s", (2, 2): "s s"}, {(1, 2): "-r s", (2, 2): "-s s"}])


if __name__ == "__main__":
    unittest.main()
