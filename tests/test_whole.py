"""The promise over the whole, point 4: drawn rows of calls, beside a plain reckoning."""

import random
import unittest

from oncedoor.doors import Door
from oncedoor.errors import DoorError, Down, Late, NoNumber, Unsafe, Up
from oncedoor.houses import House
from oncedoor.journals import Journal
from oncedoor.looks import first_unlike, first_wrong, too_near
from oncedoor.risings import first_odd
from oncedoor.rows import read_row, shown_row

MOST = 10 ** 12

NAMES = ("ann", "bo", "cy")
HOUSES = ("mill", "inn", "barn")
ASKERS = ("a", "ab")
KEYS = ("b", "bc", "c")
WAYS = ("through", "through", "through", "lost", "unheard")


class PlainHouse:
    """Amounts and closed names, and under each key what was asked."""

    def __init__(self, amounts):
        self.amounts = dict(amounts)
        self.closed = set()
        self.words = {}
        self.done = {}

    def ask(self, key, deed):
        if key not in self.words:
            word, name, n = deed
            here = self.amounts.get(name, 0)
            can = here >= n if word == "take" else name not in self.closed and here + n <= MOST
            self.words[key] = "yes" if can else "no"
            self.done[key] = (name, (n if word == "add" else -n) if can else 0)
            self.amounts[name] = here + self.done[key][1]
        return self.words[key]

    def undo(self, key):
        name, by = self.done.pop(key, ("ann", 0))
        self.amounts[name] = self.amounts.get(name, 0) - by
        self.words[key] = "undone"

    def rows(self):
        return sorted(pair for pair in self.amounts.items() if pair[1] != 0)


def plain_asks(deed):
    """The tuples (house, deed there)."""
    name, n = deed[-2:]
    return {
        "send": [(deed[1], ("add", name, n))], "fetch": [(deed[1], ("take", name, n))],
        "pass": [(deed[1], ("take", name, n)), (deed[2], ("add", name, n))],
    }.get(deed[0], [])


def plain_names(deed):
    return {"pass": set(), "move": set(deed[1:3])}.get(deed[0], {deed[-2]})


def plain_changes(deed):
    name, n = deed[-2:]
    return {
        "add": {name: n}, "fetch": {name: n}, "take": {name: -n}, "send": {name: -n}, "pass": {},
        "move": {deed[1]: -n, deed[2]: n},
    }[deed[0]]


def plain_early(book, deed):
    here = book.get(deed[1] if deed[0] == "move" else deed[-2], 0)
    there = book.get(deed[2], 0) if deed[0] == "move" else here
    if deed[0] in ("take", "send", "move") and here < deed[-1]:
        return ("short", here)
    if deed[0] in ("add", "fetch", "move") and there + deed[-1] > MOST:
        return ("full", there)
    return None if plain_asks(deed) else plain_is(book, deed)


def plain_is(book, deed):
    return ("is",) + tuple(book.get(name, 0) + by for name, by in plain_changes(deed).items())


def plain_late(book, deed, yes):
    if yes < len(plain_asks(deed)):
        return ("no", plain_asks(deed)[yes][0])
    return ("ok",) if deed[0] == "pass" else plain_is(book, deed)


class Plain:
    """A door that keeps its rows, and where each deed under way stands; all else is reckoned of these at each call."""

    def __init__(self, name, life, houses):
        self.name, self.life, self.houses = name, life, houses
        self.rows, self.safe, self.turn, self.stages = [], 0, 0, {}

    def came(self, number):
        return [row for row in self.rows if row[:2] == ("came", number)][0]

    def ended(self):
        """The safe done rows as tuples (number, turn, asker, key, deed, answer), in their order."""
        return [row[1:3] + self.came(row[1])[3:] + row[3:] for row in self.rows[:self.safe] if row[0] == "done"]

    def book(self):
        book = {}
        for entry in self.ended():
            if entry[5][0] == "is":
                for name, by in plain_changes(entry[4]).items():
                    book[name] = book.get(name, 0) + by
        return book

    def book_rows(self):
        return sorted(pair for pair in self.book().items() if pair[1] > 0)

    def under(self):
        return [
            (number,) + self.came(number)[3:] + (stage[0],) for number, stage in sorted(self.stages.items())
        ]

    def kept(self):
        last = {entry[2:4]: entry for entry in self.ended()}
        busy = [entry[1:3] for entry in self.under()]
        return sorted(
            entry for pair, entry in last.items() if pair not in busy and entry[1] + self.life > self.turn
        )

    def come(self, turn, asker, key, deed):
        self.turn = turn
        for entry in self.under():
            if entry[1:3] == (asker, key):
                return ("busy", entry[0]) if entry[3] == deed else ("other",)
        for entry in self.kept():
            if entry[2:4] == (asker, key):
                return ("kept", entry[5]) if entry[4] == deed else ("other",)
        number = max([0] + [row[1] for row in self.rows]) + 1
        self.rows.append(("came", number, turn, asker, key, deed))
        self.stages[number] = ("new", 0)
        return ("begun", number)

    def work(self, number, way):
        stage, place = self.stages[number]
        deed = self.came(number)[5]
        if stage == "new":
            holders = [
                other for other in sorted(self.stages)
                if self.stages[other][0] != "new" and plain_names(self.came(other)[5]) & plain_names(deed)
            ]
            if holders:
                return ("waits", holders[0])
            self.stages[number] = ("held", 0)
            return ("holds",)
        if stage == "held" and plain_early(self.book(), deed) is None:
            self.rows.append(("asked", number))
            self.stages[number] = ("asked", 0)
            return ("writes", "asked")
        if stage in ("held", "heard"):
            answer = plain_early(self.book(), deed) if stage == "held" else plain_late(self.book(), deed, place)
            self.rows.append(("done", number, self.turn, answer))
            self.stages[number] = ("written", 0)
            return ("writes", "done")
        if stage == "written" or ("asked", number) not in self.rows[:self.safe]:
            return ("unsafe",)
        return self.reach(number, stage, place, deed, way)

    def reach(self, number, stage, place, deed, way):
        """Ask or undo at a house."""
        at = place if stage == "asked" else 0
        house, there = plain_asks(deed)[at]
        key = f"{self.name}{number}{'ab'[at]}"
        word = None
        if way != "lost":
            word = self.houses[house].ask(key, there) if stage == "asked" else self.houses[house].undo(key)
        if way != "through":
            return ("silent", house)
        if stage == "undoing":
            self.stages[number] = ("heard", 1)
            return ("undoes", house)
        if word == "no":
            self.stages[number] = ("undoing" if place else "heard", place)
        else:
            self.stages[number] = ("asked" if place + 1 < len(plain_asks(deed)) else "heard", place + 1)
        return ("hears", house, word)

    def force(self):
        before = len(self.ended())
        self.safe = len(self.rows)
        told = self.ended()[before:]
        for entry in told:
            del self.stages[entry[0]]
        return [(entry[0], entry[2], entry[3], entry[5]) for entry in told]

    def fall_and_rise(self, more, turn):
        text = "".join(shown_row(row) + "\n" for row in self.rows)
        safe = len("".join(shown_row(row) + "\n" for row in self.rows[:self.safe]))
        stays = text[:safe + more]
        self.rows = [read_row(line) for line in stays.split("\n")[:-1]]
        self.safe, self.turn = len(self.rows), turn
        done = [row[1] for row in self.rows if row[0] == "done"]
        self.stages = {row[1]: ("asked", 0) for row in self.rows if row[0] == "asked" and row[1] not in done}
        return sorted(self.stages)


def drawn_deed(draw, amounts):
    n = draw.choice(amounts)
    one, two = draw.sample(NAMES, 2)
    house, other = draw.sample(HOUSES, 2)
    return draw.choice((
        ("add", one, n), ("add", one, n), ("take", one, n), ("move", one, two, n), ("send", house, one, n),
        ("fetch", house, one, n), ("pass", house, other, one, n), ("pass", house, other, one, n),
    ))


class History:
    """What askers were told by one door, and what its journal tells: held to point 4."""

    def __init__(self, case, life):
        self.case, self.life = case, life
        # By numbers: the answers told.
        self.answers = {}
        # By asker and key: the tuples (turn, number) of the deeds whose answer was told, each once.
        self.ends = {}

    def told(self, number, asker, key, turn, answer):
        self.case.assertEqual(self.answers.setdefault(number, answer), answer)
        ends = self.ends.setdefault((asker, key), [])
        if number not in [end[1] for end in ends]:
            for since, other in ends:
                self.case.assertGreaterEqual(turn, since + self.life)
            ends.append((turn, number))

    def kept(self, entries):
        for number, turn, asker, key, deed, answer in entries:
            self.told(number, asker, key, turn, answer)

    def is_within(self, rows):
        """All that was told is told by the rows, once."""
        done = {row[1]: row[3] for row in rows if row[0] == "done"}
        for number, answer in self.answers.items():
            self.case.assertEqual(done.get(number), answer)


class Drawn(unittest.TestCase):

    def held_to_a_plain_one(self, seed, life, amounts, start):
        draw = random.Random(seed)
        houses = [(name, House(start)) for name in HOUSES]
        plain_houses = {name: PlainHouse(start) for name in HOUSES}
        door, plain = Door("hall", life, houses), Plain("hall", life, plain_houses)
        history = History(self, life)
        turn = 0
        for step in range(draw.randrange(60, 250)):
            what = draw.choice(("come", "come", "work", "work", "work", "work", "work", "force", "fall", "house"))
            numbers = sorted(plain.stages)
            if what == "come":
                turn += draw.choice((0, 0, 0, 1, 1, min(life, 30)))
                ask = (turn, draw.choice(ASKERS), draw.choice(KEYS), drawn_deed(draw, amounts))
                if draw.random() < 0.4 and plain.rows:
                    ask = (turn,) + draw.choice([row for row in plain.rows if row[0] == "came"])[3:]
                told = door.come(*ask)
                self.assertEqual(told, plain.come(*ask))
                if told[0] == "kept":
                    number = [entry[0] for entry in plain.kept() if entry[2:4] == ask[1:3]][0]
                    self.assertEqual(history.answers[number], told[1])
            elif what == "work" and numbers:
                number, way = draw.choice(numbers), draw.choice(WAYS)
                self.assertEqual(door.work(number, way), plain.work(number, way))
            elif what == "force":
                told = door.force()
                self.assertEqual(told, plain.force())
                turns = {row[1]: row[2] for row in plain.rows if row[0] == "done"}
                for number, asker, key, answer in told:
                    history.told(number, asker, key, turns[number], answer)
            elif what == "fall" and draw.random() < 0.4:
                more = draw.choice((0, 1, 10, 25, 40, 60, 100, 1000))
                door.fall(more)
                self.assertRaises(Down, door.come, turn, "a", "b", ("add", "ann", 1))
                self.assertRaises(Down, door.fall, 0)
                turn += draw.choice((0, 0, 1))
                self.assertEqual(door.rise(turn), plain.fall_and_rise(more, turn))
            elif what == "house":
                name, key = draw.choice(HOUSES), draw.choice(NAMES)
                close = draw.random() < 0.4
                house = dict(houses)[name]
                (house.close if close else house.reopen)(key)
                (plain_houses[name].closed.add if close else plain_houses[name].closed.discard)(key)
            self.alike(door, plain, houses, history, turn)
        return door, plain, houses

    def alike(self, door, plain, houses, history, turn):
        self.assertEqual(door.rows(), plain.rows)
        self.assertEqual(door.book_rows(), plain.book_rows())
        self.assertEqual(door.kept(), plain.kept())
        self.assertEqual(door.under(), plain.under())
        self.assertEqual(door.now(), turn)
        for name, house in houses:
            self.assertEqual(house.rows(), plain.houses[name].rows())
        self.assertIsNone(first_odd(plain.rows))
        self.assertIsNone(first_wrong(plain.rows))
        self.assertIsNone(too_near(plain.rows, plain.life))
        self.assertIsNone(first_unlike("hall", plain.rows, houses))
        history.kept(door.kept())
        history.is_within(plain.rows)

    def settle(self, doors):
        """Work till nothing is under way."""
        for step in range(400):
            for door in doors:
                for entry in door.under():
                    door.work(entry[0])
                door.force()
            if not any(door.under() for door in doors):
                return
        self.fail("some deed never ends")

    def sums(self, doors, houses):
        """What all have together, by names."""
        told = {}
        for pairs in [door.book_rows() for door in doors] + [house.rows() for name, house in houses]:
            for name, amount in pairs:
                told[name] = told.get(name, 0) + amount
        return told

    def due_sums(self, doors, start):
        """What they began with, and what was added, less what was taken, by the doors' unfolded rows."""
        told = {name: len(HOUSES) * amount for name, amount in start}
        for door in doors:
            deeds = {row[1]: row[5] for row in door.rows() if row[0] == "came"}
            for row in door.rows():
                if row[0] != "done" or row[3][0] != "is":
                    continue
                deed = deeds[row[1]]
                if deed[0] in ("add", "take"):
                    told[deed[1]] = told.get(deed[1], 0) + (deed[2] if deed[0] == "add" else -deed[2])
                if deed[0] == "move":
                    told[deed[1]] = told.get(deed[1], 0) - deed[3]
                    told[deed[2]] = told.get(deed[2], 0) + deed[3]
        return {name: amount for name, amount in told.items() if amount}

    def houses_are_as_the_answers_say(self, door, houses):
        """Behind all ends: done at a house just where the answer says so, undone where a later house refused."""
        kept = {(name, key): word for name, house in houses for key, deed, word in house.kept()}
        due = {}
        answers = {row[1]: row[3] for row in door.rows() if row[0] == "done"}
        for row in door.rows():
            if row[0] != "came" or row[1] not in answers:
                continue
            asks, answer = plain_asks(row[5]), answers[row[1]]
            key = f"{door.called()}{row[1]}"
            if answer[0] in ("is", "ok"):
                due.update({(ask[0], key + "ab"[place]): "yes" for place, ask in enumerate(asks)})
            elif answer == ("no", asks[0][0] if asks else None):
                due[(answer[1], key + "a")] = "no"
            elif answer[0] == "no":
                due.update({(asks[0][0], key + "a"): "undone", (answer[1], key + "b"): "no"})
        length = len(door.called())
        own = {
            pair: word for pair, word in kept.items()
            if pair[1].startswith(door.called()) and pair[1][length].isdigit()
        }
        self.assertEqual(own, due)

    def test_beside_a_plain_door(self):
        start = [("ann", 40), ("bo", 40), ("cy", 40)]
        for seed in range(60):
            with self.subTest(seed=seed):
                life = random.Random(seed).choice((1, 2, 3, 5, 20, MOST))
                door, plain, houses = self.held_to_a_plain_one(seed, life, (1, 5, 12, 30), start)
                self.settle([door])
                due = self.due_sums([door], start)
                self.assertEqual(self.sums([door], houses), due)
                self.houses_are_as_the_answers_say(door, houses)

    def test_beside_a_plain_door_with_great_amounts(self):
        start = [("ann", MOST), ("bo", MOST - 5), ("cy", 5)]
        for seed in range(100, 140):
            with self.subTest(seed=seed):
                door, plain, houses = self.held_to_a_plain_one(seed, 3, (1, 5, 6, MOST - 6, MOST - 5, MOST - 1, MOST), start)
                self.settle([door])
                self.assertEqual(self.sums([door], houses), self.due_sums([door], start))
                self.houses_are_as_the_answers_say(door, houses)

    def drawn_call(self, draw, doors, turn, life):
        """A call that is the same for each of these doors: its name and arguments."""
        what = draw.choice(("come", "come", "work", "work", "work", "work", "work", "force", "fall"))
        if what == "come":
            return (what, turn, draw.choice(ASKERS), draw.choice(KEYS), drawn_deed(draw, (1, 5, 12, 30)))
        if what == "work":
            numbers = [entry[0] for entry in doors[0].under()]
            return (what, draw.choice(numbers + [0, 1, 99])) + ((draw.choice(WAYS),) if draw.random() < 0.8 else ())
        if what == "force" or draw.random() < 0.6:
            return ("force",)
        return ("fall", draw.choice((0, 1, 20, 45, 70, 1000)))

    def called(self, door, call):
        """What a call tells, or the name of its refusal."""
        try:
            return getattr(door, call[0])(*call[1:])
        except DoorError as refusal:
            return type(refusal).__name__

    def told_by(self, door, houses):
        told = [(house.rows(), house.kept()) for name, house in houses]
        return told + [door.now(), door.book_rows(), door.kept(), door.under(), door.called()]

    def test_a_folded_door_beside_one_that_isn_t(self):
        start = [("ann", 40), ("bo", 40), ("cy", 40)]
        folds = 0
        for seed in range(200, 260):
            draw = random.Random(seed)
            life = draw.choice((1, 2, 4, 10, 100))
            sides = [[(name, House(start)) for name in HOUSES] for side in range(2)]
            doors = [Door("hall", life, houses) for houses in sides]
            turn = 0
            for step in range(draw.randrange(60, 200)):
                turn += draw.choice((0, 0, 0, 1, 1, life))
                call = self.drawn_call(draw, doors, max(turn, doors[0].now()), life)
                self.assertEqual(self.called(doors[0], call), self.called(doors[1], call))
                if call[0] == "fall":
                    told = [door.rise(turn) for door in doors]
                    self.assertEqual(told[0], told[1])
                if draw.random() < 0.4 and self.called(doors[0], ("fold",)) is None:
                    folds += 1
                    self.assertIsNone(first_odd(doors[0].rows()))
                    self.assertEqual(doors[0].rows()[0][0], "next")
                self.assertEqual(self.told_by(doors[0], sides[0]), self.told_by(doors[1], sides[1]))
                self.assertIsNone(first_wrong(doors[0].rows()))
                self.assertIsNone(too_near(doors[0].rows(), life))
            for door in doors:
                self.settle([door])
            self.assertEqual(self.told_by(doors[0], sides[0]), self.told_by(doors[1], sides[1]))
            self.assertEqual(self.sums(doors[:1], sides[0]), self.due_sums(doors[1:], start))
        self.assertGreater(folds, 300)

    def test_two_doors_at_the_same_houses(self):
        start = [("ann", 60), ("bo", 60), ("cy", 60)]
        for seed in range(300, 340):
            draw = random.Random(seed)
            houses = [(name, House(start)) for name in HOUSES]
            doors = [Door("hall", 4, houses), Door("halls", 9, houses)]
            turns = [0, 0]
            for step in range(250):
                side = draw.randrange(2)
                door = doors[side]
                turns[side] += draw.choice((0, 0, 1))
                call = self.drawn_call(draw, [door], turns[side], 4)
                self.called(door, call)
                if call[0] == "fall":
                    door.rise(turns[side])
                for other in doors:
                    self.assertIsNone(first_odd(other.rows()))
                    self.assertIsNone(first_wrong(other.rows()))
                    self.assertIsNone(first_unlike(other.called(), other.rows(), houses))
            self.settle(doors)
            self.assertEqual(self.sums(doors, houses), self.due_sums(doors, start))
            for door in doors:
                # Where one's name begins the other's, a figure behind it tells whose a key is.
                self.houses_are_as_the_answers_say(door, houses)

    def test_rows_that_are_read_again(self):
        """What a door's rows write is a journal's text, and comes back as it was."""
        start = [("ann", 40), ("bo", 40), ("cy", 40)]
        door, plain, houses = self.held_to_a_plain_one(7, 3, (1, 5, 12), start)
        text = "".join(shown_row(row) + "\n" for row in door.rows())
        self.assertEqual(Journal(text).rows(), door.rows())
        door.force()
        door.fold()
        text = "".join(shown_row(row) + "\n" for row in door.rows())
        self.assertEqual(Journal(text).rows(), door.rows())


class AskedAgain(unittest.TestCase):

    def test_an_asker_that_asks_till_it_is_told(self):
        """An asker comes again and again, the door falling at any moment; the deed is done once for all that."""
        for seed in range(150):
            draw = random.Random(seed)
            mill, inn = House([("ann", 50)]), House([("ann", 50)])
            if seed % 3 == 0:
                inn.close("ann")
            door = Door("hall", MOST, [("mill", mill), ("inn", inn)])
            deed = draw.choice((("add", "ann", 7), ("fetch", "mill", "ann", 7), ("pass", "mill", "inn", "ann", 7)))
            answers = []
            for step in range(300):
                what = draw.choice(("come", "work", "work", "work", "force", "fall", "fold", "other"))
                if what == "come":
                    told = door.come(0, "bo", "k1", deed)
                    self.assertIn(told[0], ("begun", "busy", "kept"))
                    answers += [told[1]] if told[0] == "kept" else []
                elif what == "other" and (door.under() or door.kept()):
                    self.assertEqual(door.come(0, "bo", "k1", ("add", "zo", 1)), ("other",))
                elif what == "work":
                    for entry in door.under():
                        door.work(entry[0], draw.choice(WAYS))
                elif what == "force":
                    answers += [entry[3] for entry in door.force()]
                elif what == "fall":
                    door.fall(draw.choice((0, 10, 30, 50, 100)))
                    door.rise(0)
                elif what == "fold":
                    try:
                        door.fold()
                    except Unsafe:
                        pass
            self.assertGreater(len(answers), 0)
            self.assertEqual(len(set(answers)), 1)
            amounts = (door.amount("ann"), mill.amount("ann"), inn.amount("ann"))
            if deed[0] == "add":
                self.assertEqual((answers[0], amounts), (("is", 7), (7, 50, 50)))
            elif deed[0] == "fetch":
                self.assertEqual((answers[0], amounts), (("is", 7), (7, 43, 50)))
            elif seed % 3 == 0:
                self.assertEqual((answers[0], amounts), (("no", "inn"), (0, 50, 50)))
            else:
                self.assertEqual((answers[0], amounts), (("ok",), (0, 43, 57)))
            self.assertEqual(door.amount("zo"), 0)

    def test_behind_its_life_a_key_is_as_never_used(self):
        for life in (1, 2, 5):
            door = Door("hall", life, [])
            for times in range(1, 6):
                turn = (times - 1) * life
                self.assertEqual(door.come(turn, "bo", "k1", ("add", "ann", 7)), ("begun", times))
                door.work(times)
                door.work(times)
                self.assertEqual(door.force(), [(times, "bo", "k1", ("is", 7 * times))])
                self.assertEqual(door.come(turn + life - 1, "bo", "k1", ("add", "ann", 7)), ("kept", ("is", 7 * times)))
                self.assertEqual(door.come(turn + life - 1, "bo", "k1", ("take", "ann", 7)), ("other",))

    def test_refusals_change_nothing(self):
        door = Door("hall", 5, [("mill", House([("ann", 5)]))])
        door.come(3, "bo", "k1", ("fetch", "mill", "ann", 2))
        seen = (door.rows(), door.now(), door.under(), door.kept(), door.book_rows())
        for refusal, call in (
            (Late, (door.come, 2, "bo", "k2", ("add", "ann", 1))), (NoNumber, (door.work, 2)), (Up, (door.rise, 3)),
            (Unsafe, (door.fold,)),
        ):
            self.assertRaises(refusal, *call)
            self.assertEqual((door.rows(), door.now(), door.under(), door.kept(), door.book_rows()), seen)


if __name__ == "__main__":
    unittest.main()
