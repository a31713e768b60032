"""Trees, texts, rows and a plain machine that several tests use."""

import random
import re

from fewboxes.errors import FewError, NoDeed, NoName, NoText, NotHeld, TooBig, TooFew, Twice
from fewboxes.ranks import rank

KINDS = [NoName, Twice, TooBig, NoText, TooFew, NoDeed, NotHeld]
SIDES = ("left", "right", "both")
SORTS = ("take", "join", "put", "fetch")
# the greatest whole number that is handed in: sixty figures
BIG = 10 ** 60 - 1
ALL_SIGNS = "".join(chr(code) for code in range(ord(" "), ord("~") + 1))
LETTERS = "abcdefghijklmnopqrstuvwxyz"


def numbered_name(number):
    """A name of two letters, another one for each number below 676."""
    return LETTERS[number // 26] + LETTERS[number % 26]


def leaf(x):
    return ("leaf", x)


def knot(f, left, right):
    return ("knot", f, left, right)


def chain(deep, side):
    """A tree that is just so deep and has as many leaves: side is "left", "right" or "both"."""
    tree = leaf(numbered_name(0))
    for number in range(1, deep):
        other = leaf(numbered_name(number))
        leftward = side == "left" or (side == "both" and number % 2 == 0)
        tree = knot("f", tree, other) if leftward else knot("f", other, tree)
    return tree


def bushy(many, first=0):
    """A tree with so many leaves that is no deeper than need be."""
    if many == 1:
        return leaf(numbered_name(first))
    half = many // 2
    return knot("g", bushy(half, first), bushy(many - half, first + half))


def shapes(many, first=0):
    """Every tree of so many leaves, its leaves called a, b, c .. and its knots alike."""
    if many == 1:
        return [leaf(LETTERS[first])]
    return [
        knot("k", left, right)
        for size in range(1, many)
        for left in shapes(size, first)
        for right in shapes(many - size, first + size)
    ]


def is_formula_text(text):
    """The same question as read answers, asked another way: knots are blotted out from below."""
    if re.search("[^a-z() ]", text):
        return False
    names = re.findall(r"[a-z]+(?![a-z(])", text)
    if len(names) > 32 or len(set(names)) < len(names):
        return False
    left_over = re.sub(r"(?<![a-z])[a-z]{1,8}(?![a-z(])", "#", text)
    for level in range(23):
        left_over = re.sub(r"(?<![a-z])[a-z]{1,8}\(# #\)", "#", left_over)
    return left_over == "#"


def one_sign_off(text, signs):
    """The texts with one sign less, with one of these signs more, and with one of them in another's place."""
    texts = []
    for at in range(len(text) + 1):
        texts.append(text[:at] + text[at + 1:])
        for sign in signs:
            texts.append(text[:at] + sign + text[at:])
            texts.append(text[:at] + sign + text[at + 1:])
    return texts


def mixed(source, many, deep, first=0):
    """A tree of so many leaves, at most so deep; its shape and its deeds' names come from a source."""
    if many == 1:
        return leaf(numbered_name(first))
    fitting = [size for size in range(1, many) if max(size, many - size) <= 2 ** (deep - 2)]
    # the ends are as likely as all between them: else deep trees would hardly ever come
    size = source.choice([fitting[0], source.choice(fitting), fitting[-1]])
    left = mixed(source, size, deep - 1, first)
    return knot(source.choice(["f", "g", "aa", "ab"]), left, mixed(source, many - size, deep - 1, first + size))


def spined(source, many, deep, first=0):
    """A drawn tree of so many leaves that is just so deep."""
    if deep == 1:
        return leaf(numbered_name(first))
    most = 2 ** (deep - 2)
    size = source.choice([size for size in range(1, many - deep + 2) if max(size, many - size) <= most])
    if source.randrange(2):
        return knot("f", mixed(source, size, deep - 1, first), spined(source, many - size, deep - 1, first + size))
    return knot("f", spined(source, many - size, deep - 1, first), mixed(source, size, deep - 1, first + many - size))


def big_mixed(number, deep=24):
    """Drawn trees of 1 to 32 leaves, at most so deep, some just so deep: the same ones each time."""
    source = random.Random(number)
    trees = [mixed(source, 1 + at % 32, deep) for at in range(number)]
    return trees + [spined(source, many, deep) for many in range(deep, 33)]


def depth(tree):
    return 1 if tree[0] == "leaf" else 1 + max(depth(tree[2]), depth(tree[3]))


def deeds_of(tree):
    """The names of a tree's knots, each once."""
    return [] if tree[0] == "leaf" else sorted({tree[1], *deeds_of(tree[2]), *deeds_of(tree[3])})


def leaves_of(tree):
    """The names of a tree's leaves."""
    return [tree[1]] if tree[0] == "leaf" else leaves_of(tree[2]) + leaves_of(tree[3])


def kinds_within(value):
    """The classes of a value and of all that lies in it."""
    found = {type(value)}
    if isinstance(value, (list, tuple)):
        for thing in value:
            found |= kinds_within(thing)
    return found


def assert_refused(case, kind, ask, *given):
    """The refusal is of this class, and so is taken by FewError and ValueError, but by no other class of refusal."""
    for wide in (kind, FewError, ValueError):
        case.assertRaises(wide, ask, *given)
    try:
        ask(*given)
    except FewError as error:
        for other in KINDS:
            case.assertEqual(isinstance(error, other), other == kind, (error, other))


class PlainMachine:
    """The machine told another way: the formula is spread into two dicts, and no deed is ever refused."""

    def __init__(self, tree):
        self.named = {}
        self.joined = {}
        self.spread(tree, ())
        self.all_places = sorted([*self.named.values(), *self.joined.values()])

    def spread(self, tree, place):
        if tree[0] == "leaf":
            self.named[tree[1]] = place
            return
        self.joined[tree[1], place + (0,), place + (1,)] = place
        self.spread(tree[2], place + (0,))
        self.spread(tree[3], place + (1,))

    def after(self, deed, boxes, shelf):
        boxes, shelf = list(boxes), list(shelf)
        match deed:
            case ("take", x, i):
                boxes[i] = self.named.get(x)
            case ("join", f, i, j, h):
                boxes[h] = self.joined.get((f, boxes[i], boxes[j]))
            case ("put", i, s):
                shelf[s] = boxes[i]
            case ("fetch", s, i):
                boxes[i] = shelf[s]
        return boxes, shelf

    def moments(self, k, many, row):
        states = [([None] * k, [None] * many)]
        for deed in row:
            states.append(self.after(deed, *states[-1]))
        return states

    def useful_joins(self, boxes):
        """A join for each two boxes that hold the sons of a knot, told without the box it goes to."""
        return [
            ("join", f, boxes.index(left), boxes.index(right))
            for f, left, right in self.joined
            if left in boxes and right in boxes
        ]

    def missing_brothers(self, boxes):
        """The names of the leaves that are not held, but whose brother is."""
        return [
            x for x, place in self.named.items()
            if place and place not in boxes and place[:-1] + (1 - place[-1],) in boxes
        ]


def wandering_row(source, tree, k, many, size):
    """A drawn row that joins where it can; some of its deeds are of no use, and the shelf is used at will."""
    machine = PlainMachine(tree)
    names = leaves_of(tree) + ["zzz"]
    deeds = deeds_of(tree) + ["zzz"]
    boxes, shelf, row = [None] * k, [None] * many, []

    def some_box():
        return source.randrange(k)

    def free_box():
        """One that holds nothing, if there is one."""
        return source.choice([i for i in range(k) if boxes[i] is None] or range(k))

    while len(row) < size:
        useful = machine.useful_joins(boxes)
        choice = source.randrange(10)
        if useful and choice < 6:
            join = source.choice(useful)
            deed = join + (source.choice([join[2], join[3], some_box()]),)
        elif choice < 7:
            wanted = machine.missing_brothers(boxes) or names
            deed = ("take", source.choice([source.choice(names), source.choice(wanted)]), free_box())
        elif choice < 8 and many:
            deed = ("put", some_box(), source.randrange(many))
        elif choice < 9 and many:
            deed = ("fetch", source.randrange(many), some_box())
        else:
            deed = ("join", source.choice(deeds), some_box(), some_box(), some_box())
        boxes, shelf = machine.after(deed, boxes, shelf)
        row.append(deed)
    return row


def figures(row):
    """How many takes, joins, puts and fetches a row has."""
    sorts = [deed[0] for deed in row]
    return tuple(sorts.count(sort) for sort in SORTS)


# A deed of each sort on two boxes and two shelf places, and where in it numbers stand: of boxes, of shelf places.
DEED_SLOTS = [
    (("take", "aa", 1), (2,), ()),
    (("take", "zzz", 0), (2,), ()),
    (("join", "f", 0, 1, 0), (2, 3, 4), ()),
    (("join", "zzz", 1, 1, 1), (2, 3, 4), ()),
    (("put", 1, 0), (1,), (2,)),
    (("fetch", 0, 1), (2,), (1,)),
]


def spoiled_deeds(k, many):
    """Deeds with one number that is no box's of k or no shelf place's of many, the others being right."""
    spoiled = []
    for deed, box_slots, shelf_slots in DEED_SLOTS:
        for slot in box_slots + shelf_slots:
            there = k if slot in box_slots else many
            for number in (-1, -2, -there, -there - 1, there, there + 1, 9999, -9999, BIG, -BIG):
                if not 0 <= number < there:
                    spoiled.append(deed[:slot] + (number,) + deed[slot + 1:])
    return spoiled


class DrawnRow:
    """A drawn row behind which a box holds the formula, with as much of no use as waste tells, from 0 to 1.

    Of no use are parts that are reckoned twice, puts and fetches without need, deeds that leave None or lose something.
    Where clever is True, sons come in such an order that nothing but the waste is too much; else in any order.
    Where thrifty is True, each put goes to the first shelf place that is free.
    """

    def __init__(self, source, tree, k, many, waste, clever, thrifty):
        self.source = source
        self.k = k
        self.many = many
        self.waste = waste
        self.clever = clever
        self.thrifty = thrifty
        self.names = leaves_of(tree) + ["zzz"]
        self.deeds = deeds_of(tree) + ["zzz"]
        self.row = []
        self.reckon(tree, list(range(k)), list(range(many)))

    def wasteful(self):
        # what is reckoned twice at every level would never end
        return len(self.row) < 130 and self.source.random() < self.waste

    def reckon(self, tree, boxes, shelf):
        """Brings a tree into one of these boxes, which is told, by these boxes and shelf places alone."""
        if self.wasteful():
            self.row.append(self.useless_deed(boxes, shelf))
        if self.wasteful():
            self.reckon_once(tree, boxes, shelf)
        box = self.reckon_once(tree, boxes, shelf)
        if shelf and self.wasteful():
            place = self.chosen_shelf_place(shelf)
            self.row.append(("put", box, place))
            self.row.append(self.useless_deed(boxes, [s for s in shelf if s != place]))
            box = self.source.choice(boxes)
            self.row.append(("fetch", place, box))
        return box

    def reckon_once(self, tree, boxes, shelf):
        if tree[0] == "leaf":
            box = self.source.choice(boxes)
            self.row.append(("take", tree[1], box))
            return box
        first = self.first_son(tree)
        second = tree[3 - first]
        one = self.reckon(tree[2 + first], boxes, shelf)
        left_over = [i for i in boxes if i != one]
        wanted = rank(second) if self.clever else min(2, depth(second))
        if len(left_over) >= wanted and not (shelf and self.wasteful()):
            other = self.reckon(second, left_over, shelf)
        else:
            place = self.chosen_shelf_place(shelf)
            self.row.append(("put", one, place))
            other = self.reckon(second, boxes, [s for s in shelf if s != place])
            one = self.source.choice([i for i in boxes if i != other])
            self.row.append(("fetch", place, one))
            if self.wasteful():
                self.row.append(("fetch", place, one))
        pair = (other, one) if first else (one, other)
        into = self.source.choice(boxes)
        self.row.append(("join", tree[1], *pair, into))
        return into

    def first_son(self, tree):
        left, right = rank(tree[2]), rank(tree[3])
        if self.clever and left != right:
            return int(left < right)
        return self.source.randrange(2)

    def chosen_shelf_place(self, shelf):
        return shelf[0] if self.thrifty else self.source.choice(shelf)

    def useless_deed(self, boxes, shelf):
        """It goes to one of these boxes or shelf places, wherever it comes from."""
        source, into = self.source, self.source.choice(boxes)
        deeds = [
            ("take", source.choice(self.names), into),
            ("join", source.choice(self.deeds), source.randrange(self.k), source.randrange(self.k), into),
        ]
        if self.many:
            deeds.append(("fetch", source.randrange(self.many), into))
        if shelf:
            deeds.append(("put", source.randrange(self.k), self.chosen_shelf_place(shelf)))
        return source.choice(deeds)


def drawn_row(source, tree, k, many):
    """A DrawnRow of at most two hundred deeds: the most waste of some that leaves it so short."""
    clever, thrifty = source.random() < 0.5, source.random() < 0.5
    for waste in (source.random() / 2, source.random() / 8, source.random() / 32, 0):
        row = DrawnRow(source, tree, k, many, waste, clever, thrifty).row
        if len(row) <= 200:
            return row


def pruned(source, tree, k, many, row):
    """What is left of a row behind which the formula is held when no deed of it can be left out."""
    machine = PlainMachine(tree)
    for at in sorted(range(len(row)), key=lambda at: source.random()):
        shorter = row[:at] + [None] + row[at + 1:]
        if () in machine.moments(k, many, [deed for deed in shorter if deed])[-1][0]:
            row = shorter
    return [deed for deed in row if deed]


NUMBER_TEXT = "(0|[1-9][0-9]{0,3})"
DEED_TEXT = "(take NAME N|join NAME N N N|put N N|fetch N N)".replace("NAME", "[a-z]{1,8}").replace("N", NUMBER_TEXT)


def is_row_text(text):
    """The same question as read_row answers, asked another way."""
    return text == "" or re.fullmatch(f"{DEED_TEXT}(; {DEED_TEXT})*", text) is not None
