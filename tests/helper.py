"""Trees and texts that several tests use."""

import re

ALL_SIGNS = "".join(chr(code) for code in range(ord(" "), ord("~") + 1))
LETTERS = "abcdefghijklmnopqrstuvwxyz"


def numbered_name(number):
    """A name of two letters, another one for each number below 676."""
    return LETTERS[number // 26] + LETTERS[number % 26]


def leaf(x):
    return ("leaf", x)


def knot(f, left, right):
    return ("knot", f, left, right)


def chain(deep, side):
    """A tree that is just so deep and has as many leaves: side is "left", "right" or "both"."""
    tree = leaf(numbered_name(0))
    for number in range(1, deep):
        other = leaf(numbered_name(number))
        leftward = side == "left" or (side == "both" and number % 2 == 0)
        tree = knot("f", tree, other) if leftward else knot("f", other, tree)
    return tree


def bushy(many, first=0):
    """A tree with so many leaves that is no deeper than need be."""
    if many == 1:
        return leaf(numbered_name(first))
    half = many // 2
    return knot("g", bushy(half, first), bushy(many - half, first + half))


def shapes(many, first=0):
    """Every tree of so many leaves, its leaves called a, b, c .. and its knots alike."""
    if many == 1:
        return [leaf(LETTERS[first])]
    return [
        knot("k", left, right)
        for size in range(1, many)
        for left in shapes(size, first)
        for right in shapes(many - size, first + size)
    ]


def is_formula_text(text):
    """The same question as read answers, asked another way: knots are blotted out from below."""
    if re.search("[^a-z() ]", text):
        return False
    names = re.findall(r"[a-z]+(?![a-z(])", text)
    if len(names) > 32 or len(set(names)) < len(names):
        return False
    left_over = re.sub(r"(?<![a-z])[a-z]{1,8}(?![a-z(])", "#", text)
    for level in range(23):
        left_over = re.sub(r"(?<![a-z])[a-z]{1,8}\(# #\)", "#", left_over)
    return left_over == "#"
