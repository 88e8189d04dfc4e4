"""Reading: the program that a text tells, or the refusal of the text."""

from fakehunt.errors import NoLine, NoName, NoPlace, Twice
from fakehunt.numbers import IF_SIGNS, PUT_SIGNS
from fakehunt.words import is_name, number_in, place_in

# For each first word of a line the kinds of the words behind it.
FORMS = {
    "take": ("name", "number", "number"),
    "name": ("name",),
    "put": ("name", "operand", "put sign", "operand"),
    "if": ("operand", "if sign", "operand", "go", "place"),
    "go": ("place",),
    "tell": ("operand",),
    "skip": (),
}

MOST_TAKES = 3
MOST_NAMES = 5
MOST_ROWS = 12


def fits(word, kind):
    if kind == "name":
        return is_name(word)
    if kind == "number":
        return number_in(word) is not None
    if kind == "operand":
        return is_name(word) or number_in(word) is not None
    if kind == "put sign":
        return word in PUT_SIGNS
    if kind == "if sign":
        return word in IF_SIGNS
    if kind == "place":
        return place_in(word) is not None
    return word == kind


def is_line(words):
    if words[0] not in FORMS:
        return False
    kinds = FORMS[words[0]]
    if len(words) != 1 + len(kinds) or not all([fits(word, kind) for word, kind in zip(words[1:], kinds)]):
        return False
    return words[0] != "take" or number_in(words[2]) <= number_in(words[3])


def names_read(words):
    # A sign may look like a name (mod), so the kind of each word is asked as well.
    names = []
    for word, kind in zip(words[1:], FORMS[words[0]]):
        if kind in ("name", "operand") and is_name(word):
            names.append(word)
    return names


def operand_in(word, names):
    if is_name(word):
        return ("name", names[word])
    return ("number", number_in(word))


def row_of(words, names):
    things = [words[0]]
    for word, kind in zip(words[1:], FORMS[words[0]]):
        if kind == "name":
            things.append(names[word])
        elif kind == "operand":
            things.append(operand_in(word, names))
        elif kind == "place":
            things.append(place_in(word))
        elif kind != "go":
            things.append(word)
    return tuple(things)


# What the lines so far have told. The names, with their numbers, are those of the lines take and of the lines name;
# the aims are the places that rows go on to, each behind the number of its line.
class Draft:
    def __init__(self):
        self.takes = []
        self.names = {}
        self.rows = []
        self.aims = []

    def has_room(self, word):
        if word == "take":
            ahead = len(self.names) == len(self.takes) and len(self.rows) == 0
            return ahead and len(self.takes) < MOST_TAKES
        if word == "name":
            return len(self.rows) == 0 and len(self.names) < MOST_NAMES
        return len(self.rows) < MOST_ROWS

    def read_line(self, words, line):
        if not is_line(words) or not self.has_room(words[0]):
            raise NoLine(line)
        if words[0] in ("take", "name"):
            self.read_name(words, line)
        else:
            self.read_row(words, line)

    def read_name(self, words, line):
        if words[1] in self.names:
            raise Twice(line)
        self.names[words[1]] = len(self.names)
        if words[0] == "take":
            self.takes.append((number_in(words[2]), number_in(words[3])))

    def read_row(self, words, line):
        for name in names_read(words):
            if name not in self.names:
                raise NoName(line)
        row = row_of(words, self.names)
        self.rows.append(row)
        if row[0] in ("if", "go"):
            self.aims.append((line, row[-1]))

    def check_places(self):
        for line, place in self.aims:
            if place > len(self.rows):
                raise NoPlace(line)

    def told(self):
        return (tuple(self.takes), len(self.names), tuple(self.rows))


def read(text):
    draft = Draft()
    for line, signs in enumerate(text.split("\n"), start=1):
        if signs != "" and not signs.startswith("#"):
            draft.read_line(signs.split(" "), line)
    # How many rows there are is known only behind the last line.
    draft.check_places()
    return draft.told()
