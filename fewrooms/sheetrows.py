"""Sheets: texts that tell rooms, works, and what is to be done and asked of them, row by row."""

from fewrooms.errors import BadRow

MOST_ROWS = 100
MOST_SIGNS = 200
MOST_WORKS = 40
MOST_LETTERS = 8
MOST_ASKED = 4
MOST_ROOMS = 99

ALONE = ("back", "stand", "moves", "count")
OF_ONE = ("do", "clear", "tree", "cut")
OF_SOME = ("plain", "few", "stair")


def is_name(word):
    return len(word) <= MOST_LETTERS and all(["a" <= sign <= "z" for sign in word])


# The number of rooms that a word tells; None where it tells none.
def rooms_in(word):
    if not word.isdigit() or word[0] == "0" or int(word) > MOST_ROOMS:
        return None
    return int(word)


# The rising tuple of the works that the words name; None where one is not there or comes twice.
def works_named(words, numbers):
    works = [numbers[word] for word in words if word in numbers]
    if len(works) < len(words) or len(set(works)) < len(works):
        return None
    return tuple(sorted(works))


def asked_named(words, numbers):
    if not 1 <= len(words) <= MOST_ASKED:
        return None
    return works_named(words, numbers)


def steps_ask(words, numbers):
    if len(words) < 2:
        return None
    rooms = rooms_in(words[1])
    asked = asked_named(words[2:], numbers)
    if rooms is None or asked is None:
        return None
    return ("steps", rooms, asked)


# The deed or ask of a row's words; None where they tell none.
def deed_of(words, numbers):
    word = words[0]
    if word in ALONE:
        return (word,) if len(words) == 1 else None
    if word in OF_ONE:
        return (word, numbers[words[1]]) if len(words) == 2 and words[1] in numbers else None
    if word in OF_SOME:
        asked = asked_named(words[1:], numbers)
        return None if asked is None else (word, asked)
    if word == "steps":
        return steps_ask(words, numbers)
    return None


# What the rows so far have told. Each method tells whether the row fits there.
class Sheet:
    def __init__(self):
        self.rooms = None
        self.numbers = {}
        self.net = []
        self.deeds = []

    def take_rooms(self, words):
        if len(words) != 2 or words[0] != "rooms":
            return False
        self.rooms = rooms_in(words[1])
        return self.rooms is not None

    def take_work(self, words):
        if self.deeds or len(self.net) == MOST_WORKS:
            return False
        if len(words) < 2 or not is_name(words[1]) or words[1] in self.numbers:
            return False
        needs = works_named(words[2:], self.numbers)
        if needs is None:
            return False
        self.numbers[words[1]] = len(self.net)
        self.net.append(needs)
        return True

    def take_deed(self, words):
        deed = deed_of(words, self.numbers)
        if not self.net or deed is None:
            return False
        self.deeds.append(deed)
        return True

    def take_words(self, words):
        if self.rooms is None:
            return self.take_rooms(words)
        if words[0] == "work":
            return self.take_work(words)
        return self.take_deed(words)

    def take_row(self, row):
        if row == "":
            return True
        if len(row) > MOST_SIGNS or not all([" " <= sign <= "~" for sign in row]):
            return False
        words = row.split(" ")
        # Two blanks, or one at an end, leave an empty word.
        return "" not in words and self.take_words(words)


def read_sheet(text):
    rows = text.split("\n")
    sheet = Sheet()
    for number, row in enumerate(rows):
        if number == MOST_ROWS or not sheet.take_row(row):
            raise BadRow(number)
    if not sheet.net:
        raise BadRow(len(rows))
    return (sheet.rooms, tuple(sheet.numbers), tuple(sheet.net), sheet.deeds)
