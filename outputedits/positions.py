"""Positions: each stands at a place of a text, or nowhere in it (None)."""

from outputedits.classes import borders


class FromStart:
    """The place so many bytes behind the text's beginning: +k."""

    def __init__(self, distance):
        self.distance = distance

    def place_in(self, text):
        return self.distance if self.distance <= len(text) else None


class FromEnd:
    """The place so many bytes ahead of the text's end: -k."""

    def __init__(self, distance):
        self.distance = distance

    def place_in(self, text):
        return len(text) - self.distance if self.distance <= len(text) else None


class Border:
    """The nth border of two classes, from the left (l|r+c) or from the right (l|r-c)."""

    def __init__(self, left, right, nth, from_right):
        self.left = left
        self.right = right
        self.nth = nth
        self.from_right = from_right

    def place_in(self, text):
        places = borders(text, self.left, self.right)
        if self.nth > len(places):
            return None
        if self.from_right:
            return places[len(places) - self.nth]
        return places[self.nth - 1]
