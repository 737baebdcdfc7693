"""Forms: ties as numbers, the inner ties of each told by their numbers."""


class Forms:
    """Different ties, numbered in the order in which they came: no key grows deep, however deep a tie is."""

    def __init__(self):
        self._numbers = {}
        self._parts = []

    def copied(self):
        """Return Forms of their own with the same ties."""
        twin = Forms()
        twin._numbers = {parts: self._numbers[parts] for parts in self._numbers}
        twin._parts = list(self._parts)
        return twin

    def number(self, tie):
        """Return the number of a tie; it is put in, behind its inner ties, if it was not there."""
        if tie[0] == "look":
            return self.number_of(("look", tie[1], tie[2], self.number(tie[3])))
        if tie[0] == "ask":
            return self.number_of(("ask", tie[1], tuple([self.number(part) for part in tie[2]])))
        return self.number_of(tie)

    def number_of(self, parts):
        """Return the number of a tie that is told with the numbers of its inner ties."""
        if parts not in self._numbers:
            self._numbers[parts] = len(self._parts)
            self._parts.append(parts)
        return self._numbers[parts]

    def many(self):
        """Return how many ties there are: their numbers are those below this one."""
        return len(self._parts)

    def parts(self, number):
        """Return a tie with numbers in the place of its inner ties."""
        return self._parts[number]

    def ties(self):
        """Return the list of all ties, in the order of their numbers."""
        return self.changed(lambda tie: tie)

    def changed(self, change):
        """Return the list of all ties, in which change was made to each one that has no inner ties."""
        found = []
        for parts in self._parts:
            if parts[0] == "look":
                found.append(("look", parts[1], parts[2], found[parts[3]]))
            elif parts[0] == "ask":
                found.append(("ask", parts[1], tuple([found[part] for part in parts[2]])))
            else:
                found.append(change(parts))
        return found


def changed_tie(tie, change):
    """Return a tie in which change was made to each inner tie that has none itself."""
    forms = Forms()
    number = forms.number(tie)
    return forms.changed(change)[number]
