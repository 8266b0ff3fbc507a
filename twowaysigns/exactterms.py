"""Exact terms: terms by number, so that those of enormous size can be compared and filled part by part."""

from twowaysigns.names import is_variable
from twowaysigns.terms import parts_in_order


class ExactTerms:
    """Terms, each behind its arguments; terms that are written in the same way have one number, all others have not."""

    def __init__(self):
        self.terms = []
        self._heads = []
        self._numbers = {}

    def number_of(self, term):
        """Return the number of the term, which is put with all its parts if it is not there yet."""
        known = []
        # Read backwards, an application comes when the numbers of its arguments lie on top.
        for part in reversed(parts_in_order(term)):
            if isinstance(part, str):
                known.append(self.applied(part, ()))
            else:
                arguments = tuple(known[:-len(part):-1])
                known = known[:len(known) - len(arguments)] + [self.applied(part[0], arguments)]
        return known[0]

    def applied(self, name, numbers):
        """Return the number of a variable, or of the application of a symbol to the terms with these numbers."""
        head = (name,) + numbers
        if head not in self._numbers:
            self._numbers[head] = len(self._heads)
            self._heads.append(head)
            arguments = tuple([self.terms[number] for number in numbers])
            self.terms.append(name if is_variable(name) else (name,) + arguments)
        return self._numbers[head]

    def filled(self, number, filling):
        """Return the number of the term in which the variables of the filling are replaced, all at once."""
        replaced = {self.applied(variable, ()): self.number_of(new) for variable, new in filling}
        for part in self._parts(number):
            if part not in replaced:
                name, *arguments = self._heads[part]
                replaced[part] = self.applied(name, tuple([replaced[argument] for argument in arguments]))
        return replaced[number]

    def _parts(self, number):
        """Return the numbers of all parts of the term in ascending order: the arguments come first."""
        found = {}
        waiting = [number]
        while waiting:
            part = waiting.pop()
            if part not in found:
                found[part] = True
                waiting.extend(list(self._heads[part][1:]))
        return sorted(found)
