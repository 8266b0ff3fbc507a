"""Shelves: terms that share their parts, so that enormous ones can be handled by their numbers."""

from twowaysigns.errors import NoTerm, TooLarge, UnknownName, WrongCount
from twowaysigns.names import is_variable
from twowaysigns.sides import least_writing

LARGEST_WRITTEN = 60


class Shelf:
    """Terms by number; those that are alike have the same one, and each stands behind its parts."""

    def __init__(self, signature):
        self.signature = signature
        self._heads = []
        self._sizes = []
        self._evens = []
        self._unevens = []
        self._numbers = {}

    def __len__(self):
        return len(self._heads)

    def put(self, name, *numbers):
        """Put a variable, or the application of a symbol to terms of the shelf; return its number."""
        arity = 0 if is_variable(name) else self.signature.arity(name)
        if arity is None:
            raise UnknownName(name)
        if len(numbers) != arity:
            raise WrongCount(name, len(numbers))
        self._check(numbers)
        return self._number_of(name, numbers)

    def put_term(self, term):
        """Put a term with all its parts and return its number."""
        if isinstance(term, str):
            return self._number_of(term, ())
        return self._number_of(term[0], tuple([self.put_term(argument) for argument in term[1:]]))

    def full_size(self, number):
        """Return the size of the term."""
        self._check((number,))
        return self._sizes[number]

    def uneven_count(self, number):
        """Return the number of two-way places of the term that are not even."""
        self._check((number,))
        return self._unevens[number]

    def even_count(self, number):
        """Return the number of even places of the term."""
        self._check((number,))
        return self._evens[number]

    def parts(self, number):
        """Return the numbers of all parts of the term, its own included, in ascending order."""
        self._check((number,))
        found = {number: True}
        for candidate in reversed(range(number + 1)):
            if candidate in found:
                for argument in self._heads[candidate][1]:
                    found[argument] = True
        return tuple(sorted(found))

    def term(self, number):
        """Return the least writing of the term."""
        size = self.full_size(number)
        if size > LARGEST_WRITTEN:
            raise TooLarge(size)
        return least_writing(self.signature, self._written(number))

    def filled(self, number, filling):
        """Put the term in which variables are replaced, all at once, and return its number."""
        self._check((number,) + tuple([new for _, new in filling]))
        named = {variable: new for variable, new in filling}
        replaced = {}
        for part in self.parts(number):
            name, arguments = self._heads[part]
            if name in named:
                replaced[part] = named[name]
            elif [argument for argument in arguments if argument in replaced]:
                news = tuple([replaced.get(argument, argument) for argument in arguments])
                replaced[part] = self._number_of(name, news)
        return replaced.get(number, number)

    def _check(self, numbers):
        for number in numbers:
            if not 0 <= number < len(self._heads):
                raise NoTerm(number)

    def _number_of(self, name, arguments):
        key = (name,) + arguments
        if self.signature.is_two_way(name):
            key = (name,) + tuple(sorted(arguments))
        if key not in self._numbers:
            self._numbers[key] = len(self._heads)
            self._append(name, arguments)
        return self._numbers[key]

    def _append(self, name, arguments):
        is_two_way = self.signature.is_two_way(name)
        is_even = is_two_way and arguments[0] == arguments[1]
        self._heads.append((name, arguments))
        self._sizes.append(1 + sum([self._sizes[argument] for argument in arguments]))
        self._evens.append(int(is_even) + sum([self._evens[argument] for argument in arguments]))
        self._unevens.append(int(is_two_way and not is_even) + sum([self._unevens[argument] for argument in arguments]))

    def _written(self, number):
        name, arguments = self._heads[number]
        if is_variable(name):
            return name
        return (name,) + tuple([self._written(argument) for argument in arguments])
