"""Lists that are made from one another, without functions that call themselves: they may be nested deep."""


class Worklist:
    """Lists with keys, each made once. A class below this one tells how the list with a key is made."""

    def __init__(self):
        self.lists = {}
        self.missing = []

    def told(self, key):
        """The list with a key. Those that it is made from are made first."""
        todo = [key]
        while todo:
            next_key = todo[-1]
            if next_key in self.lists:
                todo.pop()
                continue
            self.missing = []
            made = self.made(next_key)
            if self.missing:
                todo.extend(self.missing)
            else:
                self.lists[next_key] = made
        return self.lists[key]

    def ask(self, key):
        """The list with a key. If it is not there yet, it is missed, and what is made now will be made again."""
        if key in self.lists:
            return self.lists[key]
        self.missing.append(key)
        return []

    def made(self, key):
        """The list with a key, from others that it asks for."""
        raise NotImplementedError("a class below this one tells how a list is made")
