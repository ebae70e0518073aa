"""Entries: what a yard keeps of each job that was ever promised."""


class Entry:
    def __init__(self, name, first, last, work, breadth):
        self.name = name
        self.first = first
        self.last = last
        self.work = work
        self.breadth = breadth
        self.remaining = work

    def left(self):
        return self.remaining

    def word(self):
        return "asked"

    def told(self):
        return (self.word(), self.first, self.last, self.work, self.breadth, self.left())


class Standing(Entry):
    def word(self):
        return "standing"

    def job_at(self, turn):
        return (self.name, max(self.first, turn), self.last, self.left(), self.breadth)

    def work_once(self):
        self.remaining -= 1

    def give_way(self, last):
        self.last = last

    def as_finished(self):
        return Finished(self.name, self.first, self.last, self.work, self.breadth)

    def as_withdrawn(self):
        return Withdrawn(self.name, self.first, self.last, self.work, self.breadth, self.left())


class Finished(Entry):
    def __init__(self, name, first, last, work, breadth):
        Entry.__init__(self, name, first, last, work, breadth)
        self.remaining = 0

    def word(self):
        return "finished"


class Withdrawn(Entry):
    def __init__(self, name, first, last, work, breadth, left):
        Entry.__init__(self, name, first, last, work, breadth)
        self.remaining = left

    def word(self):
        return "withdrawn"
