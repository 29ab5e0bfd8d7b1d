"""Items: what stands in a drawing."""


class Item:
    pass


class Own(Item):
    def __init__(self, name, wide):
        self.name = name
        self.wide = wide

    def label(self):
        return self.name

    def half(self):
        return self.wide

    def drawn(self):
        return self.name


class Small(Item):
    def __init__(self, arrow, step):
        self.arrow = arrow
        self.step = step

    def label(self):
        return str(self.arrow) + "." + str(self.step)

    def half(self):
        return 0

    def drawn(self):
        return "."
