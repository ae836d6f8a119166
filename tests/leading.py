"""A second way to lead runs, to compare the package with. It shares no code with the package."""

from reference import Halt, Model


class LedModel(Model):
    """A run without a collector, the answers to whose questions are given."""

    def __init__(self, inputs, led):
        super().__init__(inputs, (), ())
        self.led = led
        self.asked = []
        self.items = []

    def collector(self):
        self.items.append([])

    def question(self, cell):
        if len(self.record) == 200:
            raise Halt("long")
        self.asked.append((self.moment, self.place, cell))
        self.items[-1].append(("ask", cell))
        if len(self.record) == len(self.led):
            raise Halt("question")
        self.record.append(self.led[len(self.record)])
        return self.record[-1] == 1

    def plain(self, s):
        if s[0] in ("weak", "cut"):
            holder, field = self.cell(s[1]), s[2]
            strong = self.cells[holder]["fields"].get(field, (None,))[0] == "hold"
        super().plain(s)
        events = {
            "make": [("make", len(self.cells) - 1), ("stand", s[1], self.names.get(s[1]))],
            "name": [("stand", s[1], self.names.get(s[1]))],
            "drop": [("stand", s[1], None)],
            "take": [("stand", s[1], self.names.get(s[1]))],
        }.get(s[0], [])
        if s[0] == "keep":
            events = [("keep", self.cell(s[1]))]
        if s[0] == "hold":
            events = [("hold", self.cell(s[1]), s[2], self.cell(s[3]))]
        if s[0] in ("weak", "cut") and strong:
            events = [("hold", holder, field, None)]
        self.items[-1] += events


def slow_led_run(program, inputs, answers):
    """What led_run has to return."""
    model = LedModel(inputs, answers)
    model.play(program[1], 0)
    return tuple(model.answers), model.end, tuple(model.asked), tuple(tuple(item) for item in model.items)
