"""Machines with the least number of standings."""

from subjecttags.forms import in_order_met


class Parting:
    """Classes of the standings of a machine, which are parted until each one is of standings that let the same words.

    From each standing of the machine an end can be reached.
    """

    def __init__(self, machine):
        self.classes = [0] * len(machine)
        self.parts = [{at: True for at in range(len(machine))}]
        self.lasts = {}
        for at, (_, ways) in enumerate(machine):
            for number, way in enumerate(ways):
                if way is not None:
                    self.lasts.setdefault((way, number), []).append(at)
        self.queue = [0]
        self.part([at for at, (ends, _) in enumerate(machine) if ends])

    def part(self, group):
        """Part each class in those of a group and the others."""
        found = {}
        for at in group:
            found.setdefault(self.classes[at], []).append(at)
        for number, inside in found.items():
            if len(inside) < len(self.parts[number]):
                self.divide(number, inside)

    def divide(self, number, inside):
        """Part a class in some of its members and the others; the fewer ones get a new number."""
        part = self.parts[number]
        fewer = inside
        if 2 * len(inside) > len(part):
            taken = {at: True for at in inside}
            fewer = [at for at in part if at not in taken]
        for at in fewer:
            del part[at]
            self.classes[at] = len(self.parts)
        # Where the whole class has parted the others, or still has to, it is enough to take the fewer ones too.
        self.queue.append(len(self.parts))
        self.parts.append({at: True for at in fewer})

    def finish(self, many_tags):
        """Part the classes until all standings of each class have their ways to the same classes."""
        done = 0
        while done < len(self.queue):
            splitter = list(self.parts[self.queue[done]])
            done += 1
            for number in range(many_tags):
                group = []
                for at in splitter:
                    group.extend(self.lasts.get((at, number), []))
                self.part(group)
        return self.classes


def least_machine(machine):
    """The least machine that lets the same words, its standings numbered as they are met."""
    return in_order_met(machine, Parting(machine).finish(len(machine[0][1])))
