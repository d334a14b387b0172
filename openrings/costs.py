"""How often heads of loops are met, at most."""

from openrings.cases import make_case
from openrings.errors import BadSize
from openrings.judge import missing_rows
from openrings.plans import ROOMS, Plan
from openrings.play import play
from openrings.rings import is_whole
from openrings.search import Search, first_scenes
from openrings.views import key_of, tidy

# Where homes are looked at, the greatest numbers are proved by plays with so many steps, and more if
# steps are counted.
FAR = 20


class Walks(Search):
    """A search by the rows that are met, one layer for each row.

    `best` has for each number of steps to the next empty row the scene with the most looks. From
    the layer `start` on all is repeated, each `period` layers; `period` is 0 if that is not known.
    """

    def __init__(self, plan):
        super().__init__(plan, (), None, False)
        self.layer = {}
        self.after = {}
        self.best = {}
        self.names = {}
        self.count = 0
        self.start = 0
        self.period = 0

    def push(self, scene):
        """Keeps a scene for later, if there was none like it with so many looks."""
        for other in tidy(self.plan, scene):
            key = key_of(self.plan, other)
            layer = self.layer if other.front == self.count else self.after
            if key not in layer or layer[key].looks < other.looks:
                layer[key] = other
                if other.front == self.count:
                    self.work.append(other.clone())

    def see_head(self, scene):
        """Notes that a head of a loop is met."""
        scene.looks += 1
        steps = scene.front if scene.closed else scene.front + 1
        if steps not in self.best or self.best[steps].looks < scene.looks:
            self.best[steps] = scene.clone()

    def play_layer(self):
        """Plays on from all scenes with the same front row."""
        while len(self.work) > 0:
            self.play_line(self.work.pop())
        self.count += 1
        self.layer = self.after
        self.after = {}
        self.work = [scene.clone() for scene in self.layer.values()]

    def sign(self):
        """What tells the present layer from others, a tuple."""
        found = []
        for key, scene in self.layer.items():
            name = self.names.setdefault(key, len(self.names))
            found.append((name, scene.looks - self.count))
        return tuple(sorted(found))

    def play_layers(self, n):
        """Plays all layers up to a number of steps, or until they are repeated."""
        for scene in first_scenes(self.plan):
            self.push(scene)
        signs = {}
        while self.period == 0 and self.count <= n:
            sign = self.sign()
            if sign in signs:
                self.start = signs[sign]
                self.period = self.count - self.start
            signs[sign] = self.count
            self.play_layer()
        far = FAR + 2 * self.plan.lives.counts[1]
        while self.plan.has_homes and self.count <= min(n, far):
            self.play_layer()

    def greatest(self, n):
        """The most looks with up to so many steps, and the number of steps that proves it."""
        last = self.count - 1
        looks = 0
        proof = None
        for steps in range(min(n, last) + 1):
            if steps in self.best and self.best[steps].looks > looks:
                looks = self.best[steps].looks
                proof = steps
        if n > last:
            for steps in range(max(n - self.period, last) + 1, n + 1):
                # The same steps in the last layers that were played.
                like = last - (last - steps) % self.period
                if like in self.best and self.best[like].looks + steps - like > looks:
                    looks = self.best[like].looks + steps - like
                    proof = like
        return looks, proof


def is_proved(walks, proof):
    """Whether there is a play with so many looks as were found."""
    scene = walks.best[proof]
    plan = walks.plan
    case = make_case(plan, scene.trail, (), missing_rows(plan, scene))
    return case is not None and play(plan.code, case[0], case[1]).looks >= scene.looks


def most(code, n):
    """The greatest number of times that heads of loops are met where at most n steps lead on."""
    if not is_whole(n) or n < (1 if code.kind == "take" else 0):
        raise BadSize(n)
    looks = 0
    for room in ROOMS:
        walks = Walks(Plan(code, room, False, False, True))
        walks.play_layers(n)
        looks, proof = walks.greatest(n)
        if proof is None or is_proved(walks, proof):
            break
    return looks
