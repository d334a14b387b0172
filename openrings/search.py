"""The search over all scenes that plays of a code can come to."""

from openrings.cases import comes_up, make_case
from openrings.debts import Debt, is_changed
from openrings.judge import judge, missing_rows
from openrings.lives import TESTS
from openrings.moves import UNKNOWN, do_line, holds, item_named, meet
from openrings.plans import ROOMS, Plan
from openrings.play import BEYOND, ENDLESS
from openrings.rings import STONE
from openrings.scenes import HANDED, Scene, is_item, with_home
from openrings.views import key_of, tidy

# So many times it is tried to make a case for an event; then there must be more room in scenes.
MOST_TRIES = 40


def first_scenes(plan):
    """The scenes in which plays begin."""
    scene = Scene()
    if plan.is_owing:
        scene.debt = Debt()
    if plan.kind in ("put", "set"):
        scene.hand = HANDED
        if plan.is_owing:
            scene.debt.count[HANDED] = 0
    scene.open_seam = plan.lives.number_tests[1]
    found = meet(plan, scene)
    if plan.kind == "take":
        for other in found:
            other.registers["at"] = 0
    return found


def may_break(plan, scene):
    """The promises that a play in a scene may yet break when it is done."""
    debt = scene.debt
    if debt is None:
        return ["lawful"]
    if debt.is_short:
        return ["lawful", "items"]
    if plan.kind == "find":
        return ["lawful", "items", "out"]
    if debt.is_moved or plan.lives.fills[scene.number]:
        return ["lawful", "items", "steady"]
    # An item that was copied has moved when it is taken from its own row.
    if any([is_changed(scene, row) for row in debt.was]) or any([copies > 0 for copies in debt.count.values()]):
        return ["lawful", "items", "steady"]
    return ["lawful", "items"]


class Search:
    """A search by the number of rows, the fewest first.

    Events are tuples: ("promise", name), ("line", number), ("side", number, side) and
    ("station", station). Those that are sought are of the `kinds`, and among the `goals` if these
    are told. `proved` has cases for events; `claims` the fewest rows with which an event seemed to
    come up where no case with so few rows could be made.
    """

    def __init__(self, plan, kinds, goals, is_least):
        self.plan = plan
        self.kinds = kinds
        self.goals = goals
        self.is_least = is_least
        self.proved = {}
        self.claims = {}
        self.tries = {}
        self.seen = {}
        self.waiting = {}
        self.work = []

    def is_sought(self, event, cost):
        """Whether it is of use that an event comes up with so many rows."""
        if event[0] not in self.kinds or (self.goals is not None and event not in self.goals):
            return False
        if event not in self.proved:
            return True
        return self.is_least and cost < len(self.proved[event][0])

    def note(self, scene, event, behind, facts):
        """Notes that an event comes up, with rows behind the front row and further facts."""
        cost = scene.cost() + len(behind)
        if not self.is_sought(event, cost):
            return
        tries = self.tries.get(event, 0)
        self.tries[event] = tries + 1
        case = None
        if tries < MOST_TRIES:
            case = make_case(self.plan, scene.trail, facts, behind)
        if case is not None and comes_up(self.plan.code, event, case):
            if event not in self.proved or len(case[0]) < len(self.proved[event][0]):
                self.proved[event] = case
            if len(case[0]) == cost:
                return
        self.claims[event] = min(cost, self.claims.get(event, cost))

    def note_here(self, scene, event):
        """Notes that an event comes up in a scene."""
        if event[0] in self.kinds:
            self.note(scene, event, missing_rows(self.plan, scene), ())

    def open_events(self):
        """The events that seemed to come up with fewer rows than is proved."""
        found = []
        for event, cost in self.claims.items():
            if event not in self.proved or (self.is_least and cost < len(self.proved[event][0])):
                found.append(event)
        return found

    def push(self, scene):
        """Keeps a scene for later, if there was none like it with so few rows."""
        for other in tidy(self.plan, scene):
            key = key_of(self.plan, other)
            cost = other.cost()
            if key not in self.seen or cost < self.seen[key]:
                self.seen[key] = cost
                self.waiting.setdefault(cost, []).append((key, other))

    def is_needed(self, scene):
        """Whether something that is sought may come of a scene."""
        cost = scene.cost()
        if scene.debt is not None or scene.doomed:
            return any([self.is_sought(("promise", name), cost) for name in may_break(self.plan, scene)])
        return self.goals is None or any([self.is_sought(event, cost) for event in self.goals])

    def run(self):
        """Goes over all scenes of which something that is sought may come."""
        plan = self.plan
        for scene in first_scenes(plan):
            self.push(scene)
        while len(self.waiting) > 0:
            cost = min(list(self.waiting))
            batch = self.waiting[cost]
            key, scene = batch.pop()
            if len(batch) == 0:
                del self.waiting[cost]
            plan.seeks_lawful = plan.seeks_lawful and self.is_sought(("promise", "lawful"), cost)
            if self.seen[key] == cost and self.is_needed(scene):
                self.go_on(scene)

    def go_on(self, scene):
        """Plays on from a scene up to the next ones that are kept."""
        self.work.append(scene)
        while len(self.work) > 0:
            self.play_line(self.work.pop())

    def play_line(self, scene):
        """Plays the next line of a scene."""
        program = self.plan.program
        if scene.number > len(program):
            self.end(scene)
            return
        line = program[scene.number - 1]
        self.note_here(scene, ("line", scene.number))
        if line.form in TESTS:
            self.play_test(scene, line)
            return
        front = scene.front
        behind = do_line(self.plan, scene, line)
        if not isinstance(behind, list):
            self.fail(scene, behind)
            return
        for other in behind:
            self.pass_on(other, other.front != front)

    def pass_on(self, scene, is_kept):
        """Leads a scene to its next line."""
        program = self.plan.program
        if scene.number <= len(program) and not scene.headed:
            # Scenes that are alike again are gone on with once.
            is_kept = is_kept or program[scene.number - 1].form in ("walk", "go")
        if is_kept:
            self.push(scene)
        else:
            self.work.append(scene)

    def play_test(self, scene, line):
        """Plays a line with a test."""
        if line.form == "walk" and not scene.headed:
            self.see_head(scene)
            if scene.last_head == scene.number:
                self.fail(scene, ENDLESS)
                return
            scene.last_head = scene.number
            scene.headed = True
        answer = holds(scene, line.test)
        if answer == UNKNOWN:
            # The home of an item in the hand has been chosen when it came there.
            item = item_named(scene, "home")
            self.work.extend(with_home(scene, self.plan, item, None, item))
            return
        if answer is None:
            self.fail(scene, BEYOND)
            return
        self.note_here(scene, ("side", scene.number, answer))
        scene.headed = False
        scene.number = line.then if answer else line.other
        self.pass_on(scene, False)

    def see_head(self, scene):
        """Notes what can be seen at the head of a loop."""
        if "station" not in self.kinds:
            return
        row = scene.registers["at"]
        held = scene.rows[row]
        if not is_item(held):
            what = "empty" if held is None else STONE
            self.note_here(scene, ("station", (scene.number, what, None)))
            return
        home = scene.home_of(held)
        if home is not None:
            self.note_here(scene, ("station", (scene.number, "item", home == row)))
            return
        for other in with_home(scene, self.plan, held, None, held):
            self.note_here(other, ("station", (scene.number, "item", other.homes[held] == row)))

    def fail(self, scene, ending):
        """Notes that a play is beyond or endless."""
        self.note_here(scene, ("promise", "inside" if ending == BEYOND else "ends"))

    def end(self, scene):
        """Notes what comes of a play that is done."""
        if scene.debt is not None or scene.doomed:
            for promise, behind, facts in judge(self.plan, scene):
                self.note(scene, ("promise", promise), behind, facts)


def all_cases(code, is_owing, kinds, goals, is_least):
    """Cases for the events of some kinds that come up, a dict; `goals` are all that are sought, or None."""
    found = {}
    for room in ROOMS:
        if goals is not None and len(goals) == 0:
            break
        search = Search(Plan(code, room, is_owing, "station" in kinds, False), kinds, goals, is_least)
        search.run()
        for event, case in search.proved.items():
            if event not in found or len(case[0]) < len(found[event][0]):
                found[event] = case
        goals = search.open_events()
    return found
