"""Both machines beside each other, and what section 3 promises of trails and cuts."""

import itertools
import unittest

from samples import LINE, RING, full_world, pieces, random_worlds, ring_world, wraps
from slow import NAMES, SlowMachine, chances, drawn_step, is_reference, machine_worlds, quiet_worlds, thing
from test_tables import values
from wraptrails.machines import Machine
from wraptrails.trailmachine import TrailMachine
from wraptrails.trails import is_trail


class Beside(unittest.TestCase):
    def compare(self, machine, other, world):
        self.assertEqual(values(machine, world), values(other, world))
        self.assertEqual((machine.object_count(), machine.revoked(), len(machine)),
                         (other.object_count(), other.revoked(), len(other)))

    def go(self, world, chance, count, revokes, longest):
        """Run both for so many steps, with collects between; return how long the trails became."""
        slow, machine, other = SlowMachine(world), Machine(world), TrailMachine(world)
        most = 0
        for _ in range(count):
            step = drawn_step(chance, slow, revokes, longest)
            slow.do(step)
            self.assertEqual(machine.do(step), other.do(step), step)
            if chance.random() < 0.1:
                machine.collect()
            self.compare(machine, other, world)
            most = max([most] + [len(value[2]) for value in values(other, world) if isinstance(value, tuple)])
        self.assertEqual(machine.answers(), other.answers())
        return most

    def test_drawn_programs(self):
        most = [self.go(world, chance, 200, 0.5, 24) for world in machine_worlds() for chance in chances(20, 3)]
        self.assertGreater(max(most), 12)
        self.assertGreater(sum(length > 3 for length in most), 20)

    def test_large_worlds(self):
        worlds = [full_world(("wrap", "open")), full_world(("wrap",)), ring_world(10, ("wrap",))]
        for world, chance in itertools.product(worlds + random_worlds(43, 6, 10, 10, 3, full=True), chances(21, 2)):
            self.go(world, chance, 200, 0.5, 24)

    def test_longer_trails(self):
        most = [self.go(world, chance, 500, 0, 90) for world in (RING, ring_world(2, ("wrap",))) for chance in chances(22, 3)]
        self.assertGreater(max(most), 60)

    def test_in_one_run(self):
        for world, chance in itertools.product(machine_worlds(), chances(23, 2)):
            slow, program = SlowMachine(world), []
            for _ in range(100):
                program.append(drawn_step(chance, slow, 1))
                slow.do(program[-1])
            given = TrailMachine(world).run(tuple(program))
            self.assertEqual(given, Machine(world).run(tuple(program)))
            self.assertEqual(given, tuple(slow.given))

    def test_copies_go_on_beside_it(self):
        for world in machine_worlds():
            chance = chances(24, 1)[0]
            slow, machine, other = SlowMachine(world), Machine(world), TrailMachine(world)
            for _ in range(120):
                step = drawn_step(chance, slow, 1)
                slow.do(step)
                machine = machine.copied()
                self.assertEqual(machine.do(step), other.do(step))
                self.compare(machine, other, world)

    def test_no_two_machines_are_equal(self):
        self.assertFalse(Machine(LINE) == TrailMachine(LINE) or TrailMachine(LINE) == Machine(LINE))


class Trails(unittest.TestCase):
    def test_every_trail_is_a_trail_of_the_world(self):
        for world, chance in itertools.product(machine_worlds(), chances(25, 2)):
            slow, machine = SlowMachine(world), Machine(world)
            for _ in range(100):
                step = drawn_step(chance, slow, 0.5)
                slow.do(step)
                machine.do(step)
                for value in values(machine, world):
                    self.assertTrue(not isinstance(value, tuple) or is_trail(world, value[2]))

    def test_a_reference_is_its_object_and_its_trail(self):
        """Section 3, (b): two variables of a region are the same exactly if both parts are."""
        pairs = 0
        for world, chance in itertools.product(machine_worlds(), chances(26, 2)):
            slow, machine = SlowMachine(world), Machine(world)
            for _ in range(80):
                step = drawn_step(chance, slow, 1)
                slow.do(step)
                machine.do(step)
            for region in world[0]:
                for one, other in itertools.product(NAMES + ("root",), repeat=2):
                    told = machine.value(region, one) == machine.value(region, other)
                    self.assertIs(machine.do(("same", region, one, other)), told)
                    pairs += one != other and isinstance(machine.value(region, one), tuple) and told
        self.assertGreater(pairs, 50)


class Cuts(unittest.TestCase):
    """Section 3, (d)."""

    def references(self, machine, world):
        for region, name in itertools.product(world[0], NAMES + ("root",)):
            value = machine.value(region, name)
            if isinstance(value, tuple):
                yield region, name, value

    def is_cut(self, machine, region, name):
        """What both kinds of access say."""
        said = machine.copied().run((("get", region, name, "f", "x"), ("put", region, name, "f", "root")))
        self.assertEqual(said[0] == "cut", machine.copied().do(("put", region, name, "f", "y")) == "cut")
        return said[0] == "cut"

    def drawn(self, world, chance):
        slow, machine = SlowMachine(world), Machine(world)
        for _ in range(80):
            step = drawn_step(chance, slow)
            slow.do(step)
            machine.do(step)
        return slow, machine

    def test_exactly_the_references_whose_trail_crosses_it(self):
        seen = set()
        for world, chance in itertools.product(machine_worlds(), chances(27, 2)):
            machine = self.drawn(world, chance)[1]
            for gateway in wraps(world):
                after = machine.copied()
                after.do(("revoke", gateway))
                for region, name, value in self.references(after, world):
                    told = gateway in [crossing[0] for crossing in value[2]]
                    self.assertEqual(self.is_cut(after, region, name), told)
                    self.assertFalse(self.is_cut(machine, region, name))
                    seen.add((told, len(value[2]) > 1))
        self.assertEqual(len(seen), 4)

    def test_without_noticed_gateways_by_regions(self):
        seen = set()
        for world, chance in itertools.product(quiet_worlds(), chances(28, 2)):
            slow, machine = self.drawn(world, chance)
            chosen = [name for name in wraps(world) if chance.random() < 0.5]
            machine.run(tuple(("revoke", name) for name in chosen))
            groups = pieces(world, [name for name, ends, kind in world[1] if name not in chosen])
            for region, name, value in self.references(machine, world):
                reference = slow.variables[region, name]
                self.assertTrue(is_reference(reference))
                apart = not any({region, thing(reference).home} <= group for group in groups)
                self.assertEqual(self.is_cut(machine, region, name), apart)
                seen.add(apart)
        self.assertEqual(seen, {False, True})


if __name__ == "__main__":
    unittest.main()
