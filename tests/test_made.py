"""What holds for rings of every size, for many codes that are made as if by chance."""

import unittest

from openrings.costs import most
from openrings.play import play
from tests.made import made_codes
from tests.small import larger_cases
from tests.test_costs import steps_to_end
from tests.test_uses import Checked as CheckedUses
from tests.test_verdicts import Checked as CheckedVerdicts


class Verdicts(CheckedVerdicts):
    def test_small_and_larger_rings(self):
        for at, code in enumerate(made_codes(1, 600)):
            told = self.check(code)
            if at % 6 == 0:
                self.check_larger(code, told)


class Uses(CheckedUses):
    def test_small_rings(self):
        for at, code in enumerate(made_codes(2, 200)):
            self.check(code, at % 4 == 0)

    def test_larger_rings(self):
        for code in made_codes(3, 40):
            lines, sides, stations = self.check(code)
            for case in larger_cases(code.kind, code.way):
                done = play(code, *case)
                self.assertEqual(set(done.lines()) - set(lines), set())
                self.assertEqual(set(done.sides()) - set(sides), set())
                self.assertEqual(set(done.stations()) - set(stations), set())


class Costs(unittest.TestCase):
    def test_larger_rings(self):
        for code in made_codes(4, 50):
            told = {}
            for case in larger_cases(code.kind, code.way):
                steps = steps_to_end(code.kind, case)
                if steps not in told:
                    told[steps] = most(code, steps)
                self.assertLessEqual(play(code, *case).looks, told[steps], (code.kind, code.way, code.text, case))


if __name__ == "__main__":
    unittest.main()
