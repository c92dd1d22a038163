"""[13]: shortest keeps to the answers written down in shortest_answers.txt.

Each line there is a script and its answer, as texts ("none" for None). Any
shortest script would be right; that it stays this one was asked for.
"""

import pathlib
import sys

from tests.samples import Case
from twigscripts.short import shortest
from twigscripts.texts import read_script

LINES = (pathlib.Path(__file__).resolve().parent / "shortest_answers.txt").read_text(encoding="ascii").splitlines()
LONG = ((("cut", "c"), ("cut", "a"), ("put", "c", "b")), (("swap", "a", "b"), ("swap", "b", "c"), ("turn", "a", "c")),
        (("front", "a"), ("front", "b"), ("front", "c")))


# The time that a call takes is told by how many functions it calls: this is the same on each machine.
MOST_CALLS = 20000


def calls_within(script):
    """How many functions are called while shortest looks for a script."""
    seen = []
    sys.setprofile(lambda frame, event, value: seen.append(event))
    try:
        shortest(script)
    finally:
        sys.setprofile(None)
    return seen.count("call")


def written():
    """The scripts of the file with their answers."""
    found = {}
    for line in LINES:
        script, answer = line.split(" = ")
        found[read_script(script)] = None if answer == "none" else read_script(answer)
    return found


class ShortestAnswers(Case):

    def test_the_file(self):
        answers = written()
        self.assertEqual(len(answers), len(LINES))
        self.assertGreaterEqual(len(answers), 203)
        self.assertEqual({None if found is None else len(found) for found in answers.values()}, {None, 0, 1, 2})
        self.assertEqual({len(script) for script in answers} & {0, 1, 2, 3, 12}, {0, 1, 2, 3, 12})

    def test_scripts_of_which_it_was_asked_for(self):
        answers = written()
        for script in LONG:
            self.assertIs(answers[script], None)
            self.assertIs(shortest(script), None)

    def test_all_that_is_written(self):
        for script, answer in written().items():
            found = shortest(script)
            self.assertEqual(found, answer, script)

    def test_how_long_it_takes(self):
        for script in LONG:
            self.assertLess(calls_within(script), MOST_CALLS, script)
