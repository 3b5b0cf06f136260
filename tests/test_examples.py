"""The examples of the document's interface, as they are written there, and those of README.md."""

import doctest
import pathlib
import re
import unittest

COMMON = """
>>> from everyparcel.network import Site, Trip, Closing, Network
>>> from everyparcel.tables import HERE, Table
>>> from everyparcel.sorting import Sorting
>>> from everyparcel.parcels import Parcel
>>> from everyparcel.worlds import World
>>> south = Site("s", "h", "x", "1")
>>> north = Site("n", "h", "x", "2", rounds=[20, 44])
>>> network = Network([south, north], [Trip("t1", "s", "n", 5, 8, late=2)], [])
>>> sorting = Sorting({"s": Table([("2", "n")]), "n": Table([("2", HERE)])})
>>> world = World(network, sorting, [Parcel(1, "21", "s", 3)])
"""

EXAMPLES = {
    "timetable": """
>>> daily(8, 0, 3)
[8, 32, 56]

>>> trip_text(network.trip("t1"))
't1 s n 5 8 2 9 0'
""",
    "routes": """
>>> surely(network, "s", "n", 5)
10

>>> landing_ticks(network, ["s", "n"], 0)
[8, 9, 10]
""",
    "tables": """
>>> Table([("1", "north"), ("12", HERE)])("123")
''

>>> Table([("1", "a")]).parting(Table([("1", "a"), ("13", "b")]))
'13'

>>> Table([("1", "a"), ("13", "a")]).least().rows
[('1', 'a')]
""",
    "sorting": """
>>> sorting.path("s", "21")
(['s', 'n'], 'here')

>>> sorting.faults(["s", "n"])
[('s', '0', 'none'), ('n', '0', 'none')]
""",
    "manifests": """
>>> read_manifest("b1(3 b0(4 9) 7)")
('b1', [3, ('b0', [4, 9]), 7])
""",
    "goods": """
>>> origin(Good("8703", 1000, "li", [Good("8708", 600, "no")]))
'no'

>>> origin_paper(Good("8703", 1000, "li", [Good("8708", 500, "no")]))
('value', 'li', [('made', 'no', [])])
""",
    "duties": """
>>> share_out(10, [1, 1, 1])
[4, 3, 3]
""",
    "worlds": """
>>> world.ticks
[3, 5, 8, 9, 10, 20, 44]
""",
    "standings": """
>>> first_standing(world)
(0, (('not', ''),), ('x',))

>>> steps(world, first_standing(world), 3)
[(((3, 'taken', 1, 's'),), (0, (('at', 's'),), ('x',)))]
""",
    "runs": """
>>> run(world).events
[(3, 'taken', 1, 's'), (5, 'loaded', 1, 't1'), (8, 'landed', 1, 'n'), (20, 'out', 1, 'n')]

>>> list(courses(world))
[((), ()), ((('t1', 1),), ()), ((('t1', 2),), ())]
""",
    "books": """
>>> heard_of(3, [(0, 1), (1, 2)])
[[0, 1], [0, 1, 2], [0, 1, 2]]
""",
    "tellings": """
>>> from everyparcel.books import Book
>>> places(world, Book(), 1, 9)
[('at', 'n'), ('on', 't1')]

>>> from everyparcel.books import Book
>>> places(world, Book({}, [(8, "landed", 1, "n")]), 1, 9)
[('at', 'n')]
""",
    "scanners": """
>>> fewest_scanners(world)
['n']
""",
    "promises": """
>>> delivery_ticks(world, 1)
([20], False)
""",
    "quotes": """
>>> needs(world, 1, 0)
['t1']
""",
    "ledgers": """
>>> from everyparcel.charges import Prices
>>> from everyparcel.runs import run
>>> ledger(world, run(world), Prices.usual())
[(3, ('sender', 'sender'), ('house', 'h'), 403, 'postage', 1)]
""",
    "settling": """
>>> payments({"a": -5, "b": 3, "c": 2})
[('a', 'b', 3), ('a', 'c', 2)]
""",
}


class ExamplesTest(unittest.TestCase):
    def check(self, text, name):
        test = doctest.DocTestParser().get_doctest(text, {}, name, None, 0)
        runner = doctest.DocTestRunner(verbose=False)
        runner.run(test)
        self.assertEqual(runner.failures, 0, name)
        self.assertGreater(runner.tries, 0, name)

    def test_the_examples_of_the_document(self):
        for name, text in EXAMPLES.items():
            self.check(f"{COMMON}>>> from everyparcel.{name} import *\n{text}", name)

    def test_the_examples_of_the_readme(self):
        text = (pathlib.Path(__file__).resolve().parent.parent / "README.md").read_text(encoding="ascii")
        lines = []
        for block in re.findall(r"```python\n(.*?)```", text, re.DOTALL):
            for line in block.splitlines():
                code, _, told = line.partition("  # ")
                if line.strip():
                    lines.append(f">>> {code.rstrip()}\n{told}".rstrip())
        self.check("\n".join(lines) + "\n", "README.md")


if __name__ == "__main__":
    unittest.main()
