"""The examples of the document, as far as the modules that there are go; they are one session."""
import unittest

from sparetails.programs import Program
from sparetails.statements import copying, made, read


class Examples(unittest.TestCase):
    def test_programs(self):
        body = [("loop", [("put", "s", "s"), ("either", [[("keep", "s")], []])]), ("call", "t", "f", ("s", "s"))]
        told = Program({"main": ([], body, "t"), "f": (["u", "w"], [("cut", "u", "w")], "u")})
        self.assertEqual([told.names("main"), told.calls("main")], [["s", "t"], ["f"]])
        self.assertEqual([copying(("put", "s", "t")), made(("set", "s")), read(body[1])],
                         [("copyput", "s", "t"), None, ["s"]])


if __name__ == "__main__":
    unittest.main()
