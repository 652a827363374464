import ast
import pathlib
import unittest

PACKAGE = pathlib.Path(__file__).resolve().parent.parent / "roundowned"
INTERFACE = {
    "webs": "Web(folk, houses); held(web, house, holder); holdings(web, holder); most_held(web, house)",
    "rings": "is_ringless(web); layers(web); ring(web); circles(web)",
    "making": "sold(web, house, share, holder); founded(web, shares); closed(web, house); renumbered(web, order);"
              "swapped(web, order); beside(one, other); put_in(web, person, other, house); spread(web, folk)",
}


def parameters(node):
    return ", ".join(one.arg for one in node.args.args if one.arg != "self")


class Interface(unittest.TestCase):
    def test_each_is_defined_in_its_file_with_its_arguments(self):
        for module, told in INTERFACE.items():
            found = []
            for node in ast.parse((PACKAGE / f"{module}.py").read_text()).body:
                if isinstance(node, ast.FunctionDef):
                    found.append(f"{node.name}({parameters(node)})")
                if isinstance(node, ast.ClassDef):
                    methods = {one.name: one for one in node.body if isinstance(one, ast.FunctionDef)}
                    found.append(f"{node.name}({parameters(methods['__init__'])})")
                    self.assertIn("__eq__", methods)
            for one in told.split(";"):
                self.assertIn(one.strip(), found)


if __name__ == "__main__":
    unittest.main()
