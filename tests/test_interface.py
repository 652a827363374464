import ast
import pathlib
import unittest

PACKAGE = pathlib.Path(__file__).resolve().parent.parent / "roundowned"
INTERFACE = {
    "webs": "Web(folk, houses); held(web, house, holder); holdings(web, holder); most_held(web, house)",
    "rings": "is_ringless(web); layers(web); ring(web); circles(web)",
    "making": "sold(web, house, share, holder); founded(web, shares); closed(web, house); renumbered(web, order);"
              "swapped(web, order); beside(one, other); put_in(web, person, other, house); spread(web, folk)",
    "meetings": "says(web, vote, boards, house); met(web, vote, boards, house); changing(web, vote, boards);"
                "all_met(web, vote, boards); meetings(web, vote, boards, row); cycle(web, vote, boards)",
    "carrying": "carried(web, lot); carried_in(web, lot); row(web, lot, house); shortest_row(web, lot, house);"
                "row_fault(web, lot, house, thing); is_row(web, lot, house, thing)",
    "knots": "verdict(web, lot, house); hung(web, lot); carried_by_one(web, person); never_carried(web);"
             "is_knot(web, lot, thing); knot_fault(web, lot, thing); ever_hung(web)",
    "lots": "least_lots(web, house); barring_lots(web, house); needless(web, house); needed(web, house);"
            "fewest_lost(web, lot, house); turns(web, house); says_most(web, house); fewest_added(web, lot, house)",
    "rests": "rests(web, vote); double_votes(web); many_rests(web, vote); greatest_rest(web, vote);"
             "least_rest(web, vote); higher(web, vote, one, other); lower(web, vote, one, other); is_own(web); double(web)",
    "orders": "greatest_end(web, vote, boards); least_end(web, vote, boards); settles(web, vote, boards);"
              "ends(web, vote, boards); reachable(web, vote, boards); end_row(web, vote, boards, end);"
              "fewest_meetings(web, vote, boards, house, flag); fate(web, vote, boards, house)",
    "unrest": "unrest(web, vote, boards); is_unrest(web, vote, boards, thing)",
    "callers": "chance(web, vote, boards, house); called(web, vote, boards, house, many)",
    "tables": "is_table(folk, thing); carries(folk, table, lot); table(web, house); apart(folk, table);"
              "open_lot(folk, table); kind(folk, table)",
    "counting": "tables(folk, kind); many_tables(folk, kind); table_number(folk, kind, table);"
                "table_at(folk, kind, number); wider(folk, table); narrower(folk, table)",
    "joining": "turned(folk, table); both(folk, table, other); either(folk, table, other);"
               "without(folk, table, person); set_in(folk, table, person, other); above(folk, table)",
    "kinds": "renamed(folk, table, order); first_of_kind(folk, table); same_kind(folk, table, other); kinds(folk, kind)",
    "building": "tripled(web); made(folk, table); made_all(folk, tables); is_made(folk, table, thing);"
                "refuted(folk, table, web); fewest_houses(folk, table)",
    "likeness": "are_alike(one, house, other, goal); same_stands(one, other); unlike_lot(one, house, other, goal);"
                "unlike_stand(one, other)",
    "idle": "idle(web); twins(web)",
    "buying": "cheapest(web, lot, house, prices); fewest_sold(web, lot, house); purchase(web, lot, house, prices);"
              "sold_out(web, lot, house); sales(one, other); is_purchase(web, lot, house, prices, thing);"
              "cheapest_votes(web, house, prices)",
    "doubts": "dealt(web, doubts); surely(web, doubts, lot, house); dealings(web, doubts, lot, house);"
              "ask_first(web, doubts, lot, house)",
    "minutes": "fitting(folk, minutes); told(folk, minutes, vote); clash(folk, minutes); best_vote(folk, minutes)",
    "town": "Town(web, vote, boards)",
    "texts": "web_text(web); table_text(table); minutes_text(minutes)",
    "reading": "read_web(text); read_table(text); read_minutes(text)",
    "desk": "Desk()",
}
METHODS = {
    "Web": "__init__(folk, houses); __eq__(other)",
    "Town": "__init__(web, vote, boards); web(); vote(); boards(); meet(house); say(person, flag); sell(house, share, holder);"
            "found(shares, flag); settle(); carried(lot); back(); depth(); copy(); trying(action)",
    "Desk": "__init__(); tell(line); undoable()",
}


def parameters(node):
    return ", ".join(one.arg for one in node.args.args if one.arg != "self")


class Interface(unittest.TestCase):
    def test_each_is_defined_in_its_file_with_its_arguments(self):
        for module, told in INTERFACE.items():
            found = []
            for node in ast.parse((PACKAGE / f"{module}.py").read_text()).body:
                if isinstance(node, ast.FunctionDef):
                    found.append(f"{node.name}({parameters(node)})")
                if isinstance(node, ast.ClassDef):
                    methods = {one.name: one for one in node.body if isinstance(one, ast.FunctionDef)}
                    found.append(f"{node.name}({parameters(methods['__init__'])})")
                    for one in METHODS[node.name].split(";"):
                        name, _, names = one.strip().rstrip(")").partition("(")
                        self.assertEqual(parameters(methods[name]), names)
                        self.assertEqual(methods[name].args.defaults, [])
            for one in told.split(";"):
                self.assertIn(one.strip(), found)


if __name__ == "__main__":
    unittest.main()
