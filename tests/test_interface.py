"""The interface: names and arguments, each defined in the file under which it is listed."""

import importlib
import inspect
import unittest

FUNCTIONS = {
    "grid": {
        "corners_of": "(board)", "cells_of": "(board)", "on_board": "(board, corner)",
        "neighbours": "(board, corner)", "rising_pairs": "(board)", "falling_pairs": "(board)",
    },
    "paths": {
        "normal_path": "(board, corners)", "path_kind": "(path)", "path_part": "(path, a, b)",
        "path_letters": "(path)", "format_path": "(path)", "parse_path": "(board, text)",
    },
    "conflicts": {
        "common_corners": "(path, other)", "find_conflict": "(path, other)",
        "is_conflict": "(path, other, certificate)",
    },
    "strokes": {
        "find_conflicts": "(strokes)", "compatible": "(strokes)", "keep_in_order": "(strokes)",
    },
    "tables": {"find_broken_pair": "(board, half, letters)"},
    "planes": {"last_tables": "(plane)", "each_line": "(plane)"},
    "symmetries": {
        "mirror_plane": "(plane)", "turn_plane": "(plane)", "swap_plane": "(plane)",
    },
    "notation": {"format_plane": "(plane)", "parse_plane": "(text)"},
    "filling": {
        "fill": "(board, strokes, *, choices=(), prefer=None)",
        "free_pairs": "(plane, strokes)", "choices_of": "(plane, strokes)",
    },
    "counting": {
        "half_tables": "(board, half, strokes)", "count_planes": "(board, strokes)",
    },
    "options": {
        "blockers": "(strokes, path)", "is_possible": "(strokes, path)",
        "possible_paths": "(strokes, p, q)", "sure_line": "(strokes, p, q)",
        "sure_certificate": "(strokes, p, q)",
        "is_sure_certificate": "(strokes, path, entries)",
    },
    "changes": {
        "amend": "(plane, strokes)", "conflicting_pairs": "(plane, strokes)",
        "changed_pairs": "(before, after)", "amend_in_order": "(plane, strokes)",
    },
    "rankings": {
        "ranked_steeps": "(ranking, slot, steps, steep)",
        "ranked_plane": "(board, rising, falling)", "ruler_ranking": "(size)",
        "stray": "(plane, p, q)",
    },
    "evenness": {"uneven_certificate": "(plane)", "rankings_of": "(plane)"},
    "orders": {
        "said": "(board, half, paths)", "find_ring": "(board, half, paths)",
        "is_ring": "(board, half, paths, certificate)", "rankings_for": "(board, paths)",
        "sure_order": "(board, half, paths)", "order_chain": "(board, half, paths, s, t)",
    },
    "windings": {
        "closed_walk": "(plane, chain)", "windings": "(plane, chain)",
        "signed_area": "(plane, chain)", "net_steps": "(plane, chains)",
        "total_windings": "(plane, chains)", "windings_of_steps": "(steps)",
    },
    "triangles": {"fan": "(hub, chain)"},
    "meshes": {
        "insert_corner": "(plane, chain, index, corner)",
        "same_rim": "(plane, chains, others)", "mesh_fault": "(plane, faces, outline)",
    },
    "regions": {"paint": "(plane, chains)", "pieces": "(region)"},
    "outlines": {"outline": "(region)", "region_of_loops": "(loops)"},
    "chains": {
        "least_marks": "(plane, loop)", "is_least_marks": "(plane, loop, marks)",
        "least_chain": "(plane, loop)", "trace": "(plane, region)",
    },
    "landmaps": {
        "overlay": "(land, other)", "merge_faces": "(land, names, name)",
        "put_in": "(land, name, region)",
    },
    "borders": {
        "borders": "(land)", "border_chains": "(plane, land)",
        "paint_face": "(plane, chains, name)",
    },
    "closures": {
        "open_pair": "(plane, corners)", "closure": "(plane, corners)",
        "derivation": "(plane, corners)", "is_derivation": "(plane, corners, entries)",
        "find_triple": "(plane, corners, corner)",
    },
    "splits": {"split_four": "(plane, four)", "is_split": "(plane, four, certificate)"},
    "sharing": {"find_shared": "(plane, sets)"},
    "rooms": {"holes": "(board, room)", "room_pieces": "(room)"},
    "sight": {
        "blocked_at": "(plane, room, z, w)", "seen": "(plane, room, z)",
        "sight_tree": "(plane, room, z)",
    },
    "lamps": {
        "common_view": "(plane, room, places)", "find_lamp": "(plane, room, places)",
        "kernel": "(plane, room)",
    },
    "routes": {
        "sight_layers": "(plane, room, start)", "is_layers": "(plane, room, start, layers)",
        "route": "(plane, room, a, b)",
    },
    "deeds": {"parse_deed": "(board, line)", "format_deed": "(deed)"},
    "desk": {"load_desk": "(text)"},
}

CLASSES = {
    "strokes": {
        "Sheet": {
            "__init__": "(self)", "put": "(self, path)", "drop": "(self, number)",
            "undo": "(self)", "strokes": "(self)", "conflicts": "(self)", "__iter__": "(self)",
            "__len__": "(self)", "__contains__": "(self, path)",
        },
    },
    "planes": {
        "Plane": {
            "__init__": "(self, board, rising, falling)", "line": "(self, p, q)",
            "step_from": "(self, p, q)", "has_path": "(self, path)",
        },
    },
    "triangles": {
        "Triangle": {
            "__init__": "(self, plane, p, q, r)", "__contains__": "(self, corner)",
        },
    },
    "regions": {
        "Region": {
            "__init__": "(self, cells)", "__iter__": "(self)", "__len__": "(self)",
            "__contains__": "(self, cell)", "__or__": "(self, other)",
            "__and__": "(self, other)", "__sub__": "(self, other)", "__xor__": "(self, other)",
        },
    },
    "landmaps": {
        "LandMap": {
            "__init__": "(self, board, faces)", "names": "(self)", "region": "(self, name)",
            "face_at": "(self, cell)",
        },
    },
    "sharing": {
        "Readings": {
            "__init__": "(self, plane)", "put": "(self, corners)", "withdraw": "(self, number)",
            "agreed": "(self)", "dispute": "(self)", "present": "(self)",
        },
    },
    "sight": {
        "Watch": {
            "__init__": "(self, plane, room, post)", "block": "(self, corner)",
            "unblock": "(self, corner)", "view": "(self)", "room": "(self)",
        },
    },
    "desk": {
        "Desk": {
            "__init__": "(self, board, *, rising=None, falling=None)", "do": "(self, line)",
            "do_all": "(self, lines)", "undo": "(self)", "redo": "(self)", "done": "(self)",
            "undone": "(self)", "strokes": "(self)", "kept": "(self)", "shapes": "(self)",
            "pinned": "(self)", "places": "(self)", "walls": "(self)", "room": "(self)",
            "picture": "(self, name)", "visible": "(self, corner)", "lamp": "(self)",
            "text": "(self)",
        },
    },
}


def module_of(name):
    return importlib.import_module(f"cornerplane.{name}")


class InterfaceTest(unittest.TestCase):
    def test_the_functions(self):
        for name, functions in FUNCTIONS.items():
            for function, arguments in functions.items():
                found = getattr(module_of(name), function)
                self.assertTrue(inspect.isfunction(found), function)
                self.assertEqual(found.__module__, f"cornerplane.{name}", function)
                self.assertEqual(str(inspect.signature(found)), arguments, function)

    def test_the_classes(self):
        for name, classes in CLASSES.items():
            for kind, methods in classes.items():
                found = getattr(module_of(name), kind)
                self.assertEqual(found.__module__, f"cornerplane.{name}", kind)
                for method, arguments in methods.items():
                    self.assertIn(method, vars(found), kind)
                    self.assertEqual(
                        str(inspect.signature(vars(found)[method])), arguments, method
                    )


if __name__ == "__main__":
    unittest.main()
