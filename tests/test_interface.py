"""The interface: every name stands in its file, with the arguments that the document lists."""

import importlib
import inspect
import unittest

FUNCTIONS = {
    "octets": {
        "to_big": "(number, size)",
        "to_little": "(number, size)",
        "from_big": "(data)",
        "from_little": "(data)",
        "to_digits": "(data)",
        "from_digits": "(text)",
        "is_bytes": "(value)",
        "ascii_codes": "(text)",
    },
    "modular": {
        "bezout": "(a, b)",
        "inverse": "(a, modulus)",
        "power": "(a, exponent, modulus)",
        "square_class": "(a, prime)",
        "jacobi": "(a, n)",
        "square_root": "(a, prime)",
        "join_residues": "(pairs)",
    },
    "papers": {
        "factors": "(n)",
        "is_prime": "(n)",
        "make_paper": "(prime)",
        "paper_prime": "(paper)",
    },
    "jacobian": {
        "to_jacobian": "(point)",
        "from_jacobian": "(curve, triple)",
        "double_jacobian": "(curve, triple)",
        "add_jacobian": "(curve, first, second)",
        "same_point": "(curve, first, second)",
        "multiply_jacobian": "(curve, factor, point)",
    },
    "ways": {
        "window_digits": "(number, width)",
        "signed_digits": "(number, width)",
        "multiply_ladder": "(group, factor, point)",
        "multiply_windows": "(group, factor, point, *, width=4)",
        "multiply_signed": "(group, factor, point, *, width=4)",
        "sum_of_multiples": "(group, pairs)",
    },
    "orders": {
        "count_points": "(curve)",
        "point_order": "(group, point, multiple, primes)",
        "allowed_orders": "(prime, n)",
    },
    "extended": {
        "to_extended": "(curve, point)",
        "from_extended": "(curve, four)",
        "add_extended": "(curve, first, second)",
        "same_extended": "(curve, first, second)",
        "multiply_extended": "(curve, factor, point)",
    },
    "groups": {
        "split_point": "(group, point)",
    },
    "named": {
        "group_named": "(name)",
    },
    "shapes": {
        "montgomery_numbers": "(curve)",
        "to_montgomery": "(curve, point)",
        "from_montgomery": "(curve, pair)",
        "weierstrass_of": "(curve)",
        "to_weierstrass": "(curve, point)",
        "from_weierstrass": "(curve, point)",
    },
    "encoding": {
        "edwards_size": "(group)",
        "write_scalar": "(group, number)",
        "read_scalar": "(group, data)",
        "write_little_scalar": "(group, number)",
        "read_little_scalar": "(group, data)",
    },
    "points": {
        "write_point": "(group, point, *, compressed=True)",
        "read_point": "(group, data)",
        "read_compressed": "(group, data)",
        "read_uncompressed": "(group, data)",
        "write_x": "(group, point)",
        "read_x": "(group, data)",
        "write_edwards": "(group, point)",
        "read_edwards": "(group, data)",
    },
    "tagged": {
        "write_length": "(size)",
        "read_length": "(data, at)",
        "write_number": "(number)",
        "write_pair": "(first, second)",
        "read_pair": "(data)",
        "write_tree": "(value)",
        "read_tree": "(data)",
    },
    "signatures": {
        "write_plain": "(group, r, s)",
        "read_plain": "(group, data)",
        "write_tagged": "(group, r, s)",
        "read_tagged": "(group, data)",
        "write_x_signature": "(group, point, s)",
        "read_x_signature": "(group, data)",
        "write_edwards_signature": "(group, point, s)",
        "read_edwards_signature": "(group, data)",
    },
    "rounds": {
        "digest_size": "(kind)",
        "block_size": "(kind)",
        "choose": "(x, y, z)",
        "majority": "(x, y, z)",
        "mixed_word": "(kind, name, x)",
        "round_constants": "(kind)",
        "start_words": "(kind)",
        "schedule": "(kind, block)",
        "compress": "(kind, words, block)",
    },
    "digest": {
        "padding": "(kind, length)",
        "digest": "(kind, data)",
        "digest_parts": "(kind, parts)",
    },
    "hashes": {
        "key_block": "(kind, key)",
        "tagged": "(tag, data)",
    },
    "nonce": {
        "leading_number": "(data, bits)",
    },
    "ecdsa": {
        "message_number": "(group, digest)",
        "public_key": "(group, secret)",
        "sign_with": "(group, secret, nonce, digest)",
        "sign": "(group, secret, digest, hasher, *, extra=(), low=True)",
        "accepts": "(group, public, digest, signature, *, low=False)",
        "is_low": "(group, s)",
        "low_form": "(group, signature)",
    },
    "recovery": {
        "signature_points": "(group, r)",
        "recover_keys": "(group, digest, signature)",
        "recover_key": "(group, digest, signature, hint)",
        "find_hint": "(group, public, digest, signature)",
    },
    "schnorr": {
        "schnorr_key": "(group, secret)",
        "even_secret": "(group, secret)",
        "schnorr_nonce": "(group, secret, message, extra)",
        "challenge": "(group, form, key, message)",
        "schnorr_sign": "(group, secret, message, *, extra=())",
        "schnorr_accepts": "(group, key, message, signature)",
    },
    "batch": {
        "batch_accepts": "(group, entries, factors)",
        "batch_factors": "(group, entries)",
    },
    "team": {
        "team_shares": "(group, keys)",
        "team_point": "(group, keys)",
        "team_key": "(group, keys)",
        "right_partial": "(group, keys, message, nonces, place, number)",
        "join_partials": "(group, keys, message, nonces, numbers)",
    },
    "eddsa": {
        "seed_parts": "(group, seed)",
        "eddsa_key": "(group, seed)",
        "variant_parts": "(variant, message)",
        "eddsa_sign": "(group, seed, message, *, variant=('pure',))",
        "eddsa_difference": "(group, key, message, signature, *, variant=('pure',))",
        "eddsa_accepts": "(group, key, message, signature, *, cofactored=True, variant=('pure',))",
        "is_weak_key": "(group, key)",
    },
    "edbatch": {
        "eddsa_batch_accepts": "(group, entries, factors)",
    },
    "schemes": {
        "scheme_names": "()",
        "scheme_named": "(name)",
    },
    "keys": {
        "key_text": "(scheme, public)",
        "read_key": "(text)",
        "write_letter": "(scheme, secret, message)",
        "read_letter": "(text)",
        "answer_challenge": "(scheme, secret, challenge)",
        "is_answer": "(scheme, public, challenge, signature)",
    },
    "entries": {
        "is_entry": "(value)",
        "pack": "(parts)",
        "first_head": "(name, roots)",
        "signed_bytes": "(head, entry)",
        "consent_bytes": "(head, author, key)",
        "next_head": "(head, entry)",
        "make_entry": "(head, scheme, secret, kind, body)",
        "make_replacement": "(head, scheme, secret, new_scheme, new_secret)",
    },
    "judging": {
        "judge": "(name, roots, log)",
        "good_path": "(roots, log, index, key, path)",
        "common_beginning": "(first, second)",
    },
    "scenario": {
        "play": "(text)",
    },
}
GROUP_METHODS = {
    "__init__": "(self, name, curve, base, order, cofactor)",
    "neutral": "(self)",
    "has": "(self, point)",
    "add": "(self, first, second)",
    "negate": "(self, point)",
    "multiply": "(self, factor, point)",
    "lift": "(self, coordinate, odd)",
    "is_small": "(self, point)",
}
HASHER_METHODS = {
    "__init__": "(self)",
    "digest": "(self, data)",
    "digest_parts": "(self, parts)",
    "keyed": "(self, key, data)",
    "keyed_parts": "(self, key, parts)",
    "pieces": "(self)",
}
CLASSES = {
    "errors": {
        "CurveError": {},
        "OutOfRange": {},
        "Malformed": {},
        "NotAPoint": {},
        "NoInverse": {},
        "Refused": {},
        "BadLine": {"__init__": "(self, line)"},
    },
    "weierstrass": {
        "Curve": {
            "__init__": "(self, prime, a, b)",
            "has": "(self, point)",
            "negate": "(self, point)",
            "add": "(self, first, second)",
            "double": "(self, point)",
            "multiply": "(self, factor, point)",
            "lift": "(self, x, odd)",
        },
    },
    "edwards": {
        "EdwardsCurve": {
            "__init__": "(self, prime, a, d)",
            "has": "(self, point)",
            "negate": "(self, point)",
            "add": "(self, first, second)",
            "double": "(self, point)",
            "multiply": "(self, factor, point)",
            "lift": "(self, y, odd)",
        },
    },
    "groups": {
        "Group": GROUP_METHODS,
        "EdwardsGroup": GROUP_METHODS,
    },
    "digest": {
        "Digester": {
            "__init__": "(self, kind)",
            "add": "(self, data)",
            "told": "(self)",
            "length": "(self)",
            "twin": "(self)",
        },
    },
    "hashes": {
        "Sha256": HASHER_METHODS,
        "Sha512": HASHER_METHODS,
    },
    "nonce": {
        "NonceSource": {
            "__init__": "(self, order, secret, hasher, data, *, extra=())",
            "next_nonce": "(self)",
            "twin": "(self)",
            "state": "(self)",
        },
    },
    "team": {
        "Member": {
            "__init__": "(self, group, keys, place, secret, message, session)",
            "commitment": "(self)",
            "reveal": "(self, commitments)",
            "partial": "(self, nonces)",
        },
    },
    "schemes": {
        "Scheme": {
            "__init__": "(self, name)",
            "public": "(self, secret)",
            "sign": "(self, secret, message)",
            "accepts": "(self, public, message, signature)",
            "is_proper": "(self, public)",
        },
    },
    "desk": {
        "Desk": {
            "__init__": "(self, name, roots)",
            "offer": "(self, entry)",
            "would": "(self, entry)",
            "log": "(self)",
            "head": "(self)",
            "status": "(self, key)",
            "rights": "(self, key)",
            "line": "(self, key)",
            "path": "(self, key)",
            "known": "(self)",
        },
    },
}


class InterfaceTest(unittest.TestCase):
    def test_functions(self):
        for module, names in FUNCTIONS.items():
            loaded = importlib.import_module(f"curveseal.{module}")
            for name, arguments in names.items():
                with self.subTest(module=module, name=name):
                    function = getattr(loaded, name)
                    self.assertTrue(inspect.isfunction(function))
                    self.assertEqual(function.__module__, loaded.__name__)
                    self.assertEqual(str(inspect.signature(function)), arguments)

    def test_classes(self):
        for module, classes in CLASSES.items():
            loaded = importlib.import_module(f"curveseal.{module}")
            for name, methods in classes.items():
                with self.subTest(module=module, name=name):
                    made = getattr(loaded, name)
                    self.assertTrue(inspect.isclass(made))
                    self.assertEqual(made.__module__, loaded.__name__)
                    for method, arguments in methods.items():
                        # The method stands in the class itself, not only in a base class.
                        self.assertIn(method, vars(made))
                        self.assertEqual(str(inspect.signature(vars(made)[method])), arguments)


if __name__ == "__main__":
    unittest.main()
