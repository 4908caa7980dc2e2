"""The interface: each name stands in its file, with the arguments that the document writes."""

import importlib
import inspect
import unittest

FUNCTIONS = {
    "octets": ["big(number, size)", "u8(number)", "u16(number)", "u32(number)", "number_of(data)", "is_bytes(value)"],
    "sha": ["round_constants()", "start_words()", "compress(words, block)", "sha256(data)"],
    "small": ["small_core(data)"],
    "suites": ["suite_named(name)"],
    "coefficients": ["coefficient(data, index, width)", "one_time_of(code)", "lower(one, other)"],
    "chains": [
        "step_list(identifier, q, chain, step, value)", "secret_list(identifier, q, chain, seed)",
        "ends_list(identifier, q, ends)", "message_list(identifier, q, randomizer, message)",
        "randomizer_list(identifier, q, seed)", "walk(suite, identifier, q, chain, start, stop, value)",
    ],
    "onetime": [
        "chain_value(kind, identifier, q, seed, chain, step)", "ends(kind, identifier, q, seed)",
        "one_time_key(kind, identifier, q, seed)", "sign_once(kind, identifier, q, seed, message)",
        "message_digits(kind, identifier, q, randomizer, message)",
        "candidate(kind, identifier, q, message, signature)",
        "accepts_once(kind, identifier, q, key, message, signature)", "write_once(kind, signature)",
        "read_once(kind, data)", "write_once_key(kind, identifier, q, key)", "read_once_key(data)",
        "verify_once(form, message, data)", "lmots_rows(form, message, data)",
    ],
    "tree": [
        "tree_levels(suite, leaves, text)", "root_of(suite, leaves, text)", "path_of(suite, leaves, text, place)",
        "node_of(suite, leaf, text, level, index)", "climb(suite, text, place, value, path)",
        "climb_rows(suite, text, place, value, path)", "parting(suite, rows, others)",
        "grown(suite, height, leaf, text, place)",
    ],
    "joint": [
        "joint_places(height, places)", "joint_path(suite, leaves, text, places)",
        "joint_climb(suite, text, height, items, path)", "joint_climb_rows(suite, text, height, items, path)",
    ],
    "batch": [
        "batch_height(count)", "item_text(count, index, message)", "blank_text(count, index)",
        "fork_text(level, index, left, right)", "head_text(count, root)", "batch_leaves(suite, messages)",
        "batch_head(suite, messages)", "batch_opening(suite, messages, index)",
        "opened_head(suite, message, opening)", "batch_rows(suite, message, opening)",
        "joint_opening(suite, messages, places)", "joint_head(suite, messages, opening)",
        "joint_rows(suite, messages, opening)",
    ],
    "batchforms": [
        "batch_bytes(suite, opening, signature)", "batch_of(suite, data)", "joint_bytes(suite, opening, signature)",
        "joint_of(suite, data)",
    ],
    "lms": [
        "tree_kind_of(code, once_code)", "leaf_list(identifier, number, key)",
        "node_list(identifier, number, left, right)", "leaf_value(kind, identifier, seed, q)",
        "join_nodes(kind, identifier, number, left, right)", "node_value(kind, identifier, seed, number)",
        "tree_root(kind, identifier, seed)", "tree_path(kind, identifier, seed, q)",
        "sign_tree(kind, identifier, seed, q, message, *, path=None)", "node_text(kind, identifier)",
        "tree_candidate(kind, identifier, message, signature)",
        "accepts_tree(kind, identifier, root, message, signature)", "child(kind, identifier, seed, q)",
    ],
    "lmsforms": [
        "write_public(kind, identifier, root)", "read_public(data)", "write_tree(kind, signature)",
        "read_tree(kind, data)", "verify_tree(public, message, data)", "lms_rows(public, message, data)",
    ],
    "kept": ["kept_of(suite, leaf, text, data)", "shape(height, place, schedule)"],
    "keptkeys": ["kept_key_of(kind, identifier, seed, data)"],
    "schemes": ["scheme_named(name)"],
    "address": ["long_form(address)", "short_form(address)", "address_of(data)"],
    "hashes": [
        "addressed_list(suite, seed, address, data)", "addressed(suite, seed, address, data)",
        "randomizer_of(suite, key, extra, message)",
        "message_digest(suite, randomizer, seed, root, message, count)", "bit_digits(data, bits, count)",
    ],
    "plus": [
        "plus_step_list(scheme, seed, at, chain, step, value)", "plus_ends_list(scheme, seed, at, ends)",
        "plus_run(scheme, seed, at, chain, value, start, stop)",
        "plus_value(scheme, seed, secret, at, chain, step)", "plus_key(scheme, seed, secret, at)",
        "plus_sign(scheme, seed, secret, at, data)", "plus_candidate(scheme, seed, at, data, values)",
        "plus_rows(scheme, seed, at, data, values)",
    ],
    "forest": [
        "forest_leaf_list(scheme, seed, at, index, value)",
        "forest_fork_list(scheme, seed, at, level, index, left, right)", "forest_roots_list(scheme, seed, at, roots)",
        "forest_secret(scheme, seed, secret, at, index)", "forest_key(scheme, seed, secret, at)", "picks(scheme, data)",
        "forest_sign(scheme, seed, secret, at, data)", "forest_candidate(scheme, seed, at, data, shown)",
        "forest_rows(scheme, seed, at, data, shown)",
    ],
    "layers": [
        "layer_node_list(scheme, seed, at, level, index, left, right)", "layer_root(scheme, seed, secret, at)",
        "layer_sign(scheme, seed, secret, at, data)", "layer_candidate(scheme, seed, at, data, signature)",
        "layer_rows(scheme, seed, at, data, signature)",
    ],
    "tower": [
        "level_key(tower, identifier, seed, places)", "tower_public(tower, identifier, seed)", "read_tower_public(data)",
        "sign_tower(tower, identifier, seed, number, message)", "read_tower(public, data)",
        "write_tower(public, signature)", "number_in(public, data)", "verify_tower(public, message, data)",
        "tower_rows(public, message, data)",
    ],
    "hyper": [
        "cut_digest(scheme, digest)", "hyper_sign(scheme, seed, secret, at, data)",
        "hyper_candidate(scheme, seed, at, data, signature)",
    ],
    "parts": ["parts_of(scheme, signature)", "joined_parts(scheme, parts)"],
    "stateless": [
        "stateless_key(scheme, secret, message_key, seed)", "public_of(scheme, key)", "key_holds(scheme, key)",
        "sign_raw(scheme, key, message, extra=None)", "accepts_raw(scheme, public, message, signature)",
        "things_of(scheme, public, message, signature)", "shown_leaves(scheme, public, message, signature)",
        "stateless_rows(scheme, public, message, signature)",
    ],
    "frames": [
        "pure_frame(context, message)", "digested_frame(suite, context, message)", "frame_parts(data)",
        "sign_framed(scheme, key, message, *, context, digested=False, extra=None)",
        "accepts_framed(scheme, public, message, signature, *, context, digested=False)",
    ],
    "papers": ["known_rows(suite, rows)", "clash_of(suite, rows)", "judge_clash(suite, paper)"],
    "books": [
        "onetime_book(public, book)", "tree_book(public, book)", "tower_book(public, book)",
        "stateless_book(scheme, public, book)", "is_plain(entries)",
    ],
    "accusing": [
        "accuse_onetime(public, book, message, signature)", "accuse_tree(public, book, message, signature)",
        "accuse_tower(public, book, message, signature)", "accuse_stateless(scheme, public, book, message, signature)",
        "accuse_batch(suite, head, book, message, opening)",
    ],
    "judging": [
        "judge_onetime(public, book, paper)", "judge_tree(public, book, paper)", "judge_tower(public, book, paper)",
        "judge_stateless(scheme, public, book, message, signature, paper)", "judge_batch(suite, head, book, paper)",
    ],
    "logbook": [
        "entry_list(entry)", "fork_list(left, right)", "split_of(count)", "log_digest(suite, entries)", "head_text(head)",
    ],
    "heads": [
        "accepts_inclusion(suite, head, index, entry, path)", "accepts_consistency(suite, first, second, path)",
        "inclusion_lists(suite, head, index, entry, path)", "consistency_lists(suite, first, second, path)",
        "same_entry(suite, head, index, one, other)",
        "carry_back(suite, first, second, consistency, index, entry, path)",
        "two_faces(suite, heads, consistencies, index, one, other)",
    ],
    "warrants": [
        "is_warrant(value)", "write_warrant(warrant)", "write_withdrawal(withdrawal)", "read_warrant(data)",
        "read_withdrawal(data)", "message_text(message)",
    ],
    "granting": [
        "fault(root, chain, message, signature, withdrawals, day)",
        "carries(root, chain, message, signature, withdrawals, day)", "right_of(root, chain, withdrawals)",
        "days_of(root, chain, message, signature, withdrawals)", "pairs_of(root, chain, message, signature)",
        "text_entry(text, signature)", "withdrawals_in(entries)",
    ],
    "house": ["run(house, deeds)"],
    "scenario": ["read_scenario(text)", "write_scenario(deeds)", "report(outcomes)"],
}

CLASSES = {
    "errors": {
        "SealError": [], "OutOfRange": [], "Malformed": [], "Refused": [], "UsedUp": [], "PowerLost": [],
        "NotThere": [], "BadLine": ["__init__(self, line)"],
    },
    "suites": {
        "Suite": ["__init__(self, core, size)", "whole(self, data)", "digest(self, data)", "mac(self, key, data)",
                  "stretch(self, data, count)"],
    },
    "coefficients": {
        "OneTime": ["__init__(self, suite, width)", "check_sum(self, digest)", "digits(self, digest)"],
    },
    "lms": {"TreeKind": ["__init__(self, one_time, height)"]},
    "kept": {
        "KeptPath": ["__init__(self, suite, height, leaf, text, *, place=0, schedule='even')", "path(self)",
                     "advance(self)", "go_to(self, place)", "stack(self, level)", "target(self, level)", "kept(self)",
                     "state(self)"],
    },
    "keptkeys": {
        "KeptKey": ["__init__(self, kind, identifier, seed, *, place=0, schedule='even')", "sign(self, message)",
                    "sign_at(self, place, message)", "root(self)", "state(self)"],
    },
    "schemes": {"Stateless": ["__init__(self, suite, width, a, k, rise, layers)"]},
    "tower": {
        "Tower": ["__init__(self, kinds)", "places(self, number)", "number_of(self, places)"],
        "TowerSigner": ["__init__(self, tower, identifier, seed, *, start=0)", "public(self)", "next_number(self)",
                        "left(self)", "sign(self, message)", "skip(self, count)"],
    },
    "disk": {
        "Disk": ["__init__(self, size, image=None)", "write(self, at, data)", "sync(self)", "read(self, at, count)",
                 "crash(self, picks)", "fail_after(self, count)", "deeds(self)", "loose(self)", "versions(self, at)",
                 "image(self)", "claim(self)", "is_user(self, number)"],
    },
    "journal": {
        "Journal": ["__init__(self, disk)", "records(self)", "append(self, record)", "rewrite(self, records)",
                    "room(self)", "is_stale(self)"],
    },
    "keeper": {
        "Keeper": ["__init__(self, disk, sign, places, block)", "sign(self, message)", "skip(self, count)", "left(self)",
                   "next_place(self)", "limit(self)"],
        "TreeKeeper": ["__init__(self, disk, kind, identifier, seed, block, *, schedule='even')", "sign(self, message)",
                       "skip(self, count)", "left(self)", "next_place(self)", "limit(self)", "public(self)"],
        "TowerKeeper": ["__init__(self, disk, tower, identifier, seed, block)", "sign(self, message)",
                        "skip(self, count)", "left(self)", "next_place(self)", "limit(self)", "public(self)"],
    },
    "leases": {
        "Office": ["__init__(self, disk, places, span)", "ask(self, signer, request)", "leases(self)", "free(self)"],
        "Signer": ["__init__(self, disk, number, sign, block)", "wanted(self)", "take(self, lease)",
                   "sign(self, message)", "left(self)", "held(self)"],
    },
    "logbook": {
        "Logbook": ["__init__(self, suite)", "append(self, entry)", "entry(self, index)", "entries(self)",
                    "length(self)", "head(self, count=None)", "inclusion(self, index, count=None)",
                    "consistency(self, first, count=None)"],
    },
    "heads": {"Watcher": ["__init__(self, suite)", "take(self, head, path)", "head(self)"]},
    "house": {
        "House": ["__init__(self, tower, identifier, seed, size, block)", "deed(self, deed)", "public(self)",
                  "book(self)", "log(self)"],
    },
}


def written(function):
    return function.__name__ + str(inspect.signature(function))


class Interface(unittest.TestCase):
    def test_functions(self):
        for name, lines in FUNCTIONS.items():
            module = importlib.import_module("sealgrove." + name)
            for line in lines:
                with self.subTest(module=name, line=line):
                    function = vars(module)[line.partition("(")[0]]
                    self.assertTrue(inspect.isfunction(function))
                    self.assertEqual(function.__module__, module.__name__)
                    self.assertEqual(written(function), line)

    def test_classes(self):
        for name, classes in CLASSES.items():
            module = importlib.import_module("sealgrove." + name)
            for word, lines in classes.items():
                found = vars(module)[word]
                self.assertTrue(inspect.isclass(found))
                self.assertEqual(found.__module__, module.__name__)
                for line in lines:
                    with self.subTest(module=name, word=word, line=line):
                        # vars and not getattr: the method must stand in the class itself.
                        self.assertEqual(written(vars(found)[line.partition("(")[0]]), line)
