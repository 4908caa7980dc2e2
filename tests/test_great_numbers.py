"""Point 2: an integer has no greatest value. Python does not write a number of more than 4300 digits in a text,
so that no text of an error may be made of a number that has no bound."""

from helpers import Case, never
from sealgrove import (
    address, batch, chains, coefficients, disk, errors, forest, hashes, heads, house, hyper, joint, keeper, kept,
    keptkeys, layers, leases, lms, lmsforms, logbook, octets, onetime, plus, schemes, suites, tower, tree, warrants,
)
from sealgrove.errors import Malformed, NotThere, OutOfRange, Refused

GREAT = 10 ** 5000
I = [7] * 16
SUITE = suites.suite_named("small-1")
ONCE = coefficients.OneTime(SUITE, 8)
KIND = lms.TreeKind(ONCE, 1)
VALUES = [[1]] * ONCE.p
SCHEME = schemes.Stateless(SUITE, 8, 1, 1, 1, 1)
PATH = kept.KeptPath(SUITE, 1, lambda q: [q], lambda z, i, left, right: left + right)
KEY = keptkeys.KeptKey(KIND, I, [1])
TOWER = tower.Tower([KIND, KIND])
HIGH = [7] * 7 + [0] * 9
DISK = disk.Disk(64)
KEEPER = keeper.Keeper(disk.Disk(64), never, 9, 1)
OFFICE = leases.Office(disk.Disk(1024), 9, 1)
SIGNER = leases.Signer(disk.Disk(512), 1, never, 1)
LOG = logbook.Logbook(SUITE)


def calls(n):
    """Each one of them is to raise OutOfRange, since it is passed a number that is none."""
    return [
        (octets.big, n, 64), (octets.u8, n), (octets.u16, n), (octets.u32, n),
        (suites.Suite, n, 1), (suites.Suite, 1, n),
        (coefficients.coefficient, [1], n, 8), (coefficients.coefficient, [1], 0, n), (coefficients.OneTime, SUITE, n),
        (chains.step_list, I, n, 0, 0, [1]), (chains.step_list, I, 0, n, 0, [1]), (chains.step_list, I, 0, 0, n, [1]),
        (chains.secret_list, I, 0, n, [1]), (chains.randomizer_list, I, n, [1]), (chains.ends_list, I, n, [[1]]),
        (chains.message_list, I, n, [1], []), (chains.walk, SUITE, I, 0, 0, 0, n, [1]),
        (chains.walk, SUITE, I, 0, 0, n, 255, [1]), (chains.walk, SUITE, I, 0, 0, n, n, [1]),
        (onetime.chain_value, ONCE, I, 0, [1], n, 0), (onetime.chain_value, ONCE, I, 0, [1], 0, n),
        (onetime.sign_once, ONCE, I, n, [1], []), (onetime.candidate, ONCE, I, n, [], ([1], VALUES)),
        (onetime.write_once_key, ONCE, I, n, [1]),
        (tree.path_of, SUITE, [[1]], never, n), (tree.node_of, SUITE, never, never, n, 0),
        (tree.climb, SUITE, never, n, [1], []), (tree.grown, SUITE, n, never, never, 0),
        (tree.grown, SUITE, 1, never, never, n),
        (joint.joint_places, n, [0]), (joint.joint_places, 2, [n]),
        (joint.joint_climb, SUITE, never, 1, [(n, [1])], []),
        (batch.batch_height, n), (batch.batch_opening, SUITE, [[1]], n), (batch.opened_head, SUITE, [], (n, 0, [])),
        (batch.opened_head, SUITE, [], (1, n, [])), (batch.joint_opening, SUITE, [[1]], [n]),
        (lms.TreeKind, ONCE, n), (lms.leaf_list, I, n, [1]), (lms.node_list, I, n, [1], [1]),
        (lms.leaf_value, KIND, I, [1], n), (lms.join_nodes, KIND, I, n, [1], [1]), (lms.node_value, KIND, I, [1], n),
        (lms.tree_path, KIND, I, [1], n), (lms.sign_tree, KIND, I, [1], n, []), (lms.child, KIND, I, [1], n),
        (lms.tree_candidate, KIND, I, [], (n, ([1], VALUES), [[1]])),
        (lmsforms.write_tree, KIND, (n, ([1], VALUES), [[1]])),
        (kept.shape, n, 0, "even"), (kept.shape, 1, n, "even"), (kept.KeptPath, SUITE, n, never, never),
        (PATH.go_to, n), (PATH.stack, n), (PATH.target, n), (KEY.sign_at, n, []),
        (schemes.Stateless, SUITE, n, 1, 1, 1, 1), (schemes.Stateless, SUITE, 8, n, 1, 1, 1),
        (schemes.Stateless, SUITE, 8, 1, n, 1, 1), (schemes.Stateless, SUITE, 8, 1, 1, n, 1),
        (schemes.Stateless, SUITE, 8, 1, 1, 1, n), (address.long_form, (0, n, 0, 0, 0, 0)),
        (address.short_form, (0, 0, n, 0, 0, 0)), (hashes.bit_digits, [1], n, 1), (hashes.bit_digits, [1], 1, n),
        (plus.plus_run, SCHEME, [1], (0, 0, 0), 0, [1], n, n), (plus.plus_key, SCHEME, [1], [1], (0, 0, n)),
        (plus.plus_step_list, SCHEME, [1], (0, n, 0), 0, 0, [1]), (plus.plus_value, SCHEME, [1], [1], (0, 0, 0), n, 0),
        (forest.forest_secret, SCHEME, [1], [1], (0, 0), n), (forest.forest_key, SCHEME, [1], [1], (n, 0)),
        (forest.forest_fork_list, SCHEME, [1], (0, 0), n, 0, [1], [1]),
        (layers.layer_root, SCHEME, [1], [1], (n, 0)), (layers.layer_node_list, SCHEME, [1], (0, 0), 1, n, [1], [1]),
        (hyper.hyper_sign, SCHEME, [1], [1], (n, 0), [1]), (hyper.hyper_sign, SCHEME, [1], [1], (0, n), [1]),
        (TOWER.places, n), (TOWER.number_of, [0, n]), (tower.level_key, TOWER, HIGH, [1], [n]),
        (tower.sign_tower, TOWER, HIGH, [1], n, []), (tower.TowerSigner(TOWER, HIGH, [1]).skip, n),
        (disk.Disk, n), (DISK.read, n, 0), (DISK.read, 0, n), (DISK.write, n, []), (DISK.versions, n),
        (keeper.Keeper, DISK, never, n, 1), (KEEPER.skip, n), (leases.Office, disk.Disk(1024), n, 1), (OFFICE.ask, n, 1),
        (leases.Signer, disk.Disk(512), n, never, 1), (SIGNER.take, (1, 1, n, n)), (SIGNER.take, (1, 1, n, 5)),
        (logbook.head_text, (n, [1])), (house.House, TOWER, HIGH, [1], n, 1),
    ]


class GreatNumbers(Case):
    def test_what_is_out_of_range(self):
        for number in (GREAT, -GREAT):
            for call in calls(number):
                with self.subTest(function=call[0].__name__):
                    self.raises(OutOfRange, call[0], *call[1:])

    def test_codes(self):
        for number in (GREAT, -GREAT):
            self.raises(Malformed, coefficients.one_time_of, number)
            self.raises(Malformed, lms.tree_kind_of, number, ONCE.code)
            self.raises(Malformed, lms.tree_kind_of, KIND.code, number)

    def test_the_start_of_a_signer(self):
        for number in (GREAT, -GREAT):
            self.raises(OutOfRange, tower.TowerSigner, TOWER, HIGH, [1], start=number)

    def test_what_is_not_there_or_refused(self):
        for number in (GREAT, -GREAT):
            for call in (LOG.entry, LOG.head, LOG.inclusion, LOG.consistency):
                self.raises(NotThere, call, number)
            self.raises(Refused, OFFICE.ask, 1, number)
            self.raises(Refused, heads.inclusion_lists, SUITE, (number, [1]), number, [], [])
            self.raises(Refused, heads.consistency_lists, SUITE, (0, [1]), (number, [1]), [])
            self.raises(Malformed, warrants.write_withdrawal, (((), 0, 0, 0, 0, 0, ()), number))
            self.assertIs(warrants.is_warrant(((), 0, number, 0, number, 0, ())), False)
            self.assertIs(SIGNER.take((1, number, 0, 1)), False)

    def test_items_of_a_list(self):
        self.assertIs(octets.is_bytes([GREAT]), False)
        self.raises(Malformed, tree.climb, SUITE, never, 0, [GREAT], [])
        self.raises(OutOfRange, lms.leaf_value, KIND, [GREAT] * 16, [1], 0)

    def test_the_number_of_a_line(self):
        self.assertEqual(errors.BadLine(GREAT).line, GREAT)
