"""The examples of the document, as they stand."""

import unittest

from helpers import check_session

SESSIONS = {
    "7 lamps and motions": '''
>>> from lampstays.lamps import is_lamp, log_error, motions_error
>>> [is_lamp(("hold", 5)), is_lamp(("hold", 0)), motions_error(((3, 2, 4), (9, 1, 1))), motions_error(((3, 2, 1),))]
[True, False, (1, 'order'), (0, 'run')]
''',
    "7 logs": '''
>>> from lampstays.lamps import is_log, log_error
>>> [is_log(((3, 8), (9, 10))), log_error(((3, 8), (8, 10))), log_error(((3, 3),)), log_error([])]
[True, (1, 'order'), (0, 'stretch'), (None, 'log')]
''',
    "8": '''
>>> from lampstays.lamps import log_of
>>> M = ((3, 2, 3), (20, 1, 1), (24, 1, 1))
>>> [log_of(("hold", 5), M), log_of(("pulse", 3), M), log_of(("hold", 2), ((0, 2, 5 * 10 ** 8),)), log_of(("pulse", 7), ())]
[((3, 12), (20, 29)), ((3, 6), (7, 10), (20, 23), (24, 27)), ((0, 1000000000),), ()]
''',
    "8 too large": '''
>>> from lampstays.lamps import log_of
>>> log_of(("hold", 1), ((0, 2, 61),))
raises TooLarge(60)
''',
    "9": '''
>>> from lampstays.lamps import count_motions, motions_of
>>> [motions_of((3, 5, 7, 20, 24)), motions_of((4,)), motions_of(()), count_motions(((0, 2, 5 * 10 ** 8), (10 ** 9, 1, 1)))]
[((3, 2, 3), (20, 4, 2)), ((4, 1, 1),), (), 500000001]
''',
    "9 no minute": '''
>>> from lampstays.lamps import motions_of
>>> motions_of((3, 5, 5))
raises NoMinute(5)
''',
    "10": '''
>>> from lampstays.lamps import motion_at, motions_before
>>> M = ((3, 2, 3), (20, 4, 2))
>>> [motion_at(M, 2), motion_at(M, 4), motions_before(M, 7), motions_before(M, 24), motions_before(M, 0)]
[7, 24, 2, 4, 0]
''',
    "10 no index": '''
>>> from lampstays.lamps import motion_at
>>> motion_at(((3, 2, 3),), 3)
raises NoIndex(3)
''',
    "11": '''
>>> from lampstays.lamps import each_motion
>>> [list(each_motion(((3, 2, 3), (20, 4, 2)))), list(each_motion(((3, 2, 3), (20, 4, 2)), start=3))]
[[3, 5, 7, 20, 24], [20, 24]]
''',
    "12": '''
>>> from lampstays.lamps import Log
>>> one, other = Log(((3, 8), (20, 29))), Log(((7, 9), (25, 26)))
>>> [one.lit, 8 in one, one[1], one(3), one(29), (one | other).stretches, (one & other).stretches, bool(Log(()))]
[14, False, (20, 29), 8, None, ((3, 9), (20, 29)), ((7, 8), (25, 26)), False]
''',
    "12 text": '''
>>> from lampstays.lamps import Log
>>> str(Log(((3, 1500),)))
'             3         1,500'
''',
    "12 bad log": '''
>>> from lampstays.lamps import Log
>>> Log(((3, 3),))
raises BadLog((0, 'stretch'))
''',
}


class Examples(unittest.TestCase):
    def test_every_session(self):
        for name, text in SESSIONS.items():
            with self.subTest(name):
                check_session(self, text)

    def test_a_wrong_session_would_be_noticed(self):
        for text in (">>> 1 + 1\n3", ">>> 1 + 1\nraises TooLarge(60)",
                     SESSIONS["8 too large"].replace("TooLarge(60)", "TooLarge(61)"),
                     SESSIONS["8 too large"].replace("TooLarge", "TooMany")):
            with self.assertRaises(AssertionError):
                check_session(self, text)


if __name__ == "__main__":
    unittest.main()
