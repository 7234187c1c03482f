"""The examples of the document, as they stand, and those of README.md."""

import doctest
import pathlib
import unittest

from helpers import check_session

SESSIONS = {
    "7 lamps and motions": '''
>>> from lampstays.lamps import is_lamp, log_error, motions_error
>>> [is_lamp(("hold", 5)), is_lamp(("hold", 0)), motions_error(((3, 2, 4), (9, 1, 1))), motions_error(((3, 2, 1),))]
[True, False, (1, 'order'), (0, 'run')]
''',
    "7 logs": '''
>>> from lampstays.lamps import is_log, log_error
>>> [is_log(((3, 8), (9, 10))), log_error(((3, 8), (8, 10))), log_error(((3, 3),)), log_error([])]
[True, (1, 'order'), (0, 'stretch'), (None, 'log')]
''',
    "8": '''
>>> from lampstays.lamps import log_of
>>> M = ((3, 2, 3), (20, 1, 1), (24, 1, 1))
>>> [log_of(("hold", 5), M), log_of(("pulse", 3), M), log_of(("hold", 2), ((0, 2, 5 * 10 ** 8),)), log_of(("pulse", 7), ())]
[((3, 12), (20, 29)), ((3, 6), (7, 10), (20, 23), (24, 27)), ((0, 1000000000),), ()]
''',
    "8 too large": '''
>>> from lampstays.lamps import log_of
>>> log_of(("hold", 1), ((0, 2, 61),))
raises TooLarge(60)
''',
    "9": '''
>>> from lampstays.lamps import count_motions, motions_of
>>> [motions_of((3, 5, 7, 20, 24)), motions_of((4,)), motions_of(()), count_motions(((0, 2, 5 * 10 ** 8), (10 ** 9, 1, 1)))]
[((3, 2, 3), (20, 4, 2)), ((4, 1, 1),), (), 500000001]
''',
    "9 no minute": '''
>>> from lampstays.lamps import motions_of
>>> motions_of((3, 5, 5))
raises NoMinute(5)
''',
    "10": '''
>>> from lampstays.lamps import motion_at, motions_before
>>> M = ((3, 2, 3), (20, 4, 2))
>>> [motion_at(M, 2), motion_at(M, 4), motions_before(M, 7), motions_before(M, 24), motions_before(M, 0)]
[7, 24, 2, 4, 0]
''',
    "10 no index": '''
>>> from lampstays.lamps import motion_at
>>> motion_at(((3, 2, 3),), 3)
raises NoIndex(3)
''',
    "11": '''
>>> from lampstays.lamps import each_motion
>>> [list(each_motion(((3, 2, 3), (20, 4, 2)))), list(each_motion(((3, 2, 3), (20, 4, 2)), start=3))]
[[3, 5, 7, 20, 24], [20, 24]]
''',
    "12": '''
>>> from lampstays.lamps import Log
>>> one, other = Log(((3, 8), (20, 29))), Log(((7, 9), (25, 26)))
>>> [one.lit, 8 in one, one[1], one(3), one(29), (one | other).stretches, (one & other).stretches, bool(Log(()))]
[14, False, (20, 29), 8, None, ((3, 9), (20, 29)), ((7, 8), (25, 26)), False]
''',
    "12 text": '''
>>> from lampstays.lamps import Log
>>> str(Log(((3, 1500),)))
'             3         1,500'
''',
    "12 bad log": '''
>>> from lampstays.lamps import Log
>>> Log(((3, 3),))
raises BadLog((0, 'stretch'))
''',
    "15": '''
>>> from lampstays.facts import wrong_stretches
>>> [wrong_stretches(("hold", 5), ((3, 12), (20, 24))), wrong_stretches(("pulse", 3), ((3, 12), (20, 24))), wrong_stretches(("hold", 5), ((10 ** 9, 10 ** 9 + 6),))]
[(1,), (1,), (0,)]
''',
    "16": '''
>>> from lampstays.facts import call_spans, quiet_spans, sure_runs
>>> G = ((3, 12), (20, 29))
>>> [sure_runs(("hold", 5), G), sure_runs(("pulse", 3), G), quiet_spans(("hold", 5), G), call_spans(("hold", 5), G)]
[((3, 4, 2), (20, 4, 2)), ((3, 3, 3), (20, 3, 3)), ((0, 2), (8, 19), (25, 1000000000)), ((3, 7), (20, 24))]
''',
    "16 unexplained": '''
>>> from lampstays.facts import quiet_spans
>>> quiet_spans(("pulse", 4), ((3, 11), (20, 29)))
raises Unexplained(('stretch', 0, 1))
''',
    "17": '''
>>> from lampstays.facts import explains
>>> A, G = (("hold", 5), ("pulse", 3)), (((3, 12), (20, 29)), ((3, 6), (7, 10), (20, 23), (24, 27)))
>>> [explains(A, G, ((3, 4, 2), (20, 4, 2))), explains(A, G, ((3, 17, 2),)), explains(A, G, None)]
[True, False, False]
''',
    "18": '''
>>> from lampstays.facts import verdict
>>> A, G = (("hold", 5), ("pulse", 3)), (((3, 12), (20, 29)), ((3, 6), (7, 10), (20, 23), (24, 27)))
>>> [verdict(A, G)[0], verdict((("pulse", 3),), (((0, 4),),)), verdict((("hold", 5), ("hold", 2)), (((3, 12),), ((3, 5),)))]
['motions', ('stretch', 0, 0), ('sure', 0, 7, 1)]
''',
    "18 more": '''
>>> from lampstays.facts import verdict
>>> [verdict((("hold", 3), ("pulse", 2)), (((0, 9),), ((0, 2), (6, 8)))), verdict((("hold", 3),), (((0, 9),),))[0]]
[('call', 0, 2, 1), 'motions']
''',
    "19": '''
>>> from lampstays.facts import verdict_holds
>>> L, G = (("hold", 5), ("hold", 2)), (((3, 12),), ((3, 5),))
>>> [verdict_holds(L, G, ("sure", 0, 7, 1)), verdict_holds(L, G, ("sure", 0, 3, 1)), verdict_holds(L[:1], G[:1], ("motions", ((3, 4, 2),)))]
[True, False, True]
''',
    "20": '''
>>> from lampstays.facts import possible_spans
>>> A, G = (("hold", 5), ("pulse", 3)), (((3, 12), (20, 29)), ((3, 6), (7, 10), (20, 23), (24, 27)))
>>> [possible_spans(A, G), possible_spans((("pulse", 3),), ((),))]
[((3, 5), (7, 7), (20, 22), (24, 24)), ()]
''',
    "20 unexplained": '''
>>> from lampstays.facts import possible_spans
>>> possible_spans((("pulse", 3),), (((0, 4),),))
raises Unexplained(('stretch', 0, 0))
''',
    "21": '''
>>> from lampstays.facts import state_of
>>> F, G = (("hold", 3), ("pulse", 2)), (((0, 9),), ((0, 4), (6, 8)))
>>> [state_of(F, G, minute) for minute in range(8)]
['sure', 'open', 'sure', 'sure', 'quiet', 'quiet', 'sure', 'quiet']
''',
    "22": '''
>>> from lampstays.facts import at_odds
>>> L, G = (("hold", 5), ("hold", 2), ("hold", 9)), (((3, 12),), ((3, 5),), ((3, 16),))
>>> [at_odds(L, G), at_odds(L[::2], G[::2])]
[((0, 1), (1, 2)), ()]
''',
    "23": '''
>>> from lampstays.facts import explained
>>> L, G = (("hold", 5), ("hold", 2), ("hold", 9)), (((3, 12),), ((3, 5),), ((3, 16),))
>>> [explained(L, G, 0, 2), explained(L, G, 1, 0, 1), explained(L, G)]
[True, False, True]
''',
    "24": '''
>>> from lampstays.facts import Reading
>>> reading = Reading((("hold", 5), ("pulse", 3)), (((3, 12), (20, 29)), ((3, 6), (7, 10), (20, 23), (24, 27))))
>>> [reading(4), 4 in reading, 6 in reading, reading[1], len(reading), reading.possible]
['open', True, False, (7, 7), 4, 8]
''',
    "24 no index": '''
>>> from lampstays.facts import Reading
>>> Reading((("hold", 5),), (((3, 12),),))[1]
raises NoIndex(1)
''',
    "26": '''
>>> from lampstays.stays import fits, fitting
>>> [fits(('hold', 9), ((3, 12), (20, 29))), fits(('hold', 10), ((3, 12),)), fits(('pulse', 2), ((3, 12),))]
[True, False, False]
>>> fitting(((3, 12),), ('pulse', 3), ('hold', 10), ('hold', 1), ('pulse', 4))
(0, 2)
''',
    "26 bad lamp": '''
>>> from lampstays.stays import fitting
>>> fitting((), ('hold', 1), ('hold', 0))
raises BadLamp(('hold', 0))
''',
    "27": '''
>>> from lampstays.stays import both_kinds, stays_of
>>> [stays_of('hold', ((3, 12), (20, 26))), stays_of('pulse', ((3, 12), (20, 26))), stays_of('pulse', ((0, 4), (6, 12)))]
[((1, 6),), ((1, 1), (3, 3)), ((1, 2),)]
>>> [stays_of('hold', ()), both_kinds(((3, 12), (20, 26))), stays_of('hold', ((5, 10 ** 9 + 4),))]
[((1, 1000000000),), ((1, 1), (3, 3)), ((4, 999999999),)]
''',
    "27 no kind": '''
>>> from lampstays.stays import stays_of
>>> stays_of('on', ())
raises NoKind('on')
''',
    "28": '''
>>> from lampstays.stays import stays_beside
>>> K = (('hold', 5),)
>>> [stays_beside('hold', ((3, 10),), K, (((3, 12),),)), stays_beside('pulse', ((3, 10),), K, (((3, 12),),)), stays_beside('hold', (), K, (((3, 12),),))]
[((3, 3),), ((7, 7),), ()]
''',
    "28 other count": '''
>>> from lampstays.stays import stays_beside
>>> stays_beside('hold', (), (('hold', 5),), ())
raises OtherCount(0)
''',
    "29": '''
>>> from lampstays.stays import arrangements
>>> [arrangements((('hold', 5), ('pulse', 3)), (((3, 6), (7, 10)), ((3, 12),))), arrangements((('hold', 2), ('hold', 2)), (((3, 5),), ((3, 5),)))]
[((1, 0),), ((0, 1), (1, 0))]
>>> [arrangements((), ()), arrangements((('hold', 5),), (((3, 6),),))]
[((),), ()]
''',
    "30": '''
>>> from lampstays.stays import first_difference, least_example
>>> M = ((3, 2, 3), (20, 4, 2))
>>> [first_difference(('hold', 5), ('pulse', 5), M), first_difference(('hold', 4), ('hold', 5), M), first_difference(('hold', 1), ('pulse', 1), M)]
[8, 11, None]
>>> [least_example(('hold', 5), ('pulse', 3)), least_example(('hold', 5), ('pulse', 5)), least_example(('hold', 1), ('pulse', 1))]
[(0,), (0, 1), None]
''',
    "31": '''
>>> from lampstays.stays import Stays
>>> A, B = Stays(((3, 12),)), Stays(((0, 6), (8, 14)))
>>> [A['hold'], (A & B)['hold'], (A & B)['pulse'], ('pulse', 3) in A & B, ('hold', 7) in A & B, (A & B).how_many(), str(Stays())]
[((1, 9),), ((1, 6),), ((1, 1), (3, 3)), True, False, 8, '2,000,000,000 lamps']
>>> [Stays(((3, 4),))(((5, 2, 2),)), A(((5, 2, 2),)), Stays(((0, 1), (2, 5)))(()), bool(A & Stays(((0, 10),)))]
[((5, 6), (7, 8)), None, (), True]
''',
    "31 bad log": '''
>>> from lampstays.stays import Stays
>>> Stays((), ((3, 3),))
raises BadLog((0, 'stretch'))
''',
    "33": '''
>>> from lampstays.fewest import gaps
>>> L = (("hold", 5), ("pulse", 3))
>>> G = (((3, 12), (20, 29)), ((3, 6), (7, 10), (20, 23), (24, 27)))
>>> [gaps(L, G), gaps((("pulse", 4),), (((2, 10),),)), gaps(L, ((), ()))]
[((3, 7, 5, 5), (7, 20, 7, None), (20, 24, 22, 5), (24, None, 24, None)), ((2, 6, 5, None), (6, None, 9, None)), ()]
''',
    "33 other count": '''
>>> from lampstays.fewest import gaps
>>> gaps((("hold", 5),), ())
raises OtherCount(0)
''',
    "34": '''
>>> from lampstays.fewest import fewest_count, most_count
>>> L = (("hold", 5), ("pulse", 3))
>>> G = (((3, 12), (20, 29)), ((3, 6), (7, 10), (20, 23), (24, 27)))
>>> H, K = (("hold", 3),), (((0, 20),),)
>>> [fewest_count(L, G), most_count(L, G), fewest_count(H, K), most_count(H, K), most_count((), ())]
[4, 8, 7, 18, 1000000001]
''',
    "35": '''
>>> from lampstays.fewest import fewest_motions, most_motions
>>> L = (("hold", 5), ("pulse", 3))
>>> G = (((3, 12), (20, 29)), ((3, 6), (7, 10), (20, 23), (24, 27)))
>>> H, K = (("hold", 3),), (((0, 20),),)
>>> [fewest_motions(L, G), most_motions(L, G), fewest_motions(H, K), most_motions(H, K)]
[((3, 4, 2), (20, 4, 2)), ((3, 1, 3), (7, 13, 2), (21, 1, 2), (24, 1, 1)), ((0, 2, 2), (5, 3, 5)), ((0, 1, 18),)]
''',
    "37": '''
>>> from lampstays.fewest import needs_of
>>> L = (("hold", 5), ("pulse", 3))
>>> G = (((3, 12), (20, 29)), ((3, 6), (7, 10), (20, 23), (24, 27)))
>>> H, K = (("hold", 3),), (((0, 20),),)
>>> [needs_of(L, G), needs_of(H, K)]
[((3, 1, 1), (7, 1, 1), (20, 1, 1), (24, 1, 1)), ((0, 1, 1), (1, 3, 5), (17, 1, 1))]
''',
    "38": '''
>>> from lampstays.fewest import fewest_holds
>>> H, K = (("hold", 3),), (((0, 20),),)
>>> [fewest_holds(H, K, (((0, 2, 2), (5, 3, 5)), ((0, 1, 1), (1, 3, 5), (17, 1, 1)))), fewest_holds(H, K, (((0, 1, 18),), ((0, 1, 18),)))]
[True, False]
''',
    "39": '''
>>> from lampstays.fewest import next_possible, next_sure
>>> L = (("hold", 5), ("pulse", 3))
>>> G = (((3, 12), (20, 29)), ((3, 6), (7, 10), (20, 23), (24, 27)))
>>> [next_sure(L, G, 8), next_possible(L, G, 4), next_possible(L, G, 6), next_sure(L, G, 25)]
[20, 4, 7, None]
''',
    "41": '''
>>> from lampstays.fewest import is_explanation, united
>>> L = (("hold", 5), ("pulse", 3))
>>> G = (((3, 12), (20, 29)), ((3, 6), (7, 10), (20, 23), (24, 27)))
>>> [is_explanation(L, G, (3, 7, 20, 24)), is_explanation(L, G, (3, 6, 7, 20, 24)), united(L, G, (3, 5, 7, 20, 24), (3, 7, 20, 21, 24))]
[True, False, (3, 5, 7, 20, 21, 24)]
''',
    "41 no explanation": '''
>>> from lampstays.fewest import united
>>> L = (("hold", 5), ("pulse", 3))
>>> G = (((3, 12), (20, 29)), ((3, 6), (7, 10), (20, 23), (24, 27)))
>>> united(L, G, (3, 7, 20, 24), (3, 7, 20))
raises NoExplanation(1)
''',
    "42": '''
>>> from lampstays.fewest import count_explanations, explanation_at, explanation_index
>>> L = (("hold", 5), ("pulse", 3))
>>> G = (((3, 12), (20, 29)), ((3, 6), (7, 10), (20, 23), (24, 27)))
>>> H, K = (("hold", 3),), (((0, 20),),)
>>> [count_explanations(L, G), count_explanations(H, K), explanation_at(L, G, 0), explanation_at(L, G, 15), explanation_index(L, G, (3, 7, 20, 24))]
[16, 19513, (3, 4, 5, 7, 20, 21, 22, 24), (3, 7, 20, 24), 15]
''',
    "42 too large": '''
>>> from lampstays.fewest import count_explanations
>>> count_explanations((), ())
raises TooLarge(300)
''',
    "43": '''
>>> from lampstays.fewest import each_explanation
>>> L = (("hold", 5), ("pulse", 3))
>>> G = (((3, 12), (20, 29)), ((3, 6), (7, 10), (20, 23), (24, 27)))
>>> list(each_explanation(L, G, start=14))
[(3, 7, 20, 22, 24), (3, 7, 20, 24)]
''',
    "45": '''
>>> from lampstays.foretold import light_state
>>> L = (("hold", 5), ("pulse", 3))
>>> G = (((3, 12), (20, 29)), ((3, 6), (7, 10), (20, 23), (24, 27)))
>>> [light_state(L, G, 2, minute) for minute in (2, 3, 5, 6, 7, 9)]
['off', 'on', 'open', 'open', 'on', 'off']
''',
    "46": '''
>>> from lampstays.foretold import each_light, light_log
>>> L = (("hold", 5), ("pulse", 3))
>>> G = (((3, 12), (20, 29)), ((3, 6), (7, 10), (20, 23), (24, 27)))
>>> H, K = (("hold", 3),), (((0, 20),),)
>>> [light_log(L, G, 2), light_log(H, K, 2), light_log((), (), 2), list(each_light(L, G, 2, start=4))]
[((3, 5, 'on'), (5, 7, 'open'), (7, 9, 'on'), (20, 22, 'on'), (22, 24, 'open'), (24, 26, 'on')), ((0, 2, 'on'), (2, 17, 'open'), (17, 19, 'on')), ((0, 1000000002, 'open'),), [(22, 24, 'open'), (24, 26, 'on')]]
''',
    "46 no count": '''
>>> from lampstays.foretold import light_log
>>> light_log((("hold", 5),), (((3, 12),),), 0)
raises NoCount(0)
''',
    "47": '''
>>> from lampstays.foretold import Light
>>> L = (("hold", 5), ("pulse", 3))
>>> G = (((3, 12), (20, 29)), ((3, 6), (7, 10), (20, 23), (24, 27)))
>>> light = Light(L, G, 2)
>>> [light.sure, light.unclear, light(5), 7 in light, 5 in light, light[1], len(light), bool(Light(L, ((), ()), 2))]
[8, 4, 'open', True, False, (5, 7, 'open'), 6, False]
''',
    "47 more": '''
>>> from lampstays.foretold import Light
>>> H, K = (("hold", 3),), (((0, 20),),)
>>> str(Light(H, K, 3))
'             0            20 on'
''',
    "48": '''
>>> from lampstays.foretold import is_needless
>>> L = (("hold", 5), ("pulse", 3))
>>> G = (((3, 12), (20, 29)), ((3, 6), (7, 10), (20, 23), (24, 27)))
>>> A, B = (("hold", 5), ("hold", 4)), (((3, 12),), ((3, 11),))
>>> [is_needless(A, B, 1), is_needless(L, G, 0), is_needless(L, G, 1)]
[True, False, False]
''',
    "49": '''
>>> from lampstays.foretold import first_misfit, sightings_fit
>>> H, K = (("hold", 3),), (((0, 20),),)
>>> [sightings_fit(H, K, (1, 2, False), (4, 5, False)), sightings_fit(H, K, (1, 3, False)), first_misfit(H, K, (1, 2, False), (2, 3, False)), first_misfit(H, K)]
[True, False, 1, None]
''',
    "49 bad sighting": '''
>>> from lampstays.foretold import sightings_fit
>>> H, K = (("hold", 3),), (((0, 20),),)
>>> sightings_fit(H, K, (1, 2, True), (2, 1, True))
raises BadSighting(1)
''',
    "50": '''
>>> from lampstays.foretold import each_spare, is_spare
>>> L = (("hold", 5), ("pulse", 3))
>>> M = ((3, 2, 3), (20, 1, 1), (24, 1, 1))
>>> [is_spare(L, M, 1), is_spare(L, M, 2), list(each_spare(L, M)), list(each_spare((), M, start=3))]
[True, False, [1], [3, 4]]
''',
    "51": '''
>>> from lampstays.foretold import moving_range, thinned
>>> L = (("hold", 5), ("pulse", 3))
>>> M = ((3, 2, 3), (20, 1, 1), (24, 1, 1))
>>> [moving_range(L, M, 1), moving_range(L, M, 4), moving_range((), M, 0), thinned(L, M), thinned((), M)]
[(4, 5), (24, 24), (0, 4), ((3, 4, 2), (20, 4, 2)), ()]
''',
    "51 no index": '''
>>> from lampstays.foretold import moving_range
>>> moving_range((), ((3, 2, 3),), 3)
raises NoIndex(3)
''',
    "53": '''
>>> from lampstays.houses import House
>>> house = House.after(((3, 2, 3),), ("hold", 5), ("pulse", 3))
>>> [house.lamps(), house.motions(), house.logs(), house.edits(), House.LIMIT, House.is_run((3, 2, 1))]
[(('hold', 5), ('pulse', 3)), ((3, 2, 3),), (((3, 12),), ((3, 6), (7, 10))), (), 60, False]
''',
    "53 bad lamp": '''
>>> from lampstays.houses import House
>>> House(("hold", 5), None, 7)
raises BadLamp(None)
''',
    "53 too large": '''
>>> from lampstays.houses import House
>>> House.after(((0, 2, 61),), ("hold", 1))
raises TooLarge(60)
''',
    "54": '''
>>> from lampstays.houses import House
>>> house = House(("hold", 5), ("pulse", 3))
>>> [house.motion(3), house.burst(5, 2, 2), house.fit(("hold", 2)), house.motion(20), house.remove(0), house.logs()]
[1, 2, 3, 4, 5, (((3, 6), (7, 10), (20, 23)), ((20, 22),))]
''',
    "54 not later": '''
>>> from lampstays.houses import House
>>> House.after(((3, 2, 3),)).motion(7)
raises NotLater(7)
''',
    "54 no minute": '''
>>> from lampstays.houses import House
>>> House().burst(5, 10 ** 9, 2)
raises NoMinute(1000000005)
''',
    "55": '''
>>> from lampstays.houses import House
>>> house = House(("hold", 5))
>>> [house.motion_all(3, 9, 14), house.logs(), house.motion_all()]
[3, (((3, 8), (9, 19)),), 3]
''',
    "55 not later": '''
>>> from lampstays.houses import House
>>> House().motion_all(3, 3, None)
raises NotLater(3)
''',
    "56": '''
>>> from lampstays.houses import House
>>> house = House(("hold", 5))
>>> [house.motion(3), house.undo(), house.logs()]
[1, 0, ((),)]
''',
    "56 nothing to undo": '''
>>> from lampstays.houses import House
>>> House().undo()
raises NothingToUndo()
''',
    "57": '''
>>> from lampstays.houses import House
>>> house = House(("pulse", 3))
>>> done = [house.burst(4, 7, 1), house.fit(("hold", 2))]
>>> [house.motions(), house.lamps(version=1), house.logs(), house.logs(version=0), house.edits()]
[((4, 1, 1),), (('pulse', 3),), (((4, 7),), ()), ((),), (('burst', 4, 7, 1), ('fit', ('hold', 2)))]
''',
    "57 no version": '''
>>> from lampstays.houses import House
>>> House().logs(version=True)
raises NoVersion(True)
''',
    "58": '''
>>> from lampstays.houses import House
>>> house = House(("hold", 5))
>>> [house.many, house.moved, house.latest_minute, house.burst(0, 2, 5 * 10 ** 8), house.moved, house.latest_minute]
[1, 0, None, 1, 500000000, 999999998]
''',
    "59": '''
>>> from lampstays.houses import House
>>> house = House.after(((3, 2, 3),), ("hold", 5), ("pulse", 3))
>>> list(house.each_change(start=6))
[(6, 1, False), (7, 1, True), (10, 1, False), (12, 0, False)]
''',
    "60": '''
>>> from lampstays.houses import House
>>> house = House(("hold", 5))
>>> [house.attempt([("motion", 3), ("burst", 9, 2, 4)]), house.moved, len(house)]
[2, 5, 2]
''',
    "60 rejected": '''
>>> from lampstays.houses import House
>>> House().attempt([("motion", 3), ("remove", 0)])
raises Rejected(1)
''',
    "61": '''
>>> from lampstays.houses import House
>>> one = House(("hold", 5))
>>> other = one.copy()
>>> [one.burst(0, 1, 1500), one == other, other.burst(0, 1, 1500), one == other, str(one)]
[1, False, 1, True, '1 lamps, 1,500 motions, 1 edits']
''',
    "62": '''
>>> from lampstays.houses import MeteredHouse
>>> house = MeteredHouse.after(((3, 2, 3),), ("hold", 5), ("pulse", 3))
>>> [house.burnt, house.cap, str(house), house.motion(20), house.burnt]
[(9, 6), None, '2 lamps, 3 motions, 0 edits, 15 minutes', 1, (14, 9)]
''',
    "62 too bright": '''
>>> from lampstays.houses import MeteredHouse
>>> house = MeteredHouse(("pulse", 3), ("hold", 5), cap=8)
>>> house.motion_all(3, 6, 7)
raises TooBright(1)
''',
    "63": '''
>>> from lampstays.houses import House
>>> house = House.after(((3, 2, 3),), ("hold", 5), ("pulse", 3))
>>> [house(8), house(6), 11 in house, 12 in house, True in house, house[1], bool(house), bool(House())]
[(0, 1), (0,), True, False, False, ((3, 6), (7, 10)), True, False]
''',
    "63 no index": '''
>>> from lampstays.houses import House
>>> House(("hold", 5))[-1]
raises NoIndex(-1)
''',
    "65": '''
>>> from lampstays.texts import lamps_text, log_text, motions_text
>>> [lamps_text((("hold", 5), ("pulse", 3))), log_text(((3, 12), (20, 29))), motions_text(((3, 2, 3), (20, 1, 1))), log_text(())]
['hold:5 pulse:3', '3-12 20-29', '3+2x3 20', 'none']
''',
    "66": '''
>>> from lampstays.texts import parse_lamps, parse_log, parse_motions
>>> [parse_lamps("hold:5 pulse:3"), parse_log("3-12 20-29"), parse_motions("3+2x3 20"), parse_motions("none")]
[(('hold', 5), ('pulse', 3)), ((3, 12), (20, 29)), ((3, 2, 3), (20, 1, 1)), ()]
''',
    "66 bad text": '''
>>> from lampstays.texts import parse_log
>>> parse_log("3-12 12-20")
raises BadText(1)
''',
    "66 bad text again": '''
>>> from lampstays.texts import parse_motions
>>> parse_motions("3+2x1")
raises BadText(0)
''',
    "68": '''
>>> from lampstays.houses import House
>>> from lampstays.shells import Shell
>>> shell = Shell(House(("hold", 5), ("pulse", 3)))
>>> [shell("burst 3 2 3"), shell("motion 20"), shell.execute("log 1"), shell("at 8"), shell("motion 20"), shell("motions")]
['ok 1', 'ok 2', '3-6 7-10 20-23', '0 1', 'error NotLater', '3+2x3 20']
''',
    "68 more": '''
>>> from lampstays.houses import House
>>> from lampstays.shells import Shell
>>> shell = Shell.fed(House(("hold", 5)), "motion 3", "motion 7", "fit pulse:3")
>>> [shell("state 3"), shell("remove 1"), shell("state 3"), shell("state 4"), shell("fewest"), shell("lamps")]
['error Unexplained', 'ok 4', 'sure', 'open', '2', 'hold:5']
''',
    "69": '''
>>> from lampstays.houses import House
>>> from lampstays.shells import Shell
>>> shell = Shell(House())
>>> [shell.execute("undo"), shell(7), shell.transcript(), shell.last]
['error NothingToUndo', 'unknown command', (('undo', 'error NothingToUndo'), (None, 'unknown command')), (None, 'unknown command')]
''',
    "70": '''
>>> from lampstays.houses import House
>>> from lampstays.shells import Shell
>>> shell = Shell.fed(House(), "motion 3", 5, "lamps")
>>> [shell.last, len(shell.transcript())]
[('lamps', 'none'), 3]
''',
}


class Examples(unittest.TestCase):
    def test_every_session(self):
        for name, text in SESSIONS.items():
            with self.subTest(name):
                check_session(self, text)

    def test_readme(self):
        text = (pathlib.Path(__file__).resolve().parent.parent / "README.md").read_text(encoding="utf-8")
        blocks = [block for block in text.split("```")[1::2] if ">>>" in block]
        self.assertGreater(len(blocks), 3)
        session = doctest.DocTestParser().get_doctest("\n".join(blocks), {}, "README.md", None, 0)
        found = []
        doctest.DocTestRunner(verbose=False).run(session, out=found.append)
        self.assertEqual("".join(found), "")

    def test_a_wrong_session_would_be_noticed(self):
        for text in (">>> 1 + 1\n3", ">>> 1 + 1\nraises TooLarge(60)",
                     SESSIONS["8 too large"].replace("TooLarge(60)", "TooLarge(61)"),
                     SESSIONS["8 too large"].replace("TooLarge", "TooMany")):
            with self.assertRaises(AssertionError):
                check_session(self, text)


if __name__ == "__main__":
    unittest.main()
