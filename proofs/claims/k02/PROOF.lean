import PyProof.Rows.All
import Wide.All
import OpenK.AllK
import Wide.FinOn
import HandS.ForMost
import HandS.IsInst
import HandS.TupAny
import HandS.More
import HandS.Flow
import HandS.Style
import KE.GoesMore
import HandS.Walk
import PyProof.EqKinds
import KE.KEqDict
import HandS.Wide
import PySem.Challenge.RW_lampstays_k02_lamps_and_motions_judged
set_option Elab.async false
set_option linter.all false
set_option maxRecDepth 100000
set_option maxHeartbeats 4000000
namespace Lm
open PySem PySem.Spec PyProof.Rows L2
/-! ### data at values: None, bools, ints, texts, lists, tuples, dicts -/
def kD : L2.Key → PyData
  | .inl i => .int i
  | .inr x => .str x
mutual
inductive Dq (K : PySem.W.Frag) (H : Hp) : V → PyData → Prop
  | non : Dq K H .non .none
  | bl (b : Bool) : Dq K H (.bl b) (.bool b)
  | int (i : Int) : Dq K H (.int i) (.int i)
  | str (x : Str) : Dq K H (.str x) (.str x)
  | lst {a : Addr} {xs : List V} {ds : List PyData} : SqL K H a xs → Dqs K H xs ds → Dq K H (.ref a) (.list ds)
  | tup {a : Addr} {xs : List V} {ds : List PyData} : SqT K H a xs → Dqs K H xs ds → Dq K H (.ref a) (.tuple ds)
  | dct {a : Addr} {kvs : List (L2.Key × V)} {ds : List PyData} : H a = some (.dK kvs) → Dqs K H (kvs.map (·.2)) ds → Dq K H (.ref a) (.dict ((kvs.map fun kv => kD kv.1).zip ds))
inductive Dqs (K : PySem.W.Frag) (H : Hp) : List V → List PyData → Prop
  | nil : Dqs K H [] []
  | cons {v : V} {vs : List V} {d : PyData} {ds : List PyData} : Dq K H v d → Dqs K H vs ds → Dqs K H (v :: vs) (d :: ds)
end
theorem Dqs.len {K : PySem.W.Frag} {H : Hp} : ∀ {vs : List V} {ds : List PyData}, Dqs K H vs ds → vs.length = ds.length
  | _, _, .nil => rfl
  | _, _, .cons _ t => congrArg Nat.succ (Dqs.len t)
theorem Dqs.get {K : PySem.W.Frag} {H : Hp} : ∀ {vs : List V} {ds : List PyData} {i : Nat} {v : V}, Dqs K H vs ds → vs[i]? = some v → ∃ d, ds[i]? = some d ∧ Dq K H v d
  | _, _, _, _, .nil, e => by simp at e
  | _, _, 0, _, .cons r _, e => by simp at e; subst e; exact ⟨_, rfl, r⟩
  | _, _, i + 1, v, .cons _ t, e => by
    obtain ⟨u, h1, h2⟩ := Dqs.get (i := i) (v := v) t (by simpa using e)
    exact ⟨u, by simpa using h1, h2⟩
theorem Dqs.app {K : PySem.W.Frag} {H : Hp} : ∀ {xs ys : List V} {ds es : List PyData}, Dqs K H xs ds → Dqs K H ys es → Dqs K H (xs ++ ys) (ds ++ es)
  | _, _, _, _, .nil, s => s
  | _, _, _, _, .cons r t, s => .cons r (Dqs.app t s)
theorem Dqs.take {K : PySem.W.Frag} {H : Hp} : ∀ {xs : List V} {ds : List PyData} (n : Nat), Dqs K H xs ds → Dqs K H (xs.take n) (ds.take n)
  | _, _, 0, _ => .nil
  | _, _, _ + 1, .nil => .nil
  | _, _, n + 1, .cons r t => .cons r (Dqs.take n t)
theorem Dqs.drop {K : PySem.W.Frag} {H : Hp} : ∀ {xs : List V} {ds : List PyData} (n : Nat), Dqs K H xs ds → Dqs K H (xs.drop n) (ds.drop n)
  | _, _, 0, r => r
  | _, _, _ + 1, .nil => .nil
  | _, _, n + 1, .cons _ t => Dqs.drop n t
theorem Dqs.rev {K : PySem.W.Frag} {H : Hp} : ∀ {xs : List V} {ds : List PyData}, Dqs K H xs ds → Dqs K H xs.reverse ds.reverse
  | _, _, .nil => .nil
  | _, _, .cons r t => by
    rw [List.reverse_cons, List.reverse_cons]
    exact Dqs.app (Dqs.rev t) (.cons r .nil)
theorem Same.seqT {K : PySem.W.Frag} {H H' : Hp} {a : Addr} {xs : List V} (e : Same H H') (h : SqT K H a xs) : SqT K H' a xs := by
  rcases h with (h | ⟨o, h⟩) | h
  · exact .inl (.inl (e a _ h))
  · exact .inl (.inr ⟨o, e a _ h⟩)
  · exact .inr h
mutual
theorem Dq.mono {K : PySem.W.Frag} {H H' : Hp} (s : Same H H') : ∀ {v : V} {d : PyData}, Dq K H v d → Dq K H' v d
  | _, _, .non => .non
  | _, _, .bl b => .bl b
  | _, _, .int i => .int i
  | _, _, .str x => .str x
  | _, _, .lst h t => .lst (s.seq h) (Dqs.mono s t)
  | _, _, .tup h t => .tup (Same.seqT s h) (Dqs.mono s t)
  | _, _, .dct h t => .dct (s _ _ h) (Dqs.mono s t)
theorem Dqs.mono {K : PySem.W.Frag} {H H' : Hp} (s : Same H H') : ∀ {vs : List V} {ds : List PyData}, Dqs K H vs ds → Dqs K H' vs ds
  | _, _, .nil => .nil
  | _, _, .cons h t => .cons (Dq.mono s h) (Dqs.mono s t)
end
/-! ### what such a value is in the heap -/
theorem dk_reads {h : Heap} {P : Program} {w : World} : ∀ {xs : List (L2.Key × V)} {vs : List (L2.Key × Value)} {es : List DictEntry}, KV xs vs → Pairs (mixKind P w) es vs →
    ReadsAll h (es.map (·.key)) (xs.map fun kv => kD kv.1) [] ∧ Vals (xs.map (·.2)) (es.map (·.val))
  | _, _, _, .nil, .nil => ⟨.nil, .nil⟩
  | p :: xs, kv :: vs, en :: es, .cons r t, .cons q e u => by
    obtain ⟨h1, h2⟩ := dk_reads (h := h) t u
    obtain ⟨r1, r2⟩ := r
    refine ⟨?_, .cons (by show L2.RelV p.2 en.val; rw [e]; exact r2) h2⟩
    have q' : keyIs kv.1 en.key = true := q
    rw [← r1] at q'
    show ReadsAll h (en.key :: _) (kD p.1 :: _) []
    rcases keyIs_shape q' with ⟨i, t, e1, e2⟩ | ⟨x, t, e1, e2⟩
    · rw [e1, e2]
      exact ReadsAll.cons (as := []) (bs := []) (.int i t) h1
    · rw [e1, e2]
      exact ReadsAll.cons (as := []) (bs := []) (.str x t) h1
section
variable {X : Cx} {pins : List (Addr × Obj)} {σ : L2.St} {H : Hp} {s : Shared}
mutual
theorem Dq.reads (I : Inv X pins σ H s) : ∀ {v : V} {d : PyData} (u : Value), Dq X.K H v d → L2.RelV v u → ∃ as, Reads s.heap u d as
  | _, _, u, .non, r => by cases r; exact ⟨_, .none⟩
  | _, _, u, .bl b, r => by cases r; exact ⟨_, .bool b⟩
  | _, _, u, .int i, r => by obtain ⟨t, rfl⟩ := r; exact ⟨_, .int i t⟩
  | _, _, u, .str x, r => by obtain ⟨t, rfl⟩ := r; exact ⟨_, .str x t⟩
  | _, _, u, .lst hs ha, r => by
    cases r
    obtain ⟨its, rv, ⟨o, n, ho, hc, _, hd⟩, _⟩ := I.list hs
    obtain ⟨as, hr⟩ := Dqs.reads I its ha rv
    exact ⟨_, .list ho hc hd hr⟩
  | _, _, u, .tup hs ha, r => by
    cases r
    obtain ⟨its, rv, ⟨o, ho, hc, n, hd⟩, _⟩ := I.tuple hs
    obtain ⟨as, hr⟩ := Dqs.reads I its ha rv
    exact ⟨_, .tuple ho hc hd hr⟩
  | _, _, u, .dct (kvs := kvs) (ds := ds) hs ha, r => by
    cases r
    obtain ⟨_, hne, vs, kv, o, es, ep, ho, ex, hd, _, pr, _⟩ := I.hok _ _ hs
    obtain ⟨h1, h2⟩ := dk_reads (h := s.heap) kv pr
    obtain ⟨bs, hr⟩ := Dqs.reads I _ ha h2
    have hl := ha.len
    rw [List.length_map] at hl
    refine ⟨_, Reads.dict (as := []) (bs := bs) ho ex.1 hd ?_ ?_⟩
    · rw [List.map_fst_zip (by rw [List.length_map]; omega)]
      exact h1
    · rw [List.map_snd_zip (by rw [List.length_map]; omega)]
      exact hr
theorem Dqs.reads (I : Inv X pins σ H s) : ∀ {vs : List V} {ds : List PyData} (us : List Value), Dqs X.K H vs ds → Vals vs us → ∃ as, ReadsAll s.heap us ds as
  | _, _, us, .nil, r => by cases r; exact ⟨_, .nil⟩
  | _, _, us, .cons h1 h2, r => by
    cases r with
    | cons r1 r2 =>
      obtain ⟨as, q1⟩ := Dq.reads I _ h1 r1
      obtain ⟨bs, q2⟩ := Dqs.reads I _ h2 r2
      exact ⟨_, .cons q1 q2⟩
end
/-- keys of a dict have their text at any level -/
theorem keys_reprK {h : Heap} {P : Program} {w : World} : ∀ (xs : List (L2.Key × V)) {vs : List (L2.Key × Value)} {es : List DictEntry} {bs : List Addr} {n : Nat}, KV xs vs → Pairs (mixKind P w) es vs →
    PyData.showableAll (xs.map fun kv => kD kv.1) = true → (∀ t ∈ PyData.shownAll (xs.map fun kv => kD kv.1), t.length ≤ sizeLine) →
    ReprAllK P w bs h n (es.map (·.key)) (PyData.shownAll (xs.map fun kv => kD kv.1))
  | [], _, _, _, _, .nil, .nil, _, _ => .nil
  | p :: xs, kv :: vs, en :: es, bs, n, .cons r t, .cons q e u, hs, hz => by
    have hs' : (kD p.1).showable = true ∧ PyData.showableAll (xs.map fun kv => kD kv.1) = true := by simpa [PyData.showableAll] using hs
    have q' : keyIs kv.1 en.key = true := q
    rw [← r.1] at q'
    have z1 := hz (kD p.1).shown (by simp [PyData.shownAll])
    refine .cons (show ReprK P w bs h n en.key (kD p.1).shown from ?_) (keys_reprK xs t u hs'.2 fun t ht => hz t (by simp only [List.map_cons, PyData.shownAll]; exact List.mem_cons_of_mem _ ht))
    rcases keyIs_shape q' with ⟨i, t, e1, e2⟩ | ⟨x, t, e1, e2⟩
    · rw [e2]
      have y := hs'.1
      rw [e1] at y ⊢
      exact ReprK.of_is (ReprIs.int t (by simpa [PyData.showable, kD] using y)) _ _ _
    · rw [e2]
      rw [e1] at z1 ⊢
      exact ReprK.of_is (ReprIs.str x t (by simpa only [PyData.shown, kD] using z1)) _ _ _
mutual
theorem Dq.textK (I : Inv X pins σ H s) : ∀ {v : V} {d : PyData} (u : Value), Dq X.K H v d → L2.RelV v u → d.showable = true → d.shown.length ≤ sizeLine →
    ∃ bs, ReadAtMost s.heap d.depth bs ∧ ReprK X.prog X.w bs s.heap d.depth u d.shown
  | _, _, u, .non, r, _, _ => by
    cases r
    exact ⟨[], fun _ h => (nomatch h), by simp only [PyData.shown]; exact .of_is ReprIs.none _ _ _⟩
  | _, _, u, .bl b, r, _, _ => by
    cases r
    exact ⟨[], fun _ h => (nomatch h), by simp only [PyData.shown]; exact .of_is (ReprIs.bool b) _ _ _⟩
  | _, _, u, .int i, r, hs, _ => by
    obtain ⟨t, rfl⟩ := r
    exact ⟨[], fun _ h => (nomatch h), by simp only [PyData.shown]; exact .of_is (ReprIs.int t (by simpa [PyData.showable] using hs)) _ _ _⟩
  | _, _, u, .str x, r, _, hz => by
    obtain ⟨t, rfl⟩ := r
    exact ⟨[], fun _ h => (nomatch h), by simp only [PyData.shown]; exact .of_is (ReprIs.str x t (by simpa only [PyData.shown] using hz)) _ _ _⟩
  | _, _, u, .lst (ds := ds) hq ha, r, hs, hz => by
    obtain ⟨as, rd⟩ := Dq.reads I u (.lst hq ha) r
    cases r
    obtain ⟨its, rv, ⟨o, n, ho, hc, _, hd⟩, _⟩ := I.list hq
    have z : (listText (PyData.shownAll ds)).length ≤ sizeLine := by simpa only [PyData.shown] using hz
    obtain ⟨bs, hb, hk⟩ := Dqs.textK I its ha rv (by simpa [PyData.showable] using hs) fun t ht => Nat.le_trans (listText_mem_le ht) z
    have hn := not_mem_of_deeper rd (by simp only [PyData.depth]; omega) hb
    refine ⟨_, ReadAtMost.cons rd (by simp only [PyData.depth]; omega) hb, ?_⟩
    simp only [PyData.depth, PyData.shown]
    cases its with
    | nil =>
      cases rv
      cases ha
      simp only [PyData.shownAll, listText_nil]
      exact ReprK.listEmpty ho hc hd
    | cons x l => exact ReprK.list ho hc hd hn (by simpa using hk.length_eq) fun i y e => hk.item i y (by simpa using e)
  | _, _, u, .tup (ds := ds) hq ha, r, hs, hz => by
    obtain ⟨as, rd⟩ := Dq.reads I u (.tup hq ha) r
    cases r
    obtain ⟨its, rv, ⟨o, ho, hc, n, hd⟩, _⟩ := I.tuple hq
    have z : (tupleText (PyData.shownAll ds)).length ≤ sizeLine := by simpa only [PyData.shown] using hz
    obtain ⟨bs, hb, hk⟩ := Dqs.textK I its ha rv (by simpa [PyData.showable] using hs) fun t ht => Nat.le_trans (tupleText_mem_le ht) z
    have hn := not_mem_of_deeper rd (by simp only [PyData.depth]; omega) hb
    refine ⟨_, ReadAtMost.cons rd (by simp only [PyData.depth]; omega) hb, ?_⟩
    simp only [PyData.depth, PyData.shown]
    exact ReprK.tuple ho hc hd hn hk
  | _, _, u, .dct (kvs := kvs) (ds := ds) hq ha, r, hs, hz => by
    obtain ⟨as, rd⟩ := Dq.reads I u (.dct hq ha) r
    cases r
    obtain ⟨_, hne, vs, kv, o, es, ep, ho, ex, hd, _, pr, _⟩ := I.hok _ _ hq
    have hl := ha.len
    rw [List.length_map] at hl
    have f1 : ((kvs.map fun kv => kD kv.1).zip ds).map (·.1) = kvs.map fun kv => kD kv.1 := List.map_fst_zip (by rw [List.length_map]; omega)
    have f2 : ((kvs.map fun kv => kD kv.1).zip ds).map (·.2) = ds := List.map_snd_zip (by rw [List.length_map]; omega)
    have z : (dictText (PyData.shownKv ((kvs.map fun kv => kD kv.1).zip ds))).length ≤ sizeLine := by simpa only [PyData.shown] using hz
    obtain ⟨s1, s2⟩ := PyData.showableKv_split _ (show PyData.showableKv ((kvs.map fun kv => kD kv.1).zip ds) = true by simpa [PyData.showable] using hs)
    have zk := fun t ht => (let ⟨p, hp, l⟩ := PyData.shownKv_key_le ((kvs.map fun kv => kD kv.1).zip ds) t ht; Nat.le_trans l (Nat.le_trans (dictText_mem_le hp) z))
    have zv := fun t ht => (let ⟨p, hp, l⟩ := PyData.shownKv_val_le ((kvs.map fun kv => kD kv.1).zip ds) t ht; Nat.le_trans l (Nat.le_trans (dictText_mem_le hp) z))
    have dv := PyData.depthAll_vals_le ((kvs.map fun kv => kD kv.1).zip ds)
    rw [f1] at s1 zk
    rw [f2] at s2 zv dv
    obtain ⟨bs, hb, hk⟩ := Dqs.textK I _ ha (dk_reads (h := s.heap) kv pr).2 s2 zv
    have hb' : ReadAtMost s.heap (PyData.depthKv ((kvs.map fun kv => kD kv.1).zip ds)) bs := hb.mono dv
    have hn := not_mem_of_deeper rd (by simp only [PyData.depth]; omega) hb'
    refine ⟨_, ReadAtMost.cons rd (by simp only [PyData.depth]; omega) hb', ?_⟩
    simp only [PyData.depth, PyData.shown, PyData.shownKv_eq, f1, f2]
    exact ReprK.dict ho ex.1 hd hne hn (ReprEntriesK.of_two es.toList _ _ (keys_reprK kvs kv pr s1 zk) (hk.more_le (fun b hb => hb) dv))
theorem Dqs.textK (I : Inv X pins σ H s) : ∀ {vs : List V} {ds : List PyData} (us : List Value), Dqs X.K H vs ds → Vals vs us → PyData.showableAll ds = true → (∀ t ∈ PyData.shownAll ds, t.length ≤ sizeLine) →
    ∃ bs, ReadAtMost s.heap (PyData.depthAll ds) bs ∧ ReprAllK X.prog X.w bs s.heap (PyData.depthAll ds) us (PyData.shownAll ds)
  | _, _, us, .nil, r, _, _ => by
    cases r
    exact ⟨[], fun _ h => (nomatch h), by simp only [PyData.shownAll]; exact .nil⟩
  | _, _, us, .cons (d := d) (ds := ds) h1 h2, r, hs, hz => by
    cases r with
    | cons r1 r2 =>
      have hs' : d.showable = true ∧ PyData.showableAll ds = true := by simpa [PyData.showableAll] using hs
      obtain ⟨b1, p1, k1⟩ := Dq.textK I _ h1 r1 hs'.1 (hz _ (by simp only [PyData.shownAll]; exact List.mem_cons_self ..))
      obtain ⟨b2, p2, k2⟩ := Dqs.textK I _ h2 r2 hs'.2 fun t ht => hz t (by simp only [PyData.shownAll]; exact List.mem_cons_of_mem _ ht)
      refine ⟨b1 ++ b2, ?_, ?_⟩
      · simp only [PyData.depthAll]
        exact (p1.mono (Nat.le_max_left _ _)).append (p2.mono (Nat.le_max_right _ _))
      · simp only [PyData.depthAll, PyData.shownAll]
        exact .cons ((k1.more fun b hb => List.mem_append_left _ hb).level_le (Nat.le_max_left _ _)) (k2.more_le (fun b hb => List.mem_append_right _ hb) (Nat.le_max_right _ _))
end
end
/-! ### repr of data -/
/-- what repr takes: numbers that have a text, few levels, a text that fits -/
structure Fine (d : PyData) : Prop where
  sh : d.showable = true
  dp : d.depth ≤ 100
  sz : d.shown.length ≤ sizeLine
def rRepr (K : PySem.W.Frag) : List V → Hp → VK → Prop := fun xs H Q => ∃ v d, xs = [v] ∧ Dq K H v d ∧ Fine d ∧ Q (.str d.shown) H
theorem call_reprD {X : Cx} {k : Nat} (hg : X.A.guards = some []) (hr : Room k X.A) : CallR X (.builtin "repr") (rRepr X.K) := by
  intro pins s σ H xs us Q I r h
  obtain ⟨v, d, rfl, hd, F, q⟩ := h
  obtain ⟨u, rfl, ru⟩ := vals1 r
  have hun := hr.un
  have hdp := F.dp
  have hsz := F.sz
  have hsh := F.sh
  have fin : ∀ (h' : Heap) (t : Tok) (tk : Nat), (∀ b o, s.heap.get? b = some o → h'.get? b = some o) → EP X pins σ Q (.str d.shown t) { s with heap := h', toks := tk } :=
    fun h' t tk hk => ⟨.str _, H, I.kept (t' := tk) hk, ⟨_, rfl⟩, q⟩
  cases hd with
  | non => cases ru; exact PySem.P.repr_of_none (by simpa [PyData.shown] using fin s.heap s.toks _ fun _ _ e => e)
  | bl b => cases ru; exact PySem.P.repr_of_bool (by simpa [PyData.shown] using fin s.heap s.toks _ fun _ _ e => e)
  | int i =>
    obtain ⟨t, rfl⟩ := ru
    exact PySem.P.repr_of_int (by simpa [PyData.showable] using hsh) (by simpa [PyData.shown] using fin s.heap s.toks _ fun _ _ e => e)
  | str x =>
    obtain ⟨t, rfl⟩ := ru
    exact PySem.P.repr_of_str (by simpa [PyData.shown] using fin s.heap s.toks _ fun _ _ e => e) (by simpa [PyData.shown] using hsz)
  | @lst a vs ds hq ha =>
    obtain ⟨as, rd⟩ := Dq.reads I u (.lst hq ha) ru
    cases ru
    obtain ⟨its, rv, ⟨o, n, ho, hc, _, hdt⟩, _⟩ := I.list hq
    have z : (listText (PyData.shownAll ds)).length ≤ sizeLine := by simpa only [PyData.shown] using hsz
    obtain ⟨bs, hb, hk⟩ := Dqs.textK I its ha rv (by simpa [PyData.showable] using hsh) fun t ht => Nat.le_trans (listText_mem_le ht) z
    have hn := not_mem_of_deeper rd (by simp only [PyData.depth]; omega) hb
    simp only [PyData.depth] at hdp
    simp only [PyData.shown] at fin
    refine call_repr_slot (by omega) ⟨o, ho, hc⟩ PySem.F.slot_list_repr.toG ?_
    cases its with
    | nil =>
      cases rv
      cases ha
      simp only [PyData.shownAll, listText_nil] at fin
      exact call_list_repr_empty ⟨o, ho, hc⟩ ho hdt ⟨_, _, rfl, fin s.heap _ _ fun _ _ e => e⟩
    | cons x l =>
      exact call_list_reprK ho hc hdt hn (by simpa using hk.length_eq) (fun i y e => hk.item i y (by simpa using e)) hg (fun b _ => Clear.nil b) (by show X.A.units + 1 + (PyData.depthAll ds + 1) < cLine; omega) (fun _ _ e => e)
        (fun h' u tk e => ⟨_, _, rfl, fin h' u tk e⟩) z
  | @tup a vs ds hq ha =>
    obtain ⟨as, rd⟩ := Dq.reads I u (.tup hq ha) ru
    cases ru
    obtain ⟨its, rv, ⟨o, ho, hc, n, hdt⟩, _⟩ := I.tuple hq
    have z : (tupleText (PyData.shownAll ds)).length ≤ sizeLine := by simpa only [PyData.shown] using hsz
    obtain ⟨bs, hb, hk⟩ := Dqs.textK I its ha rv (by simpa [PyData.showable] using hsh) fun t ht => Nat.le_trans (tupleText_mem_le ht) z
    have hn := not_mem_of_deeper rd (by simp only [PyData.depth]; omega) hb
    simp only [PyData.depth] at hdp
    simp only [PyData.shown] at fin
    refine call_repr_slot (by omega) ⟨o, ho, hc⟩ PySem.F.slot_tuple_repr ?_
    exact call_tuple_reprK ho hc hdt hn hk hg (fun b _ => Clear.nil b) (by show X.A.units + 1 + (PyData.depthAll ds + 1) < cLine; omega) (fun _ _ e => e) (fun h' u tk e => ⟨_, _, rfl, fin h' u tk e⟩) z
  | @dct a kvs ds hq ha =>
    obtain ⟨as, rd⟩ := Dq.reads I u (.dct hq ha) ru
    cases ru
    obtain ⟨_, hne, vs, kv, o, es, ep, ho, ex, hdt, _, pr, _⟩ := I.hok _ _ hq
    have hl := ha.len
    rw [List.length_map] at hl
    have f1 : ((kvs.map fun kv => kD kv.1).zip ds).map (·.1) = kvs.map fun kv => kD kv.1 := List.map_fst_zip (by rw [List.length_map]; omega)
    have f2 : ((kvs.map fun kv => kD kv.1).zip ds).map (·.2) = ds := List.map_snd_zip (by rw [List.length_map]; omega)
    have z : (dictText (PyData.shownKv ((kvs.map fun kv => kD kv.1).zip ds))).length ≤ sizeLine := by simpa only [PyData.shown] using hsz
    obtain ⟨s1, s2⟩ := PyData.showableKv_split _ (show PyData.showableKv ((kvs.map fun kv => kD kv.1).zip ds) = true by simpa [PyData.showable] using hsh)
    have zk := fun t ht => (let ⟨p, hp, l⟩ := PyData.shownKv_key_le ((kvs.map fun kv => kD kv.1).zip ds) t ht; Nat.le_trans l (Nat.le_trans (dictText_mem_le hp) z))
    have zv := fun t ht => (let ⟨p, hp, l⟩ := PyData.shownKv_val_le ((kvs.map fun kv => kD kv.1).zip ds) t ht; Nat.le_trans l (Nat.le_trans (dictText_mem_le hp) z))
    have dv := PyData.depthAll_vals_le ((kvs.map fun kv => kD kv.1).zip ds)
    rw [f1] at s1 zk
    rw [f2] at s2 zv dv
    obtain ⟨bs, hb, hk⟩ := Dqs.textK I _ ha (dk_reads (h := s.heap) kv pr).2 s2 zv
    have hb' : ReadAtMost s.heap (PyData.depthKv ((kvs.map fun kv => kD kv.1).zip ds)) bs := hb.mono dv
    have hn := not_mem_of_deeper rd (by simp only [PyData.depth]; omega) hb'
    simp only [PyData.depth] at hdp
    simp only [PyData.shown, PyData.shownKv_eq, f1, f2] at fin
    rw [PyData.shownKv_eq, f1, f2] at z
    refine call_repr_slot (by omega) ⟨o, ho, ex.1⟩ PySem.F.slot_dict_repr ?_
    exact call_dict_reprK ho ex.1 hdt hne hn (ReprEntriesK.of_two es.toList _ _ (keys_reprK kvs kv pr s1 zk) (hk.more_le (fun b hb => hb) dv)) hg (fun b _ => Clear.nil b)
      (by show X.A.units + 1 + (PyData.depthKv ((kvs.map fun kv => kD kv.1).zip ds) + 1) < cLine; omega) (fun _ _ e => e) (fun h' u tk e => ⟨_, _, rfl, fin h' u tk e⟩) z
end Lm

namespace Lm
open PySem PySem.Spec PyProof.Rows L2
/-! ### a def's promise where no repr runs around -/
structure FnG (P : Program) (w : World) (K : PySem.W.Frag) (mg : Str → Option Value) (base : Heap) (CX : CXT) (k : Nat) (f : Addr) (fd : FuncData) (ps : List Str) (sp : Sp) : Prop where
  len : ∀ vs H Q E, sp vs H Q E → vs.length = ps.length
  go : ∀ (A : Around) (outer : List Env) (s : Shared) (H : Hp) (args : Args) (us : List Value) (vs : List V) (Q : VK) (E : XK), A.guards = some [] → Room k A →
    Env0 P w K mg base A outer s H → BindsTo s fd args (ps.zip us) → Vals vs us → sp vs H Q E → codeAny (model P w) A (.call (.ref f) args) (CR CX outer P w H s Q E) s
section
variable {P : Program} {w : World} {K : PySem.W.Frag} {mg : Str → Option Value} {base : Heap}
theorem FnG.mono {CX : CXT} {j k : Nat} {f : Addr} {fd : FuncData} {ps : List Str} {sp : Sp} (F : FnG P w K mg base CX j f fd ps sp) (h : j ≤ k) : FnG P w K mg base CX k f fd ps sp :=
  ⟨F.len, fun A o s H as us vs Q E g r => F.go A o s H as us vs Q E g (r.mono h)⟩
theorem Fun.okG {x qual : Str} {st : Stmt} {f : Addr} {fd : FuncData} {N ps : List Str} {k : Nat} {sp : Sp} (F : Fun K x qual st f fd) (S : FnScope N ps (defScope st)) (hlen : ∀ vs H Q E, sp vs H Q E → vs.length = ps.length)
    (hb : ∀ (cdv : Value) (A : Around) (outer : List Env) (s : Shared) (H : Hp) (vs : List V) (Q : VK) (E : XK), A.guards = some [] → Room k (A.deeper (envOfC qual (defScope st) s.heap.objs.size f cdv)) → sp vs H Q E →
      ∃ t, PSs (cxOf CX0 P w K mg base N qual (defScope st) f cdv A outer s H E).nox (defBody st) t ∧ t { nx := fun _ H' => Q .non H', rt := Q } (start N vs) H) : FnG P w K mg base CX0 (k + 1) f fd ps sp := by
  obtain ⟨oc, od, kV, doc, pm, an, cdv, ct, osl, rfl, lk, hcd⟩ := F.ex
  refine ⟨hlen, fun A outer s H args us vs Q E g hr e0 bd r hs => ?_⟩
  have hl := hlen _ _ _ _ hs
  have KX : K.In s.heap := e0.mod.kin.keeps fun b o e => (e0.bs b o e).1
  have nl : s.heap.NoLimit := e0.mod.nolimit.keeps fun b o e => (e0.bs b o e).1
  have kinds : ∀ y ∈ ps.zip us, (defScope st).names.lookup y.1 = some .local ∨ ((defScope st).names.lookup y.1 = some .cell ∧ ((cellsFrom (s.heap.objs.size + 1) (defScope st).names []).lookup y.1).isSome = true) := by
    rintro ⟨nm, v⟩ hy
    have hm := (List.of_mem_zip hy).1
    cases S.par nm hm with
    | inl q => exact .inl q
    | inr q => exact .inr ⟨q, PySem.W.cellsFrom_some _ _ _ (.inl q)⟩
  refine codeAny_call_function (hr.depth) (KX _ _ lk) rfl S.co S.gen rfl (PySem.W.codeRec_of KX hcd) (bd _ _ _ _ ?_)
  refine wpAny_newFunctionEnv_cells S.kind kinds ?_
  intro env he s1 x
  subst he
  refine ⟨nl.keeps x.toInCall.keep, codeAny_func ?_⟩
  obtain ⟨t, ht, hq⟩ := hb cdv A outer s H vs Q E g (hr.deeper _) hs
  have J := inv_start (CX := CX0) (E := E) S hr.hd e0 hl r x
  refine wpAny_mono (ht.nox.run [] s1 (start N vs) H _ J hq) ?_ (fun e s' z => z)
  intro fl s' z
  cases fl with
  | ret u => obtain ⟨v, σ2, H2, J2, rv, q⟩ := z; exact ⟨v, H2, J2.os, J2.bare, J2.base, J2.hok, rv, q⟩
  | next => obtain ⟨σ2, H2, J2, q⟩ := z; exact ⟨V.non, H2, J2.os, J2.bare, J2.base, J2.hok, rfl, q⟩
  | brk => obtain ⟨_, _, _, q⟩ := z; exact q.elim
  | cont => obtain ⟨_, _, _, q⟩ := z; exact q.elim
end
/-! ### the law's own call -/
theorem lawCallG {P : Program} {w : World} {K : PySem.W.Frag} {mg mb : Str → Option Value} {k : Nat} {fa a : Addr} {fd : FuncData} {x : Str} {sp : Sp} {s₁ : Shared} {vs : List Value} {ns : List Int}
    (KX : K.In s₁.heap) (hns : s₁.heap.Ns mainGlobals mg) (hb : s₁.heap.Ns builtinsNs mb) (hbb : ∀ x : Str, x ≠ "__name__" → mb x = bootBuiltins x) (hlim : s₁.heap.NoLimit) (hg : s₁.gens = #[])
    (ha : s₁.heap.get? a = some { cls := .type "list", data := .seq vs.toArray }) (hi : IntsAre vs ns) (hl : ns.length ≤ sizeLine) (hr : Room k callerA)
    (F : ∀ base : Heap, K.In base → base.Ns mainGlobals mg → FnG P w K mg base CX0 k fa fd [x] sp) (hbind : ∀ (s : Shared) (u : Value), BindsTo s fd ⟨[u], []⟩ [(x, u)])
    (hsp : ∀ H : Hp, Only H → SqL K H a (ns.map V.int) → sp [.ref a] H (fun v _ => v = .bl true) fun _ _ _ => False) :
    codeAny (model P w) callerA (.call (.ref fa) ⟨[.ref a], []⟩) (fun r s' => r = .ok (.ret (.bool true)) ∧ OldK s₁.heap s'.heap ∧ s'.os = s₁.os ∧ AllBare s'.gens) s₁ := by
  have rv := vals_ints hi
  have ln := hi.length
  have main : ∀ H : Hp, Only H → SqL K H a (ns.map V.int) → HOk P w H s₁.heap → (∀ b, H b ≠ none → b = a) → (H a ≠ none → K.lookup a = none) →
      codeAny (model P w) callerA (.call (.ref fa) ⟨[.ref a], []⟩) (fun r s' => r = .ok (.ret (.bool true)) ∧ OldK s₁.heap s'.heap ∧ s'.os = s₁.os ∧ AllBare s'.gens) s₁ := by
    intro H hO hS ok hA hK
    have nsd : ∀ {b : Addr} {m : Str → Option Value}, s₁.heap.Ns b m → (hidT s₁.heap H).Ns b m := by
      rintro b m ⟨o, es, ep, e, d, r⟩
      refine ⟨o, es, ep, hidT_get e ?_, d, r⟩
      cases q : H b with
      | none => rfl
      | some u =>
        have eb := hA b (by rw [q]; exact fun z => nomatch z)
        rw [eb, ha] at e
        cases e
        cases d
    have hKb : K.In (hidT s₁.heap H) := by
      intro b o e
      refine hidT_get (KX b o e) ?_
      cases q : H b with
      | none => rfl
      | some u =>
        have eb := hA b (by rw [q]; exact fun z => nomatch z)
        rw [eb, hK (by rw [← eb, q]; exact fun z => nomatch z)] at e
        cases e
    obtain ⟨mc, n1, n2⟩ := hlim
    have env : Env0 P w K mg (hidT s₁.heap H) callerA [] s₁ H :=
      { frames := rfl, mod := ⟨hKb, nsd hns, ⟨mb, nsd hb, hbb⟩, ⟨mc, nsd n1, n2⟩⟩, bs := fun b o e => of_hidT e, bsz := Nat.le_of_eq (hidT_size _ _), funs := trivial, frf := (fun b hb => absurd hb (by simp [frs])), hok := ok, bare := .of_eq hg }
    have run := (F _ hKb (nsd hns)).go callerA [] s₁ H ⟨[.ref a], []⟩ [.ref a] [.ref a] _ _ rfl hr env (hbind s₁ (.ref a)) (.cons rfl .nil) (hsp H hO hS)
    refine codeAny_mono run ?_
    intro r s' h
    match r, h with
    | .error e, h => exact False.elim h
    | .ok .next, h => exact False.elim h
    | .ok .brk, h => exact False.elim h
    | .ok .cont, h => exact False.elim h
    | .ok (.ret u), h =>
      obtain ⟨v, H', os, bare, un, ok', r', q⟩ := h
      have q' : v = .bl true := q
      subst q'
      cases (show u = Value.bool true from r')
      refine ⟨rfl, OldK.of_keep (fun b o e => ?_), os, bare⟩
      cases q : H b with
      | none => exact un.keep b o e q (by simp [frs]) (by simp)
      | some u =>
        cases hO b with
        | inl z => rw [q] at z; cases z
        | inr z =>
          obtain ⟨ob, xs, z⟩ := z
          have e1 := (ok b _ z).1
          have e2 := (ok' b _ (un.frzs b ob _ z)).1
          rw [e] at e1
          rw [e2, ← e1]
  cases hk : K.lookup a with
  | some o =>
    have e := KX a o hk
    rw [ha] at e
    cases e
    exact main (fun _ => none) (fun _ => .inl rfl) (.inr ⟨_, vs.toArray, _, hk, rfl, rfl, rfl, by rw [List.size_toArray, ln]; exact hl, by simpa using rv⟩) (fun b u z => nomatch z) (fun b z => absurd rfl z) fun z => absurd rfl z
  | none =>
    have self : ∀ {b : Addr}, (if b = a then some (HO.frz { cls := .type "list", data := .seq vs.toArray } (.lst (ns.map V.int))) else none) ≠ none → b = a := fun {b} z => by
      by_cases e : b = a
      · exact e
      · rw [if_neg e] at z
        exact absurd rfl z
    refine main (fun b => if b = a then some (.frz { cls := .type "list", data := .seq vs.toArray } (.lst (ns.map V.int))) else none) ?_ (.inl (.inr ⟨_, if_pos rfl⟩)) ?_ (fun b z => self z) fun _ => hk
    · intro b
      by_cases e : b = a
      · exact .inr ⟨_, _, if_pos e⟩
      · exact .inl (if_neg e)
    · intro b u z
      dsimp only at z
      have eb := self (b := b) (by rw [z]; exact fun q => nomatch q)
      rw [if_pos eb] at z
      cases z
      rw [eb]
      exact ⟨ha, by rw [List.length_map]; exact hl, vs, _, rv, ha⟩
/-- a law row's end -/
theorem walkG {l : PySem.W.OpenLaw} {n k : Nat} {q : Program} {loose : List Str} {XP : (Str → Option Value) → Heap → Prop} {YP : World → Heap → Prop} {d : DefRec} {K : Params → PySem.W.Frag} {sp : PySem.W.Frag → Sp} {x : Str}
    (hn : l.most = some n) (hn2 : n ≤ sizeLine) (hdf : d.params.defaults = []) (hr : Room k callerA) (hY : ∀ (w : World) (h : Heap), YP w h → (K w.params).In h)
    (F : ∀ (w : World) (mg : Str → Option Value) (fa : Addr) (h : Heap), (K w.params).In h → h.Ns mainGlobals mg → mg d.name = some (.ref fa) →
      ∃ fd : FuncData, (∀ (s : Shared) (u : Value), BindsTo s fd ⟨[u], []⟩ [(x, u)]) ∧
        ∀ base : Heap, (K w.params).In base → base.Ns mainGlobals mg → FnG l.prog w (K w.params) mg base CX0 k fa fd [x] (sp (K w.params)))
    (hsp : ∀ (K : PySem.W.Frag) (H : Hp) (a : Addr) (ns : List Int), ns.length ≤ n → Only H → SqL K H a (ns.map V.int) → sp K [.ref a] H (fun v _ => v = .bl true) fun _ _ _ => False) :
    PySem.W.WalkO q loose XP YP l.row.toRowW d [] (fun f vs => PySem.call f vs) := by
  refine Att.attach_call hn hdf ?_
  intro w s₀ s₁ mg mb fa o pm cd doc a vs ns G Y ho hd hcd hmg hobj hints hlen hg
  obtain ⟨fd, b, f⟩ := F w mg fa _ (hY w _ Y) G.T.g hmg
  exact lawCallG (hY w _ Y) G.T.g G.T.b G.T.builtins G.T.nolimit hg hobj hints (Nat.le_trans hlen hn2) hr f b (fun H hO hS => hsp _ H a ns hlen hO hS)
/-! ### a call of such a def -/
section
variable {X : Cx}
theorem pe_callG {k : Nat} {f : Addr} {fd : FuncData} {ps : List Str} {sp : Sp} {E : XK} {x : Str} {e : Expr} {es : List Expr} {t : TA} {p pos : Pos} (F : FnG X.prog X.w X.K X.mg X.base CX0 k f fd ps sp) (hgd : X.A.guards = some []) (hr : Room k X.A) (hg : Gl X x)
    (hm : X.mg x = some (.ref f)) (hk : PySem.W.keepIn X.K (.ref f) = true) (hb : Binds X.K fd ps []) (ha : PA X (e :: es) t) (hdb : (x == ("__debug__" : Str)) = false := by decide)
    (he : starEach (e :: es) X.env = (false, eval e X.env) :: starEach es X.env := by rfl) (hpl : (backTo pos (starEach es X.env)).any (·.1) = false := by rfl) :
    PE X (.Call (.Name x p) (e :: es) [] pos) (tCall sp [] E0 t) := by
  refine ⟨fun pins s σ H Q I h => ?_⟩
  refine wpAny_Call_Name_kw (ld_glob I hg hm ?_ hdb)
  refine PySem.W.callWith_K (h₀ := X.base) I.ok.mod.kin hk (thn (ha.run pos pins s σ H _ I h) ?_) he hpl
  rintro us s1 ⟨vs, H1, I1, r, q⟩
  refine ⟨I1.kIn, ?_⟩
  have q' : sp vs H1 Q E0 := by simpa using q
  have hl : us.length = ps.length := r.length.symm.trans (F.len _ _ _ _ q')
  have bd := hb s1 us I1.kIn (by simpa using hl)
  simp only [List.append_nil] at bd
  refine wpAny_call (codeAny_mono (F.go X.A X.stack s1 H1 ⟨us, []⟩ us vs Q E0 hgd hr I1.env0 bd r q') ?_)
  intro r s' hq
  match r, hq with
  | .ok (.ret u), hq => exact I1.after hq
  | .ok .next, hq => exact False.elim hq
  | .ok .brk, hq => exact False.elim hq
  | .ok .cont, hq => exact False.elim hq
  | .error e, hq => exact False.elim hq
end
end Lm

namespace Lm
open PySem PySem.Spec PyProof.Rows L2
section
variable {X : Cx} {a b c d : Expr} {ta tb tc td : TE} {pos : Pos}
/-! ### a op1 b op2 c op3 d -/
def tChain3 (r1 r2 r3 : R2) (ta tb tc td : TE) : TE := fun σ H Q => ta σ H fun x H1 => tb σ H1 fun y H2 => r1 x y H2 fun z H3 => ∃ k, z = .bl k ∧
  (if k = true then tc σ H3 fun w H4 => r2 y w H4 fun z2 H5 => ∃ k2, z2 = .bl k2 ∧ (if k2 = true then td σ H5 fun w2 H6 => r3 w w2 H6 Q else Q (.bl false) H5) else Q (.bl false) H3)
theorem pe_chain3 {o1 o2 o3 : CmpOp} {r1 r2 r3 : R2} (h1 : OpR X (compareOp o1) r1) (h2 : OpR X (compareOp o2) r2) (h3 : OpR X (compareOp o3) r3) (ha : PE X a ta) (hb : PE X b tb) (hc : PE X c tc) (hd : PE X d td)
    (hm : lastMarks [o1, o2, o3] [b, c, d] = false := by with_unfolding_all rfl) : PE X (.Compare a [o1, o2, o3] [b, c, d] pos) (tChain3 r1 r2 r3 ta tb tc td) := by
  constructor
  intro pins s σ H Q I h
  refine Compare_chain (thn (ha.run pins s σ H _ I h) ?_) hm
  rintro v s1 ⟨x, H1, I1, e1, q1⟩
  refine chain_link (thn (hb.run pins s1 σ H1 _ I1 q1) ?_)
  rintro u s2 ⟨y, H2, I2, e2, q2⟩
  refine thn (h1 pins s2 σ H2 x y v u _ I2 e1 e2 q2) ?_
  rintro w1 s3 ⟨z, H3, I3, e3, k, rfl, q3⟩
  cases e3
  refine wpAny_truthy_bool ?_
  cases k with
  | false => exact ite_ff ⟨.bl false, H3, I3, rfl, q3⟩
  | true =>
    refine ite_tt (chain_link (thn (hc.run pins s3 σ H3 _ I3 q3) ?_))
    rintro w2 s4 ⟨y4, H4, I4, e4, q4⟩
    refine thn (h2 pins s4 σ H4 y y4 u w2 _ I4 e2 e4 q4) ?_
    rintro w3 s5 ⟨z5, H5, I5, e5, k5, rfl, q5⟩
    cases e5
    refine wpAny_truthy_bool ?_
    cases k5 with
    | false => exact ite_ff ⟨.bl false, H5, I5, rfl, q5⟩
    | true =>
      refine ite_tt (chain_last (thn (hd.run pins s5 σ H5 _ I5 q5) ?_))
      rintro w6 s6 ⟨y6, H6, I6, e6, q6⟩
      exact h3 pins s6 σ H6 y4 y6 w2 w6 Q I6 e4 e6 q6
end
/-! ### t[::-1] of a tuple -/
section
variable {prog : Program} {w : World} {A : Around} {E : Value → Shared → Prop} {s : Shared}
theorem getItem_tuple_back {t sl : Addr} {items : Array Value} {vl vu vs : Value} {Q : Value → Shared → Prop} (ht : IsTup s.heap t items) (hs : s.heap.IsSliceOf sl vl vu vs) (pl : IsPart vl none) (pu : IsPart vu none) (ps : IsPart vs (some (-1)))
    (h : Q (.ref s.heap.objs.size) { s with heap := s.heap.push { cls := .type "tuple", data := .seq items.toList.reverse.toArray } }) (hsz : items.size ≤ sizeLine) : wpAny (model prog w) A (getItem (.ref t) (.ref sl)) Q E s := by
  have ok : sizeOk (.seq items.toList.reverse.toArray) := by
    show items.toList.reverse.toArray.size ≤ sizeLine
    simpa using hsz
  obtain ⟨os, hos, hcs, hds⟩ := id hs
  have isSl : s.TypeIs (.ref sl) "slice" := ⟨os, hos, hcs⟩
  unfold getItem
  try with_reducible refine wpAny_holding ?_
  first | refine wpAny_bind (wpAny_pure ?_) | skip
  refine wpAny_bind (wpAny_sequenceKey ht.typeIs (by decide) ?_)
  refine wpAny_bind (wpAny_callSpecial?_slot (name := Str.ofString "__getitem__") ht.typeIs PyProof.Rows.slot_tuple_getitem (wpAny_call_entry PyProof.Rows.slot_tuple_getitem ht.typeIs entry_tuple_getitem ?_ (args_tuple_getitem _ _)))
  show wpAny _ _ (Builtin.Tuple.tupleItemsOf (.ref t) >>= _) _ _ s
  refine wpAny_bind (tupleItemsOf_ ht ?_)
  refine wpAny_bind (wpAny_typeOf isSl ?_)
  rw [if_pos (by decide)]
  refine wpAny_bind ?_
  unfold Builtin.Slice.sliceApplied Builtin.Slice.sliceFields
  refine wpAny_bind (wpAny_bind (wpAny_field hos hds (x := vl) rfl (wpAny_bind (wpAny_field hos hds (x := vu) rfl (wpAny_bind (wpAny_field hos hds (x := vs) rfl (wpAny_pure ?_)))))))
  refine wpAny_bind (HT.slicePart_ ps ?_)
  show wpAny _ _ (if ((-1 : Int) == 0) = true then _ else _) _ _ s
  rw [if_neg (by decide)]
  refine wpAny_bind (HT.slicePart_ pl (wpAny_bind (HT.slicePart_ pu (wpAny_bind (wpAny_pure ?_)))))
  have e1 : Builtin.Slice.sliceAdjust none none (-1) (items.size : Int) = ((items.size : Int) - 1, -1) := rfl
  have e2 : Builtin.Slice.slicePlaces ((items.size : Int) - 1) (-1) (-1) = items.size := by
    unfold Builtin.Slice.slicePlaces
    simp only [show ¬ ((-1 : Int) > 0) by decide, if_false, show (- -1 : Int) = 1 by decide, Int.ediv_one]
    split <;> omega
  show wpAny _ _ (match Builtin.Slice.sliceAdjust none none (-1) (items.size : Int) with | (lo, hi) => pure (lo, (-1 : Int), Builtin.Slice.slicePlaces lo hi (-1))) _ _ s
  rw [e1]
  show wpAny _ _ (pure ((items.size : Int) - 1, (-1 : Int), Builtin.Slice.slicePlaces ((items.size : Int) - 1) (-1) (-1))) _ _ s
  rw [e2]
  refine wpAny_pure ?_
  have no : ¬ ((((items.size : Int) - 1) == 0 && (-1 : Int) == 1 && items.size == items.size) = true) := by simp
  show wpAny _ _ (if (((items.size : Int) - 1) == 0 && (-1 : Int) == 1 && items.size == items.size) = true then _ else _) _ _ s
  rw [if_neg no]
  have pick : ((List.range items.size).filterMap fun (k : Nat) => items[(((items.size : Int) - 1) + (k : Int) * -1).toNat]?).toArray = items.toList.reverse.toArray := by
    rw [← PySem.W.krv_all items, ← List.filterMap_reverse, ← PySem.W.krv_range, List.filterMap_map]
    have cg : ∀ (l : List Nat), (∀ k ∈ l, k < items.size) → (l.filterMap fun (k : Nat) => items[(((items.size : Int) - 1) + (k : Int) * -1).toNat]?) = l.filterMap ((fun k => items[k]?) ∘ fun k => items.size - 1 - k) := by
      intro l
      induction l with
      | nil => intro _; rfl
      | cons k l ih =>
        intro hl
        have e : (((items.size : Int) - 1) + (k : Int) * -1).toNat = items.size - 1 - k := by
          have := hl k List.mem_cons_self
          omega
        rw [List.filterMap_cons, List.filterMap_cons, ih fun j hj => hl j (List.mem_cons_of_mem _ hj), e]
        rfl
    rw [cg _ fun k hk => List.mem_range.mp hk]
  rw [pick]
  first
    | exact wpAny_bind (m := Builtin.Tuple.tupleExact _) (wpAny_newObj_type (wpAny_pure ⟨_, rfl, wpAny_pure h⟩) ok)
    | exact wpAny_bind (m := Builtin.Tuple.tupleExact _) (wpAny_newObj_type (wpAny_bind (wpAny_pure (wpAny_pure ⟨_, rfl, wpAny_pure h⟩))) ok)
    | exact wpAny_bind (wpAny_bind (m := Builtin.Tuple.tupleExact _) (wpAny_newObj_type (wpAny_pure (wpAny_pure ⟨_, rfl, wpAny_pure h⟩)) ok))
    | exact wpAny_bind (wpAny_bind (m := Builtin.Tuple.tupleExact _) (wpAny_newObj_type (wpAny_pure ⟨_, rfl, wpAny_pure h⟩) ok))
end
section
variable {X : Cx}
def tRevT (K : PySem.W.Frag) (te : TE) : TE := fun σ H Q => te σ H fun x H1 => ∃ a xs, x = .ref a ∧ SqT K H1 a xs ∧ ∀ p, H1 p = none → Q (.ref p) (upd H1 p (.tup xs.reverse))
theorem pe_revT {e : Expr} {te : TE} {k : Nat} {p1 p2 p3 pos : Pos} (he : PE X e te) : PE X (.Subscript e (.Slice none none (some (.UnaryOp .USub (.Constant (.int 1) k p1) p2)) p3) pos) (tRevT X.K te) := by
  constructor
  intro pins s σ H Q I h
  refine Subscript_ (thn (he.run pins s σ H _ I h) ?_)
  rintro v s1 ⟨x, H1, I1, r1, a, xs, rfl, hx, q⟩
  cases r1
  have step : PO X (some (.UnaryOp .USub (.Constant (.int 1) k p1) p2)) (tPart (tUn (rU fun i => .int (-i)) (tC (.int 1)))) := po_some (pe_un un_neg pe_int)
  refine wpAny_Slice (thn (po_none.run pins s1 σ H1 (fun o H2 => o = none ∧ H2 = H1) I1 ⟨rfl, rfl⟩) ?_)
  rintro vl s2 ⟨l, H2, I2, pl, rfl, rfl⟩
  refine thn (po_none.run pins s2 σ H2 (fun o H3 => o = none ∧ H3 = H2) I2 ⟨rfl, rfl⟩) ?_
  rintro vu s3 ⟨u, H3, I3, pu, rfl, rfl⟩
  refine thn (step.run pins s3 σ H3 (fun o H4 => o = some (-1) ∧ H4 = H3) I3 ⟨1, rfl, -1, rfl, rfl, rfl⟩) ?_
  rintro vs s4 ⟨o, H4, I4, ps, rfl, rfl⟩
  have I5 : Inv X pins σ H4 { s4 with heap := s4.heap.push { cls := .type "slice", data := .fields #[vl, vu, vs] } } := I4.kept (t' := s4.toks) fun b ob q => Heap.get?_push_of_some _ q
  obtain ⟨its, r, ht, hz⟩ := I5.tuple hx
  have hlen := r.length
  show wpAny (model X.prog X.w) X.A (subscriptTail e (.Slice none none (some (.UnaryOp .USub (.Constant (.int 1) k p1) p2)) p3) (.ref a) (.ref s4.heap.objs.size)) _ _ _
  refine tail_any (ops := [.ref a, .ref s4.heap.objs.size]) ht.typeIs PyProof.Rows.slot_tuple_getitem.lookup ?_ (by with_unfolding_all rfl)
  refine getItem_tuple_back ht (Heap.IsSliceOf.new _ vl vu vs) pl pu ps ?_ (by rw [List.size_toArray]; omega)
  refine ⟨.ref _, _, I5.laid (t' := s4.toks) (o := .tup xs.reverse) (fun b ob q => Heap.get?_push_of_some _ q) (Nat.le_refl _) ?_, rfl, q _ (I5.hok.fresh (Nat.le_refl _))⟩
  exact ⟨by rw [List.length_reverse]; exact hz, its.reverse, r.reverse, IsTup.new _ _⟩
end
/-! ### enumerate of a tuple -/
section
set_option maxHeartbeats 1000000 in
theorem meets_enum_tup (t : Addr) (o : Obj) (items : Array Value) (n : Nat) (dd : Option Addr) (sl : Array (Option Value)) :
    Meets (Builtin.«enumerate.__new__» ⟨[.type "enumerate", .ref t], []⟩) (fun _ R s => s.heap.get? t = some { cls := .type "tuple", dict := dd, data := .seq items n, slots := sl } ∧
      R (.ok (.ret (.ref (s.heap.push { cls := .type "tuple_iterator", data := .fields #[.ref t, .int 0 0] }).objs.size)))
        { s with heap := (s.heap.push { cls := .type "tuple_iterator", data := .fields #[.ref t, .int 0 0] }).push { cls := .type "enumerate", data := .fields #[.none, .bool false, .ref s.heap.objs.size, rawInt 0, .none, .none] } }) :=
  .of_wp fun prog w A R s h => by
    obtain ⟨hp, g, d, tk, os⟩ := s
    obtain ⟨hl, h⟩ := h
    have hsub := sub_enumerate
    have hT : Heap.IsTuple (Shared.heap ⟨hp, g, d, tk, os⟩) t items := ⟨_, hl, rfl, n, rfl⟩
    have q1 : ∀ {A' : Around} {E : Value → Shared → Prop} {Q : Value → Shared → Prop}, Q (.ref hp.objs.size) ⟨hp.push { cls := .type "tuple_iterator", data := .fields #[.ref t, .int 0 0] }, g, d, tk, os⟩ → wpAny (model prog w) A' (pyIter (.ref t)) Q E ⟨hp, g, d, tk, os⟩ :=
      fun q => wpAny_pyIter_tuple hT q
    wp_walk using q1
    refine wpAny_stack_any fun st => wpAny_pure ?_
    split
    · rename_i c _ _ _ _ _
      cases (c == Value.type "enumerate") <;> (wp_walk using q1; exact ⟨_, rfl, h⟩)
    · wp_walk using q1
      exact ⟨_, rfl, h⟩
variable {prog : Program} {w : World} {A : Around} {E : Value → Shared → Prop} {s : Shared}
theorem call_enum_tup {t : Addr} {items : Array Value} {Q : Value → Shared → Prop} (hT : s.heap.IsTuple t items)
    (h : ∀ h', IsEnum h' (s.heap.objs.size + 1) s.heap.objs.size 0 .none → h'.IsTupleIter s.heap.objs.size t 0 → (∀ b o, s.heap.get? b = some o → h'.get? b = some o) → Q (.ref (s.heap.objs.size + 1)) { s with heap := h' }) :
    wpAny (model prog w) A (call (.type "enumerate") [.ref t]) Q E s := by
  obtain ⟨⟨c, dd, dt, sl⟩, hl, hc, n, hd⟩ := hT
  have hc' : c = .type "tuple" := hc
  have hd' : dt = .seq items n := hd
  subst hc' hd'
  refine callType_new F.called_enumerate (by decide) (F.typeCall_enumerate_1 _) (F.newCall_enumerate_1 _) (fun obj => F.args_object_init_2 obj _) F.entry_enumerate_new (meets_enum_tup t default items n dd sl) ⟨hl, ?_⟩
  have hz : (s.heap.push { cls := .type "tuple_iterator", data := .fields #[.ref t, .int 0 0] }).objs.size = s.heap.objs.size + 1 := Heap.size_push ..
  show _ ∧ _
  rw [hz]
  have he : IsEnum ((s.heap.push { cls := .type "tuple_iterator", data := .fields #[.ref t, .int 0 0] }).push { cls := .type "enumerate", data := .fields #[.none, .bool false, .ref s.heap.objs.size, rawInt 0, .none, .none] }) (s.heap.objs.size + 1) s.heap.objs.size 0 .none := by
    have q := Heap.get?_push_size (s.heap.push { cls := .type "tuple_iterator", data := .fields #[.ref t, .int 0 0] }) (o := { cls := .type "enumerate", data := .fields #[.none, .bool false, .ref s.heap.objs.size, rawInt 0, .none, .none] }) rfl
    rw [hz] at q
    exact q
  exact ⟨⟨_, he, rfl⟩, h _ he ⟨_, Heap.get?_push_of_some _ (Heap.get?_push_size _ rfl), rfl, rfl⟩ fun b o x => Heap.get?_push_of_some _ (Heap.get?_push_of_some _ x)⟩
end
/-- the tuple at a, each item in a new pair with its number -/
def Iet (K : PySem.W.Frag) (a : Addr) : It :=
  ⟨fun i H => ∃ (xs : List V) (x : V), SqT K H a xs ∧ xs[i]? = some x, fun i H v H' => ∃ T x, v = .ref T ∧ H T = none ∧ H' = upd H T (.tup [.int (i : Nat), x]) ∧ ∀ xs, SqT K H a xs → xs[i]? = some x, fun i H => ∃ xs : List V, SqT K H a xs ∧ xs.length ≤ i⟩
theorem turn_enumT {P : Program} {w : World} {K : PySem.W.Frag} {elts : List Expr} {kk : Nat} {tpos : Pos} (a e it : Addr) :
    Turn P w K (.Tuple elts kk tpos) (Iet K a) [e, it] e (fun i h => (∃ old, IsEnum h e it ((i : Nat) : Int) old) ∧ h.IsTupleIter it a i ∧ e ≠ it) where
  mem := by simp
  obj := by
    rintro i h ⟨⟨old, he⟩, ⟨o, ho, hc, hd⟩, _⟩ b hb
    have e' : b = e ∨ b = it := by simpa using hb
    cases e' with
    | inl z => rw [z]; exact ⟨_, he, fun v q => nomatch q⟩
    | inr z => rw [z]; exact ⟨o, ho, fun v q => by rw [hd] at q; cases q⟩
  keep := by
    rintro i h h' ⟨⟨old, he⟩, hi, hne⟩ k
    exact ⟨⟨old, k e (by simp) _ he⟩, hi.at fun o q => k it (by simp) o q, hne⟩
  item := by
    intro X hP hw hK hc i pins s σ H E I hf st hg
    subst hP hw hK
    obtain ⟨⟨old, he⟩, hit, hne⟩ := st
    obtain ⟨xs, x, hq, hx⟩ := hg
    obtain ⟨its, rv, p, hz⟩ := I.tuple hq
    obtain ⟨u, hu, ru⟩ := rv.get hx
    have hel : e < s.heap.objs.size := Heap.lt_size he
    have hil : it < s.heap.objs.size := by obtain ⟨_, q, _⟩ := hit; exact Heap.lt_size q
    have hai : a ≠ it := by
      rintro rfl
      obtain ⟨o1, g1, c1, _⟩ := hit
      obtain ⟨o2, g2, c2, _⟩ := p
      rw [g1] at g2
      cases g2
      rw [c1] at c2
      exact absurd c2 (by simp)
    have hae : a ≠ e := by
      rintro rfl
      obtain ⟨o2, g2, c2, _⟩ := p
      have g1 : s.heap.get? a = some _ := he
      rw [g1] at g2
      cases g2
      exact absurd c2 (by simp)
    have hu' : its.toArray[i]? = some u := by simpa using hu
    have hlt : i < its.toArray.size := (Array.getElem?_eq_some_iff.mp hu').1
    refine wpAny_pyNext_enum_itemD (Draws.tuple (A := X.A.in1) (prog := X.prog) (w := X.w) (I.ok.hd hc) it a hai its.toArray) he ⟨hit, p⟩ hlt hne (by simp [hne, hae.symm]) ?_
    intro y h' tk hy ho st' hT hsz hk
    have ey : y = u := Option.some.inj ((show its.toArray[i]? = some y from hy).symm.trans hu')
    subst ey
    refine ⟨_, rfl, wpAny_letOwnedTupleGo_enum (s := { s with heap := h', toks := tk + 1 }) ho ?_⟩
    intro h'' he' sb
    have hT2 : h''.get? s.heap.objs.size = some { cls := .type "tuple", data := .seq #[.int i tk, y] } := (sb.2 _ (Nat.ne_of_gt hel)).trans hT
    have new : ObjOk X.prog X.w (upd H s.heap.objs.size (.tup [.int (i : Nat), x])) h'' s.heap.objs.size (.tup [.int (i : Nat), x]) := ⟨by show 2 ≤ sizeLine; decide, [.int i tk, y], .cons ⟨_, rfl⟩ (.cons ru .nil), ⟨_, hT2, rfl, _, rfl⟩⟩
    have old2 : ∀ b ob, b ∉ [e, it] → s.heap.get? b = some ob → h''.get? b = some ob := fun b ob hb q => (sb.2 b (fun z => hb (by simp [z]))).trans (hk b ob (fun z => hb (by simp [z])) (fun z => hb (by simp [z])) q)
    have I1 : Inv X pins σ (upd H s.heap.objs.size (.tup [.int (i : Nat), x])) { s with heap := h'', toks := tk + 1 } := I.turnedNew (ch := [e, it]) old2 hf (Nat.le_refl _) new
    refine ⟨.ref s.heap.objs.size, _, I1, rfl, ⟨_, x, rfl, I.hok.fresh (Nat.le_refl _), rfl, fun ys hy => by rw [I.tuple_inj hy hq]; exact hx⟩, ⟨⟨y, ?_⟩, st'.1.at fun o q => (sb.2 it (Ne.symm hne)).trans q, hne⟩, ?_⟩
    · have e1 : ((i + 1 : Nat) : Int) = (i : Int) + 1 := by omega
      rw [e1]
      exact he'
    · intro b hb
      have hb' : b < s.heap.objs.size := by
        have e' : b = e ∨ b = it := by simpa using hb
        cases e' with
        | inl z => rw [z]; exact hel
        | inr z => rw [z]; exact hil
      rw [upd_ne (Nat.ne_of_lt hb')]
      exact (hf b hb).1
  done := by
    intro X hP hw hK hc i pins s σ H E I hf st hg
    subst hP hw hK
    obtain ⟨⟨old, he⟩, hit, hne⟩ := st
    obtain ⟨xs, hq, hx⟩ := hg
    obtain ⟨its, rv, p, hz⟩ := I.tuple hq
    obtain ⟨f0, f1, f2, f3, f4, f5⟩ := hf it (by simp)
    have hl := rv.length
    have isE : s.TypeIs (.ref e) "enumerate" := ⟨_, he, rfl⟩
    unfold pyNext
    refine wpAny_bind (wpAny_attempt (wpAny_callSpecial?_slot (name := Str.ofString "__next__") isE F.slot_enumerate_next (wpAny_call_entry F.slot_enumerate_next isE F.entry_enumerate_next ?_ (F.args_enumerate_next_1 _))))
    show wpAny _ _ (field (.ref e) 2 >>= _) _ _ _
    refine wpAny_bind (wpAny_field he rfl (x := .ref it) rfl ?_)
    refine wpAny_bind (wpAny_nextOf_tuple_end (I.ok.hd hc) hit p (by simp; omega) ?_)
    rintro h' x eb ⟨o, ho, hcl⟩
    refine wpAny_bind (wpAny_isInstance (T := "StopIteration") (b := true) ⟨o, ho, hcl⟩ isSubtype_stop ?_)
    exact wpAny_pure ⟨rfl, I.turned (t' := s.toks) (fun b o hb q => eb b o hb q) f0 f1 f3 f4 f5⟩
  self := by
    rintro A i s Q E ⟨⟨_, he⟩, _⟩ h
    exact wpAny_pyIter_enum he h
def iEnumT (K : PySem.W.Frag) (ta : TA) : TI := fun σ H R => ta σ H fun vs H1 => ∃ a xs, vs = [.ref a] ∧ SqT K H1 a xs ∧ R (Iet K a) H1
theorem pi_enumT {X : Cx} {e : Expr} {ta : TA} {p pos tpos : Pos} {elts : List Expr} {kk : Nat} (hg : Gl X "enumerate") (hm : X.mg "enumerate" = none) (ha : PA X [e] ta) (hs : starEach [e] X.env = [(false, eval e X.env)] := by rfl) :
    PI X (.Tuple elts kk tpos) (.Call (.Name "enumerate" p) [e] [] pos) (iEnumT X.K ta) := by
  constructor
  intro pins s σ H R I h
  refine Call_ (ld_blt I hg hm boot_enumerate (PyProof.Rows.callWith_type1 (thn (ha.run pos pins s σ H _ I h) ?_) hs rfl))
  rintro us s1 ⟨vs, H1, I1, r1, a, xs, rfl, hq, q⟩
  obtain ⟨u, rfl, ru⟩ := vals1 r1
  cases ru
  obtain ⟨its, rv, p', hz⟩ := I1.tuple hq
  refine call_enum_tup p' ?_
  intro h' he hit hk
  refine wpAny_pyIter_enum he ?_
  have I2 : Inv X pins σ H1 { s1 with heap := h' } := I1.kept (t' := s1.toks) hk
  refine ⟨s1.heap.objs.size + 1, [s1.heap.objs.size + 1, s1.heap.objs.size], _, _, H1, rfl, I2, turn_enumT a (s1.heap.objs.size + 1) s1.heap.objs.size, ⟨⟨.none, he⟩, hit, Nat.succ_ne_self _⟩, ?_, q⟩
  intro b hb
  have hb' : b = s1.heap.objs.size + 1 ∨ b = s1.heap.objs.size := by simpa using hb
  have hle : s1.heap.objs.size ≤ b := hb'.elim (fun z => by rw [z]; exact Nat.le_succ _) (fun z => by rw [z]; exact Nat.le_refl _)
  exact I1.fpOk hle (I1.hok.fresh hle)
/-- its walk: a new pair each turn -/
def YNum (xs : List V) : Nat → Hp → V → Hp → Prop := fun i H v H' => ∃ T x, v = .ref T ∧ H T = none ∧ H' = upd H T (.tup [.int (i : Nat), x]) ∧ xs[i]? = some x
theorem walk_enumT {K : PySem.W.Frag} {a : Addr} {xs : List V} : Walk (Iet K a) xs.length (fun H => SqT K H a xs) (YNum xs) :=
  ⟨fun i H hi h => ⟨xs, xs[i], h, by simp [hi]⟩, fun H h => ⟨xs, h, Nat.le_refl _⟩, fun i H x H' _ h y => by obtain ⟨T, z, e1, e2, e3, e4⟩ := y; exact ⟨T, z, e1, e2, e3, e4 xs h⟩⟩
theorem walk_enumL {K : PySem.W.Frag} {a : Addr} {xs : List V} : Walk (Ite K a) xs.length (fun H => SqL K H a xs) (YNum xs) :=
  ⟨fun i H hi h => ⟨xs, xs[i], h, by simp [hi]⟩, fun H h => ⟨xs, h, Nat.le_refl _⟩, fun i H x H' _ h y => by obtain ⟨T, z, e1, e2, e3, e4⟩ := y; exact ⟨T, z, e1, e2, e3, e4 xs h⟩⟩
end Lm

namespace Lm
open PySem PySem.Spec PyProof.Rows L2
/-! ### a def of the text, at hand -/
structure Def (K : PySem.W.Frag) (mg : Str → Option Value) (x : Str) (st : Stmt) (ps : List Str) (f : Addr) (fd : FuncData) : Prop where
  F : Fun K x x st f fd
  g : mg x = some (.ref f)
  b : Binds K fd ps []
/-! ### the pot -/

open Classical in
noncomputable def hid (Z : Hp) (p dl : Addr) (H : Hp) : Hp := fun b => if b = p ∨ b = dl ∨ Z b ≠ none then none else H b
theorem hid_at {Z : Hp} {p dl b : Addr} {H : Hp} (h1 : b ≠ p) (h2 : b ≠ dl ∧ Z b = none) : hid Z p dl H b = H b := if_neg (fun z => z.elim h1 (fun z => z.elim h2.1 (fun q => q h2.2)))
theorem hid_same {Z : Hp} (p dl : Addr) (H : Hp) : Same (hid Z p dl H) H := by
  intro b o e
  unfold hid at e
  split at e
  · cases e
  · exact e
theorem hid_some {Z : Hp} {p dl b : Addr} {H : Hp} {o : HO} (e : hid Z p dl H b = some o) : b ≠ p ∧ (b ≠ dl ∧ Z b = none) := by
  unfold hid at e
  split at e
  · cases e
  · rename_i z
    exact ⟨fun q => z (.inl q), fun q => z (.inr (.inl q)), Classical.byContradiction fun q => z (.inr (.inr q))⟩
/-- all but the pot's own two is as it was -/
def Kp (Z : Hp) (p dl : Addr) (H H' : Hp) : Prop := Same (hid Z p dl H) (hid Z p dl H')
theorem Kp.refl {Z : Hp} (p dl : Addr) (H : Hp) : Kp Z p dl H H := Same.refl _
theorem Kp.trans {Z : Hp} {p dl : Addr} {H H1 H2 : Hp} (a : Kp Z p dl H H1) (b : Kp Z p dl H1 H2) : Kp Z p dl H H2 := Same.trans a b
theorem Kp.of {Z : Hp} {p dl : Addr} {H H' : Hp} (s : Same H H') : Kp Z p dl H H' := by
  intro b o e
  have n := hid_some e
  rw [hid_at n.1 n.2] at e ⊢
  exact s b o e
theorem same_new {H : Hp} {q : Addr} {o : HO} (h : H q = none) : Same H (upd H q o) := fun b x e => by
  rw [upd_ne (ne_of_none e h)]
  exact e
theorem Kp.new {Z : Hp} {p dl q : Addr} {H : Hp} {o : HO} (h : H q = none) : Kp Z p dl H (upd H q o) := Kp.of (same_new h)
/-- the pot stands at p -/
structure PotAt (Z : Hp) (H : Hp) (p dl al : Addr) : Prop where
  ob : ∃ t : Int, H p = some (.dK [(.inr "deep", .ref dl), (.inr "all", .ref al), (.inr "times", .int t)])
  de : ∃ ns : List Int, H dl = some (.lst (ns.map V.int)) ∧ ns.length ≤ 64
  li : ∃ ns : List Int, H al = some (.lst (ns.map V.int)) ∧ ns ≠ [] ∧ ns.length ≤ 64
  ne : al ≠ dl
  zz : Same Z H
  zp : Z p = none
  zd : Z dl = none
theorem PotAt.pd {H : Hp} {Z : Hp} {p dl al : Addr} (h : PotAt Z H p dl al) : p ≠ dl := by
  obtain ⟨t, e⟩ := h.ob
  obtain ⟨ns, e2, _⟩ := h.de
  exact ne_of e e2 (fun z => nomatch z)
theorem PotAt.pa {H : Hp} {Z : Hp} {p dl al : Addr} (h : PotAt Z H p dl al) : al ≠ p := by
  obtain ⟨t, e⟩ := h.ob
  obtain ⟨ns, e2, _⟩ := h.li
  exact ne_of e2 e (fun z => nomatch z)
theorem PotAt.keep {H H' : Hp} {Z : Hp} {p dl al : Addr} (h : PotAt Z H p dl al) (s : Same H H') : PotAt Z H' p dl al :=
  ⟨let ⟨t, e⟩ := h.ob; ⟨t, s _ _ e⟩, let ⟨ns, e, l⟩ := h.de; ⟨ns, s _ _ e, l⟩, let ⟨ns, e, l⟩ := h.li; ⟨ns, s _ _ e, l⟩, h.ne, h.zz.trans s, h.zp, h.zd⟩
theorem PotAt.new {H : Hp} {Z : Hp} {p dl al q : Addr} {o : HO} (h : PotAt Z H p dl al) (n : H q = none) : PotAt Z (upd H q o) p dl al := h.keep (same_new n)
theorem PotAt.free {H : Hp} {Z : Hp} {p dl al q : Addr} (h : PotAt Z H p dl al) (n : H q = none) : q ≠ p ∧ (q ≠ dl ∧ Z q = none) := by
  obtain ⟨t, e⟩ := h.ob
  obtain ⟨ns, e2, _⟩ := h.de
  exact ⟨(ne_of_none e n).symm, (ne_of_none e2 n).symm, by
    cases e3 : Z q with
    | none => rfl
    | some o => rw [h.zz _ _ e3] at n; cases n⟩
theorem zz_upd {Z : Hp} {H : Hp} {f : Addr} {o : HO} (h : Same Z H) (n : Z f = none) : Same Z (upd H f o) := fun b x e => by
  rw [upd_ne (ne_of_none e n)]
  exact h b x e
def sp_draw : Sp := fun vs H Q _ => ∃ (Z : Hp) (p dl al : Addr) (n : Int), vs = [.ref p, .int n] ∧ PotAt Z H p dl al ∧ 0 < n ∧ n < 1073741824 ∧
  ∀ (r : Int) (H' : Hp), PotAt Z H' p dl al → Kp Z p dl H H' → 0 ≤ r → r < n → Q (.int r) H'
/-! ### xs == [], xs != [] -/
def rEqE (K : PySem.W.Frag) : R2 := fun x y H Q => ∃ a b xs, x = .ref a ∧ y = .ref b ∧ SqL K H a xs ∧ SqL K H b [] ∧ Q (.bl xs.isEmpty) H
def rNeE (K : PySem.W.Frag) : R2 := fun x y H Q => ∃ a b xs, x = .ref a ∧ y = .ref b ∧ SqL K H a xs ∧ SqL K H b [] ∧ Q (.bl (!xs.isEmpty)) H
section
variable {X : Cx}
theorem op_eqE (hu : X.A.units < cLine) : OpR X (compareOp .Eq) (rEqE X.K) := by
  rintro pins s σ H x y v u Q I rx ry ⟨a, b, xs, rfl, rfl, ha, hb, q⟩
  cases rx
  cases ry
  obtain ⟨i1, r1, p1, _⟩ := I.list ha
  obtain ⟨i2, r2, p2, _⟩ := I.list hb
  cases r2
  cases i1 with
  | nil =>
    cases r1
    exact SeqAt.RcAt.lists (e := fun _ => true) p1.isList p2.isList rfl hu (fun j h1 _ => absurd h1 (by simp)) _ _ _ _ ⟨.bl true, H, I, rfl, q⟩
  | cons z zs =>
    cases r1
    exact SeqAt.RcAt.lists_lengths p1.isList p2.isList (by simp) hu _ _ _ _ ⟨.bl false, H, I, rfl, q⟩
theorem op_neE (hu : X.A.units < cLine) : OpR X (compareOp .NotEq) (rNeE X.K) := by
  rintro pins s σ H x y v u Q I rx ry ⟨a, b, xs, rfl, rfl, ha, hb, q⟩
  cases rx
  cases ry
  obtain ⟨i1, r1, p1, _⟩ := I.list ha
  obtain ⟨i2, r2, p2, _⟩ := I.list hb
  cases r2
  cases i1 with
  | nil =>
    cases r1
    exact SeqAt.RcNeAt.lists (e := fun _ => true) p1.isList p2.isList rfl hu (fun j h1 _ => absurd h1 (by simp)) _ _ _ _ ⟨.bl false, H, I, rfl, q⟩
  | cons z zs =>
    cases r1
    exact SeqAt.RcNeAt.lists_lengths p1.isList p2.isList (by simp) hu _ _ _ _ ⟨.bl true, H, I, rfl, q⟩
end
theorem fmodB {a b : Int} (h : 0 < b) : 0 ≤ a.fmod b ∧ a.fmod b < b := ⟨Int.fmod_nonneg_of_pos a h, Int.fmod_lt_of_pos a h⟩
theorem seq0 {n : Nat} (h : 0 < n) : seqIndex? 0 n = some 0 := by
  unfold seqIndex?
  first
    | (simp [h]; done)
    | (simp; omega)
end Lm

namespace Lm
open PySem PySem.Spec PyProof.Rows L2
/-! ### what an expression gives while the pot stands: R of its value and of the heap without the pot -/
abbrev VR := V → Hp → Prop
abbrev LR := List V → Hp → Prop
def Mo (R : VR) : Prop := ∀ v G G', Same G G' → R v G → R v G'
def MoL (R : LR) : Prop := ∀ v G G', Same G G' → R v G → R v G'
def Ev (Z : Hp) (p dl al : Addr) (H0 : Hp) (σ : L2.St) (te : TE) (R : VR) : Prop :=
  ∀ (H : Hp) (Q : VK), PotAt Z H p dl al → Kp Z p dl H0 H → (∀ v H', PotAt Z H' p dl al → Kp Z p dl H H' → R v (hid Z p dl H') → Q v H') → te σ H Q
def EvA (Z : Hp) (p dl al : Addr) (H0 : Hp) (σ : L2.St) (ta : TA) (R : LR) : Prop :=
  ∀ (H : Hp) (Q : List V → Hp → Prop), PotAt Z H p dl al → Kp Z p dl H0 H → (∀ v H', PotAt Z H' p dl al → Kp Z p dl H H' → R v (hid Z p dl H') → Q v H') → ta σ H Q
section
variable {K : PySem.W.Frag} {Z : Hp} {p dl al : Addr} {H0 : Hp} {σ : L2.St} {te ta tb : TE} {tl : TA} {R R' R1 R2 : VR} {Rs Rt : LR}
theorem Ev.imp (h : Ev Z p dl al H0 σ te R) (i : ∀ v G, R v G → R' v G) : Ev Z p dl al H0 σ te R' := fun H Q P k q => h H Q P k fun v H' P' k' r => q v H' P' k' (i _ _ r)
theorem EvA.imp (h : EvA Z p dl al H0 σ tl Rs) (i : ∀ v G, Rs v G → Rt v G) : EvA Z p dl al H0 σ tl Rt := fun H Q P k q => h H Q P k fun v H' P' k' r => q v H' P' k' (i _ _ r)
theorem ev_c {v : V} : Ev Z p dl al H0 σ (tC v) (fun u _ => u = v) := fun H Q P k q => q v H P (Kp.refl _ _ _) rfl
theorem ev_var {i : Nat} {v : V} (e : σ[i]? = some (some v)) (m : Mo R) (h : R v (hid Z p dl H0)) : Ev Z p dl al H0 σ (tVar i) R := fun H Q P k q => ⟨v, e, q v H P (Kp.refl _ _ _) (m _ _ _ k h)⟩
theorem eva_nil : EvA Z p dl al H0 σ tNil (fun vs _ => vs = []) := fun H Q P k q => q [] H P (Kp.refl _ _ _) rfl
theorem eva_cons (m : Mo R) (h1 : Ev Z p dl al H0 σ te R) (h2 : EvA Z p dl al H0 σ tl Rs) : EvA Z p dl al H0 σ (tCons te tl) (fun vs G => ∃ v r, vs = v :: r ∧ R v G ∧ Rs r G) :=
  fun H Q P k q => h1 H _ P k fun v H1 P1 k1 r1 => h2 H1 _ P1 (k.trans k1) fun vs H2 P2 k2 r2 => q _ H2 P2 (k1.trans k2) ⟨v, vs, rfl, m _ _ _ k2 r1, r2⟩
/-! ### lists of alternatives, all of which have R -/
def AllR (m n : Nat) (R : VR) : LR := fun vs G => m ≤ vs.length ∧ vs.length ≤ n ∧ ∀ v ∈ vs, R v G
theorem eall_nil : EvA Z p dl al H0 σ tNil (AllR 0 0 R) := fun H Q P k q => q [] H P (Kp.refl _ _ _) ⟨Nat.le_refl _, Nat.le_refl _, fun v h => nomatch h⟩
theorem eall_cons {a b : Nat} (m : Mo R) (h1 : Ev Z p dl al H0 σ te R) (h2 : EvA Z p dl al H0 σ tl (AllR a b R)) : EvA Z p dl al H0 σ (tCons te tl) (AllR (a + 1) (b + 1) R) :=
  (eva_cons m h1 h2).imp fun vs G h => by
    obtain ⟨v, r, rfl, hv, h1, h2, h3⟩ := h
    refine ⟨Nat.succ_le_succ h1, Nat.succ_le_succ h2, fun x hx => ?_⟩
    rcases List.mem_cons.mp hx with e | e
    · rw [e]; exact hv
    · exact h3 x e
theorem AllR.mo {m n : Nat} (h : Mo R) : MoL (AllR m n R) := fun vs G G' s ⟨h1, h2, h3⟩ => ⟨h1, h2, fun v hv => h v _ _ s (h3 v hv)⟩
/-- a list, a tuple of things that have R -/
def LsR (m n : Nat) (R : VR) : VR := fun v G => ∃ a xs, v = .ref a ∧ G a = some (.lst xs) ∧ AllR m n R xs G
def TpR (K : PySem.W.Frag) (m n : Nat) (R : VR) : VR := fun v G => ∃ a xs, v = .ref a ∧ SqT K G a xs ∧ AllR m n R xs G
theorem LsR.mo {m n : Nat} (h : Mo R) : Mo (LsR m n R) := fun v G G' s ⟨a, xs, e, g, r⟩ => ⟨a, xs, e, s _ _ g, AllR.mo h _ _ _ s r⟩
theorem TpR.mo {m n : Nat} (h : Mo R) : Mo (TpR K m n R) := fun v G G' s ⟨a, xs, e, g, r⟩ => ⟨a, xs, e, Same.seqT s g, AllR.mo h _ _ _ s r⟩
theorem hid_new {H : Hp} {q : Addr} {o : HO} (P : PotAt Z H p dl al) (n : H q = none) : hid Z p dl (upd H q o) q = some o := by
  have f := P.free n
  rw [hid_at f.1 f.2, upd_same]
theorem hid_upd {H : Hp} {q : Addr} {o : HO} (h1 : q ≠ p) (h2 : q ≠ dl ∧ Z q = none) : hid Z p dl (upd H q o) q = some o := by rw [hid_at h1 h2, upd_same]
/-- a new thing that is not the pot's -/
theorem laid {H : Hp} {q : Addr} {o : HO} (P : PotAt Z H p dl al) (n : H q = none) : PotAt Z (upd H q o) p dl al ∧ Kp Z p dl H (upd H q o) ∧ hid Z p dl (upd H q o) q = some o := ⟨P.new n, Kp.new n, hid_new P n⟩
theorem ev_tup (h : EvA Z p dl al H0 σ tl Rs) (hl : ∀ vs G, Rs vs G → vs.length ≤ sizeLine) (m : MoL Rs) : Ev Z p dl al H0 σ (tTup tl) (fun v G => ∃ a xs, v = .ref a ∧ G a = some (.tup xs) ∧ Rs xs G) :=
  fun H Q P k q => h H _ P k fun vs H1 P1 k1 r1 => ⟨hl _ _ r1, fun t nt => by
    obtain ⟨P2, k2, e2⟩ := laid (o := .tup vs) P1 nt
    exact q _ _ P2 (k1.trans k2) ⟨t, vs, rfl, e2, m _ _ _ k2 r1⟩⟩
theorem ev_lst {m n : Nat} (hn : n ≤ 1000) (hm : Mo R) (h : EvA Z p dl al H0 σ tl (AllR m n R)) : Ev Z p dl al H0 σ (tLst tl) (LsR m n R) :=
  fun H Q P k q => h H _ P k fun vs H1 P1 k1 r1 => ⟨Nat.le_of_lt (small1000 (Nat.le_trans r1.2.1 hn)), fun t nt => by
    obtain ⟨P2, k2, e2⟩ := laid (o := .lst vs) P1 nt
    exact q _ _ P2 (k1.trans k2) ⟨t, vs, rfl, e2, AllR.mo hm _ _ _ k2 r1⟩⟩
theorem ev_tupR {m n : Nat} (hn : n ≤ 1000) (hm : Mo R) (h : EvA Z p dl al H0 σ tl (AllR m n R)) : Ev Z p dl al H0 σ (tTup tl) (TpR K m n R) :=
  (ev_tup h (fun vs G r => Nat.le_of_lt (small1000 (Nat.le_trans r.2.1 hn))) (AllR.mo hm)).imp fun v G ⟨a, xs, e, g, r⟩ => ⟨a, xs, e, .inl (.inl g), r⟩
theorem ev_cat {a b c d : Nat} (hn : b + d ≤ 1000) (hm : Mo R) (h1 : Ev Z p dl al H0 σ ta (LsR a b R)) (h2 : Ev Z p dl al H0 σ tb (LsR c d R)) : Ev Z p dl al H0 σ (tOp rCat ta tb) (LsR (a + c) (b + d) R) :=
  fun H Q P k q => h1 H _ P k fun x H1 P1 k1 r1 => h2 H1 _ P1 (k.trans k1) fun y H2 P2 k2 r2 => by
    obtain ⟨l, xs, rfl, g1, a1, a2, a3⟩ := LsR.mo hm _ _ _ k2 r1
    obtain ⟨l2, ys, rfl, g2, b1, b2, b3⟩ := r2
    refine ⟨l, l2, xs, ys, rfl, rfl, hid_same _ _ _ _ _ g1, hid_same _ _ _ _ _ g2, Nat.le_of_lt (small1000 (by omega)), fun t nt => ?_⟩
    obtain ⟨P3, k3, e3⟩ := laid (o := .lst (xs ++ ys)) P2 nt
    refine q _ _ P3 ((k1.trans k2).trans k3) ⟨t, _, rfl, e3, by rw [List.length_append]; omega, by rw [List.length_append]; omega, fun v hv => ?_⟩
    rcases List.mem_append.mp hv with e | e
    · exact hm _ _ _ k3 (a3 v e)
    · exact hm _ _ _ k3 (b3 v e)
theorem ev_catA {a b c d : Nat} (hn : b + d ≤ 1000) (hm : Mo R) (h1 : Ev Z p dl al H0 σ ta (TpR K a b R)) (h2 : Ev Z p dl al H0 σ tb (TpR K c d R)) : Ev Z p dl al H0 σ (tOp (rCatA K) ta tb) (TpR K (a + c) (b + d) R) :=
  fun H Q P k q => h1 H _ P k fun x H1 P1 k1 r1 => h2 H1 _ P1 (k.trans k1) fun y H2 P2 k2 r2 => by
    have r1' := TpR.mo hm _ _ _ k2 r1
    obtain ⟨l, xs, rfl, g1, a1, a2, a3⟩ := r1'
    obtain ⟨l2, ys, rfl, g2, b1, b2, b3⟩ := id r2
    refine ⟨l, l2, xs, ys, rfl, rfl, Same.seqT (hid_same _ _ _) g1, Same.seqT (hid_same _ _ _) g2, Nat.le_of_lt (small1000 (by omega)), fun z => ?_, fun z1 z2 => ?_, fun z1 z2 t nt => ?_⟩
    · subst z
      refine q _ _ P2 (k1.trans k2) ⟨l2, ys, rfl, g2, ?_, by omega, b3⟩
      simp only [List.length_nil] at a1; omega
    · subst z2
      refine q _ _ P2 (k1.trans k2) ⟨l, xs, rfl, g1, ?_, by omega, a3⟩
      simp only [List.length_nil] at b1; omega
    · obtain ⟨P3, k3, e3⟩ := laid (o := .tup (xs ++ ys)) P2 nt
      refine q _ _ P3 ((k1.trans k2).trans k3) ⟨t, _, rfl, .inl (.inl e3), by rw [List.length_append]; omega, by rw [List.length_append]; omega, fun v hv => ?_⟩
      rcases List.mem_append.mp hv with e | e
      · exact hm _ _ _ k3 (a3 v e)
      · exact hm _ _ _ k3 (b3 v e)
theorem mem_cutV {xs : List V} {lo hi : Option Int} {v : V} (h : v ∈ cutV xs lo hi) : v ∈ xs := List.mem_of_mem_drop (List.mem_of_mem_take h)
/-- any cut of a tuple -/
def AnyO (Z : Hp) (p dl al : Addr) (H0 : Hp) (σ : L2.St) (to : TO) : Prop := ∀ (H : Hp) (Q : Option Int → Hp → Prop), PotAt Z H p dl al → Kp Z p dl H0 H → (∀ o H', PotAt Z H' p dl al → Kp Z p dl H H' → Q o H') → to σ H Q
theorem any_none : AnyO Z p dl al H0 σ tNoPart := fun H Q P k q => q none H P (Kp.refl _ _ _)
theorem any_some {t : TE} (h : Ev Z p dl al H0 σ t (fun v _ => ∃ i, v = .int i)) : AnyO Z p dl al H0 σ (tPart t) := fun H Q P k q => h H _ P k fun v H1 P1 k1 ⟨i, e⟩ => ⟨i, e, q _ _ P1 k1⟩
theorem ev_slA {a b : Nat} {t1 t2 : TO} (hm : Mo R) (h : Ev Z p dl al H0 σ te (TpR K a b R)) (h1 : AnyO Z p dl al H0 σ t1) (h2 : AnyO Z p dl al H0 σ t2) : Ev Z p dl al H0 σ (tSl (rSlA K) te t1 t2) (TpR K 0 b R) :=
  fun H Q P k q => h H _ P k fun x H1 P1 k1 r1 => h1 H1 _ P1 (k.trans k1) fun lo H2 P2 k2 => h2 H2 _ P2 ((k.trans k1).trans k2) fun hi H3 P3 k3 => by
    obtain ⟨l, xs, rfl, g, a1, a2, a3⟩ := TpR.mo hm _ _ _ (Kp.trans k2 k3) r1
    refine ⟨l, xs, rfl, Same.seqT (hid_same _ _ _) g, fun _ => ?_, fun _ t nt => ?_⟩
    · exact q _ _ P3 (k1.trans (k2.trans k3)) ⟨l, xs, rfl, g, Nat.zero_le _, a2, a3⟩
    · obtain ⟨P4, k4, e4⟩ := laid (o := .tup (cutV xs lo hi)) P3 nt
      exact q _ _ P4 (k1.trans ((k2.trans k3).trans k4)) ⟨t, _, rfl, .inl (.inl e4), Nat.zero_le _, Nat.le_trans (cutV_length _ _ _) a2, fun v hv => hm _ _ _ k4 (a3 v (mem_cutV hv))⟩
theorem ev_revT {a b : Nat} (hm : Mo R) (h : Ev Z p dl al H0 σ te (TpR K a b R)) : Ev Z p dl al H0 σ (tRevT K te) (TpR K a b R) :=
  fun H Q P k q => h H _ P k fun x H1 P1 k1 r1 => by
    obtain ⟨l, xs, rfl, g, a1, a2, a3⟩ := r1
    refine ⟨l, xs, rfl, Same.seqT (hid_same _ _ _) g, fun t nt => ?_⟩
    obtain ⟨P4, k4, e4⟩ := laid (o := .tup xs.reverse) P1 nt
    exact q _ _ P4 (k1.trans k4) ⟨t, _, rfl, .inl (.inl e4), by rw [List.length_reverse]; exact a1, by rw [List.length_reverse]; exact a2, fun v hv => hm _ _ _ k4 (a3 v (List.mem_reverse.mp hv))⟩
/-! ### numbers -/
def IR (lo hi : Int) : VR := fun v _ => ∃ i, v = .int i ∧ lo ≤ i ∧ i ≤ hi
theorem IR.mo {lo hi : Int} : Mo (IR lo hi) := fun v G G' s h => h
theorem ev_int {i : Int} : Ev Z p dl al H0 σ (tC (.int i)) (IR i i) := ev_c.imp fun v G e => ⟨i, e, Int.le_refl _, Int.le_refl _⟩
theorem ev_neg {i j : Int} (h : Ev Z p dl al H0 σ te (IR i j)) : Ev Z p dl al H0 σ (tUn (rU fun i => .int (-i)) te) (IR (-j) (-i)) :=
  fun H Q P k q => h H _ P k fun v H1 P1 k1 ⟨x, e, h1, h2⟩ => ⟨x, e, q _ _ P1 k1 ⟨-x, rfl, by omega, by omega⟩⟩
theorem ev_add {a b c d : Int} (h1 : Ev Z p dl al H0 σ ta (IR a b)) (h2 : Ev Z p dl al H0 σ tb (IR c d)) : Ev Z p dl al H0 σ (tOp (rI0 fun i j => .int (i + j)) ta tb) (IR (a + c) (b + d)) :=
  fun H Q P k q => h1 H _ P k fun x H1 P1 k1 ⟨i, e1, i1, i2⟩ => h2 H1 _ P1 (k.trans k1) fun y H2 P2 k2 ⟨j, e2, j1, j2⟩ => ⟨i, j, e1, e2, q _ _ P2 (k1.trans k2) ⟨i + j, rfl, by omega, by omega⟩⟩
theorem ev_sub {a b c d : Int} (h1 : Ev Z p dl al H0 σ ta (IR a b)) (h2 : Ev Z p dl al H0 σ tb (IR c d)) : Ev Z p dl al H0 σ (tOp (rI0 fun i j => .int (i - j)) ta tb) (IR (a - d) (b - c)) :=
  fun H Q P k q => h1 H _ P k fun x H1 P1 k1 ⟨i, e1, i1, i2⟩ => h2 H1 _ P1 (k.trans k1) fun y H2 P2 k2 ⟨j, e2, j1, j2⟩ => ⟨i, j, e1, e2, q _ _ P2 (k1.trans k2) ⟨i - j, rfl, by omega, by omega⟩⟩
theorem ev_mul {a b c d : Int} (ha : 0 ≤ a) (hb : b < 2 ^ 64) (hc : 0 ≤ c) (h1 : Ev Z p dl al H0 σ ta (IR a b)) (h2 : Ev Z p dl al H0 σ tb (IR c d)) : Ev Z p dl al H0 σ (tOp (rI CMul fun i j => .int (i * j)) ta tb) (IR (a * c) (b * d)) :=
  fun H Q P k q => h1 H _ P k fun x H1 P1 k1 ⟨i, e1, i1, i2⟩ => h2 H1 _ P1 (k.trans k1) fun y H2 P2 k2 ⟨j, e2, j1, j2⟩ => by
    refine ⟨i, j, e1, e2, .inl ⟨by omega, by omega⟩, q _ _ P2 (k1.trans k2) ⟨i * j, rfl, ?_, ?_⟩⟩
    · exact Int.mul_le_mul i1 j1 hc (Int.le_trans ha i1)
    · exact Int.mul_le_mul i2 j2 (Int.le_trans hc j1) (Int.le_trans ha (Int.le_trans i1 i2))
theorem ev_pow {i j : Int} (h : CPow i j) : Ev Z p dl al H0 σ (tOp (rI CPow fun i j => .int (i ^ j.toNat)) (tC (.int i)) (tC (.int j))) (IR (i ^ j.toNat) (i ^ j.toNat)) :=
  fun H Q P k q => ⟨i, j, rfl, rfl, h, q _ _ P (Kp.refl _ _ _) ⟨_, rfl, Int.le_refl _, Int.le_refl _⟩⟩
theorem Ev.wide {a b c d : Int} (h : Ev Z p dl al H0 σ te (IR a b)) (h1 : c ≤ a) (h2 : b ≤ d) : Ev Z p dl al H0 σ te (IR c d) := h.imp fun v G ⟨i, e, i1, i2⟩ => ⟨i, e, by omega, by omega⟩
theorem Ev.isInt {a b : Int} (h : Ev Z p dl al H0 σ te (IR a b)) : Ev Z p dl al H0 σ te (fun v _ => ∃ i, v = .int i) := h.imp fun v G ⟨i, e, _⟩ => ⟨i, e⟩
/-! ### draws -/
def sp_one : Sp := fun vs H Q _ => ∃ (Z : Hp) (p dl al l : Addr) (xs : List V), vs = [.ref p, .ref l] ∧ PotAt Z H p dl al ∧ hid Z p dl H l = some (.lst xs) ∧ xs ≠ [] ∧ xs.length ≤ 1000 ∧
  ∀ (x : V) (H' : Hp), x ∈ xs → PotAt Z H' p dl al → Kp Z p dl H H' → Q x H'
theorem ev_draw {i : Nat} {b : Int} (e : σ[i]? = some (some (.ref p))) (hb : b < 1073741824) (h : Ev Z p dl al H0 σ te (IR 1 b)) : Ev Z p dl al H0 σ (tCall sp_draw [] E0 (tCons (tVar i) (tCons te tNil))) (IR 0 (b - 1)) :=
  fun H Q P k q => ⟨_, e, h H _ P k fun v H1 P1 k1 ⟨n, en, n1, n2⟩ => ⟨Z, p, dl, al, n, by rw [en]; rfl, P1, by omega, by omega, fun r H2 P2 k2 r1 r2 => q _ _ P2 (k1.trans k2) ⟨r, rfl, r1, by omega⟩⟩⟩
theorem ev_one {i m n : Nat} (e : σ[i]? = some (some (.ref p))) (hn : n ≤ 1000) (hm : Mo R) (h : Ev Z p dl al H0 σ te (LsR (m + 1) n R)) : Ev Z p dl al H0 σ (tCall sp_one [] E0 (tCons (tVar i) (tCons te tNil))) R :=
  fun H Q P k q => ⟨_, e, h H _ P k fun v H1 P1 k1 ⟨l, xs, el, g, l1, l2, l3⟩ => ⟨Z, p, dl, al, l, xs, by rw [el]; rfl, P1, g, (fun z => by subst z; simp at l1), by omega, fun x H2 hx P2 k2 => q _ _ P2 (k1.trans k2) (hm _ _ _ k2 (l3 x hx))⟩⟩
end
/-! ### data -/
def DR (K : PySem.W.Frag) (φ : PyData → Prop) : VR := fun v G => ∃ d, Dq K G v d ∧ φ d
theorem DR.mo {K : PySem.W.Frag} {φ : PyData → Prop} : Mo (DR K φ) := fun v G G' s ⟨d, h, x⟩ => ⟨d, h.mono s, x⟩
theorem all_data {K : PySem.W.Frag} {φ : PyData → Prop} {G : Hp} : ∀ {xs : List V}, (∀ x ∈ xs, DR K φ x G) → ∃ ds, Dqs K G xs ds ∧ ∀ d ∈ ds, φ d
  | [], _ => ⟨[], .nil, fun d h => nomatch h⟩
  | x :: r, h => by
    obtain ⟨d, hd, pd⟩ := h x List.mem_cons_self
    obtain ⟨ds, hs, ps⟩ := all_data (xs := r) fun y hy => h y (List.mem_cons_of_mem _ hy)
    refine ⟨d :: ds, .cons hd hs, fun e he => ?_⟩
    rcases List.mem_cons.mp he with z | z
    · rw [z]; exact pd
    · exact ps e z
/-- data whose text has at most n signs, with at most k levels -/
structure Sm (n k : Nat) (d : PyData) : Prop where
  sh : d.showable = true
  dp : d.depth ≤ k
  sz : d.shown.length ≤ n
theorem Sm.wide {n k n' k' : Nat} {d : PyData} (h : Sm n k d) (h1 : n ≤ n') (h2 : k ≤ k') : Sm n' k' d := ⟨h.sh, Nat.le_trans h.dp h2, Nat.le_trans h.sz h1⟩
theorem Sm.fine {n k : Nat} {d : PyData} (h : Sm n k d) (h1 : n ≤ 16777216) (h2 : k ≤ 100) : Fine d := ⟨h.sh, Nat.le_trans h.dp h2, Nat.le_trans h.sz (by rw [PySem.sizeLine_eq]; exact h1)⟩
end Lm

namespace Lm
open PySem PySem.Spec PyProof.Rows L2
/-! ### how long a text of data is -/
theorem all_showable : ∀ {ds : List PyData}, (∀ d ∈ ds, d.showable = true) → PyData.showableAll ds = true
  | [], _ => rfl
  | d :: r, h => by
    simp only [PyData.showableAll, h d List.mem_cons_self, Bool.true_and]
    exact all_showable fun e he => h e (List.mem_cons_of_mem _ he)
theorem all_depth {k : Nat} : ∀ {ds : List PyData}, (∀ d ∈ ds, d.depth ≤ k) → PyData.depthAll ds ≤ k
  | [], _ => Nat.zero_le _
  | d :: r, h => by
    simp only [PyData.depthAll]
    exact Nat.max_le.mpr ⟨h d List.mem_cons_self, all_depth fun e he => h e (List.mem_cons_of_mem _ he)⟩
theorem all_shown {n : Nat} : ∀ {ds : List PyData}, (∀ d ∈ ds, d.shown.length ≤ n) → ((PyData.shownAll ds).map (·.length)).sum ≤ ds.length * n ∧ (PyData.shownAll ds).length = ds.length
  | [], _ => by simp [PyData.shownAll]
  | d :: r, h => by
    obtain ⟨h1, h2⟩ := all_shown (ds := r) fun e he => h e (List.mem_cons_of_mem _ he)
    have h3 := h d List.mem_cons_self
    simp only [PyData.shownAll, List.map_cons, List.sum_cons, List.length_cons, h2, and_true]
    rw [Nat.succ_mul]
    omega
theorem seq_size {c n len sum : Nat} (h1 : sum ≤ len * n) (h2 : len ≤ c) : sum + 2 * len + 3 ≤ c * (n + 2) + 3 := by
  have h3 : len * n ≤ c * n := Nat.mul_le_mul_right n h2
  rw [Nat.mul_add]
  omega
theorem Sm.tuple {c n k : Nat} {ds : List PyData} (h : ∀ d ∈ ds, Sm n k d) (hc : ds.length ≤ c) : Sm (c * (n + 2) + 3) (k + 1) (.tuple ds) := by
  obtain ⟨h1, h2⟩ := all_shown fun d hd => (h d hd).sz
  refine ⟨?_, ?_, ?_⟩
  · simp only [PyData.showable]
    exact all_showable fun d hd => (h d hd).sh
  · simp only [PyData.depth]
    exact Nat.succ_le_succ (all_depth fun d hd => (h d hd).dp)
  · simp only [PyData.shown]
    refine Nat.le_trans (tupleText_len_le _) ?_
    rw [h2]
    exact seq_size h1 hc
theorem Sm.list {c n k : Nat} {ds : List PyData} (h : ∀ d ∈ ds, Sm n k d) (hc : ds.length ≤ c) : Sm (c * (n + 2) + 3) (k + 1) (.list ds) := by
  obtain ⟨h1, h2⟩ := all_shown fun d hd => (h d hd).sz
  refine ⟨?_, ?_, ?_⟩
  · simp only [PyData.showable]
    exact all_showable fun d hd => (h d hd).sh
  · simp only [PyData.depth]
    exact Nat.succ_le_succ (all_depth fun d hd => (h d hd).dp)
  · simp only [PyData.shown]
    refine Nat.le_trans (listText_len_le _) ?_
    rw [h2]
    exact seq_size h1 hc
theorem log2_lt {n : Nat} (h : n < 10 ^ 12) : n.log2 < 1920 := by
  by_cases z : n = 0
  · subst z; decide
  · exact (Nat.log2_lt z).mpr (Nat.lt_trans h (Nat.lt_of_lt_of_le (by decide : 10 ^ 12 < 2 ^ 40) (Nat.pow_le_pow_right (by decide) (by decide))))
theorem Sm.int {i : Int} (h : i.natAbs < 10 ^ 12) : Sm 13 0 (.int i) := by
  refine ⟨?_, Nat.le_refl _, PyData.shown_int_le h⟩
  simp only [PyData.showable, decide_eq_true_eq]
  exact log2_lt h
theorem Sm.bool (b : Bool) : Sm 5 0 (.bool b) := by cases b <;> exact ⟨rfl, Nat.le_refl _, by decide +kernel⟩
section
variable {K : PySem.W.Frag} {Z : Hp} {p dl al : Addr} {H0 : Hp} {σ : L2.St} {te ta tb : TE} {tl : TA} {R R' : VR} {n k : Nat}
theorem TpR.data {m c : Nat} {G : Hp} {v : V} (h : TpR K m c R v G) (i : ∀ x, R x G → DR K (Sm n k) x G) : DR K (Sm (c * (n + 2) + 3) (k + 1)) v G := by
  obtain ⟨a, xs, rfl, g, h1, h2, h3⟩ := h
  obtain ⟨ds, hd, hp⟩ := all_data fun x hx => i x (h3 x hx)
  exact ⟨_, .tup g hd, Sm.tuple hp (by rw [← hd.len]; exact h2)⟩
theorem LsR.data {m c : Nat} {G : Hp} {v : V} (h : LsR m c R v G) (i : ∀ x, R x G → DR K (Sm n k) x G) : DR K (Sm (c * (n + 2) + 3) (k + 1)) v G := by
  obtain ⟨a, xs, rfl, g, h1, h2, h3⟩ := h
  obtain ⟨ds, hd, hp⟩ := all_data fun x hx => i x (h3 x hx)
  exact ⟨_, .lst (.inl (.inl g)) hd, Sm.list hp (by rw [← hd.len]; exact h2)⟩
theorem DR.wide {n' k' : Nat} {G : Hp} {v : V} (h : DR K (Sm n k) v G) (h1 : n ≤ n') (h2 : k ≤ k') : DR K (Sm n' k') v G := let ⟨d, a, b⟩ := h; ⟨d, a, b.wide h1 h2⟩
theorem ev_wide {n' k' : Nat} (h : Ev Z p dl al H0 σ te (DR K (Sm n k))) (h1 : n ≤ n') (h2 : k ≤ k') : Ev Z p dl al H0 σ te (DR K (Sm n' k')) := h.imp fun v G r => r.wide h1 h2
theorem ev_d {v : V} {d : PyData} (h : ∀ G, Dq K G v d) (s : Sm n k d) : Ev Z p dl al H0 σ (tC v) (DR K (Sm n k)) := ev_c.imp fun u G e => by rw [e]; exact ⟨d, h G, s⟩
theorem ir_data {lo hi : Int} {v : V} {G : Hp} (h : IR lo hi v G) (h1 : -999999999999 ≤ lo) (h2 : hi ≤ 999999999999) : DR K (Sm 13 0) v G := by
  obtain ⟨i, rfl, i1, i2⟩ := h
  exact ⟨_, .int i, Sm.int (by omega)⟩
theorem ev_ir {lo hi : Int} (h : Ev Z p dl al H0 σ te (IR lo hi)) (h1 : -999999999999 ≤ lo) (h2 : hi ≤ 999999999999) : Ev Z p dl al H0 σ te (DR K (Sm 13 0)) := h.imp fun v G r => ir_data r h1 h2
theorem ev_tupD {m c : Nat} (hc : c ≤ 1000) (h : EvA Z p dl al H0 σ tl (AllR m c (DR K (Sm n k)))) : Ev Z p dl al H0 σ (tTup tl) (DR K (Sm (c * (n + 2) + 3) (k + 1))) :=
  (ev_tupR hc DR.mo h).imp fun v G r => r.data fun x z => z
theorem ev_lstD {m c : Nat} (hc : c ≤ 1000) (h : EvA Z p dl al H0 σ tl (AllR m c (DR K (Sm n k)))) : Ev Z p dl al H0 σ (tLst tl) (DR K (Sm (c * (n + 2) + 3) (k + 1))) :=
  (ev_lst hc DR.mo h).imp fun v G r => r.data fun x z => z
theorem ev_dnew : Ev Z p dl al H0 σ tDNewK (DR K (Sm 2 1)) := fun H Q P k q t nt => by
  obtain ⟨P4, k4, e4⟩ := laid (o := .dK []) P nt
  exact q _ _ P4 k4 ⟨_, .dct e4 .nil, ⟨rfl, by decide, by decide +kernel⟩⟩
theorem ev_disp1 {x : Str} {i : Int} {d : PyData} (hd : d = .dict [(.str x, .int i)]) (s : Sm n k d) : Ev Z p dl al H0 σ (tDisp [(tC (.str x), tC (.int i))]) (DR K (Sm n k)) := fun H Q P k q t nt => by
  subst hd
  have e : (upd (upd H t (.dK [])) t (.dK (mergeK [] [((Sum.inr x : L2.Key), V.int i)]))) = upd H t (.dK [(Sum.inr x, V.int i)]) := by rw [upd_upd]; rfl
  refine ⟨upd_same, [(Sum.inr x, V.int i)], rfl, Nat.le_add_left 1 14, ?_⟩
  rw [e]
  obtain ⟨P4, k4, e4⟩ := laid (o := .dK [(Sum.inr x, V.int i)]) P nt
  exact q _ _ P4 k4 ⟨_, .dct (ds := [.int i]) e4 (.cons (.int i) .nil), s⟩
/-- an odd value -/
def sp_odd (K : PySem.W.Frag) : Sp := fun vs H Q _ => ∃ (Z : Hp) (p dl al : Addr), vs = [.ref p] ∧ PotAt Z H p dl al ∧ ∀ (x : V) (H' : Hp), PotAt Z H' p dl al → Kp Z p dl H H' → DR K (Sm 60 3) x (hid Z p dl H') → Q x H'
theorem ev_odd {i : Nat} (e : σ[i]? = some (some (.ref p))) : Ev Z p dl al H0 σ (tCall (sp_odd K) [] E0 (tCons (tVar i) tNil)) (DR K (Sm 60 3)) := fun H Q P k q => ⟨_, e, Z, p, dl, al, rfl, P, fun x H' P' k' r => q x H' P' k' r⟩
def sp_opened (K : PySem.W.Frag) : Sp := fun vs H Q _ => ∃ (a : Addr) (ns : List Int), vs = [.ref a] ∧ SqL K H a (ns.map V.int) ∧ ns.length ≤ 63 ∧ ∀ (p dl al : Addr) (H' : Hp), PotAt (fun _ => none) H' p dl al → Same H H' → Q (.ref p) H'
end
theorem cut_all {xs : List V} (h : xs.length ≤ 64) : cutV xs none (some 64) = xs := by
  unfold cutV
  rw [HT.sIx_none, show HT.sIx xs.length xs.length (some 64) = min 64 xs.length from HT.sIx_nat xs.length xs.length 64, Nat.min_eq_right h, List.drop_zero, Nat.sub_zero, List.take_length]
theorem same_upd2 {H H' : Hp} {q : Addr} {o : HO} (s : Same H H') (n : H q = none) : Same H (upd H' q o) := fun b x e => by
  rw [upd_ne (ne_of_none e n)]
  exact s b x e
theorem yes_if {σ : L2.St} {H : Hp} {A B : Hp → Prop} (h : A H) : tYes σ H (fun b H3 => if b = true then A H3 else B H3) := by
  show if true = true then A H else B H
  rw [if_pos rfl]
  exact h
/-! ### one written number -/
def EI (i : Int) : VR := fun v _ => v = .int i
section
variable {K : PySem.W.Frag} {Z : Hp} {p dl al : Addr} {H0 : Hp} {σ : L2.St} {te ta tb : TE} {tl : TA} {n k : Nat} {a b : Int}
theorem ei_c {i : Int} : Ev Z p dl al H0 σ (tC (.int i)) (EI i) := ev_c
theorem ei_neg (h : Ev Z p dl al H0 σ te (EI a)) : Ev Z p dl al H0 σ (tUn (rU fun i => .int (-i)) te) (EI (-a)) := fun H Q P k q => h H _ P k fun v H1 P1 k1 e => ⟨a, e, q _ _ P1 k1 rfl⟩
theorem ei_add (h1 : Ev Z p dl al H0 σ ta (EI a)) (h2 : Ev Z p dl al H0 σ tb (EI b)) : Ev Z p dl al H0 σ (tOp (rI0 fun i j => .int (i + j)) ta tb) (EI (a + b)) :=
  fun H Q P k q => h1 H _ P k fun x H1 P1 k1 e1 => h2 H1 _ P1 (k.trans k1) fun y H2 P2 k2 e2 => ⟨a, b, e1, e2, q _ _ P2 (k1.trans k2) rfl⟩
theorem ei_mul (hc : CMul a b) (h1 : Ev Z p dl al H0 σ ta (EI a)) (h2 : Ev Z p dl al H0 σ tb (EI b)) : Ev Z p dl al H0 σ (tOp (rI CMul fun i j => .int (i * j)) ta tb) (EI (a * b)) :=
  fun H Q P k q => h1 H _ P k fun x H1 P1 k1 e1 => h2 H1 _ P1 (k.trans k1) fun y H2 P2 k2 e2 => ⟨a, b, e1, e2, hc, q _ _ P2 (k1.trans k2) rfl⟩
theorem ei_pow {i j : Int} (h : CPow i j) : Ev Z p dl al H0 σ (tOp (rI CPow fun i j => .int (i ^ j.toNat)) (tC (.int i)) (tC (.int j))) (EI (i ^ j.toNat)) := fun H Q P k q => ⟨i, j, rfl, rfl, h, q _ _ P (Kp.refl _ _ _) rfl⟩
theorem ei_d (h : Ev Z p dl al H0 σ te (EI a)) (s : Sm n k (.int a)) : Ev Z p dl al H0 σ te (DR K (Sm n k)) := h.imp fun v G e => by rw [e]; exact ⟨_, .int a, s⟩
theorem ei_ir (h : Ev Z p dl al H0 σ te (EI a)) : Ev Z p dl al H0 σ te (IR a a) := h.imp fun v G e => ⟨a, e, Int.le_refl _, Int.le_refl _⟩
end
instance {i j : Int} : Decidable (CPow i j) := by unfold CPow; infer_instance
instance {i j : Int} : Decidable (CMul i j) := by unfold CMul; infer_instance
theorem sm_chk {n k : Nat} {d : PyData} (h : (d.showable && decide (d.depth ≤ k) && decide (d.shown.length ≤ n)) = true) : Sm n k d := by
  simp only [Bool.and_eq_true, decide_eq_true_eq] at h
  exact ⟨h.1.1, h.1.2, h.2⟩
/-! ### a statement and what follows it -/
section
variable {D : Ends} {σ : L2.St} {H : Hp} {te : TE} {ta : TA} {t u v : TS} {c : TT} {i j : Nat}
theorem s_set (h : te σ H fun x H1 => u D (σ.set i (some x)) H1) : tSeq (tAsg te (gName i)) u D σ H := h
theorem s_set1 (h : te σ H fun x H1 => D.nx (σ.set i (some x)) H1) : tAsg te (gName i) D σ H := h
theorem s_par (h : ta σ H fun vs H1 => ∃ v w, vs = [v, w] ∧ u D ((σ.set i (some v)).set j (some w)) H1) : tSeq (tPar i j ta) u D σ H := h
theorem s_expr (h : te σ H fun _ H1 => u D σ H1) : tSeq (tDrop te) u D σ H := h
theorem s_expr1 (h : te σ H fun _ H1 => D.nx σ H1) : tDrop te D σ H := h
theorem s_if (h : c σ H fun b H1 => if b = true then t { D with nx := u D } σ H1 else v { D with nx := u D } σ H1) : tSeq (tIfS c t v) u D σ H := h
theorem s_if1 (h : c σ H fun b H1 => if b = true then t D σ H1 else v D σ H1) : tIfS c t v D σ H := h
theorem s_ret (h : te σ H D.rt) : tRet te D σ H := h
theorem s_next (h : D.nx σ H) : tNext D σ H := h
end
section
variable {K : PySem.W.Frag} {Z : Hp} {p dl al : Addr} {H0 : Hp} {σ : L2.St} {te ta tb : TE} {tl : TA} {R R' R1 R2 : VR} {n k : Nat}
theorem ev_tpD {m c N : Nat} (h : Ev Z p dl al H0 σ te (TpR K m c (DR K (Sm n k)))) (hN : c * (n + 2) + 3 ≤ N) : Ev Z p dl al H0 σ te (DR K (Sm N (k + 1))) := h.imp fun v G r => (r.data fun x z => z).wide hN (Nat.le_refl _)
theorem ev_lsD {m c N : Nat} (h : Ev Z p dl al H0 σ te (LsR m c (DR K (Sm n k)))) (hN : c * (n + 2) + 3 ≤ N) : Ev Z p dl al H0 σ te (DR K (Sm N (k + 1))) := h.imp fun v G r => (r.data fun x z => z).wide hN (Nat.le_refl _)
theorem ev_len {m c : Nat} (h : Ev Z p dl al H0 σ te (TpR K m c R)) : Ev Z p dl al H0 σ (tCB (fun xs H Q => ∃ p ys, xs = [.ref p] ∧ (SqL K H p ys ∨ SqT K H p ys) ∧ Q (.int ys.length) H) (tCons te tNil)) (IR m c) :=
  fun H Q P k q => h H _ P k fun v H1 P1 k1 ⟨a, xs, e, g, h1, h2, _⟩ => ⟨a, xs, by rw [e], .inr (Same.seqT (hid_same _ _ _) g), q _ _ P1 k1 ⟨_, rfl, by omega, by omega⟩⟩
theorem ev_lenL {m c : Nat} (h : Ev Z p dl al H0 σ te (LsR m c R)) : Ev Z p dl al H0 σ (tCB (fun xs H Q => ∃ p ys, xs = [.ref p] ∧ (SqL K H p ys ∨ SqT K H p ys) ∧ Q (.int ys.length) H) (tCons te tNil)) (IR m c) :=
  fun H Q P k q => h H _ P k fun v H1 P1 k1 ⟨a, xs, e, g, h1, h2, _⟩ => ⟨a, xs, by rw [e], .inl (.inl (.inl (hid_same _ _ _ _ _ g))), q _ _ P1 k1 ⟨_, rfl, by omega, by omega⟩⟩
theorem ev_listOf {m c : Nat} (hm : Mo R) (h : Ev Z p dl al H0 σ te (TpR K m c R)) : Ev Z p dl al H0 σ (tCB (fun xs H Q => ∃ p ys, xs = [.ref p] ∧ (SqL K H p ys ∨ SqT K H p ys) ∧ ∀ l, H l = none → Q (.ref l) (upd H l (.lst ys))) (tCons te tNil)) (LsR m c R) :=
  fun H Q P k q => h H _ P k fun v H1 P1 k1 ⟨a, xs, e, g, h1, h2, h3⟩ => ⟨a, xs, by rw [e], .inr (Same.seqT (hid_same _ _ _) g), fun t nt => by
    obtain ⟨P4, k4, e4⟩ := laid (o := .lst xs) P1 nt
    exact q _ _ P4 (k1.trans k4) ⟨t, xs, rfl, e4, h1, h2, fun x hx => hm _ _ _ k4 (h3 x hx)⟩⟩
theorem ev_tupleOf {m c : Nat} (hm : Mo R) (h : Ev Z p dl al H0 σ te (LsR m c R)) : Ev Z p dl al H0 σ (tCB (fun xs H Q => ∃ p ys, xs = [.ref p] ∧ ((SqL K H p ys ∧ ∀ l, H l = none → Q (.ref l) (upd H l (.tup ys))) ∨ (SqT K H p ys ∧ Q (.ref p) H))) (tCons te tNil)) (TpR K m c R) :=
  fun H Q P k q => h H _ P k fun v H1 P1 k1 ⟨a, xs, e, g, h1, h2, h3⟩ => ⟨a, xs, by rw [e], .inl ⟨.inl (.inl (hid_same _ _ _ _ _ g)), fun t nt => by
    obtain ⟨P4, k4, e4⟩ := laid (o := .tup xs) P1 nt
    exact q _ _ P4 (k1.trans k4) ⟨t, xs, rfl, .inl (.inl e4), h1, h2, fun x hx => hm _ _ _ k4 (h3 x hx)⟩⟩⟩
theorem ev_pair (m1 : Mo R1) (m2 : Mo R2) (h1 : Ev Z p dl al H0 σ ta R1) (h2 : Ev Z p dl al H0 σ tb R2) : EvA Z p dl al H0 σ (tCons ta (tCons tb tNil)) (fun vs G => ∃ v w, vs = [v, w] ∧ R1 v G ∧ R2 w G) :=
  (eva_cons m1 h1 (eva_cons m2 h2 eva_nil)).imp fun vs G ⟨v, r, e, r1, w, r', e', r2, e2⟩ => ⟨v, w, by rw [e, e', e2], r1, r2⟩
theorem ev_i1 {v : V} {i : Nat} {lo hi : Int} (e : σ[i]? = some (some v)) (h : IR lo hi v (hid Z p dl H0)) : Ev Z p dl al H0 σ (tVar i) (IR lo hi) := ev_var e IR.mo h
/-- a bent tuple -/
def sp_bent (K : PySem.W.Frag) (c n k N : Nat) : Sp := fun vs H Q _ => ∃ (Z : Hp) (p dl al : Addr) (v : V), vs = [.ref p, v] ∧ PotAt Z H p dl al ∧ TpR K 0 c (DR K (Sm n k)) v (hid Z p dl H) ∧
  ∀ (x : V) (H' : Hp), PotAt Z H' p dl al → Kp Z p dl H H' → DR K (Sm N (k + 1)) x (hid Z p dl H') → Q x H'
theorem ev_bent {i c N : Nat} (e : σ[i]? = some (some (.ref p))) (h : Ev Z p dl al H0 σ te (TpR K 0 c (DR K (Sm n k)))) : Ev Z p dl al H0 σ (tCall (sp_bent K c n k N) [] E0 (tCons (tVar i) (tCons te tNil))) (DR K (Sm N (k + 1))) :=
  fun H Q P k q => ⟨_, e, h H _ P k fun v H1 P1 k1 r1 => ⟨Z, p, dl, al, v, rfl, P1, r1, fun x H' P' k' r => q x H' P' (k1.trans k') r⟩⟩
end
/-! ### isinstance of data -/
def tyN : PyData → String
  | .none => "NoneType"
  | .bool _ => "bool"
  | .int _ => "int"
  | .str _ => "str"
  | .list _ => "list"
  | .tuple _ => "tuple"
  | .dict _ => "dict"
theorem Dq.ty {K : PySem.W.Frag} {H : Hp} {v : V} {d : PyData} (h : Dq K H v d) : TyX K H v (.type (tyN d)) := by
  cases h with
  | non => exact .base .non
  | bl b => exact .base (.bl b)
  | int i => exact .base (.int i)
  | str x => exact .base (.str x)
  | lst hs _ =>
    rcases hs with (h | ⟨o, h⟩) | ⟨o, its, n, hk, hc, _⟩
    · exact .base (.lst h)
    · exact .base (.frz h)
    · exact .kList hk hc
  | tup hs _ =>
    rcases hs with (h | ⟨o, h⟩) | ⟨o, its, n, hk, hc, _⟩
    · exact .base (.tup h)
    · exact .fTuple h
    · exact .kTuple hk hc
  | dct hs _ => exact .base (.dK hs)
def isI : PyData → Bool | .int _ => true | .bool _ => true | _ => false
def isB : PyData → Bool | .bool _ => true | _ => false
def isT : PyData → Bool | .tuple _ => true | _ => false
def isS : PyData → Bool | .str _ => true | _ => false
theorem kit_i (d : PyData) : kitB (tyN d) "int" = some (isI d) := by cases d <;> simp only [tyN, isI] <;> decide +kernel
theorem kit_b (d : PyData) : kitB (tyN d) "bool" = some (isB d) := by cases d <;> simp only [tyN, isB] <;> decide +kernel
theorem kit_t (d : PyData) : kitB (tyN d) "tuple" = some (isT d) := by cases d <;> simp only [tyN, isT] <;> decide +kernel
theorem kit_s (d : PyData) : kitB (tyN d) "str" = some (isS d) := by cases d <;> simp only [tyN, isS] <;> decide +kernel
theorem isi_d {K : PySem.W.Frag} {H : Hp} {v : V} {d : PyData} {Tn : String} {b : Bool} {Q : VK} (h : Dq K H v d) (hb : kitB (tyN d) Tn = some b) (q : Q (.bl b) H) : rIsi K [v, .ty Tn] H Q :=
  ⟨v, .ty Tn, _, _, b, rfl, .ty Tn, h.ty, kit_ty hb, q⟩
/-- an integer that is no bool -/
def wh : PyData → Bool | .int _ => true | _ => false
theorem wh_eq (d : PyData) : wh d = (isI d && !isB d) := by cases d <;> rfl
def sp_is_whole (K : PySem.W.Frag) : Sp := fun vs H Q _ => ∃ v d, vs = [v] ∧ Dq K H v d ∧ Q (.bl (wh d)) H
/-- so many integers -/
def wt (d : PyData) (m : Int) : Bool := match d with | .tuple ds => decide ((ds.length : Int) = m) && ds.all wh | _ => false
def sp_is_whole_tuple (K : PySem.W.Frag) : Sp := fun vs H Q _ => ∃ v d m, vs = [v, .int m] ∧ Dq K H v d ∧ m ≤ 1000 ∧ ∀ H', Same H H' → Q (.bl (wt d m)) H'
def inW (lo hi : Int) : PyData → Bool | .int i => decide (lo ≤ i) && decide (i ≤ hi) | _ => false
def sp_whole (K : PySem.W.Frag) : Sp := fun vs H Q _ => ∃ v d lo hi, vs = [v, .int lo, .int hi] ∧ Dq K H v d ∧ Q (.bl (inW lo hi d)) H
end Lm

namespace Lm
open PySem PySem.Spec PyProof.Rows L2
/-! ### stretches and logs, as functions of data -/
/-- a stretch that a log may have -/
def stOf : PyData → Option (Int × Int)
  | .tuple [.int a, .int b] => if 0 ≤ a ∧ a < b ∧ b ≤ 2000000000 then some (a, b) else none
  | _ => none
def two (d e : PyData) : PyData := .tuple [d, e]
def logGo : List PyData → Nat → Int → PyData
  | [], _, _ => .none
  | d :: r, i, b => match stOf d with
    | none => two (.int i) (.str "stretch")
    | some (on, off) => if on ≤ b then two (.int i) (.str "order") else logGo r (i + 1) off
def logErr : PyData → PyData
  | .tuple ds => if 60 < ds.length then two .none (.str "log") else logGo ds 0 (-1)
  | _ => two .none (.str "log")
theorem logGo_cons {ds : List PyData} {i : Nat} {b : Int} {d : PyData} (h : ds[i]? = some d) : logGo (ds.drop i) i b = logGo (d :: ds.drop (i + 1)) i b := by
  obtain ⟨hi, e⟩ := List.getElem?_eq_some_iff.mp h
  rw [List.drop_eq_getElem_cons hi, e]
theorem stOf_wt {d : PyData} : (stOf d).isSome = true → ∃ a b, d = .tuple [.int a, .int b] ∧ stOf d = some (a, b) ∧ 0 ≤ a ∧ a < b ∧ b ≤ 2000000000 := by
  unfold stOf
  split
  · rename_i a b
    split
    · rename_i h
      exact fun _ => ⟨a, b, rfl, rfl, h.1, h.2.1, h.2.2⟩
    · intro h; cases h
  · intro h; cases h
theorem sz2 {x y : V} : [x, y].length ≤ sizeLine := Nat.le_of_lt (small1000 (Nat.le_add_left 2 998))
def isN : PyData → Bool | .none => true | _ => false
/-- None, or a new pair of flat things -/
def Flat (K : PySem.W.Frag) (H H' : Hp) (r : V) (e : PyData) : Prop := (r = .non ∧ e = .none) ∨ ∃ t x y dx dy, r = .ref t ∧ H t = none ∧ H' t = some (.tup [x, y]) ∧ e = two dx dy ∧ (∀ G, Dq K G x dx) ∧ (∀ G, Dq K G y dy)
theorem Flat.dq {K : PySem.W.Frag} {H H' : Hp} {r : V} {e : PyData} {Z : Hp} {p dl al : Addr} (h : Flat K H H' r e) (P : PotAt Z H p dl al) : Dq K (hid Z p dl H') r e := by
  rcases h with ⟨rfl, rfl⟩ | ⟨t, x, y, dx, dy, rfl, n, g, rfl, hx, hy⟩
  · exact .non
  · have f := P.free n
    exact .tup (.inl (.inl (by rw [hid_at f.1 f.2]; exact g))) (.cons (hx _) (.cons (hy _) .nil))
def sp_err (K : PySem.W.Frag) (F : PyData → PyData) : Sp := fun vs H Q _ => ∃ v d, vs = [v] ∧ Dq K H v d ∧ ∀ r H', Same H H' → Flat K H H' r (F d) → Q r H'
def sp_is_stretch (K : PySem.W.Frag) : Sp := fun vs H Q _ => ∃ v d, vs = [v] ∧ Dq K H v d ∧ ∀ H', Same H H' → Q (.bl (stOf d).isSome) H'
def sp_bool (K : PySem.W.Frag) (F : PyData → Bool) : Sp := fun vs H Q _ => ∃ v d, vs = [v] ∧ Dq K H v d ∧ ∀ H', Same H H' → Q (.bl (F d)) H'
theorem wt2 {d : PyData} (h : wt d 2 = true) : ∃ a b, d = .tuple [.int a, .int b] := by
  unfold wt at h
  split at h
  · rename_i ds
    simp only [Bool.and_eq_true, decide_eq_true_eq] at h
    obtain ⟨h1, h2⟩ := h
    match ds, h1, h2 with
    | [x, y], _, h2 =>
      simp only [List.all_cons, List.all_nil, Bool.and_true, Bool.and_eq_true] at h2
      cases x <;> cases y <;> first | exact ⟨_, _, rfl⟩ | (simp [wh] at h2)
    | [], h1, _ => exact absurd h1 (by simp)
    | [_], h1, _ => exact absurd h1 (by simp)
    | _ :: _ :: _ :: _, h1, _ => exact absurd h1 (by simp only [List.length_cons]; omega)
  · cases h
theorem wt2_no {d : PyData} (h : wt d 2 = false) : stOf d = none := by
  unfold stOf
  split
  · simp [wt, wh] at h
  · rfl
theorem inW_int {lo hi : Int} {d : PyData} (h : inW lo hi d = true) : ∃ a, d = .int a ∧ lo ≤ a ∧ a ≤ hi := by
  unfold inW at h
  split at h
  · simp only [Bool.and_eq_true, decide_eq_true_eq] at h
    exact ⟨_, rfl, h.1, h.2⟩
  · cases h
theorem stOf_len {ds : List PyData} (h : (ds.length : Int) ≠ 2) : stOf (.tuple ds) = none := by
  unfold stOf
  split
  · rename_i e
    cases e
    exact absurd rfl h
  · rfl
theorem stOf_out {ds : List PyData} (h : ds.all (inW 0 2000000000) = false) : stOf (.tuple ds) = none := by
  cases e : stOf (.tuple ds) with
  | none => rfl
  | some ab =>
    obtain ⟨a, b, e1, _, h1, h2, h3⟩ := stOf_wt (d := .tuple ds) (by rw [e]; rfl)
    cases e1
    have g : (List.all [PyData.int a, PyData.int b] (inW 0 2000000000)) = true := by
      simp only [List.all_cons, List.all_nil, Bool.and_true, inW, Bool.and_eq_true, decide_eq_true_eq]
      omega
    rw [g] at h
    cases h
theorem stOf_in {a b : Int} (h1 : 0 ≤ a) (h2 : b ≤ 2000000000) : (stOf (.tuple [.int a, .int b])).isSome = decide (a < b) := by
  show (if 0 ≤ a ∧ a < b ∧ b ≤ 2000000000 then some (a, b) else none).isSome = _
  by_cases h : a < b
  · rw [if_pos ⟨h1, h, h2⟩, decide_eq_true h]
    rfl
  · rw [if_neg fun z => h z.2.1, decide_eq_false h]
    rfl
/-! ### pairs of numbers; a log that grows -/
def PrAt (G : Hp) : V → Int × Int → Prop := fun v q => ∃ t, v = .ref t ∧ G t = some (.tup [.int q.1, .int q.2])
abbrev Prs (G : Hp) : List V → List (Int × Int) → Prop := PySem.Paired (PrAt G)
def TupKeep (G G' : Hp) : Prop := ∀ t ys, G t = some (.tup ys) → G' t = some (.tup ys)
theorem TupKeep.of {G G' : Hp} (s : Same G G') : TupKeep G G' := fun t ys e => s _ _ e
theorem Prs.keep {G G' : Hp} (s : TupKeep G G') {xs : List V} {ps : List (Int × Int)} (h : Prs G xs ps) : Prs G' xs ps := Paired.mapP h fun a b ⟨t, e, g⟩ => ⟨t, e, s _ _ g⟩
theorem Prs.app {G : Hp} : ∀ {xs ys : List V} {ps qs : List (Int × Int)}, Prs G xs ps → Prs G ys qs → Prs G (xs ++ ys) (ps ++ qs)
  | _, _, _, _, .nil, s => s
  | _, _, _, _, .cons r t, s => .cons r (Prs.app t s)
theorem Prs.get {G : Hp} : ∀ {xs : List V} {ps : List (Int × Int)} {i : Nat} {v : V}, Prs G xs ps → xs[i]? = some v → ∃ q, ps[i]? = some q ∧ PrAt G v q
  | _, _, _, _, .nil, e => by simp at e
  | _, _, 0, _, .cons r _, e => by simp at e; subst e; exact ⟨_, rfl, r⟩
  | _, _, i + 1, v, .cons _ t, e => by
    obtain ⟨u, h1, h2⟩ := Prs.get (i := i) (v := v) t (by simpa using e)
    exact ⟨u, by simpa using h1, h2⟩
/-- it grows from b on -/
def LogUp (b : Int) : List (Int × Int) → Prop
  | [] => True
  | q :: r => b < q.1 ∧ q.1 < q.2 ∧ LogUp q.2 r
def fin (b : Int) : List (Int × Int) → Int
  | [] => b
  | q :: r => fin q.2 r
def LogOk (b : Int) (ps : List (Int × Int)) : Prop := LogUp b ps ∧ ∀ q ∈ ps, q.2 ≤ 2000000000
theorem LogUp.app : ∀ {b : Int} {ps : List (Int × Int)} {q : Int × Int}, LogUp b ps → fin b ps < q.1 → q.1 < q.2 → LogUp b (ps ++ [q]) ∧ fin b (ps ++ [q]) = q.2
  | b, [], q, _, h1, h2 => ⟨⟨h1, h2, trivial⟩, rfl⟩
  | b, x :: r, q, h, h1, h2 => by
    obtain ⟨a1, a2, a3⟩ := h
    obtain ⟨c1, c2⟩ := LogUp.app (q := q) a3 h1 h2
    exact ⟨⟨a1, a2, c1⟩, c2⟩
theorem LogUp.less : ∀ {b c : Int} {ps : List (Int × Int)}, c ≤ b → LogUp b ps → LogUp c ps
  | _, _, [], _, _ => trivial
  | b, c, q :: r, h, ⟨a1, a2, a3⟩ => ⟨by omega, a2, a3⟩
theorem LogUp.filt : ∀ {b : Int} {ps : List (Int × Int)}, LogUp b ps → LogUp b (ps.filter fun q => decide (q.2 ≤ 2000000000))
  | _, [], _ => trivial
  | b, q :: r, ⟨a1, a2, a3⟩ => by
    have ih := LogUp.filt a3
    rw [List.filter_cons]
    split
    · exact ⟨a1, a2, ih⟩
    · exact LogUp.less (by omega) ih
theorem LogUp.bound : ∀ {b : Int} {ps : List (Int × Int)}, LogUp b ps → ∀ q ∈ ps, b < q.1 ∧ q.1 < q.2
  | _, [], _, q, h => nomatch h
  | b, x :: r, ⟨a1, a2, a3⟩, q, h => by
    rcases List.mem_cons.mp h with e | e
    · rw [e]; exact ⟨a1, a2⟩
    · have := LogUp.bound a3 q e
      exact ⟨by omega, this.2⟩
/-- a tuple of such pairs -/
def PairsR (K : PySem.W.Frag) (ps : List (Int × Int)) : VR := fun v G => ∃ a xs, v = .ref a ∧ G a = some (.tup xs) ∧ Prs G xs ps
theorem PairsR.mo {K : PySem.W.Frag} {ps : List (Int × Int)} : Mo (PairsR K ps) := fun v G G' s ⟨a, xs, e, g, r⟩ => ⟨a, xs, e, s _ _ g, r.keep (.of s)⟩
def LogR (K : PySem.W.Frag) (n : Nat) : VR := fun v G => ∃ ps, PairsR K ps v G ∧ ps.length ≤ n ∧ LogOk (-1) ps
theorem LogR.mo {K : PySem.W.Frag} {n : Nat} : Mo (LogR K n) := fun v G G' s ⟨ps, h, r⟩ => ⟨ps, PairsR.mo _ _ _ s h, r⟩
def pD (q : Int × Int) : PyData := two (.int q.1) (.int q.2)
theorem Prs.dqs {K : PySem.W.Frag} {G : Hp} : ∀ {xs : List V} {ps : List (Int × Int)}, Prs G xs ps → Dqs K G xs (ps.map pD)
  | _, _, .nil => .nil
  | _, _, .cons ⟨t, e, g⟩ r => by
    subst e
    exact .cons (.tup (.inl (.inl g)) (.cons (.int _) (.cons (.int _) .nil))) (Prs.dqs r)
theorem Prs.dp {K : PySem.W.Frag} {G : Hp} : ∀ {xs : List V} {ps : List (Int × Int)}, Prs G xs ps → DpAll K G xs (ps.map pD)
  | _, _, .nil => .nil
  | _, _, .cons ⟨t, e, g⟩ r => by
    subst e
    exact .cons (.tup (.inl (.inl g)) (.cons (.int _) (.cons (.int _) .nil))) (Prs.dp r)
theorem Prs.len {G : Hp} {xs : List V} {ps : List (Int × Int)} (h : Prs G xs ps) : xs.length = ps.length := Paired.length h
theorem pD_sm {q : Int × Int} (h1 : q.1.natAbs < 10 ^ 12) (h2 : q.2.natAbs < 10 ^ 12) : Sm 33 1 (pD q) := Sm.tuple (c := 2) (n := 13) (k := 0) (ds := [.int q.1, .int q.2]) (fun d hd => by
    rcases List.mem_cons.mp hd with e | e
    · rw [e]; exact Sm.int h1
    · rw [List.mem_singleton.mp e]; exact Sm.int h2) (Nat.le_refl 2)
theorem LogR.tp {K : PySem.W.Frag} {n : Nat} {v : V} {G : Hp} (h : LogR K n v G) : TpR K 0 n (TpR K 0 2 (DR K (Sm 13 0))) v G := by
  obtain ⟨ps, ⟨a, xs, rfl, g, pr⟩, hl, hu, hb⟩ := h
  refine ⟨a, xs, rfl, .inl (.inl g), Nat.zero_le _, by rw [pr.len]; exact hl, fun x hx => ?_⟩
  obtain ⟨i, hi⟩ := List.getElem?_of_mem hx
  obtain ⟨q, hq, t, rfl, gt⟩ := pr.get hi
  have hm := List.mem_of_getElem? hq
  have b1 := hu.bound q hm
  have b2 := hb q hm
  refine ⟨t, _, rfl, .inl (.inl gt), Nat.zero_le _, Nat.le_refl 2, fun y hy => ?_⟩
  rcases List.mem_cons.mp hy with e | e
  · rw [e]; exact ⟨_, .int _, Sm.int (by omega)⟩
  · rw [List.mem_singleton.mp e]; exact ⟨_, .int _, Sm.int (by omega)⟩
theorem LogR.tpD {K : PySem.W.Frag} {n : Nat} {v : V} {G : Hp} (h : LogR K n v G) : TpR K 0 n (DR K (Sm 60 3)) v G := by
  obtain ⟨a, xs, e, g, h1, h2, h3⟩ := h.tp
  exact ⟨a, xs, e, g, h1, h2, fun x hx => ((h3 x hx).data fun y hy => hy).wide (by decide) (by decide)⟩
def sp_log (K : PySem.W.Frag) : Sp := fun vs H Q _ => ∃ (Z : Hp) (p dl al : Addr) (u g : Int), vs = [.ref p, .int u, .int g] ∧ PotAt Z H p dl al ∧ 0 ≤ u ∧ u ≤ 60 ∧ 1 ≤ g ∧ g ≤ 10000000 ∧
  ∀ (x : V) (H' : Hp), PotAt Z H' p dl al → Kp Z p dl H H' → LogR K u.toNat x (hid Z p dl H') → Q x H'
theorem Kp.upd_new {Z : Hp} {p dl f : Addr} {H H1 : Hp} {o : HO} (P : ∀ b, H b ≠ none → b ≠ f) (k : Kp Z p dl H H1) : Kp Z p dl H (upd H1 f o) := fun b u e => by
  have n := hid_some e
  have e1 := k b u e
  rw [hid_at n.1 n.2] at e1 ⊢
  rw [upd_ne]
  · exact e1
  · refine P b ?_
    rw [hid_at n.1 n.2] at e
    rw [e]
    exact fun z => nomatch z
theorem ne_of_new {H : Hp} {f : Addr} (n : H f = none) : ∀ b, H b ≠ none → b ≠ f := fun b h e => h (by rw [e]; exact n)
theorem hid_get {Z : Hp} {p dl b : Addr} {H : Hp} {o : HO} (h1 : b ≠ p) (h2 : b ≠ dl ∧ Z b = none) (h : H b = some o) : hid Z p dl H b = some o := by rw [hid_at h1 h2]; exact h
theorem PotAt.upd {H : Hp} {Z : Hp} {p dl al f : Addr} {o : HO} (h : PotAt Z H p dl al) (h1 : f ≠ p) (h2 : f ≠ dl) (h3 : f ≠ al) (h4 : Z f = none) : PotAt Z (upd H f o) p dl al :=
  ⟨let ⟨t, e⟩ := h.ob; ⟨t, by rw [upd_ne h1.symm]; exact e⟩, let ⟨ns, e, l⟩ := h.de; ⟨ns, by rw [upd_ne h2.symm]; exact e, l⟩, let ⟨ns, e, l⟩ := h.li; ⟨ns, by rw [upd_ne h3.symm]; exact e, l⟩, h.ne, zz_upd h.zz h4, h.zp, h.zd⟩
theorem PotAt.freeA {H : Hp} {Z : Hp} {p dl al q : Addr} (h : PotAt Z H p dl al) (n : H q = none) : q ≠ al := by
  obtain ⟨ns, e2, _⟩ := h.li
  exact (ne_of_none e2 n).symm
end Lm

namespace Lm
open PySem PySem.Spec PyProof.Rows L2
section
variable {K : PySem.W.Frag} {Z : Hp} {p dl al : Addr} {H0 : Hp} {σ : L2.St} {g : Int}
theorem ev_gvar {i : Nat} (e : σ[i]? = some (some (.int g))) (h0 : 1 ≤ g) (h1 : g ≤ 10000000) : Ev Z p dl al H0 σ (tVar i) (IR 1 10000000) := ev_var e IR.mo ⟨g, rfl, h0, h1⟩
theorem ev_size (e0 : σ[0]? = some (some (.ref p))) (e2 : σ[2]? = some (some (.int g))) (h0 : 1 ≤ g) (h1 : g ≤ 10000000) :
    Ev Z p dl al H0 σ (tCall sp_one [] E0 (tCons (tVar 0) (tCons (tLst (tCons (tC (.int 1)) (tCons (tC (.int 2)) (tCons (tOp (rI0 fun i j => .int (i + j)) (tC (.int 1)) (tCall sp_draw [] E0 (tCons (tVar 0) (tCons (tC (.int 20)) tNil))))
      (tCons (tOp (rI0 fun i j => .int (i + j)) (tC (.int 1)) (tCall sp_draw [] E0 (tCons (tVar 0) (tCons (tVar 2) tNil)))) tNil))))) tNil))) (IR 1 10000000) :=
  ev_one (m := 3) (n := 4) e0 (by decide) IR.mo (ev_lst (by decide) IR.mo (eall_cons IR.mo (ev_int.wide (by decide) (by decide)) (eall_cons IR.mo (ev_int.wide (by decide) (by decide))
    (eall_cons IR.mo ((ev_add ev_int (ev_draw (b := 20) e0 (by decide) (ev_int.wide (by decide) (by decide)))).wide (by decide) (by decide))
      (eall_cons IR.mo ((ev_add ev_int (ev_draw (b := 10000000) e0 (by decide) (ev_gvar e2 h0 h1))).wide (by decide) (by decide)) eall_nil)))))
theorem ev_upto {u : Int} (e0 : σ[0]? = some (some (.ref p))) (e1 : σ[1]? = some (some (.int u))) (h0 : 0 ≤ u) (h1 : u ≤ 60) :
    Ev Z p dl al H0 σ (tCall sp_draw [] E0 (tCons (tVar 0) (tCons (tOp (rI0 fun i j => .int (i + j)) (tVar 1) (tC (.int 1))) tNil))) (IR 0 u) :=
  (ev_draw (b := u + 1) e0 (by omega) ((ev_add (ev_var (R := IR 0 u) e1 IR.mo ⟨u, rfl, h0, Int.le_refl _⟩) ev_int).wide (by omega) (by omega))).wide (by omega) (by omega)
theorem ev_start (e0 : σ[0]? = some (some (.ref p))) (e2 : σ[2]? = some (some (.int g))) (h0 : 1 ≤ g) (h1 : g ≤ 10000000) :
    Ev Z p dl al H0 σ (tCall sp_one [] E0 (tCons (tVar 0) (tCons (tLst (tCons (tC (.int 0)) (tCons (tC (.int 1)) (tCons (tCall sp_draw [] E0 (tCons (tVar 0) (tCons (tVar 2) tNil))) tNil)))) tNil))) (IR 0 10000000) :=
  ev_one (m := 2) (n := 3) e0 (by decide) IR.mo (ev_lst (by decide) IR.mo (eall_cons IR.mo (ev_int.wide (by decide) (by decide)) (eall_cons IR.mo (ev_int.wide (by decide) (by decide))
    (eall_cons IR.mo ((ev_draw (b := 10000000) e0 (by decide) (ev_gvar e2 h0 h1)).wide (by decide) (by decide)) eall_nil))))
end
theorem s_ifn {D : Ends} {σ : L2.St} {H : Hp} {c : TT} {t u : TS} (h : c σ H fun b H1 => if b = true then t { D with nx := u D } σ H1 else u D σ H1) : tSeq (tIfS c t tNext) u D σ H := h
theorem s_asg {D : Ends} {σ : L2.St} {H : Hp} {te : TE} {g : TG} {u : TS} (h : te σ H fun x H1 => g x σ H1 (u D)) : tSeq (tAsg te g) u D σ H := h
theorem two_of {xs : List V} (h1 : 2 ≤ xs.length) (h2 : xs.length ≤ 2) : ∃ x y, xs = [x, y] := by
  match xs, h1, h2 with
  | [x, y], _, _ => exact ⟨x, y, rfl⟩
theorem dI {K : PySem.W.Frag} {Z : Hp} {p dl al : Addr} {H0 : Hp} {σ : L2.St} {te : TE} {lo hi : Int} (h : Ev Z p dl al H0 σ te (IR lo hi)) (h1 : -999999999999 ≤ lo) (h2 : hi ≤ 999999999999) : Ev Z p dl al H0 σ te (DR K (Sm 30 1)) :=
  ev_wide (ev_ir h h1 h2) (by decide) (by decide)
theorem ixK {X : Cx} {K : PySem.W.Frag} (h : X.K = K) : IxR X (rIxT K) := h ▸ ix_tup
/-- what a for over range(..) asks -/
def RngGo (g : TG) (tb : TS) (D : Ends) (σ : L2.St) : List V → Hp → Prop := fun vs H1 => ∃ j : Int, vs = [.int j] ∧ -(2 ^ 62) ≤ j ∧ j < 2 ^ 62 ∧ ∃ W : Nat → Nat → L2.St → Hp → Prop, (∃ m, W 0 m σ H1) ∧ ∀ i m σ H, W i m σ H →
  ((Itr 0 j.toNat).stop i H ∧ D.nx σ H) ∨ ((Itr 0 j.toNat).go i H ∧ ∃ N : L2.St → Hp → Prop, (∀ σ' H', N σ' H' → ∃ m', m' < m ∧ W (i + 1) m' σ' H') ∧ ∀ x H', (Itr 0 j.toNat).yld i H x H' → g x σ H' fun σ2 H2 => tb { D with nx := N, ct := N, bk := D.nx } σ2 H2)
theorem s_rng {D : Ends} {σ : L2.St} {H : Hp} {ta : TA} {g : TG} {tb u : TS} (h : ta σ H (RngGo g tb { D with nx := u D } σ)) : tSeq (tFor (iRng1 ta) g tb) u D σ H := h
theorem s_rng1 {D : Ends} {σ : L2.St} {H : Hp} {ta : TA} {g : TG} {tb : TS} (h : ta σ H (RngGo g tb D σ)) : tFor (iRng1 ta) g tb D σ H := h
/-- one more pair at the end of a list that stands apart -/
theorem app_pair {Z : Hp} {p dl al f t : Addr} {H H3 : Hp} {xs : List V} {ps : List (Int × Int)} {a b : Int} (P : PotAt Z H p dl al) (nf : H f = none) (P3 : PotAt Z H3 p dl al) (k3 : Kp Z p dl H H3)
    (hf : H3 f = some (.lst xs)) (hp : Prs (hid Z p dl H3) xs ps) (nt : H3 t = none) :
    let H4 := upd (upd H3 t (.tup [.int a, .int b])) f (.lst (xs ++ [.ref t]))
    PotAt Z H4 p dl al ∧ Kp Z p dl H H4 ∧ H4 f = some (.lst (xs ++ [.ref t])) ∧ Prs (hid Z p dl H4) (xs ++ [.ref t]) (ps ++ [(a, b)]) := by
  intro H4
  have f1 := P.free nf
  have f2 := P.freeA nf
  have t1 := P3.free nt
  have tf : t ≠ f := fun e => by rw [← e, nt] at hf; cases hf
  refine ⟨(P3.new nt).upd f1.1 f1.2.1 f2 f1.2.2, Kp.upd_new (ne_of_new nf) (k3.trans (Kp.new nt)), upd_same, ?_⟩
  have tk : TupKeep (hid Z p dl H3) (hid Z p dl H4) := fun c ys e => by
    have n := hid_some e
    rw [hid_at n.1 n.2] at e ⊢
    have cf : c ≠ f := fun z => by rw [z, hf] at e; cases e
    have ct : c ≠ t := fun z => by rw [z, nt] at e; cases e
    show upd (upd H3 t _) f _ c = _
    rw [upd_ne cf, upd_ne ct]
    exact e
  refine Prs.app (hp.keep tk) (.cons ⟨t, rfl, ?_⟩ .nil)
  rw [hid_at t1.1 t1.2]
  show upd (upd H3 t _) f _ t = _
  rw [upd_ne tf, upd_same]
theorem atI_in {α : Type} {xs : List α} {i : Int} (h1 : -(xs.length : Int) ≤ i) (h2 : i < xs.length) : ∃ v, v ∈ xs ∧ atI xs i = some v := by
  unfold atI ixN
  by_cases h0 : 0 ≤ i
  · rw [if_pos h0, if_pos h2]
    have lt : i.toNat < xs.length := by omega
    exact ⟨xs[i.toNat], List.getElem_mem lt, List.getElem?_eq_getElem lt⟩
  · rw [if_neg h0, if_pos h1]
    have lt : (i + xs.length).toNat < xs.length := by omega
    exact ⟨xs[(i + xs.length).toNat], List.getElem_mem lt, List.getElem?_eq_getElem lt⟩
section
variable {K : PySem.W.Frag} {Z : Hp} {p dl al : Addr} {H0 : Hp} {σ : L2.St} {te ti : TE} {R : VR}
theorem ev_ixT {m c : Nat} {lo up : Int} (hm : Mo R) (h : Ev Z p dl al H0 σ te (TpR K m c R)) (hi : Ev Z p dl al H0 σ ti (IR lo up)) (h1 : -(m : Int) ≤ lo) (h2 : up < (m : Int)) : Ev Z p dl al H0 σ (tOp (rIxT K) te ti) R :=
  fun H Q P k q => h H _ P k fun x H1 P1 k1 r1 => hi H1 _ P1 (k.trans k1) fun y H2 P2 k2 ⟨i, e, i1, i2⟩ => by
    obtain ⟨a, xs, rfl, g, l1, l2, l3⟩ := TpR.mo hm _ _ _ k2 r1
    obtain ⟨v, hv, ev⟩ := atI_in (xs := xs) (i := i) (by omega) (by omega)
    exact ⟨a, xs, i, v, rfl, e, Same.seqT (hid_same _ _ _) g, ev, q _ _ P2 (k1.trans k2) (l3 v hv)⟩
end
theorem PairsR.tpI {K : PySem.W.Frag} {ps : List (Int × Int)} {v : V} {G : Hp} (h : PairsR K ps v G) (o : LogOk (-1) ps) : TpR K ps.length ps.length (TpR K 2 2 (IR 0 2000000000)) v G := by
  obtain ⟨a, xs, rfl, g, pr⟩ := h
  obtain ⟨hu, hb⟩ := o
  refine ⟨a, xs, rfl, .inl (.inl g), by rw [pr.len]; exact Nat.le_refl _, by rw [pr.len]; exact Nat.le_refl _, fun x hx => ?_⟩
  obtain ⟨i, hi⟩ := List.getElem?_of_mem hx
  obtain ⟨q, hq, t, rfl, gt⟩ := pr.get hi
  have hm := List.mem_of_getElem? hq
  have b1 := hu.bound q hm
  have b2 := hb q hm
  refine ⟨t, _, rfl, .inl (.inl gt), Nat.le_refl 2, Nat.le_refl 2, fun y hy => ?_⟩
  rcases List.mem_cons.mp hy with e | e
  · exact ⟨_, e, by omega, by omega⟩
  · exact ⟨_, List.mem_singleton.mp e, by omega, by omega⟩
theorem LogR.tpI {K : PySem.W.Frag} {n : Nat} {v : V} {G : Hp} (h : LogR K n v G) : ∃ L : Nat, L ≤ n ∧ TpR K L L (TpR K 2 2 (IR 0 2000000000)) v G :=
  let ⟨ps, hp, hl, ho⟩ := h
  ⟨ps.length, hl, hp.tpI ho⟩
theorem pair_data {K : PySem.W.Frag} {v : V} {G : Hp} (h : TpR K 2 2 (IR 0 2000000000) v G) : DR K (Sm 33 1) v G := h.data (n := 13) (k := 0) fun x hx => ir_data hx (by decide) (by decide)
theorem TpR.weak {K : PySem.W.Frag} {m c m' c' : Nat} {R R' : VR} {v : V} {G : Hp} (h : TpR K m c R v G) (h1 : m' ≤ m) (h2 : c ≤ c') (i : ∀ x, R x G → R' x G) : TpR K m' c' R' v G := by
  obtain ⟨a, xs, e, g, l1, l2, l3⟩ := h
  exact ⟨a, xs, e, g, Nat.le_trans h1 l1, Nat.le_trans l2 h2, fun x hx => i x (l3 x hx)⟩
theorem pD_lay : ∀ ps : List (Int × Int), PyData.canLayAll0 (ps.map pD) = true
  | [] => by simp [PyData.canLayAll0]
  | q :: r => by
    simp only [List.map_cons, PyData.canLayAll0, pD_lay r, Bool.and_true]
    simp [pD, two, PyData.canLay0, PyData.canLayAll0]
theorem pD_depth : ∀ ps : List (Int × Int), PyData.depthAll (ps.map pD) ≤ 1
  | [] => by simp [PyData.depthAll]
  | q :: r => by
    simp only [List.map_cons, PyData.depthAll]
    refine Nat.max_le.mpr ⟨?_, pD_depth r⟩
    simp [pD, two, PyData.depth, PyData.depthAll]
theorem pD_shaped (ps : List (Int × Int)) : SeqAt.shaped (.tuple (ps.map pD)) = true := by
  unfold SeqAt.shaped
  simp only [PyData.canLay0, pD_lay, PyData.depth, Bool.true_and]
  exact decide_eq_true (Nat.le_trans (Nat.succ_le_succ (pD_depth ps)) (show 2 ≤ 64 by decide))
theorem pD_eqv (ps : List (Int × Int)) : PyData.eqv (.tuple (ps.map pD)) (.tuple []) = ps.isEmpty := by
  cases ps <;> simp [PyData.eqv, PyData.eqvAll]
def sp_spoilt (K : PySem.W.Frag) : Sp := fun vs H Q _ => ∃ (Z : Hp) (p dl al : Addr) (v : V), vs = [.ref p, v] ∧ PotAt Z H p dl al ∧ LogR K 60 v (hid Z p dl H) ∧
  ∀ (x : V) (H' : Hp), PotAt Z H' p dl al → Kp Z p dl H H' → DR K (Sm 53122 5) x (hid Z p dl H') → Q x H'
end Lm

namespace Lm
open PySem PySem.Spec PyProof.Rows L2
/-! ### a list that grows while the pot is used -/
section
variable {Z H H' : Hp} {p dl al D : Addr} {o o' o2 : HO}
theorem PotAt.hide (P : PotAt Z H p dl al) (e : H D = some o) (h1 : D ≠ p) (h2 : D ≠ dl) : PotAt (L2.upd Z D o) H p dl al :=
  ⟨P.ob, P.de, P.li, P.ne, fun b x z => by
    by_cases q : b = D
    · rw [q, upd_same] at z
      rw [q, e]; exact z
    · rw [upd_ne q] at z
      exact P.zz b x z, by rw [upd_ne h1.symm]; exact P.zp, by rw [upd_ne h2.symm]; exact P.zd⟩
theorem PotAt.bare (P : PotAt (L2.upd Z D o) H p dl al) (n : Z D = none) : PotAt Z H p dl al := by
  have hp : D ≠ p := fun e => by have := P.zp; rw [← e, upd_same] at this; cases this
  have hd : D ≠ dl := fun e => by have := P.zd; rw [← e, upd_same] at this; cases this
  refine ⟨P.ob, P.de, P.li, P.ne, fun b x z => ?_, ?_, ?_⟩
  · have q : b ≠ D := ne_of_none z n
    exact P.zz b x (by rw [upd_ne q]; exact z)
  · have := P.zp; rw [upd_ne hp.symm] at this; exact this
  · have := P.zd; rw [upd_ne hd.symm] at this; exact this
theorem hid_hide : Same (hid (upd Z D o) p dl H) (hid Z p dl H) := fun b x e => by
  have n := hid_some e
  rw [hid_at n.1 n.2] at e
  have q : b ≠ D := fun q => by have := n.2.2; rw [q, upd_same] at this; cases this
  have z := n.2.2
  rw [upd_ne q] at z
  rw [hid_at n.1 ⟨n.2.1, z⟩]
  exact e
theorem hid_swap : Same (hid (upd Z D o) p dl H) (hid (upd Z D o') p dl (upd H D o2)) := fun b x e => by
  have n := hid_some e
  rw [hid_at n.1 n.2] at e
  have q : b ≠ D := fun q => by have := n.2.2; rw [q, upd_same] at this; cases this
  have z := n.2.2
  rw [upd_ne q] at z
  rw [hid_at n.1 ⟨n.2.1, by rw [upd_ne q]; exact z⟩, upd_ne q]
  exact e
theorem hid_new2 (n : H D = none) : Same (hid Z p dl H) (hid (upd Z D o) p dl (upd H D o2)) := fun b x e => by
  have m := hid_some e
  rw [hid_at m.1 m.2] at e
  have q : b ≠ D := ne_of_none e n
  rw [hid_at m.1 ⟨m.2.1, by rw [upd_ne q]; exact m.2.2⟩, upd_ne q]
  exact e
end
theorem ev_lcR {Z : Hp} {p dl al : Addr} {H0 : Hp} {σ : L2.St} {te : TE} {R : VR} {v : Nat} {j : Int} (j0 : 0 ≤ j) (j1 : j ≤ 1000) (hm : Mo R)
    (hT : ∀ (Z' H1 : Hp) (x : V), PotAt Z' H1 p dl al → Same (hid Z p dl H0) (hid Z' p dl H1) → Ev Z' p dl al H1 ((wipe σ [v]).set v (some x)) te R) :
    Ev Z p dl al H0 σ (tLc (iRng1 (tCons (tC (.int j)) tNil)) (gName v) tYes te [v]) (LsR j.toNat j.toNat R) := fun H Q P k q => by
  refine ⟨j, rfl, by omega, by omega, fun D nD => ?_⟩
  have f := P.free nD
  have fa := P.freeA nD
  refine lc_range (fun i Hj => ∃ acc, PotAt (upd Z D (.lst acc)) Hj p dl al ∧ acc.length = i ∧ (∀ x ∈ acc, R x (hid (upd Z D (.lst acc)) p dl Hj)) ∧ Same (hid Z p dl H) (hid (upd Z D (.lst acc)) p dl Hj)) ⟨[], (P.new nD).hide upd_same f.1 f.2.1, rfl, (fun x hx => nomatch hx), hid_new2 nD⟩ ?_ ?_
  · rintro i Hj hi ⟨acc, Pj, la, ra, sj⟩
    refine ⟨?_, yes_if ?_⟩
    · simp only [wipe, List.set_set]
    · refine hT _ Hj _ Pj (Same.trans k sj) Hj _ Pj (Kp.refl _ _ _) fun y H4 P4 k4 r4 => ⟨acc, P4.zz _ _ upd_same, small1000 (by omega), acc ++ [y], ?_, by rw [List.length_append, la]; rfl, fun x hx => ?_, (Same.trans sj k4).trans hid_swap⟩
      · exact ((P4.bare f.2.2).upd f.1 f.2.1 fa f.2.2).hide upd_same f.1 f.2.1
      · rcases List.mem_append.mp hx with e | e
        · exact hm _ _ _ (Same.trans k4 hid_swap) (ra x e)
        · rw [List.mem_singleton.mp e]
          exact hm _ _ _ hid_swap r4
  · rintro Hn ⟨acc, Pn, la, ra, sn⟩
    have e := Pn.zz _ _ upd_same
    refine q _ Hn (Pn.bare f.2.2) (sn.trans hid_hide) ⟨D, acc, rfl, by rw [hid_at f.1 f.2]; exact e, by omega, by omega, fun x hx => hm _ _ _ hid_hide (ra x hx)⟩
section
variable {K : PySem.W.Frag} {Z : Hp} {p dl al : Addr} {H0 : Hp} {σ : L2.St} {te : TE}
theorem ev_spoilt {i j : Nat} {v : V} (e : σ[i]? = some (some (.ref p))) (ej : σ[j]? = some (some v)) (hv : LogR K 60 v (hid Z p dl H0)) : Ev Z p dl al H0 σ (tCall (sp_spoilt K) [] E0 (tCons (tVar i) (tCons (tVar j) tNil))) (DR K (Sm 53122 5)) :=
  fun H Q P k q => ⟨_, e, _, ej, Z, p, dl, al, v, rfl, P, LogR.mo _ _ _ k hv, fun x H' P' k' r => q x H' P' k' r⟩
theorem ev_log {i : Nat} {u : Int} (e : σ[i]? = some (some (.ref p))) (h0 : 0 ≤ u) (h1 : u ≤ 60) (h : Ev Z p dl al H0 σ te (IR 1 10000000)) : Ev Z p dl al H0 σ (tCall (sp_log K) [] E0 (tCons (tVar i) (tCons (tC (.int u)) (tCons te tNil)))) (LogR K u.toNat) :=
  fun H Q P k q => ⟨_, e, h H _ P k fun v H1 P1 k1 ⟨g, eg, g0, g1⟩ => ⟨Z, p, dl, al, u, g, by rw [eg]; rfl, P1, h0, h1, g0, g1, fun x H' P' k' r => q x H' P' (k1.trans k') r⟩⟩
end
theorem LogR.tpD1 {K : PySem.W.Frag} {n : Nat} {v : V} {G : Hp} (h : LogR K n v G) : TpR K 0 n (DR K (Sm 33 1)) v G :=
  let ⟨L, hL, t⟩ := h.tpI
  t.weak (Nat.zero_le _) hL fun x hx => pair_data hx
theorem Prs.tpD1 {K : PySem.W.Frag} {n : Nat} {a : Addr} {xs : List V} {ps : List (Int × Int)} {G : Hp} (g : G a = some (.tup xs)) (h : Prs G xs ps) (hl : ps.length ≤ n) (hb : ∀ q ∈ ps, q.1.natAbs < 10 ^ 12 ∧ q.2.natAbs < 10 ^ 12) : TpR K 0 n (DR K (Sm 33 1)) (.ref a) G := by
  refine ⟨a, xs, rfl, .inl (.inl g), Nat.zero_le _, by rw [h.len]; exact hl, fun x hx => ?_⟩
  obtain ⟨i, hi⟩ := List.getElem?_of_mem hx
  obtain ⟨q, hq, t, rfl, gt⟩ := h.get hi
  have b := hb q (List.mem_of_getElem? hq)
  exact ⟨_, .tup (.inl (.inl gt)) (.cons (.int _) (.cons (.int _) .nil)), pD_sm b.1 b.2⟩
/-! ### how long a fault's text is -/
theorem two_sm {i : Nat} (h : i < 1000) (x : Str) (hx : Sm 20 0 (.str x)) : Sm 60 1 (two (.int i) (.str x)) :=
  (Sm.tuple (c := 2) (n := 20) (k := 0) (ds := [.int i, .str x]) (fun d hd => by
    rcases List.mem_cons.mp hd with e | e
    · rw [e]; exact (Sm.int (by omega)).wide (by decide) (by decide)
    · rw [List.mem_singleton.mp e]; exact hx) (Nat.le_refl 2)).wide (by decide) (by decide)
theorem logGo_sm : ∀ (ds : List PyData) (i : Nat) (b : Int), i + ds.length ≤ 60 → Sm 60 1 (logGo ds i b)
  | [], _, _, _ => show Sm 60 1 .none from sm_chk (by decide +kernel)
  | d :: r, i, b, h => by
    simp only [List.length_cons] at h
    simp only [logGo]
    split
    · exact two_sm (by omega) _ (sm_chk (by decide +kernel))
    · split
      · exact two_sm (by omega) _ (sm_chk (by decide +kernel))
      · exact logGo_sm r (i + 1) _ (by omega)
theorem logErr_sm (d : PyData) : Sm 60 1 (logErr d) := by
  have e0 : Sm 60 1 (two .none (.str "log")) := sm_chk (by decide +kernel)
  unfold logErr
  split
  · split
    · exact e0
    · exact logGo_sm _ _ _ (by omega)
  · exact e0
theorem pair_fine {d : PyData} (h : Sm 60 1 d) (b : Bool) : Fine (.list [d, .bool b]) :=
  (Sm.list (c := 2) (n := 60) (k := 1) (ds := [d, .bool b]) (fun e he => by
    rcases List.mem_cons.mp he with z | z
    · rw [z]; exact h
    · rw [List.mem_singleton.mp z]; cases b <;> exact sm_chk (by decide +kernel)) (Nat.le_refl 2)).fine (by decide) (by decide)
theorem Flat.dq0 {K : PySem.W.Frag} {H H' : Hp} {r : V} {e : PyData} (h : Flat K H H' r e) : Dq K H' r e := by
  rcases h with ⟨rfl, rfl⟩ | ⟨t, x, y, dx, dy, rfl, n, g, rfl, hx, hy⟩
  · exact .non
  · exact .tup (.inl (.inl g)) (.cons (hx _) (.cons (hy _) .nil))
theorem Flat.isN {K : PySem.W.Frag} {H H' : Hp} {r : V} {e : PyData} (h : Flat K H H' r e) : decide (r = .non) = Lm.isN e := by
  rcases h with ⟨rfl, rfl⟩ | ⟨t, x, y, dx, dy, rfl, _, _, rfl, _, _⟩ <;> rfl
def sp_law (K : PySem.W.Frag) : Sp := fun vs H Q _ => ∃ (a : Addr) (ns : List Int), vs = [.ref a] ∧ SqL K H a (ns.map V.int) ∧ ns.length ≤ 63 ∧ ∀ H', Q (.bl true) H'
theorem sp_law_ok (K : PySem.W.Frag) (H : Hp) (a : Addr) (ns : List Int) (hl : ns.length ≤ 63) (_ : Only H) (hS : SqL K H a (ns.map V.int)) : sp_law K [.ref a] H (fun v _ => v = .bl true) fun _ _ _ => False :=
  ⟨a, ns, rfl, hS, hl, fun _ => rfl⟩
/-- what a for over a list asks -/
def LstGo (K : PySem.W.Frag) (g : TG) (tb : TS) (D : Ends) (σ : L2.St) : VK := fun x H1 => ∃ a, x = .ref a ∧ (∃ xs, SqL K H1 a xs) ∧ ∃ W : Nat → Nat → L2.St → Hp → Prop, (∃ m, W 0 m σ H1) ∧ ∀ i m σ H, W i m σ H →
  ((Itl K a).stop i H ∧ D.nx σ H) ∨ ((Itl K a).go i H ∧ ∃ N : L2.St → Hp → Prop, (∀ σ' H', N σ' H' → ∃ m', m' < m ∧ W (i + 1) m' σ' H') ∧ ∀ x H', (Itl K a).yld i H x H' → g x σ H' fun σ2 H2 => tb { D with nx := N, ct := N, bk := D.nx } σ2 H2)
theorem s_lst1 {K : PySem.W.Frag} {D : Ends} {σ : L2.St} {H : Hp} {te : TE} {g : TG} {tb : TS} (h : te σ H (LstGo K g tb D σ)) : tFor (iList K te) g tb D σ H := h
end Lm

namespace Lm
open PySem PySem.Spec PyProof.Rows L2
theorem ev_lg {K : PySem.W.Frag} {Z : Hp} {p dl al : Addr} {H0 : Hp} {σ : L2.St} (e1 : σ[1]? = some (some (.ref p))) :
    Ev Z p dl al H0 σ (tCall (sp_log K) [] E0 (tCons (tVar 1) (tCons (tC (.int 60)) (tCons (tCall sp_one [] E0 (tCons (tVar 1) (tCons (tLst (tCons (tC (.int 4)) (tCons (tC (.int 100)) (tCons (tOp (rI CPow fun i j => .int (i ^ j.toNat)) (tC (.int 10)) (tC (.int 7))) tNil)))) tNil))) tNil)))) (LogR K 60) :=
  ev_log (u := 60) e1 (by decide) (by decide) (ev_one (m := 2) (n := 3) e1 (by decide) IR.mo (ev_lst (by decide) IR.mo (eall_cons IR.mo (ev_int.wide (by decide) (by decide)) (eall_cons IR.mo (ev_int.wide (by decide) (by decide)) (eall_cons IR.mo ((ev_pow (by decide)).wide (by decide) (by decide)) eall_nil)))))
theorem s_setL {D : Ends} {σ : L2.St} {H : Hp} {ta : TA} {u : TS} {i : Nat} (h : ta σ H fun vs H1 => vs.length ≤ sizeLine ∧ ∀ t, H1 t = none → u D (σ.set i (some (.ref t))) (upd H1 t (.lst vs))) : tSeq (tAsg (tLst ta) (gName i)) u D σ H := h
theorem app_zero {K : PySem.W.Frag} {φ : PyData → Prop} {Z : Hp} {p dl al L w u : Addr} {H : Hp} {vs : List V} (P : PotAt Z H p dl al) (nL : H L = none) (nw : (upd H L (.lst vs)) w = none) (nu : (upd (upd H L (.lst vs)) w (.tup [.int 0, .int 0])) u = none)
    (hv : ∀ x ∈ vs, DR K φ x (hid Z p dl H)) (h0 : φ (.tuple [.tuple [.int 0, .int 0]])) :
    let H4 := upd (upd (upd (upd H L (.lst vs)) w (.tup [.int 0, .int 0])) u (.tup [.ref w])) L (.lst (vs ++ [.ref u]))
    PotAt Z H4 p dl al ∧ Kp Z p dl H H4 ∧ hid Z p dl H4 L = some (.lst (vs ++ [.ref u])) ∧ ∀ x ∈ vs ++ [.ref u], DR K φ x (hid Z p dl H4) := by
  intro H4
  have P1 := P.new (o := .lst vs) nL
  have P2 := P1.new (o := .tup [.int 0, .int 0]) nw
  have P3 := P2.new (o := .tup [.ref w]) nu
  have fL := P.free nL
  have fA := P.freeA nL
  have fw := P1.free nw
  have fu := P2.free nu
  have wL : w ≠ L := fun e => by rw [e, upd_same] at nw; cases nw
  have uw : u ≠ w := fun e => by rw [e, upd_same] at nu; cases nu
  have uL : u ≠ L := fun e => by rw [e, upd_ne wL.symm, upd_same] at nu; cases nu
  have k4 : Kp Z p dl H H4 := Kp.upd_new (ne_of_new nL) ((Kp.new nL).trans ((Kp.new nw).trans (Kp.new nu)))
  refine ⟨P3.upd fL.1 fL.2.1 fA fL.2.2, k4, hid_upd fL.1 fL.2, fun x hx => ?_⟩
  rcases List.mem_append.mp hx with e | e
  · exact DR.mo _ _ _ k4 (hv x e)
  · rw [List.mem_singleton.mp e]
    have e1 : hid Z p dl H4 u = some (.tup [.ref w]) := by
      rw [hid_at fu.1 fu.2]
      show upd (upd (upd (upd H L _) w _) u _) L _ u = _
      rw [upd_ne uL, upd_same]
    have e2 : hid Z p dl H4 w = some (.tup [.int 0, .int 0]) := by
      rw [hid_at fw.1 fw.2]
      show upd (upd (upd (upd H L _) w _) u _) L _ w = _
      rw [upd_ne wL, upd_ne uw.symm, upd_same]
    exact ⟨_, .tup (.inl (.inl e1)) (.cons (.tup (.inl (.inl e2)) (.cons (.int 0) (.cons (.int 0) .nil))) .nil), h0⟩
end Lm

namespace Lm
open PySem PySem.Spec PyProof.Rows L2 PySem.SeqAt PySem.MeetsSeq
open PySem.AutoSeq1 (wpAny_loadPart')
theorem str_declines_dict (b : Str) (u : Tok) (l : Addr) (c : Value) (es : Array DictEntry) (n : Nat) (dd : Option Addr) (sl : Array (Option Value)) :
    Meets (Builtin.«str.__eq__» ⟨[.str b u, .ref l], []⟩) (fun _ R s => s.heap.get? l = some { cls := c, dict := dd, data := .dict es n, slots := sl } ∧ R (.ok (.ret .notImplemented)) s) :=
  .of_wp fun prog w A R s h => by obtain ⟨hp, g, d, tk, os⟩ := s; obtain ⟨hl, h⟩ := h; wp_walk using wpAny_loadPart' hl, wpAny_load hl; exact ⟨_, rfl, h⟩
section
variable {A : Around} {s : Shared}
theorem rc_str_dict {l : Addr} {dd : Option Addr} {sl : Array (Option Value)} {es : Array DictEntry} {n : Nat} (b : Str) (u : Tok) (ho : s.heap.get? l = some { cls := .type "dict", dict := dd, data := .dict es n, slots := sl }) (hu : A.units < cLine) : RcAt A s (.str b u) (.ref l) false := fun prog w E Q h => by
  have ty : s.TypeIs (.ref l) "dict" := ⟨_, ho, rfl⟩
  refine rc_eq_decline_or (k := false) (typeIs_str s b u) ty (by decide) F.sub_dict_str F.slot_str_eq F.slot_dict_eq_refl
    (fun _ hq => call_meets F.slot_str_eq (typeIs_str s b u) F.entry_str_eq (F.args_str_eq_2 _ _) (str_declines_dict b u l (.type "dict") es n dd sl) ⟨ho, hq⟩)
    (fun _ hq => ?_)
    (fun _ hq => wpAny_of_eq (rfl : isSame (.str b u) (.ref l) = pure false) hq) (.inr hu) h
  refine PySem.wpAny_call_entry PySem.F.slot_dict_eq_refl ty PySem.F.entry_dict_eq ?_ (PySem.F.args_dict_eq_2 _ _)
  show wpAny _ _ (Builtin.Dict.dictSlotArgs "__eq__" ⟨[.ref l, .str b u], []⟩ >>= _) _ _ s
  refine wpAny_bind ?_
  unfold Builtin.Dict.dictSlotArgs
  refine wpAny_bind (wpAny_notOrdered_dict ty ?_)
  show wpAny _ _ (pure (Value.ref l, Value.str b u)) _ _ s
  refine wpAny_pure ?_
  refine wpAny_bind (wpAny_isInstance (T := "str") (typeIs_str s b u) PySem.F.sub_str_dict ?_)
  simp only [Bool.not_false, if_true]
  exact wpAny_bind (wpAny_rule (wpAny_pure ⟨_, rfl, hq⟩))
theorem eq_str_dict {l : Addr} {dd : Option Addr} {sl : Array (Option Value)} {es : Array DictEntry} {n : Nat} (b : Str) (u : Tok) (ho : s.heap.get? l = some { cls := .type "dict", dict := dd, data := .dict es n, slots := sl }) (hu : A.units < cLine) : EqAt A s (.str b u) (.ref l) false := fun prog w E Q h => by
  unfold eqBool
  refine wpAny_holding ?_
  refine wpAny_ite_split (fun hab => absurd (eq_of_beq hab) nofun) (fun _ => ?_)
  exact wpAny_bind (rc_str_dict b u ho hu prog w E _ (wpAny_truthy_bool h))
end
theorem in1_units {A : Around} (h : A.units + 64 < cLine) : A.in1.units < cLine := by
  have : A.in1.units = A.units + 1 := rfl
  omega
def strIs (d : PyData) (z : Str) : Bool := match d with | .str x => z == x | _ => false
def rInStr (K : PySem.W.Frag) : R2 := fun x y H Q => ∃ (d : PyData) (p : Addr) (zs : List Str), Dq K H x d ∧ y = .ref p ∧ (SqL K H p (zs.map V.str) ∨ SqT K H p (zs.map V.str)) ∧ Q (.bl (zs.any (strIs d))) H
section
variable {X : Cx}
def strE (d : PyData) : Value → Bool | .str z _ => strIs d z | _ => false
theorem vals_strs {d : PyData} : ∀ {zs : List Str} {its : List Value}, Vals (zs.map V.str) its → its.any (strE d) = zs.any (strIs d) ∧ ∀ w ∈ its, ∃ z t, w = .str z t
  | [], _, .nil => ⟨rfl, fun w h => nomatch h⟩
  | z :: r, _, .cons ⟨t, e⟩ h => by
    obtain ⟨h1, h2⟩ := vals_strs (d := d) h
    subst e
    refine ⟨by rw [List.any_cons, List.any_cons, h1]; rfl, fun w hw => ?_⟩
    rcases List.mem_cons.mp hw with e | e
    · exact ⟨z, t, e⟩
    · exact h2 w e
theorem eq_str_data {pins : List (Addr × Obj)} {σ : L2.St} {H : Hp} {s : Shared} (I : Inv X pins σ H s) {x : V} {v : Value} {d : PyData} (hd : Dq X.K H x d) (rx : L2.RelV x v) (hu : X.A.in1.units < cLine) (z : Str) (t : Tok) : EqAt X.A.in1 s (.str z t) v (strIs d z) := by
  cases hd with
  | non => cases rx; exact EqAt.str_none z t
  | bl b => cases rx; exact EqAt.str_bool z t b
  | int i => obtain ⟨u, rfl⟩ := rx; exact EqAt.str_int z t i u
  | str y => obtain ⟨u, rfl⟩ := rx; exact EqAt.str_str z t y u
  | lst hs _ =>
    cases rx
    obtain ⟨its, _, pl, _⟩ := I.list hs
    exact EqAt.str_list z t pl.isList hu
  | tup hs _ =>
    cases rx
    obtain ⟨its, _, pl, _⟩ := I.tuple hs
    exact EqAt.str_tuple z t pl hu
  | dct hs _ =>
    cases rx
    obtain ⟨_, _, vs, _, o, es, ep, e, hx, hdt, _⟩ := I.hok _ _ hs
    obtain ⟨cls, dd, data, sl⟩ := o
    have hc := hx.1
    simp only at hdt hc
    subst hdt hc
    exact eq_str_dict z t e hu
theorem op_inStr (hu : X.A.in1.units < cLine) : OpR X (compareOp .In) (rInStr X.K) := by
  intro pins s σ H x y v u Q I rx ry h
  obtain ⟨d, p, zs, hd, rfl, hq, q⟩ := h
  cases ry
  rcases hq with hq | hq
  · obtain ⟨its, r, pl, hz⟩ := I.list hq
    obtain ⟨h1, h2⟩ := vals_strs (d := d) r
    refine SeqAt.in_listAt (strE d) pl.isList (fun w hw => ?_) ⟨.bl _, H, I, rfl, ?_⟩
    · obtain ⟨z, t, rfl⟩ := h2 w (by simpa using hw)
      exact eq_str_data I hd rx hu z t
    · rw [show its.toArray.any (strE d) = its.any (strE d) by simp, h1]
      exact q
  · obtain ⟨its, r, pl, hz⟩ := I.tuple hq
    obtain ⟨h1, h2⟩ := vals_strs (d := d) r
    refine SeqAt.in_tupleAt (strE d) pl (fun w hw => ?_) ⟨.bl _, H, I, rfl, ?_⟩
    · obtain ⟨z, t, rfl⟩ := h2 w (by simpa using hw)
      exact eq_str_data I hd rx hu z t
    · rw [show its.toArray.any (strE d) = its.any (strE d) by simp, h1]
      exact q
end
end Lm

namespace Lm
open PySem PySem.Spec PyProof.Rows L2
/-! ### runs and motions, as functions of data -/
def runOf : PyData → Option (Int × Int)
  | .tuple [.int a, .int s, .int c] => if 0 ≤ a ∧ 1 ≤ s ∧ 1 ≤ c ∧ (c = 1 → s = 1) ∧ a + s * (c - 1) ≤ 1000000000 then some (a, a + s * (c - 1)) else none
  | _ => none
def motGo : List PyData → Nat → Int → PyData
  | [], _, _ => .none
  | d :: r, i, b => match runOf d with
    | none => two (.int i) (.str "run")
    | some (on, off) => if on ≤ b then two (.int i) (.str "order") else motGo r (i + 1) off
def motErr : PyData → PyData
  | .tuple ds => if 360 < ds.length then two .none (.str "motions") else motGo ds 0 (-1)
  | _ => two .none (.str "motions")
theorem motGo_cons {ds : List PyData} {i : Nat} {b : Int} {d : PyData} (h : ds[i]? = some d) : motGo (ds.drop i) i b = motGo (d :: ds.drop (i + 1)) i b := by
  obtain ⟨hi, e⟩ := List.getElem?_eq_some_iff.mp h
  rw [List.drop_eq_getElem_cons hi, e]
theorem run_bounds {a s c : Int} (h0 : 0 ≤ a) (h1 : 1 ≤ s) (h2 : 1 ≤ c) (h3 : c = 1 → s = 1) (h4 : a + s * (c - 1) ≤ 1000000000) : a ≤ 1000000000 ∧ s ≤ 1000000000 ∧ c ≤ 1000000001 := by
  have p0 : 0 ≤ s * (c - 1) := Int.mul_nonneg (by omega) (by omega)
  have p1 : 1 * (c - 1) ≤ s * (c - 1) := Int.mul_le_mul_of_nonneg_right h1 (by omega)
  refine ⟨by omega, ?_, by omega⟩
  by_cases e : c = 1
  · rw [h3 e]; decide
  · have p2 : s * 1 ≤ s * (c - 1) := Int.mul_le_mul_of_nonneg_left (by omega) (by omega)
    omega
theorem runOf_wt {d : PyData} : (runOf d).isSome = true → ∃ a s c, d = .tuple [.int a, .int s, .int c] ∧ runOf d = some (a, a + s * (c - 1)) ∧ 0 ≤ a ∧ a ≤ 1000000000 ∧ 1 ≤ s ∧ s ≤ 1000000000 ∧ 1 ≤ c ∧ c ≤ 1000000001 := by
  unfold runOf
  split
  · rename_i a s c
    split
    · rename_i h
      have b := run_bounds h.1 h.2.1 h.2.2.1 h.2.2.2.1 h.2.2.2.2
      exact fun _ => ⟨a, s, c, rfl, rfl, h.1, b.1, h.2.1, b.2.1, h.2.2.1, b.2.2⟩
    · intro h; cases h
  · intro h; cases h
theorem wt3 {d : PyData} (h : wt d 3 = true) : ∃ a b c, d = .tuple [.int a, .int b, .int c] := by
  unfold wt at h
  split at h
  · rename_i ds
    simp only [Bool.and_eq_true, decide_eq_true_eq] at h
    obtain ⟨h1, h2⟩ := h
    match ds, h1, h2 with
    | [x, y, z], _, h2 =>
      simp only [List.all_cons, List.all_nil, Bool.and_true, Bool.and_eq_true] at h2
      cases x <;> cases y <;> cases z <;> first | exact ⟨_, _, _, rfl⟩ | (simp [wh] at h2)
    | [], h1, _ => exact absurd h1 (by simp)
    | [_], h1, _ => exact absurd h1 (by simp)
    | [_, _], h1, _ => exact absurd h1 (by simp)
    | _ :: _ :: _ :: _ :: _, h1, _ => exact absurd h1 (by simp only [List.length_cons]; omega)
  · cases h
theorem wt3_no {d : PyData} (h : wt d 3 = false) : runOf d = none := by
  unfold runOf
  split
  · simp [wt, wh] at h
  · rfl
theorem runOf_len {ds : List PyData} (h : (ds.length : Int) ≠ 3) : runOf (.tuple ds) = none := by
  unfold runOf
  split
  · rename_i e
    cases e
    exact absurd rfl h
  · rfl
theorem runOf_out {ds : List PyData} (h : ds.all (inW 0 1000000001) = false) : runOf (.tuple ds) = none := by
  cases e : runOf (.tuple ds) with
  | none => rfl
  | some ab =>
    obtain ⟨a, s, c, e1, _, h1, h2, h3, h4, h5, h6⟩ := runOf_wt (d := .tuple ds) (by rw [e]; rfl)
    cases e1
    have g : (List.all [PyData.int a, PyData.int s, PyData.int c] (inW 0 1000000001)) = true := by
      simp only [List.all_cons, List.all_nil, Bool.and_true, inW, Bool.and_eq_true, decide_eq_true_eq]
      omega
    rw [g] at h
    cases h
theorem runOf_eq {a s c : Int} : (runOf (.tuple [.int a, .int s, .int c])).isSome = decide (0 ≤ a ∧ 1 ≤ s ∧ 1 ≤ c ∧ (c = 1 → s = 1) ∧ a + s * (c - 1) ≤ 1000000000) := by
  show (if 0 ≤ a ∧ 1 ≤ s ∧ 1 ≤ c ∧ (c = 1 → s = 1) ∧ a + s * (c - 1) ≤ 1000000000 then some (a, a + s * (c - 1)) else none).isSome = _
  by_cases h : 0 ≤ a ∧ 1 ≤ s ∧ 1 ≤ c ∧ (c = 1 → s = 1) ∧ a + s * (c - 1) ≤ 1000000000
  · rw [if_pos h, decide_eq_true h]; rfl
  · rw [if_neg h, decide_eq_false h]; rfl
theorem log2_sub {c : Int} (h : c.natAbs.log2 < 1920) : (c - 1).natAbs.log2 < 2000 := by
  have h1 : c.natAbs < 2 ^ 1920 := by
    by_cases z : c.natAbs = 0
    · rw [z]; exact Nat.two_pow_pos _
    · exact (Nat.log2_lt z).mp h
  by_cases z : (c - 1).natAbs = 0
  · rw [z]; decide
  · refine (Nat.log2_lt z).mpr ?_
    have h2 : (2 : Nat) ^ 1920 + 1 ≤ 2 ^ 2000 := by
      have : (2 : Nat) ^ 1921 ≤ 2 ^ 2000 := Nat.pow_le_pow_right (by decide) (by decide)
      have e : (2 : Nat) ^ 1921 = 2 ^ 1920 * 2 := Nat.pow_succ ..
      have p : 0 < (2 : Nat) ^ 1920 := Nat.two_pow_pos _
      omega
    omega
theorem run_mulW {a s c : Int} (h : (PyData.tuple [.int a, .int s, .int c]).showable = true) : CMulW s (c - 1) := by
  simp only [PyData.showable, PyData.showableAll, Bool.and_true, Bool.and_eq_true, decide_eq_true_eq] at h
  have := log2_sub h.2.2
  unfold CMulW
  omega
theorem show_get : ∀ {ds : List PyData} {i : Nat} {d : PyData}, PyData.showableAll ds = true → ds[i]? = some d → d.showable = true
  | [], _, _, _, e => by simp at e
  | x :: r, 0, d, h, e => by
    simp only [PyData.showableAll, Bool.and_eq_true] at h
    simp at e; rw [← e]; exact h.1
  | x :: r, i + 1, d, h, e => by
    simp only [PyData.showableAll, Bool.and_eq_true] at h
    exact show_get h.2 (by simpa using e)
def sp_last (K : PySem.W.Frag) : Sp := fun vs H Q _ => ∃ (t : Addr) (a s c : Int), vs = [.ref t] ∧ SqT K H t [.int a, .int s, .int c] ∧ CMulW s (c - 1) ∧ Q (.int (a + s * (c - 1))) H
def sp_boolS (K : PySem.W.Frag) (F : PyData → Bool) : Sp := fun vs H Q _ => ∃ v d, vs = [v] ∧ Dq K H v d ∧ d.showable = true ∧ ∀ H', Same H H' → Q (.bl (F d)) H'
def sp_errS (K : PySem.W.Frag) (F : PyData → PyData) : Sp := fun vs H Q _ => ∃ v d, vs = [v] ∧ Dq K H v d ∧ d.showable = true ∧ ∀ r H', Same H H' → Flat K H H' r (F d) → Q r H'
def lampB (d : PyData) : Bool := match d with | .tuple [k, s] => (["hold", "pulse"] : List Str).any (strIs k) && inW 1 1000000000 s | _ => false
theorem motGo_sm : ∀ (ds : List PyData) (i : Nat) (b : Int), i + ds.length ≤ 360 → Sm 60 1 (motGo ds i b)
  | [], _, _, _ => show Sm 60 1 .none from sm_chk (by decide +kernel)
  | d :: r, i, b, h => by
    simp only [List.length_cons] at h
    simp only [motGo]
    split
    · exact two_sm (by omega) _ (sm_chk (by decide +kernel))
    · split
      · exact two_sm (by omega) _ (sm_chk (by decide +kernel))
      · exact motGo_sm r (i + 1) _ (by omega)
theorem motErr_sm (d : PyData) : Sm 60 1 (motErr d) := by
  have e0 : Sm 60 1 (two .none (.str "motions")) := sm_chk (by decide +kernel)
  unfold motErr
  split
  · split
    · exact e0
    · exact motGo_sm _ _ _ (by omega)
  · exact e0
end Lm

namespace Lm
open PySem PySem.Spec PyProof.Rows L2
def sp_lamp (K : PySem.W.Frag) : Sp := fun vs H Q _ => ∃ (Z : Hp) (p dl al : Addr) (g : Int), vs = [.ref p, .int g] ∧ PotAt Z H p dl al ∧ 1 ≤ g ∧ g ≤ 1000000000 ∧
  ∀ (x : V) (H' : Hp), PotAt Z H' p dl al → Kp Z p dl H H' → TpR K 2 2 (DR K (Sm 30 1)) x (hid Z p dl H') → Q x H'
def sp_far (K : PySem.W.Frag) : Sp := fun vs H Q _ => ∃ (Z : Hp) (p dl al : Addr) (u : Int), vs = [.ref p, .int u] ∧ PotAt Z H p dl al ∧ 0 ≤ u ∧ u ≤ 40 ∧
  ∀ (x : V) (H' : Hp), PotAt Z H' p dl al → Kp Z p dl H H' → TpR K 0 40 (TpR K 3 3 (IR 0 2000000000)) x (hid Z p dl H') → Q x H'
def sp_spoiltR (K : PySem.W.Frag) : Sp := fun vs H Q _ => ∃ (Z : Hp) (p dl al : Addr) (v : V), vs = [.ref p, v] ∧ PotAt Z H p dl al ∧ TpR K 0 40 (TpR K 3 3 (IR 0 2000000000)) v (hid Z p dl H) ∧
  ∀ (x : V) (H' : Hp), PotAt Z H' p dl al → Kp Z p dl H H' → DR K (Sm 53122 5) x (hid Z p dl H') → Q x H'
section
variable {K : PySem.W.Frag} {Z : Hp} {p dl al : Addr} {H0 : Hp} {σ : L2.St} {te : TE} {R : VR}
theorem ev_iw {a b c d : Int} (h : Ev Z p dl al H0 σ te (IR a b)) (h1 : c ≤ a := by decide) (h2 : b ≤ d := by decide) : Ev Z p dl al H0 σ te (IR c d) := h.wide h1 h2
theorem ev_ivar {i : Nat} {g lo hi : Int} (e : σ[i]? = some (some (.int g))) (h0 : lo ≤ g) (h1 : g ≤ hi) : Ev Z p dl al H0 σ (tVar i) (IR lo hi) := ev_var e IR.mo ⟨g, rfl, h0, h1⟩
theorem ev_drawC {i : Nat} {n : Int} (e : σ[i]? = some (some (.ref p))) (h0 : 1 ≤ n := by decide) (h1 : n < 1073741824 := by decide) : Ev Z p dl al H0 σ (tCall sp_draw [] E0 (tCons (tVar i) (tCons (tC (.int n)) tNil))) (IR 0 (n - 1)) :=
  ev_draw (b := n) e h1 (ev_int.wide h0 (Int.le_refl _))
theorem ev_drawP {i : Nat} {a : Int} {j : Int} (c : CPow a j) (e : σ[i]? = some (some (.ref p))) (h0 : 1 ≤ a ^ j.toNat := by decide) (h1 : a ^ j.toNat < 1073741824 := by decide) :
    Ev Z p dl al H0 σ (tCall sp_draw [] E0 (tCons (tVar i) (tCons (tOp (rI CPow fun i j => .int (i ^ j.toNat)) (tC (.int a)) (tC (.int j))) tNil))) (IR 0 (a ^ j.toNat - 1)) :=
  ev_draw (b := a ^ j.toNat) e h1 ((ev_pow c).wide h0 (Int.le_refl _))
theorem ei_cons {lo hi : Int} {tl : TA} {a b : Nat} {c d : Int} (h1 : Ev Z p dl al H0 σ te (IR c d)) (h2 : EvA Z p dl al H0 σ tl (AllR a b (IR lo hi))) (h3 : lo ≤ c := by decide) (h4 : d ≤ hi := by decide) : EvA Z p dl al H0 σ (tCons te tl) (AllR (a + 1) (b + 1) (IR lo hi)) :=
  eall_cons IR.mo (h1.wide h3 h4) h2
end
/-- one more thing at the end of a list that stands apart -/
theorem app_any {K : PySem.W.Frag} {Z : Hp} {p dl al f : Addr} {H H3 : Hp} {xs : List V} {v : V} {m n : Nat} {R : VR} (hR2 : ∀ v G G', R v G → R v G') (P : PotAt Z H p dl al) (nf : H f = none) (P3 : PotAt Z H3 p dl al) (k3 : Kp Z p dl H H3)
    (hf : H3 f = some (.lst xs)) (hx : ∀ x ∈ xs, TpR K m n R x (hid Z p dl H3)) (hv : TpR K m n R v (hid Z p dl H3)) :
    let H4 := upd H3 f (.lst (xs ++ [v]))
    PotAt Z H4 p dl al ∧ Kp Z p dl H H4 ∧ H4 f = some (.lst (xs ++ [v])) ∧ ∀ x ∈ xs ++ [v], TpR K m n R x (hid Z p dl H4) := by
  intro H4
  have f1 := P.free nf
  have f2 := P.freeA nf
  refine ⟨P3.upd f1.1 f1.2.1 f2 f1.2.2, Kp.upd_new (ne_of_new nf) k3, upd_same, ?_⟩
  have tk : ∀ b o, hid Z p dl H3 b = some o → (∀ l, o ≠ .lst l) → hid Z p dl H4 b = some o := fun b o e no => by
    have n := hid_some e
    rw [hid_at n.1 n.2] at e ⊢
    have cf : b ≠ f := fun z => by rw [z, hf] at e; cases e; exact no _ rfl
    show upd H3 f _ b = _
    rw [upd_ne cf]
    exact e
  have one : ∀ x, TpR K m n R x (hid Z p dl H3) → TpR K m n R x (hid Z p dl H4) := fun x ⟨a, ys, e, g, l1, l2, l3⟩ => by
    refine ⟨a, ys, e, ?_, l1, l2, fun y hy => hR2 _ _ _ (l3 y hy)⟩
    rcases g with (g | ⟨o, g⟩) | g
    · exact .inl (.inl (tk _ _ g fun l z => nomatch z))
    · exact .inl (.inr ⟨o, tk _ _ g fun l z => nomatch z⟩)
    · exact .inr g
  intro x hx'
  rcases List.mem_append.mp hx' with e | e
  · exact one x (hx x e)
  · rw [List.mem_singleton.mp e]; exact one v hv
theorem far_step {m st x : Int} (h0 : 0 ≤ m) (h1 : 1 ≤ st) (h2 : 0 ≤ x) : 0 ≤ (if x < m.fdiv st then x else m.fdiv st) ∧ (if x < m.fdiv st then x else m.fdiv st) ≤ m ∧ 0 ≤ st * (if x < m.fdiv st then x else m.fdiv st) ∧ st * (if x < m.fdiv st then x else m.fdiv st) ≤ m := by
  have e : m.fdiv st = m / st := Int.fdiv_eq_ediv_of_nonneg _ (by omega)
  rw [e]
  have q0 : 0 ≤ m / st := Int.ediv_nonneg h0 (by omega)
  have q1 : st * (m / st) ≤ m := Int.mul_ediv_self_le (by omega)
  generalize m / st = q at q0 q1
  have k : ∀ y : Int, 0 ≤ y → y ≤ q → 0 ≤ y ∧ y ≤ m ∧ 0 ≤ st * y ∧ st * y ≤ m := fun y y0 y1 => by
    have a1 : st * y ≤ st * q := Int.mul_le_mul_of_nonneg_left y1 (by omega)
    have a2 : 1 * y ≤ st * y := Int.mul_le_mul_of_nonneg_right h1 y0
    have a3 : 0 ≤ st * y := Int.mul_nonneg (by omega) y0
    omega
  by_cases g : x < q
  · rw [if_pos g]; exact k x h2 (by omega)
  · rw [if_neg g]; exact k q q0 (Int.le_refl _)
theorem s_par3 {D : Ends} {σ : L2.St} {H : Hp} {ta : TA} {t : TS} {i j l : Nat} (h : ta σ H fun vs H1 => ∃ u v w, vs = [u, v, w] ∧ t D (((σ.set i (some u)).set j (some v)).set l (some w)) H1) : tSeq (tPar3 i j l ta) t D σ H := h
theorem ev_ifGt {Z : Hp} {p dl al : Addr} {H0 : Hp} {σ : L2.St} {ta tb : TE} {R : VR} {i : Nat} {c : Int} (e : σ[i]? = some (some (.int c))) (h1 : Ev Z p dl al H0 σ ta R) (h2 : Ev Z p dl al H0 σ tb R) :
    Ev Z p dl al H0 σ (tIf (tTest (tOp (rI0 fun i j => .bl (decide (j < i))) (tVar i) (tC (.int 1)))) ta tb) R :=
  fun H Q P k q => ⟨_, e, c, 1, rfl, rfl, _, rfl, ite2 (fun _ => h1 H Q P k q) (fun _ => h2 H Q P k q)⟩
theorem tri_data {K : PySem.W.Frag} {v : V} {G : Hp} (h : TpR K 3 3 (IR 0 2000000000) v G) : DR K (Sm 48 1) v G := h.data (n := 13) (k := 0) fun x hx => ir_data hx (by decide) (by decide)
theorem three_of {xs : List V} (h1 : 3 ≤ xs.length) (h2 : xs.length ≤ 3) : ∃ x y z, xs = [x, y, z] := by
  match xs, h1, h2 with
  | [x, y, z], _, _ => exact ⟨x, y, z, rfl⟩
def tD (q : Int × Int × Int) : PyData := .tuple [.int q.1, .int q.2.1, .int q.2.2]
theorem runs_dp {K : PySem.W.Frag} {G : Hp} {lo hi : Int} : ∀ {xs : List V}, (∀ x ∈ xs, TpR K 3 3 (IR lo hi) x G) → ∃ ts : List (Int × Int × Int), DpAll K G xs (ts.map tD) ∧ ts.length = xs.length
  | [], _ => ⟨[], .nil, rfl⟩
  | x :: r, h => by
    obtain ⟨ts, h1, h2⟩ := runs_dp (xs := r) fun y hy => h y (List.mem_cons_of_mem _ hy)
    obtain ⟨a, ys, rfl, g, l1, l2, l3⟩ := h x List.mem_cons_self
    obtain ⟨y0, y1, y2, rfl⟩ := three_of l1 l2
    obtain ⟨i, rfl, _⟩ := l3 y0 (by simp)
    obtain ⟨j, rfl, _⟩ := l3 y1 (by simp)
    obtain ⟨k, rfl, _⟩ := l3 y2 (by simp)
    exact ⟨(i, j, k) :: ts, .cons (.tup g (.cons (.int i) (.cons (.int j) (.cons (.int k) .nil)))) h1, by rw [List.length_cons, List.length_cons, h2]⟩
theorem tD_lay : ∀ ps : List (Int × Int × Int), PyData.canLayAll0 (ps.map tD) = true
  | [] => by simp [PyData.canLayAll0]
  | q :: r => by
    simp only [List.map_cons, PyData.canLayAll0, tD_lay r, Bool.and_true]
    simp [tD, PyData.canLay0, PyData.canLayAll0]
theorem tD_depth : ∀ ps : List (Int × Int × Int), PyData.depthAll (ps.map tD) ≤ 1
  | [] => by simp [PyData.depthAll]
  | q :: r => by
    simp only [List.map_cons, PyData.depthAll]
    refine Nat.max_le.mpr ⟨?_, tD_depth r⟩
    simp [tD, PyData.depth, PyData.depthAll]
theorem tD_shaped (ps : List (Int × Int × Int)) : SeqAt.shaped (.tuple (ps.map tD)) = true := by
  unfold SeqAt.shaped
  simp only [PyData.canLay0, tD_lay, PyData.depth, Bool.true_and]
  exact decide_eq_true (Nat.le_trans (Nat.succ_le_succ (tD_depth ps)) (show 2 ≤ 64 by decide))
theorem tD_eqv (ps : List (Int × Int × Int)) : PyData.eqv (.tuple (ps.map tD)) (.tuple []) = ps.isEmpty := by
  cases ps <;> simp [PyData.eqv, PyData.eqvAll]
end Lm

namespace Lm
open PySem PySem.Spec PyProof.Rows L2
theorem s_lst {K : PySem.W.Frag} {D : Ends} {σ : L2.St} {H : Hp} {te : TE} {g : TG} {tb u : TS} (h : te σ H (LstGo K g tb { D with nx := u D } σ)) : tSeq (tFor (iList K te) g tb) u D σ H := h
theorem app_three {K : PySem.W.Frag} {φ : PyData → Prop} {Z : Hp} {p dl al L w u : Addr} {H : Hp} {vs : List V} {i j k : Int} (P : PotAt Z H p dl al) (nL : H L = none) (nw : (upd H L (.lst vs)) w = none) (nu : (upd (upd H L (.lst vs)) w (.tup [.int i, .int j, .int k])) u = none)
    (hv : ∀ x ∈ vs, DR K φ x (hid Z p dl H)) (h0 : φ (.tuple [.tuple [.int i, .int j, .int k]])) :
    let H4 := upd (upd (upd (upd H L (.lst vs)) w (.tup [.int i, .int j, .int k])) u (.tup [.ref w])) L (.lst (vs ++ [.ref u]))
    PotAt Z H4 p dl al ∧ Kp Z p dl H H4 ∧ hid Z p dl H4 L = some (.lst (vs ++ [.ref u])) ∧ ∀ x ∈ vs ++ [.ref u], DR K φ x (hid Z p dl H4) := by
  intro H4
  have P1 := P.new (o := .lst vs) nL
  have P2 := P1.new (o := .tup [.int i, .int j, .int k]) nw
  have P3 := P2.new (o := .tup [.ref w]) nu
  have fL := P.free nL
  have fA := P.freeA nL
  have fw := P1.free nw
  have fu := P2.free nu
  have wL : w ≠ L := fun e => by rw [e, upd_same] at nw; cases nw
  have uw : u ≠ w := fun e => by rw [e, upd_same] at nu; cases nu
  have uL : u ≠ L := fun e => by rw [e, upd_ne wL.symm, upd_same] at nu; cases nu
  have k4 : Kp Z p dl H H4 := Kp.upd_new (ne_of_new nL) ((Kp.new nL).trans ((Kp.new nw).trans (Kp.new nu)))
  refine ⟨P3.upd fL.1 fL.2.1 fA fL.2.2, k4, hid_upd fL.1 fL.2, fun x hx => ?_⟩
  rcases List.mem_append.mp hx with e | e
  · exact DR.mo _ _ _ k4 (hv x e)
  · rw [List.mem_singleton.mp e]
    have e1 : hid Z p dl H4 u = some (.tup [.ref w]) := by
      rw [hid_at fu.1 fu.2]
      show upd (upd (upd (upd H L _) w _) u _) L _ u = _
      rw [upd_ne uL, upd_same]
    have e2 : hid Z p dl H4 w = some (.tup [.int i, .int j, .int k]) := by
      rw [hid_at fw.1 fw.2]
      show upd (upd (upd (upd H L _) w _) u _) L _ w = _
      rw [upd_ne wL, upd_ne uw.symm, upd_same]
    exact ⟨_, .tup (.inl (.inl e1)) (.cons (.tup (.inl (.inl e2)) (.cons (.int i) (.cons (.int j) (.cons (.int k) .nil)))) .nil), h0⟩
theorem tri_at {K : PySem.W.Frag} {Z : Hp} {p dl t : Addr} {H : Hp} {i j k : Int} (e : hid Z p dl H t = some (.tup [.int i, .int j, .int k])) (h : (0 ≤ i ∧ i ≤ 2000000000) ∧ (0 ≤ j ∧ j ≤ 2000000000) ∧ (0 ≤ k ∧ k ≤ 2000000000)) : TpR K 3 3 (IR 0 2000000000) (.ref t) (hid Z p dl H) := by
  refine ⟨t, _, rfl, .inl (.inl e), Nat.le_refl 3, Nat.le_refl 3, fun x hx => ?_⟩
  simp only [List.mem_cons, List.not_mem_nil, or_false] at hx
  rcases hx with e | e | e
  · exact ⟨_, e, h.1⟩
  · exact ⟨_, e, h.2.1⟩
  · exact ⟨_, e, h.2.2⟩
theorem ev_spoiltR {K : PySem.W.Frag} {Z : Hp} {p dl al : Addr} {H0 : Hp} {σ : L2.St} {i j : Nat} {v : V} (e : σ[i]? = some (some (.ref p))) (ej : σ[j]? = some (some v)) (hv : TpR K 0 40 (TpR K 3 3 (IR 0 2000000000)) v (hid Z p dl H0)) : Ev Z p dl al H0 σ (tCall (sp_spoiltR K) [] E0 (tCons (tVar i) (tCons (tVar j) tNil))) (DR K (Sm 53122 5)) :=
  fun H Q P k q => ⟨_, e, _, ej, Z, p, dl, al, v, rfl, P, TpR.mo (TpR.mo IR.mo) _ _ _ k hv, fun x H' P' k' r => q x H' P' k' r⟩
theorem s_nxe {D : Ends} {t u : TS} {σ : L2.St} {H : Hp} {i : Nat} {v : V} {a b c} (h : tSeq t u D (σ.set i (some v)) H) : gName i v σ H (Ends.nx { nx := tSeq t u D, rt := a, bk := b, ct := c }) := h
theorem bool_fine (b : Bool) : Fine (.bool b) := by cases b <;> exact (sm_chk (n := 5) (k := 0) (by decide +kernel)).fine (by decide) (by decide)
end Lm

namespace Lm
open PySem PySem.Spec PyProof.Rows L2
def topS (i : Nat) : Stmt := PySem.Challenge.pw_lampstays_k02_lamps_and_motions_judged.main.body.getD i (.Pass ⟨0, 0, 0, 0⟩)
abbrev s_is_whole : Stmt := topS 3
abbrev n_is_whole : List Str := ["value"]
theorem sc_is_whole : FnScope n_is_whole ["value"] (defScope s_is_whole) := ⟨rfl, rfl, rfl, by decide +kernel, rfl, by decide +kernel, by decide +kernel⟩
abbrev s_is_whole_tuple : Stmt := topS 4
abbrev n_is_whole_tuple : List Str := ["value", "many", "item"]
theorem sc_is_whole_tuple : FnScope n_is_whole_tuple ["value", "many"] (defScope s_is_whole_tuple) := ⟨rfl, rfl, rfl, by decide +kernel, rfl, by decide +kernel, by decide +kernel⟩
abbrev s_is_stay : Stmt := topS 5
abbrev n_is_stay : List Str := ["value"]
theorem sc_is_stay : FnScope n_is_stay ["value"] (defScope s_is_stay) := ⟨rfl, rfl, rfl, by decide +kernel, rfl, by decide +kernel, by decide +kernel⟩
abbrev s_last_minute : Stmt := topS 6
abbrev n_last_minute : List Str := ["run", "first", "step", "count"]
theorem sc_last_minute : FnScope n_last_minute ["run"] (defScope s_last_minute) := ⟨rfl, rfl, rfl, by decide +kernel, rfl, by decide +kernel, by decide +kernel⟩
abbrev s_is_run : Stmt := topS 7
abbrev n_is_run : List Str := ["value", "first", "step", "count"]
theorem sc_is_run : FnScope n_is_run ["value"] (defScope s_is_run) := ⟨rfl, rfl, rfl, by decide +kernel, rfl, by decide +kernel, by decide +kernel⟩
abbrev s_is_lamp : Stmt := topS 10
abbrev n_is_lamp : List Str := ["value", "kind", "stay"]
theorem sc_is_lamp : FnScope n_is_lamp ["value"] (defScope s_is_lamp) := ⟨rfl, rfl, rfl, by decide +kernel, rfl, by decide +kernel, by decide +kernel⟩
abbrev s_motions_error : Stmt := topS 11
abbrev n_motions_error : List Str := ["value", "before", "index", "item"]
theorem sc_motions_error : FnScope n_motions_error ["value"] (defScope s_motions_error) := ⟨rfl, rfl, rfl, by decide +kernel, rfl, by decide +kernel, by decide +kernel⟩
abbrev s_is_motions : Stmt := topS 12
abbrev n_is_motions : List Str := ["value"]
theorem sc_is_motions : FnScope n_is_motions ["value"] (defScope s_is_motions) := ⟨rfl, rfl, rfl, by decide +kernel, rfl, by decide +kernel, by decide +kernel⟩
abbrev s_l_opened : Stmt := topS 14
abbrev n_l_opened : List Str := ["script", "cell", "cells"]
theorem sc_l_opened : FnScope n_l_opened ["script"] (defScope s_l_opened) := ⟨rfl, rfl, rfl, by decide +kernel, rfl, by decide +kernel, by decide +kernel⟩
abbrev s_l_draw : Stmt := topS 15
abbrev n_l_draw : List Str := ["pot", "many", "rest", "times", "cells", "seed"]
theorem sc_l_draw : FnScope n_l_draw ["pot", "many"] (defScope s_l_draw) := ⟨rfl, rfl, rfl, by decide +kernel, rfl, by decide +kernel, by decide +kernel⟩
abbrev s_l_one : Stmt := topS 16
abbrev n_l_one : List Str := ["pot", "items"]
theorem sc_l_one : FnScope n_l_one ["pot", "items"] (defScope s_l_one) := ⟨rfl, rfl, rfl, by decide +kernel, rfl, by decide +kernel, by decide +kernel⟩
abbrev s_l_lamp : Stmt := topS 17
abbrev n_l_lamp : List Str := ["pot", "great", "stay"]
theorem sc_l_lamp : FnScope n_l_lamp ["pot", "great"] (defScope s_l_lamp) := ⟨rfl, rfl, rfl, by decide +kernel, rfl, by decide +kernel, by decide +kernel⟩
abbrev s_l_far_runs : Stmt := topS 18
abbrev n_l_far_runs : List Str := ["pot", "upto", "found", "here", "most", "k", "step", "count", "pause"]
theorem sc_l_far_runs : FnScope n_l_far_runs ["pot", "upto"] (defScope s_l_far_runs) := ⟨rfl, rfl, rfl, by decide +kernel, rfl, by decide +kernel, by decide +kernel⟩
abbrev s_l_odd : Stmt := topS 19
abbrev n_l_odd : List Str := ["pot", "items"]
theorem sc_l_odd : FnScope n_l_odd ["pot"] (defScope s_l_odd) := ⟨rfl, rfl, rfl, by decide +kernel, rfl, by decide +kernel, by decide +kernel⟩
abbrev s_l_bent : Stmt := topS 20
abbrev n_l_bent : List Str := ["pot", "value", "at", "head", "tail", "new", "some"]
theorem sc_l_bent : FnScope n_l_bent ["pot", "value"] (defScope s_l_bent) := ⟨rfl, rfl, rfl, by decide +kernel, rfl, by decide +kernel, by decide +kernel⟩
abbrev s_l_whole : Stmt := topS 21
abbrev n_l_whole : List Str := ["value", "low", "high"]
theorem sc_l_whole : FnScope n_l_whole ["value", "low", "high"] (defScope s_l_whole) := ⟨rfl, rfl, rfl, by decide +kernel, rfl, by decide +kernel, by decide +kernel⟩
abbrev s_l_is_run : Stmt := topS 22
abbrev n_l_is_run : List Str := ["value", "k", "first", "step", "count"]
theorem sc_l_is_run : FnScope n_l_is_run ["value"] (defScope s_l_is_run) := ⟨rfl, rfl, rfl, by decide +kernel, rfl, by decide +kernel, by decide +kernel⟩
abbrev s_l_is_lamp : Stmt := topS 23
abbrev n_l_is_lamp : List Str := ["value"]
theorem sc_l_is_lamp : FnScope n_l_is_lamp ["value"] (defScope s_l_is_lamp) := ⟨rfl, rfl, rfl, by decide +kernel, rfl, by decide +kernel, by decide +kernel⟩
abbrev s_l_fault : Stmt := topS 24
abbrev n_l_fault : List Str := ["value", "last", "k", "run"]
theorem sc_l_fault : FnScope n_l_fault ["value"] (defScope s_l_fault) := ⟨rfl, rfl, rfl, by decide +kernel, rfl, by decide +kernel, by decide +kernel⟩
abbrev s_l_spoilt : Stmt := topS 25
abbrev n_l_spoilt : List Str := ["pot", "runs", "at", "first", "step", "count", "new"]
theorem sc_l_spoilt : FnScope n_l_spoilt ["pot", "runs"] (defScope s_l_spoilt) := ⟨rfl, rfl, rfl, by decide +kernel, rfl, by decide +kernel, by decide +kernel⟩
abbrev s_law : Stmt := topS 26
abbrev n_law : List Str := ["script", "pot", "turn", "runs", "k", "many", "values", "value", "shown", "due", "lamp"]
theorem sc_law : FnScope n_law ["script"] (defScope s_law) := ⟨rfl, rfl, rfl, by decide +kernel, rfl, by decide +kernel, by decide +kernel⟩
structure All (K : PySem.W.Frag) (mg : Str → Option Value) where
  f_is_whole : Addr
  fd_is_whole : FuncData
  D_is_whole : Def K mg "is_whole" s_is_whole ["value"] f_is_whole fd_is_whole
  f_is_whole_tuple : Addr
  fd_is_whole_tuple : FuncData
  D_is_whole_tuple : Def K mg "is_whole_tuple" s_is_whole_tuple ["value", "many"] f_is_whole_tuple fd_is_whole_tuple
  f_is_stay : Addr
  fd_is_stay : FuncData
  D_is_stay : Def K mg "is_stay" s_is_stay ["value"] f_is_stay fd_is_stay
  f_last_minute : Addr
  fd_last_minute : FuncData
  D_last_minute : Def K mg "last_minute" s_last_minute ["run"] f_last_minute fd_last_minute
  f_is_run : Addr
  fd_is_run : FuncData
  D_is_run : Def K mg "is_run" s_is_run ["value"] f_is_run fd_is_run
  f_is_lamp : Addr
  fd_is_lamp : FuncData
  D_is_lamp : Def K mg "is_lamp" s_is_lamp ["value"] f_is_lamp fd_is_lamp
  f_motions_error : Addr
  fd_motions_error : FuncData
  D_motions_error : Def K mg "motions_error" s_motions_error ["value"] f_motions_error fd_motions_error
  f_is_motions : Addr
  fd_is_motions : FuncData
  D_is_motions : Def K mg "is_motions" s_is_motions ["value"] f_is_motions fd_is_motions
  f_l_opened : Addr
  fd_l_opened : FuncData
  D_l_opened : Def K mg "_law_opened" s_l_opened ["script"] f_l_opened fd_l_opened
  f_l_draw : Addr
  fd_l_draw : FuncData
  D_l_draw : Def K mg "_law_draw" s_l_draw ["pot", "many"] f_l_draw fd_l_draw
  f_l_one : Addr
  fd_l_one : FuncData
  D_l_one : Def K mg "_law_one" s_l_one ["pot", "items"] f_l_one fd_l_one
  f_l_lamp : Addr
  fd_l_lamp : FuncData
  D_l_lamp : Def K mg "_law_lamp" s_l_lamp ["pot", "great"] f_l_lamp fd_l_lamp
  f_l_far_runs : Addr
  fd_l_far_runs : FuncData
  D_l_far_runs : Def K mg "_law_far_runs" s_l_far_runs ["pot", "upto"] f_l_far_runs fd_l_far_runs
  f_l_odd : Addr
  fd_l_odd : FuncData
  D_l_odd : Def K mg "_law_odd" s_l_odd ["pot"] f_l_odd fd_l_odd
  f_l_bent : Addr
  fd_l_bent : FuncData
  D_l_bent : Def K mg "_law_bent" s_l_bent ["pot", "value"] f_l_bent fd_l_bent
  f_l_whole : Addr
  fd_l_whole : FuncData
  D_l_whole : Def K mg "_law_whole" s_l_whole ["value", "low", "high"] f_l_whole fd_l_whole
  f_l_is_run : Addr
  fd_l_is_run : FuncData
  D_l_is_run : Def K mg "_law_is_run" s_l_is_run ["value"] f_l_is_run fd_l_is_run
  f_l_is_lamp : Addr
  fd_l_is_lamp : FuncData
  D_l_is_lamp : Def K mg "_law_is_lamp" s_l_is_lamp ["value"] f_l_is_lamp fd_l_is_lamp
  f_l_fault : Addr
  fd_l_fault : FuncData
  D_l_fault : Def K mg "_law_fault" s_l_fault ["value"] f_l_fault fd_l_fault
  f_l_spoilt : Addr
  fd_l_spoilt : FuncData
  D_l_spoilt : Def K mg "_law_spoilt" s_l_spoilt ["pot", "runs"] f_l_spoilt fd_l_spoilt
  f_law : Addr
  fd_law : FuncData
  D_law : Def K mg "law" s_law ["script"] f_law fd_law
  z_abs : mg "abs" = none
  z_all : mg "all" = none
  z_bool : mg "bool" = none
  z_enumerate : mg "enumerate" = none
  z_int : mg "int" = none
  z_isinstance : mg "isinstance" = none
  z_len : mg "len" = none
  z_list : mg "list" = none
  z_min : mg "min" = none
  z_range : mg "range" = none
  z_repr : mg "repr" = none
  z_str : mg "str" = none
  z_tuple : mg "tuple" = none
  a_KINDS : Addr
  c_KINDS : mg "KINDS" = some (.ref a_KINDS)
  s_KINDS : ∀ H : Hp, SqT K H a_KINDS ((["hold", "pulse"] : List Str).map V.str)
  t_MAX_MINUTE : Tok
  c_MAX_MINUTE : mg "MAX_MINUTE" = some (.int 1000000000 t_MAX_MINUTE)
  t_MAX_RUNS : Tok
  c_MAX_RUNS : mg "MAX_RUNS" = some (.int 360 t_MAX_RUNS)
section
variable {P : Program} {w : World} {K : PySem.W.Frag} {mg : Str → Option Value} {base : Heap}
theorem ok_is_whole (T : All K mg) : FnOk P w K mg base CX0 1 T.f_is_whole T.fd_is_whole ["value"] (sp_is_whole K) := by
  have nd := sc_is_whole.nd
  refine T.D_is_whole.F.ok sc_is_whole (fun vs H Q E h => ?_) (fun cdv A outer s H vs Q E hr h => ?_)
  · obtain ⟨v, d, rfl, _⟩ := h
    rfl
  · obtain ⟨v, d, rfl, hd, q⟩ := h
    refine ⟨_, (pss_one (ps_ret (pe_and (pe_callB call_isi (by rfl) T.z_isinstance (by decide +kernel) (pa_cons (pv 0) (pa_cons (pe_bltn (v := .ty "int") (by rfl) T.z_int (by decide +kernel) rfl) pa_nil))) (pe_one (pe_not (pe_callB call_isi (by rfl) T.z_isinstance (by decide +kernel) (pa_cons (pv 0) (pa_cons (pe_bltn (v := .ty "bool") (by rfl) T.z_bool (by decide +kernel) rfl) pa_nil)))))))), ?_⟩
    rw [wh_eq] at q
    refine ⟨v, rfl, v, .ty "int", _, _, _, rfl, .ty "int", hd.ty, kit_ty (kit_i d), _, rfl, ?_⟩
    cases hi : isI d with
    | false =>
      rw [hi] at q
      exact iteF q
    | true =>
      refine iteT ⟨v, rfl, v, .ty "bool", _, _, _, rfl, .ty "bool", hd.ty, kit_ty (kit_b d), _, rfl, ?_⟩
      rw [hi, Bool.true_and] at q
      exact q
theorem ok_is_whole_tuple (T : All K mg) : FnOk P w K mg base CX0 2 T.f_is_whole_tuple T.fd_is_whole_tuple ["value", "many"] (sp_is_whole_tuple K) := by
  have nd := sc_is_whole_tuple.nd
  refine T.D_is_whole_tuple.F.ok sc_is_whole_tuple (fun vs H Q E h => ?_) (fun cdv A outer s H vs Q E hr h => ?_)
  · obtain ⟨v, d, m, rfl, _⟩ := h
    rfl
  · obtain ⟨v, d, m, rfl, hd, hm1000, q⟩ := h
    refine ⟨_, (pss_one (ps_ret (pe_and (pe_callB call_isi (by rfl) T.z_isinstance (by decide +kernel) (pa_cons (pv 0) (pa_cons (pe_bltn (v := .ty "tuple") (by rfl) T.z_tuple (by decide +kernel) rfl) pa_nil))) (pe_and (pe_cmpR op_eq (pe_callB call_len_seq (by rfl) T.z_len (by decide +kernel) (pa_cons (pv 0) pa_nil)) (pv 1) (nomark _)) (pe_one (pe_callB (cr_all rfl) (by rfl) T.z_all (by decide +kernel) (pa_cons (pe_lc (own := [("item", 2)]) rfl nd (pi_tup (pv 0)) (blkOk_by (own := [("item", 2)]) (N := n_is_whole_tuple) (sc := defScope s_is_whole_tuple) (by decide +kernel)) (fun _ _ _ _ _ => (pg_name (i := 2) nd rfl (by first | exact Or.inl rfl | exact Or.inr rfl))) (fun _ _ _ _ _ => pts_nil) (fun _ _ _ _ _ => (pe_call (ok_is_whole T) (hr.mono (by decide)) (by rfl) T.D_is_whole.g T.D_is_whole.F.kp T.D_is_whole.b .nil pass0 (pa_cons (pv 2) pa_nil)))) pa_nil))))))), ?_⟩
    refine ⟨v, rfl, v, .ty "tuple", _, _, _, rfl, .ty "tuple", hd.ty, kit_ty (kit_t d), _, rfl, ?_⟩
    cases hd with
    | @tup a xs ds hs ha =>
      refine iteT ⟨.ref a, rfl, a, xs, rfl, .inr hs, .int m, rfl, rfl, _, rfl, ?_⟩
      have hl := ha.len
      by_cases hm : (xs.length : Int) = m
      · rw [decide_eq_true (show V.int (xs.length : Int) = V.int m by rw [hm])]
        refine iteT ⟨.ref a, rfl, a, rfl, ⟨_, hs⟩, fun D nD => ?_⟩
        refine lc_tup (K := K) (a := a) (xs := xs) (fun i H1 => H1 D = some (.lst (((ds.take i).map wh).map V.bl)) ∧ Same H H1) ⟨upd_same, same_new nD⟩ (fun i H1 _ h => Same.seqT h.2 hs) ?_ ?_
        · rintro i x H1 hx ⟨eD, s1⟩
          obtain ⟨e, he, hq⟩ := ha.get hx
          have hi : i < ds.length := (List.getElem?_eq_some_iff.mp he).1
          refine ⟨rfl, yes_if ?_⟩
          refine ⟨x, rfl, x, e, rfl, hq.mono s1, _, eD, ?_, ?_, same_upd2 s1 nD⟩
          · exact small1000 (by rw [List.length_map, List.length_map, List.length_take]; omega)
          · rw [upd_same, List.take_add_one, he, List.map_append, List.map_append]
            rfl
        · rintro H1 ⟨eD, s1⟩
          rw [hl, List.take_length] at eD
          refine ⟨D, _, rfl, .inl (.inl eD), ?_⟩
          have e : wt (.tuple ds) m = ((ds.map wh).all id) := by
            show (decide ((ds.length : Int) = m) && ds.all wh) = _
            rw [decide_eq_true (by rw [← hl]; exact hm), Bool.true_and, List.all_map]
            rfl
          rw [← e]
          exact q H1 s1
      · rw [decide_eq_false (show ¬ V.int (xs.length : Int) = V.int m from fun z => hm (V.int.inj z))]
        refine iteF ?_
        have e : wt (.tuple ds) m = false := by
          show (decide ((ds.length : Int) = m) && ds.all wh) = false
          rw [decide_eq_false (by rw [← hl]; exact hm), Bool.false_and]
        rw [← e]
        exact q H (Same.refl H)
    | _ => exact iteF (q H (Same.refl H))
theorem ok_is_stay (T : All K mg) : FnOk P w K mg base CX0 2 T.f_is_stay T.fd_is_stay ["value"] (sp_bool K (inW 1 1000000000)) := by
  have nd := sc_is_stay.nd
  refine T.D_is_stay.F.ok sc_is_stay (fun vs H Q E h => ?_) (fun cdv A outer s H vs Q E hr h => ?_)
  · obtain ⟨v, d, rfl, _⟩ := h
    rfl
  · obtain ⟨v, d, rfl, hd, q⟩ := h
    refine ⟨_, (pss_one (ps_ret (pe_and (pe_call (ok_is_whole T) (hr.mono (by decide)) (by rfl) T.D_is_whole.g T.D_is_whole.F.kp T.D_is_whole.b .nil pass0 (pa_cons (pv 0) pa_nil)) (pe_one (pe_chain op_le op_le pe_int (pv 0) (pe_glob (v := .int 1000000000) (by rfl) T.c_MAX_MINUTE ⟨_, rfl⟩)))))), ?_⟩
    refine ⟨v, rfl, v, d, rfl, hd, _, rfl, ?_⟩
    cases d with
    | int i =>
      cases hd
      refine iteT ⟨.int i, rfl, 1, i, rfl, rfl, _, rfl, ?_⟩
      have e2 : inW 1 1000000000 (.int i) = (decide (1 ≤ i) && decide (i ≤ 1000000000)) := rfl
      rw [e2] at q
      cases g : decide (1 ≤ i) with
      | true =>
        rw [g] at q
        exact iteT ⟨i, 1000000000, rfl, rfl, q H (Same.refl H)⟩
      | false =>
        rw [g] at q
        exact iteF (q H (Same.refl H))
    | _ => exact iteF (q H (Same.refl H))
theorem ok_last_minute (T : All K mg) : FnOk P w K mg base CX0 1 T.f_last_minute T.fd_last_minute ["run"] (sp_last K) := by
  have nd := sc_last_minute.nd
  refine T.D_last_minute.F.ok sc_last_minute (fun vs H Q E h => ?_) (fun cdv A outer s H vs Q E hr h => ?_)
  · obtain ⟨t, a, st, c, rfl, _⟩ := h
    rfl
  · obtain ⟨t, a, st, c, rfl, hs, hc, q⟩ := h
    refine ⟨_, (pss_cons (ps_asg (pv 0) (pg_tup rfl (pgs_cons (pg_name (i := 1) nd rfl (by first | exact Or.inl rfl | exact Or.inr rfl)) (pgs_cons (pg_name (i := 2) nd rfl (by first | exact Or.inl rfl | exact Or.inr rfl)) (pgs_cons (pg_name (i := 3) nd rfl (by first | exact Or.inl rfl | exact Or.inr rfl)) pgs_nil)))))
  (pss_one (ps_ret (pe_op op_add (pv 1) (pe_op op_mulW (pv 2) (pe_op op_sub (pv 3) pe_int)))))), ?_⟩
    refine ⟨.ref t, rfl, t, _, rfl, hs, rfl, _, _, rfl, _, _, rfl, _, _, rfl, rfl, ?_⟩
    exact ⟨.int a, rfl, .int st, rfl, .int c, rfl, c, 1, rfl, rfl, st, _, rfl, rfl, hc, a, _, rfl, rfl, q⟩
theorem ok_is_run (T : All K mg) : FnOk P w K mg base CX0 3 T.f_is_run T.fd_is_run ["value"] (sp_boolS K fun d => (runOf d).isSome) := by
  have nd := sc_is_run.nd
  refine T.D_is_run.F.ok sc_is_run (fun vs H Q E h => ?_) (fun cdv A outer s H vs Q E hr h => ?_)
  · obtain ⟨v, d, rfl, _⟩ := h
    rfl
  · obtain ⟨v, d, rfl, hd, hsh, q⟩ := h
    dsimp only at q
    refine ⟨_, (pss_cons (ps_if (pt_not (pt_val (pe_call (ok_is_whole_tuple T) (hr.mono (by decide)) (by rfl) T.D_is_whole_tuple.g T.D_is_whole_tuple.F.kp T.D_is_whole_tuple.b .nil pass0 (pa_cons (pv 0) (pa_cons pe_int pa_nil)))))
    (pss_one (ps_ret pe_bl))
    pss_nil)
  (pss_cons (ps_asg (pv 0) (pg_tup rfl (pgs_cons (pg_name (i := 1) nd rfl (by first | exact Or.inl rfl | exact Or.inr rfl)) (pgs_cons (pg_name (i := 2) nd rfl (by first | exact Or.inl rfl | exact Or.inr rfl)) (pgs_cons (pg_name (i := 3) nd rfl (by first | exact Or.inl rfl | exact Or.inr rfl)) pgs_nil)))))
  (pss_cons (ps_if (PW.pt (pw_or (pt_cmpR op_lt (pv 1) pe_int (nomark _)) (pw_or (pt_cmpR op_lt (pv 2) pe_int (nomark _)) (pw_or1 (pt_cmpR op_lt (pv 3) pe_int (nomark _))))))
    (pss_one (ps_ret pe_bl))
    pss_nil)
  (pss_cons (ps_if (PW.pt (pw_and (pt_cmpR op_eq (pv 3) pe_int (nomark _)) (pw_and1 (pt_cmpR op_ne (pv 2) pe_int (nomark _)))))
    (pss_one (ps_ret pe_bl))
    pss_nil)
  (pss_one (ps_ret (pe_cmpR op_le (pe_call (ok_last_minute T) (hr.mono (by decide)) (by rfl) T.D_last_minute.g T.D_last_minute.F.kp T.D_last_minute.b .nil pass0 (pa_cons (pv 0) pa_nil)) (pe_glob (v := .int 1000000000) (by rfl) T.c_MAX_MINUTE ⟨_, rfl⟩) (nomark _)))))))), ?_⟩
    refine ⟨v, rfl, v, d, 3, rfl, hd, by decide, fun H1 s1 => ⟨_, rfl, ?_⟩⟩
    cases hw : wt d 3 with
    | false =>
      rw [wt3_no hw] at q
      exact iteT (q H1 s1)
    | true =>
      obtain ⟨a, st, c, rfl⟩ := wt3 hw
      have hm := run_mulW hsh
      rw [runOf_eq] at q
      cases hd with
      | @tup ad xs _ hs ha =>
        cases ha with
        | cons h1 h2 =>
          cases h2 with
          | cons h3 h4 =>
            cases h4 with
            | cons h5 h6 =>
              cases h6
              cases h1
              cases h3
              cases h5
              refine iteF ⟨.ref ad, rfl, ad, _, rfl, Same.seqT s1 hs, rfl, _, _, rfl, _, _, rfl, _, _, rfl, rfl, ?_⟩
              refine ⟨.int a, rfl, a, 0, rfl, rfl, _, rfl, ?_⟩
              have no : ¬ (0 ≤ a ∧ 1 ≤ st ∧ 1 ≤ c ∧ (c = 1 → st = 1) ∧ a + st * (c - 1) ≤ 1000000000) → Q (.bl false) H1 := fun n => by
                rw [decide_eq_false n] at q
                exact q H1 s1
              by_cases g1 : a < 0
              · rw [decide_eq_true g1]
                exact iteT (no (by omega))
              · rw [decide_eq_false g1]
                refine iteF ⟨.int st, rfl, st, 1, rfl, rfl, _, rfl, ?_⟩
                by_cases g2 : st < 1
                · rw [decide_eq_true g2]
                  exact iteT (no (by omega))
                · rw [decide_eq_false g2]
                  refine iteF ⟨.int c, rfl, c, 1, rfl, rfl, _, rfl, ?_⟩
                  by_cases g3 : c < 1
                  · rw [decide_eq_true g3]
                    exact iteT (no (by omega))
                  · rw [decide_eq_false g3]
                    have fin : (c = 1 → st = 1) → ∃ i j, V.int (a + st * (c - 1)) = .int i ∧ V.int 1000000000 = .int j ∧ Q (.bl (decide (i ≤ j))) H1 := fun g => by
                      refine ⟨_, _, rfl, rfl, ?_⟩
                      have e : decide (0 ≤ a ∧ 1 ≤ st ∧ 1 ≤ c ∧ (c = 1 → st = 1) ∧ a + st * (c - 1) ≤ 1000000000) = decide (a + st * (c - 1) ≤ 1000000000) := by
                        rw [decide_eq_decide]
                        exact ⟨fun h => h.2.2.2.2, fun h => ⟨by omega, by omega, by omega, g, h⟩⟩
                      rw [e] at q
                      exact q H1 s1
                    refine iteF ⟨.int c, rfl, rfl, _, rfl, ?_⟩
                    by_cases g4 : c = 1
                    · rw [show decide (V.int c = V.int 1) = true from by rw [g4]; rfl]
                      refine iteT ⟨.int st, rfl, rfl, _, rfl, ?_⟩
                      by_cases g5 : st = 1
                      · rw [show (!decide (V.int st = V.int 1)) = false from by rw [g5]; rfl]
                        exact iteF ⟨.ref ad, rfl, ad, a, st, c, rfl, Same.seqT s1 hs, hm, fin fun _ => g5⟩
                      · rw [show (!decide (V.int st = V.int 1)) = true from by rw [decide_eq_false fun z => g5 (V.int.inj z)]; rfl]
                        exact iteT (no (by omega))
                    · rw [show decide (V.int c = V.int 1) = false from decide_eq_false fun z => g4 (V.int.inj z)]
                      exact iteF ⟨.ref ad, rfl, ad, a, st, c, rfl, Same.seqT s1 hs, hm, fin fun g => absurd g g4⟩
theorem ok_is_lamp (T : All K mg) : FnOk P w K mg base CX0 3 T.f_is_lamp T.fd_is_lamp ["value"] (sp_bool K lampB) := by
  have nd := sc_is_lamp.nd
  refine T.D_is_lamp.F.ok sc_is_lamp (fun vs H Q E h => ?_) (fun cdv A outer s H vs Q E hr h => ?_)
  · obtain ⟨v, d, rfl, _⟩ := h
    rfl
  · obtain ⟨v, d, rfl, hd, q⟩ := h
    refine ⟨_, (pss_cons (ps_if (PW.pt (pw_or (pt_not (pt_val (pe_callB call_isi (by rfl) T.z_isinstance (by decide +kernel) (pa_cons (pv 0) (pa_cons (pe_bltn (v := .ty "tuple") (by rfl) T.z_tuple (by decide +kernel) rfl) pa_nil))))) (pw_or1 (pt_cmpR op_ne (pe_callB call_len_seq (by rfl) T.z_len (by decide +kernel) (pa_cons (pv 0) pa_nil)) pe_int (nomark _)))))
    (pss_one (ps_ret pe_bl))
    pss_nil)
  (pss_cons (ps_asg (pv 0) (pg_tup rfl (pgs_cons (pg_name (i := 1) nd rfl (by first | exact Or.inl rfl | exact Or.inr rfl)) (pgs_cons (pg_name (i := 2) nd rfl (by first | exact Or.inl rfl | exact Or.inr rfl)) pgs_nil))))
  (pss_one (ps_ret (pe_and (pe_cmpR (op_inStr (in1_units hr.units)) (pv 1) (pe_glob (v := .ref T.a_KINDS) (by rfl) T.c_KINDS rfl) (by rfl)) (pe_one (pe_call (ok_is_stay T) (hr.mono (by decide)) (by rfl) T.D_is_stay.g T.D_is_stay.F.kp T.D_is_stay.b .nil pass0 (pa_cons (pv 2) pa_nil)))))))), ?_⟩
    refine s_if ?_
    refine ⟨v, rfl, v, .ty "tuple", _, _, _, rfl, .ty "tuple", hd.ty, kit_ty (kit_t d), _, rfl, ?_⟩
    cases hd with
    | @tup a xs ds hs ha =>
      have hl := ha.len
      refine iteF ⟨.ref a, rfl, a, xs, rfl, .inr hs, rfl, _, rfl, ?_⟩
      by_cases h2 : (xs.length : Int) = 2
      · rw [show (!decide (V.int (xs.length : Int) = V.int 2)) = false from by rw [decide_eq_true (by rw [h2])]; rfl]
        match ds, ha, hl with
        | [dk, dz], ha, hl =>
          cases ha with
          | @cons k _ _ _ h1 h3 =>
            cases h3 with
            | @cons z _ _ _ h3 h4 =>
              cases h4
              refine iteF ⟨.ref a, rfl, a, _, rfl, hs, rfl, _, _, rfl, _, _, rfl, rfl, ?_⟩
              refine ⟨k, rfl, dk, _, ["hold", "pulse"], h1, rfl, .inr (T.s_KINDS _), _, rfl, ?_⟩
              cases hb : (["hold", "pulse"] : List Str).any (strIs dk) with
              | false =>
                have e : lampB (.tuple [dk, dz]) = false := by
                  show ((["hold", "pulse"] : List Str).any (strIs dk) && inW 1 1000000000 dz) = false
                  rw [hb]; rfl
                rw [e] at q
                exact iteF (q H (Same.refl H))
              | true =>
                have e : lampB (.tuple [dk, dz]) = inW 1 1000000000 dz := by
                  show ((["hold", "pulse"] : List Str).any (strIs dk) && inW 1 1000000000 dz) = _
                  rw [hb]; rfl
                rw [e] at q
                exact iteT ⟨z, rfl, z, dz, rfl, h3, fun H1 s1 => q H1 s1⟩
        | [], _, hl => exact absurd h2 (by rw [hl]; simp)
        | [_], _, hl => exact absurd h2 (by rw [hl]; simp)
        | _ :: _ :: _ :: _, _, hl => exact absurd h2 (by rw [hl]; simp only [List.length_cons]; omega)
      · rw [show (!decide (V.int (xs.length : Int) = V.int 2)) = true from by rw [decide_eq_false fun z => h2 (V.int.inj z)]; rfl]
        have e : lampB (.tuple ds) = false := by
          match ds, hl with
          | [_, _], hl => exact absurd (by rw [hl]; rfl) h2
          | [], _ => rfl
          | [_], _ => rfl
          | _ :: _ :: _ :: _, _ => rfl
        rw [e] at q
        exact iteT (q H (Same.refl H))
    | _ => exact iteT (q H (Same.refl H))
theorem ok_motions_error (T : All K mg) : FnOk P w K mg base CX0 4 T.f_motions_error T.fd_motions_error ["value"] (sp_errS K motErr) := by
  have nd := sc_motions_error.nd
  refine T.D_motions_error.F.ok sc_motions_error (fun vs H Q E h => ?_) (fun cdv A outer s H vs Q E hr h => ?_)
  · obtain ⟨v, d, rfl, _⟩ := h
    rfl
  · obtain ⟨v, d, rfl, hd, hsh, q⟩ := h
    refine ⟨_, (pss_cons (ps_if (PW.pt (pw_or (pt_not (pt_val (pe_callB call_isi (by rfl) T.z_isinstance (by decide +kernel) (pa_cons (pv 0) (pa_cons (pe_bltn (v := .ty "tuple") (by rfl) T.z_tuple (by decide +kernel) rfl) pa_nil))))) (pw_or1 (pt_cmpR op_gt (pe_callB call_len_seq (by rfl) T.z_len (by decide +kernel) (pa_cons (pv 0) pa_nil)) (pe_glob (v := .int 360) (by rfl) T.c_MAX_RUNS ⟨_, rfl⟩) (nomark _)))))
    (pss_one (ps_ret (pe_tup (pa_cons pe_non (pa_cons pe_str pa_nil)))))
    pss_nil)
  (pss_cons (ps_set (i := 1) nd rfl (by first | exact Or.inl rfl | exact Or.inr rfl) (pe_un un_neg pe_int))
  (pss_cons (ps_for PassesOwn.never rfl (pi_enumT (by rfl) T.z_enumerate (pa_cons (pv 0) pa_nil)) (pg_tup rfl (pgs_cons (pg_name (i := 2) nd rfl (by first | exact Or.inl rfl | exact Or.inr rfl)) (pgs_cons (pg_name (i := 3) nd rfl (by first | exact Or.inl rfl | exact Or.inr rfl)) pgs_nil)))
    (pss_cons (ps_if (pt_not (pt_val (pe_call (ok_is_run T) (hr.mono (by decide)) (by rfl) T.D_is_run.g T.D_is_run.F.kp T.D_is_run.b .nil pass0 (pa_cons (pv 3) pa_nil))))
    (pss_one (ps_ret (pe_tup (pa_cons (pv 2) (pa_cons pe_str pa_nil)))))
    pss_nil)
  (pss_cons (ps_if (pt_cmpR op_le (pe_ix ix_tup (pv 3) pe_int (fun _ _ => rfl)) (pv 1) (nomark _))
    (pss_one (ps_ret (pe_tup (pa_cons (pv 2) (pa_cons pe_str pa_nil)))))
    pss_nil)
  (pss_one (ps_set (i := 1) nd rfl (by first | exact Or.inl rfl | exact Or.inr rfl) (pe_call (ok_last_minute T) (hr.mono (by decide)) (by rfl) T.D_last_minute.g T.D_last_minute.F.kp T.D_last_minute.b .nil pass0 (pa_cons (pv 3) pa_nil)))))))
  (pss_one (ps_ret pe_non))))), ?_⟩
    have no : motErr d = two .none (.str "motions") → ∀ t, H t = none → Q (.ref t) (upd H t (.tup [.non, .str "motions"])) := fun e t nt =>
      q _ _ (same_new nt) (.inr ⟨t, _, _, _, _, rfl, nt, upd_same, e, fun _ => .non, fun _ => .str _⟩)
    refine s_if ?_
    refine ⟨v, rfl, v, .ty "tuple", _, _, _, rfl, .ty "tuple", hd.ty, kit_ty (kit_t d), _, rfl, ?_⟩
    cases hd with
    | @tup a xs ds hs ha =>
      have hl := ha.len
      have hsa : PyData.showableAll ds = true := by simpa only [PyData.showable] using hsh
      refine iteF ⟨.ref a, rfl, a, xs, rfl, .inr hs, _, 360, rfl, rfl, _, rfl, ite2 (fun g => ?_) (fun g => ?_)⟩
      · have g' : (360 : Int) < (xs.length : Int) := of_decide_eq_true g
        exact ⟨sz2, no (by show (if 360 < ds.length then _ else _) = _; rw [if_pos (by omega)])⟩
      · have g' : ¬ (360 : Int) < (xs.length : Int) := fun z => g (decide_eq_true z)
        have e0 : motErr (.tuple ds) = motGo ds 0 (-1) := by
          show (if 360 < ds.length then _ else _) = _
          rw [if_neg (by omega)]
        rw [e0] at q
        refine ⟨1, rfl, ?_⟩
        refine ⟨.ref a, rfl, a, xs, rfl, hs, for_it walk_enumT (fun i σ H1 => (∃ b y2 y3, σ = [some (.ref a), some (.int b), y2, y3] ∧ motGo ds 0 (-1) = motGo (ds.drop i) i b) ∧ Same H H1) ⟨⟨-1, _, _, rfl, rfl⟩, Same.refl H⟩ (fun i σ H1 _ h => Same.seqT h.2 hs) ?_ ?_⟩
        · rintro i x σ H1 H2 hi ⟨⟨b, y2, y3, rfl, eg⟩, s1⟩ ⟨t, z, rfl, nt, rfl, hz⟩
          obtain ⟨e, he, hq⟩ := ha.get hz
          have she := show_get hsa he
          have s2 : Same H (upd H1 t (.tup [.int (i : Nat), z])) := s1.trans (same_new nt)
          rw [motGo_cons he] at eg
          refine ⟨t, _, rfl, .inl (.inl upd_same), rfl, _, _, rfl, _, _, rfl, rfl, ?_⟩
          refine s_if ?_
          refine ⟨z, rfl, z, e, rfl, hq.mono s2, she, fun H3 s3 => ⟨(runOf e).isSome, rfl, ?_⟩⟩
          have s4 := s2.trans s3
          cases hst : runOf e with
          | none =>
            have eg' : motGo ds 0 (-1) = two (.int i) (.str "run") := by
              rw [eg]
              simp only [motGo, hst]
            refine iteT ⟨.int i, rfl, sz2, fun u nu => ?_⟩
            exact q _ _ (s4.trans (same_new nu)) (.inr ⟨u, _, _, _, _, rfl, s4.free nu, upd_same, eg', fun _ => .int _, fun _ => .str _⟩)
          | some ab =>
            obtain ⟨on, st, c, rfl, est, _⟩ := runOf_wt (d := e) (by rw [hst]; rfl)
            have hm := run_mulW she
            rw [hst] at est
            cases est
            cases hq with
            | @tup ad ys _ hs2 ha2 =>
              cases ha2 with
              | cons h1 h2 =>
                cases h2 with
                | cons h3 h4 =>
                  cases h4 with
                  | cons h5 h6 =>
                    cases h6
                    cases h1
                    cases h3
                    cases h5
                    refine iteF ⟨.ref ad, rfl, ad, _, 0, .int on, rfl, rfl, Same.seqT s4 hs2, atI_nat (j := 0) rfl, .int b, rfl, on, b, rfl, rfl, _, rfl, ite2 (fun g => ?_) (fun g => ?_)⟩
                    · have g' : on ≤ b := of_decide_eq_true g
                      have eg' : motGo ds 0 (-1) = two (.int i) (.str "order") := by
                        rw [eg]
                        simp only [motGo, hst, if_pos g']
                      refine ⟨.int i, rfl, sz2, fun u nu => ?_⟩
                      exact q _ _ (s4.trans (same_new nu)) (.inr ⟨u, _, _, _, _, rfl, s4.free nu, upd_same, eg', fun _ => .int _, fun _ => .str _⟩)
                    · have g' : ¬ on ≤ b := fun z => g (decide_eq_true z)
                      refine ⟨.ref ad, rfl, ad, on, st, c, rfl, Same.seqT s4 hs2, hm, ⟨_, _, _, rfl, ?_⟩, s4⟩
                      rw [eg]
                      simp only [motGo, hst, if_neg g']
        · rintro σ H1 ⟨⟨b, y2, y3, rfl, eg⟩, s1⟩
          rw [hl, List.drop_length] at eg
          exact q _ _ s1 (.inl ⟨rfl, eg⟩)
    | _ => exact iteT ⟨sz2, no rfl⟩
theorem ok_is_motions (T : All K mg) : FnOk P w K mg base CX0 5 T.f_is_motions T.fd_is_motions ["value"] (sp_boolS K fun d => isN (motErr d)) := by
  have nd := sc_is_motions.nd
  refine T.D_is_motions.F.ok sc_is_motions (fun vs H Q E h => ?_) (fun cdv A outer s H vs Q E hr h => ?_)
  · obtain ⟨v, d, rfl, _⟩ := h
    rfl
  · obtain ⟨v, d, rfl, hd, hsh, q⟩ := h
    refine ⟨_, (pss_one (ps_ret (pe_cmpR op_isN (pe_call (ok_motions_error T) (hr.mono (by decide)) (by rfl) T.D_motions_error.g T.D_motions_error.F.kp T.D_motions_error.b .nil pass0 (pa_cons (pv 0) pa_nil)) pe_non (nomark _)))), ?_⟩
    refine ⟨v, rfl, v, d, rfl, hd, hsh, fun r H1 s1 hf => ⟨rfl, ?_⟩⟩
    have e : decide (r = V.non) = isN (motErr d) := hf.isN
    rw [e]
    exact q H1 s1
theorem ok_l_opened (T : All K mg) : FnOk P w K mg base CX0 1 T.f_l_opened T.fd_l_opened ["script"] (sp_opened K) := by
  have nd := sc_l_opened.nd
  refine T.D_l_opened.F.ok sc_l_opened (fun vs H Q E h => ?_) (fun cdv A outer s H vs Q E hr h => ?_)
  · obtain ⟨a, ns, rfl, _⟩ := h
    rfl
  · obtain ⟨a, ns, rfl, hS, hl, q⟩ := h
    refine ⟨_, (pss_cons (ps_setLc (i := 2) (own := [("cell", 1)]) rfl nd rfl rfl (sw_true rfl rfl rfl (by decide +kernel)) (pi_list (pe_slice sl_list (pv 0) po_none (po_some pe_int))) (blkOk_by (own := [("cell", 1)]) (N := n_l_opened) (sc := defScope s_l_opened) (by decide +kernel)) (fun _ _ _ _ _ => (pg_name (i := 1) nd rfl (by first | exact Or.inl rfl | exact Or.inr rfl))) (fun _ _ _ _ _ => pts_nil) (fun _ _ _ _ _ => (pe_callB call_abs (by rfl) T.z_abs (by decide +kernel) (pa_cons (pv 1) pa_nil))))
  (pss_one (ps_ret (pe_disp (pps_cons pe_str (pe_lc (own := [("cell", 1)]) rfl nd (pi_list (pv 2)) (blkOk_by (own := [("cell", 1)]) (N := n_l_opened) (sc := defScope s_l_opened) (by decide +kernel)) (fun _ _ _ _ _ => (pg_name (i := 1) nd rfl (by first | exact Or.inl rfl | exact Or.inr rfl))) (fun _ _ _ _ _ => (pts_one (pt_cmpR op_ge (pv 1) (pe_op op_pow pe_int pe_int) (nomark _)))) (fun _ _ _ _ _ => (pv 1))) (pps_cons pe_str (pe_op op_cat (pv 2) (pe_op op_rep (pe_lst (pa_cons pe_int pa_nil)) (pe_callTy call_int1 (by rfl) T.z_int (by decide +kernel) (pa_cons (pe_cmpR (op_eqE hr.units0) (pv 2) (pe_lst pa_nil) (nomark _)) pa_nil)))) (pps_cons pe_str pe_int pps_nil))) (by rfl) (by rfl) (fun z => by cases z) (by decide))))), ?_⟩
    have cut : cutV (ns.map V.int) none (some 64) = ns.map V.int := cut_all (by rw [List.length_map]; omega)
    -- cells
    refine ⟨.ref a, rfl, 64, rfl, a, _, rfl, hS, fun c nc => ⟨c, rfl, ⟨_, .inl (.inl upd_same)⟩, fun D nD => ?_⟩⟩
    rw [cut] at nD ⊢
    have nDc : D ≠ c := (ne_of_none upd_same nD).symm
    have nD0 : H D = none := (same_new (o := .lst (ns.map V.int)) nc).free nD
    refine lc_list (K := K) (a := c) (xs := ns.map V.int) (fun i H1 => H1 D = some (.lst ((ns.take i).map fun n => V.int (if n < 0 then -n else n))) ∧ H1 c = some (.lst (ns.map V.int)) ∧ Same H H1)
      ⟨upd_same, by rw [upd_ne nDc.symm]; exact upd_same, same_upd2 (same_new nc) nD0⟩ (fun i H1 _ h => .inl (.inl h.2.1)) ?_ ?_
    · rintro i x H1 hx ⟨eD, ec, s1⟩
      obtain ⟨n, hn, rfl⟩ : ∃ n, ns[i]? = some n ∧ x = V.int n := by
        rw [List.getElem?_map] at hx
        cases e : ns[i]? with
        | none => rw [e] at hx; cases hx
        | some n => rw [e] at hx; exact ⟨n, rfl, (Option.some.inj hx).symm⟩
      have hi : i < ns.length := (List.getElem?_eq_some_iff.mp hn).1
      refine ⟨rfl, yes_if ?_⟩
      refine ⟨.int n, rfl, n, rfl, _, eD, small1000 (by simp; omega), ?_, ?_, same_upd2 s1 nD0⟩
      · rw [upd_same, List.take_add_one, hn, List.map_append]
        rfl
      · rw [upd_ne nDc.symm]
        exact ec
    · rintro H1 ⟨eD, ec, s1⟩
      rw [List.length_map, List.take_length] at eD
      generalize hcs : (ns.map fun n => if n < 0 then -n else n) = cs
      have eD : H1 D = some (.lst (cs.map V.int)) := by
        rw [eD, ← hcs, List.map_map]
        rfl
      have lcs : cs.length ≤ 63 := by rw [← hcs, List.length_map]; exact hl
      -- {'deep': .., 'all': .., 'times': 0}
      intro pp np
      have nDp : D ≠ pp := ne_of_none eD np
      have np0 : H pp = none := s1.free np
      -- [cell for cell in cells if ..]
      refine ⟨.ref D, rfl, D, rfl, ⟨cs.map V.int, .inl (.inl (by rw [upd_ne nDp]; exact eD))⟩, fun E2 nE => ?_⟩
      have nEp : E2 ≠ pp := (ne_of_none upd_same nE).symm
      have nE1 : H1 E2 = none := (same_new (o := .dK []) np).free nE
      have nED : E2 ≠ D := (ne_of_none eD nE1).symm
      have nE0 : H E2 = none := s1.free nE1
      refine lc_list (K := K) (a := D) (xs := cs.map V.int) (fun i H2 => (∃ ds : List Int, H2 E2 = some (.lst (ds.map V.int)) ∧ ds.length ≤ i) ∧ H2 D = some (.lst (cs.map V.int)) ∧ H2 pp = some (.dK []) ∧ Same H H2)
        ⟨⟨[], upd_same, Nat.le_refl _⟩, by rw [upd_ne nED.symm, upd_ne nDp]; exact eD, by rw [upd_ne nEp.symm]; exact upd_same, same_upd2 (same_upd2 s1 np0) nE0⟩ (fun i H2 _ h => .inl (.inl h.2.1)) ?_ ?_
      · rintro i x H2 hx ⟨⟨ds, eE, ld⟩, eD2, ep2, s2⟩
        obtain ⟨n, hn, rfl⟩ : ∃ n, cs[i]? = some n ∧ x = V.int n := by
          rw [List.getElem?_map] at hx
          cases e : cs[i]? with
          | none => rw [e] at hx; cases hx
          | some n => rw [e] at hx; exact ⟨n, rfl, (Option.some.inj hx).symm⟩
        have hi : i < cs.length := (List.getElem?_eq_some_iff.mp hn).1
        refine ⟨rfl, .int n, rfl, 10, 18, rfl, rfl, ⟨by decide, by decide, by decide⟩, n, _, rfl, rfl, _, rfl, ite2 (fun _ => ?_) (fun _ => ?_)⟩
        · refine ⟨.int n, rfl, _, eE, small1000 (by simp; omega), ⟨ds ++ [n], ?_, by simp; omega⟩, ?_, ?_, same_upd2 s2 nE0⟩
          · rw [upd_same, List.map_append]
            rfl
          · rw [upd_ne nED.symm]; exact eD2
          · rw [upd_ne nEp.symm]; exact ep2
        · exact ⟨⟨ds, eE, by omega⟩, eD2, ep2, s2⟩
      · rintro H2 ⟨⟨ds, eE, ld⟩, eD2, ep2, s2⟩
        rw [List.length_map] at ld
        -- cells + [53] * int(cells == [])
        refine ⟨.ref D, rfl, Nat.le_of_lt (small1000 (by decide)), fun f nf => ⟨.ref D, rfl, Nat.zero_le _, fun g ng => ?_⟩⟩
        have s3 : Same H2 (upd H2 f (.lst [V.int 53])) := same_new nf
        have s4 : Same (upd H2 f (.lst [V.int 53])) (upd (upd H2 f (.lst [V.int 53])) g (.lst [])) := same_new ng
        have ef : (upd (upd H2 f (.lst [V.int 53])) g (.lst [])) f = some (.lst [V.int 53]) := s4 _ _ upd_same
        have eD4 : (upd (upd H2 f (.lst [V.int 53])) g (.lst [])) D = some (.lst (cs.map V.int)) := s4 _ _ (s3 _ _ eD2)
        refine ⟨D, g, _, rfl, rfl, .inl (.inl eD4), .inl (.inl upd_same), .inr ⟨_, rfl, f, _, [V.int 53], rfl, rfl, ef, ?_, ?_, ?_, fun r nr => ?_⟩⟩
        · split <;> decide
        · split <;> decide
        · split <;> exact Nat.le_of_lt (small1000 (by decide))
        have s5 := same_new (o := .lst (List.replicate (if (cs.map V.int).isEmpty = true then (1 : Int) else 0).toNat [V.int 53]).flatten) nr
        refine ⟨D, r, _, _, rfl, rfl, s5 _ _ eD4, upd_same, Nat.le_of_lt (small1000 ?_), fun al na => ?_⟩
        · cases cs with
          | nil => decide
          | cons x xs => simp at lcs ⊢; omega
        have s6 := same_new (o := .lst (cs.map V.int ++ (List.replicate (if (cs.map V.int).isEmpty = true then (1 : Int) else 0).toNat [V.int 53]).flatten)) na
        have s7 : Same H2 _ := ((s3.trans s4).trans s5).trans s6
        refine ⟨s7 _ _ ep2, [(Sum.inr "deep", V.ref E2), (Sum.inr "all", V.ref al), (Sum.inr "times", V.int 0)], rfl, Nat.le_add_left 3 12, ?_⟩
        have nal : al ≠ pp := (ne_of_none (((s3.trans s4).trans s5) _ _ ep2) na).symm
        have nalE : al ≠ E2 := (ne_of_none (((s3.trans s4).trans s5) _ _ eE) na).symm
        refine q pp E2 al _ ⟨⟨0, upd_same⟩, ⟨ds, by rw [upd_ne nEp]; exact s7 _ _ eE, by omega⟩, ?_, nalE, (fun b x e => nomatch e), rfl, rfl⟩ (same_upd2 (s2.trans s7) np0)
        cases cs with
        | nil => exact ⟨[53], by rw [upd_ne nal, upd_same]; rfl, by simp, by decide⟩
        | cons x xs =>
          refine ⟨x :: xs, by rw [upd_ne nal, upd_same]; simp, by simp, by simp at lcs ⊢; omega⟩
theorem ok_l_draw (T : All K mg) : FnOk P w K mg base CX0 1 T.f_l_draw T.fd_l_draw ["pot", "many"] sp_draw := by
  have nd := sc_l_draw.nd
  refine T.D_l_draw.F.ok sc_l_draw (fun vs H Q E h => ?_) (fun cdv A outer s H vs Q E hr h => ?_)
  · obtain ⟨Z, p, dl, al, n, rfl, _⟩ := h
    rfl
  · obtain ⟨Z, p, dl, al, n, rfl, hP, n0, n1, q⟩ := h
    have hu := hu_of hr
    refine ⟨_, (pss_cons (ps_while PassesOwn.never (pt_cmpR (op_neE hr.units0) (pe_dget hu (pv 0) pe_str (fun _ _ => rfl)) (pe_lst pa_nil) (nomark _))
    (pss_cons (ps_set (i := 2) nd rfl (by first | exact Or.inl rfl | exact Or.inr rfl) (pe_bm PySem.F.plainAttrs_list PySem.F.slot_list_pop PySem.F.type_list_pop mt_popAt (pe_dget hu (pv 0) pe_str (fun _ _ => rfl)) (pa_cons pe_int pa_nil)))
  (pss_one (ps_if (pt_cmpR op_gt (pv 2) pe_int (nomark _))
    (pss_cons (ps_expr (pe_bm PySem.F.plainAttrs_list PySem.F.slot_list_insert PySem.F.type_list_insert mt_insert (pe_dget hu (pv 0) pe_str (fun _ _ => rfl)) (pa_cons pe_int (pa_cons (pe_op op_fdivN (pv 2) (pv 1)) pa_nil))))
  (pss_one (ps_ret (pe_op op_modN (pv 2) (pv 1)))))
    pss_nil))))
  (pss_cons (ps_par (i := 3) (j := 4) (by rfl) nd rfl rfl (by decide) rfl rfl (pa_cons (pe_dget hu (pv 0) pe_str (fun _ _ => rfl)) (pa_cons (pe_dget hu (pv 0) pe_str (fun _ _ => rfl)) pa_nil)) (by rfl))
  (pss_cons (ps_dput hu (pv 0) pe_str (pe_op op_add (pv 3) pe_int) rfl)
  (pss_cons (ps_set (i := 5) nd rfl (by first | exact Or.inl rfl | exact Or.inr rfl) (pe_op op_add (pe_op op_modN (pe_ix ix_list (pv 4) (pe_op op_modN (pv 3) (pe_callB call_len_seq (by rfl) T.z_len (by decide +kernel) (pa_cons (pv 4) pa_nil))) (fun _ _ => rfl)) pe_int) (pe_op op_mul pe_int (pe_op op_add (pv 3) pe_int))))
  (pss_cons (ps_set (i := 5) nd rfl (by first | exact Or.inl rfl | exact Or.inr rfl) (pe_op op_modN (pe_op op_mul (pe_op op_modN (pv 5) pe_int) (pe_op op_add (pe_op op_modN (pv 5) pe_int) pe_int)) pe_int))
  (pss_cons (ps_set (i := 5) nd rfl (by first | exact Or.inl rfl | exact Or.inr rfl) (pe_op op_modN (pe_op op_mul (pe_op op_modN (pe_op op_add (pe_op op_mul (pv 5) (pv 5)) (pe_op op_mul pe_int (pv 3))) pe_int) pe_int) pe_int))
  (pss_one (ps_ret (pe_op op_modN (pe_op op_fdivN (pv 5) pe_int) (pv 1)))))))))), ?_⟩
    refine ⟨fun m σ H' => (∃ y2, σ = [some (.ref p), some (.int n), y2, none, none, none]) ∧ PotAt Z H' p dl al ∧ (∃ ns : List Int, H' dl = some (.lst (ns.map V.int)) ∧ ns.length = m) ∧ Kp Z p dl H H', ?_, ?_⟩
    · obtain ⟨ns, e, _⟩ := hP.de
      exact ⟨ns.length, ⟨_, rfl⟩, hP, ⟨ns, e, rfl⟩, Kp.refl _ _ _⟩
    · rintro m σ H1 ⟨⟨y2, rfl⟩, P1, ⟨ns, ed, em⟩, k1⟩
      obtain ⟨t, ep⟩ := P1.ob
      have npd := P1.pd
      refine ⟨_, rfl, p, .ref dl, rfl, DGet.k (k := Sum.inr "deep") ep, Nat.zero_le _, fun l nl => ?_⟩
      have fr := P1.free nl
      have ed1 : (upd H1 l (.lst [])) dl = some (.lst (ns.map V.int)) := by rw [upd_ne fr.2.1.symm]; exact ed
      have ep1 : (upd H1 l (.lst [])) p = some (.dK [(.inr "deep", .ref dl), (.inr "all", .ref al), (.inr "times", .int t)]) := by rw [upd_ne fr.1.symm]; exact ep
      have P2 := P1.new (o := .lst []) nl
      have k2 : Kp Z p dl H (upd H1 l (.lst [])) := k1.trans (Kp.new nl)
      refine ⟨dl, l, _, rfl, rfl, .inl (.inl ed1), .inl (.inl upd_same), _, rfl, ?_⟩
      cases ns with
      | cons x r =>
        refine iteT ⟨_, fun σ' H' z => z, ?_⟩
        have eP : ∀ o, (upd (upd H1 l (.lst [])) dl o) p = some (.dK [(.inr "deep", .ref dl), (.inr "all", .ref al), (.inr "times", .int t)]) := fun o => by rw [upd_ne npd]; exact ep1
        obtain ⟨ns2, e2, l2⟩ := P1.de
        have lr : r.length ≤ 63 := by
          rw [ed] at e2
          have q2 : (x :: r).map V.int = ns2.map V.int := HO.lst.inj (Option.some.inj e2)
          have q3 := congrArg List.length q2
          simp at q3
          omega
        have P3 : ∀ r' : List Int, r'.length ≤ 64 → PotAt Z (upd (upd H1 l (.lst [])) dl (.lst (r'.map V.int))) p dl al := fun r' hr' => by
          obtain ⟨ns3, e3, h3⟩ := P2.li
          exact ⟨⟨t, eP _⟩, ⟨r', upd_same, hr'⟩, ⟨ns3, by rw [upd_ne P1.ne]; exact e3, h3⟩, P1.ne, zz_upd P2.zz P2.zd, P2.zp, P2.zd⟩
        have k3 : ∀ H2 o, Kp Z p dl H2 (upd H2 dl o) := fun H2 o b u e => by
          have nn := hid_some e
          rw [hid_at nn.1 nn.2] at e ⊢
          rw [upd_ne nn.2.1]
          exact e
        refine ⟨_, rfl, p, .ref dl, rfl, DGet.k (k := Sum.inr "deep") ep1, .inl ⟨rfl, _, .inl (.inl ed1)⟩, dl, _, 0, 0, .int x, rfl, rfl, ed1, by decide, by decide, seq0 (by simp), rfl, ?_⟩
        refine ⟨_, rfl, x, 0, rfl, rfl, _, rfl, ite2 (fun gx => ?_) (fun gx => ?_)⟩
        · refine ⟨_, rfl, p, .ref dl, rfl, DGet.k (k := Sum.inr "deep") (eP _), .inl ⟨rfl, _, .inl (.inl upd_same)⟩, _, rfl, _, rfl, x, n, rfl, rfl, ⟨by omega, by omega⟩, dl, _, 0, _, rfl, rfl, upd_same, small1000 (by simp; omega), by decide, by decide, ?_⟩
          refine ⟨_, rfl, _, rfl, x, n, rfl, rfl, by omega, ?_⟩
          rw [upd_upd]
          refine q _ _ ?_ (k2.trans (k3 _ _)) (fmodB n0).1 (fmodB n0).2
          exact P3 (x.fdiv n :: r) (by simp; omega)
        · refine ⟨r.length, by rw [← em]; exact Nat.lt_succ_self _, ⟨_, rfl⟩, P3 r (by omega), ⟨r, upd_same, rfl⟩, k2.trans (k3 _ _)⟩
      | nil =>
        refine iteF ?_
        obtain ⟨cs, ec, nc, lc⟩ := P2.li
        have nal : al ≠ p := P1.pa
        refine ⟨_, rfl, p, .int t, rfl, DGet.k (k := Sum.inr "times") ep1, _, rfl, p, .ref al, rfl, DGet.k (k := Sum.inr "all") ep1, _, _, rfl, ?_⟩
        refine ⟨_, rfl, t, 1, rfl, rfl, _, rfl, p, _, rfl, DPut.k (k := Sum.inr "times") ep1 (small1000 (by simp)), ?_⟩
        have eal : ∀ o, (upd (upd H1 l (.lst [])) p o) al = some (.lst (cs.map V.int)) := fun o => by rw [upd_ne nal]; exact ec
        have lpos : (0 : Int) < ((cs.map V.int).length : Int) := by
          cases cs with
          | nil => exact absurd rfl nc
          | cons c r => simp
        have bx := fmodB (a := t) lpos
        obtain ⟨c, hc⟩ : ∃ c, cs[(t.fmod ((cs.map V.int).length : Int)).toNat]? = some c := by
          have hb : (t.fmod ((cs.map V.int).length : Int)).toNat < cs.length := by
            rw [List.length_map] at bx ⊢
            omega
          exact ⟨_, List.getElem?_eq_getElem hb⟩
        refine ⟨_, rfl, _, rfl, _, rfl, al, _, rfl, .inl (.inl (.inl (eal _))), t, _, rfl, rfl, by omega, al, _, _, .int c, rfl, rfl, .inl (.inl (eal _)), at_of (j := (t.fmod ((cs.map V.int).length : Int)).toNat) (by omega) (by rw [List.getElem?_map, hc]; rfl), c, 4294967291, rfl, rfl, (show (4294967291 : Int) ≠ 0 by decide), ?_⟩
        have m2 : ∀ z : Int, 0 ≤ z.fmod 4294967291 ∧ z.fmod 4294967291 < 4294967291 := fun z => fmodB (by decide)
        refine ⟨_, rfl, t, 1, rfl, rfl, 2246822519, _, rfl, rfl, .inl ⟨by decide, by decide⟩, _, _, rfl, rfl, ?_⟩
        have w1 : (4294967291 : Int) ≠ 0 := by decide
        have w2 : (50021 : Int) ≠ 0 := by decide
        refine ⟨_, rfl, _, _, rfl, rfl, w1, _, rfl, _, _, rfl, rfl, w2, _, _, rfl, rfl, _, _, rfl, rfl, .inl ⟨by have := (m2 (c.fmod 4294967291 + 2246822519 * (t + 1))).1; omega, by have := (m2 (c.fmod 4294967291 + 2246822519 * (t + 1))).2; omega⟩, _, _, rfl, rfl, w1, ?_⟩
        dsimp only [gName, List.set]
        generalize hz : ((c.fmod 4294967291 + 2246822519 * (t + 1)).fmod 4294967291 * ((c.fmod 4294967291 + 2246822519 * (t + 1)).fmod 50021 + 13)).fmod 4294967291 = z
        have bz : 0 ≤ z ∧ z < 4294967291 := by rw [← hz]; exact m2 _
        refine ⟨_, rfl, _, rfl, z, z, rfl, rfl, .inl ⟨by omega, by omega⟩, _, rfl, 668265263, t, rfl, rfl, .inl ⟨by decide, by decide⟩, _, _, rfl, rfl, _, _, rfl, rfl, w1, _, _, rfl, rfl, .inr ⟨by decide, by decide⟩, _, _, rfl, rfl, w1, ?_⟩
        refine ⟨_, rfl, _, _, rfl, rfl, ⟨by decide, by decide⟩, _, rfl, _, _, rfl, rfl, by omega, ?_⟩
        refine q _ _ ?_ ?_ (fmodB n0).1 (fmodB n0).2
        · exact ⟨⟨t + 1, upd_same⟩, ⟨[], by rw [upd_ne npd.symm]; exact ed1, by decide⟩, ⟨cs, eal _, nc, lc⟩, P1.ne, zz_upd P2.zz P2.zp, P2.zp, P2.zd⟩
        · refine k2.trans fun b u e => ?_
          have nn := hid_some e
          rw [hid_at nn.1 nn.2] at e ⊢
          rw [upd_ne nn.1]
          exact e
theorem ok_l_one (T : All K mg) : FnOk P w K mg base CX0 2 T.f_l_one T.fd_l_one ["pot", "items"] sp_one := by
  have nd := sc_l_one.nd
  refine T.D_l_one.F.ok sc_l_one (fun vs H Q E h => ?_) (fun cdv A outer s H vs Q E hr h => ?_)
  · obtain ⟨Z, p, dl, al, l, xs, rfl, _⟩ := h
    rfl
  · obtain ⟨Z, p, dl, al, l, xs, rfl, hP, hl, ne, hn, q⟩ := h
    refine ⟨_, (pss_one (ps_ret (pe_ix ix_list (pv 1) (pe_call (ok_l_draw T) (hr.mono (by decide)) (by rfl) T.D_l_draw.g T.D_l_draw.F.kp T.D_l_draw.b .nil pass0 (pa_cons (pv 0) (pa_cons (pe_callB call_len_seq (by rfl) T.z_len (by decide +kernel) (pa_cons (pv 1) pa_nil)) pa_nil))) (fun _ _ => rfl)))), ?_⟩
    have pos : 0 < xs.length := by
      cases xs with
      | nil => exact absurd rfl ne
      | cons x r => simp
    refine ⟨.ref l, rfl, .ref p, rfl, .ref l, rfl, l, xs, rfl, .inl (.inl (.inl (hid_same _ _ _ _ _ hl))), Z, p, dl, al, (xs.length : Int), rfl, hP, by omega, by omega, fun r H2 P2 k2 r0 r1 => ?_⟩
    have hb : r.toNat < xs.length := by omega
    refine ⟨l, xs, r, xs[r.toNat], rfl, rfl, .inl (.inl (hid_same _ _ _ _ _ (k2 _ _ hl))), at_of (j := r.toNat) (by omega) (List.getElem?_eq_getElem hb), ?_⟩
    exact q _ _ (List.getElem_mem hb) P2 k2
theorem ok_l_lamp (T : All K mg) : FnOk P w K mg base CX0 3 T.f_l_lamp T.fd_l_lamp ["pot", "great"] (sp_lamp K) := by
  have nd := sc_l_lamp.nd
  refine T.D_l_lamp.F.ok sc_l_lamp (fun vs H Q E h => ?_) (fun cdv A outer s H vs Q E hr h => ?_)
  · obtain ⟨Z, p, dl, al, g, rfl, _⟩ := h
    rfl
  · obtain ⟨Z, p, dl, al, g, rfl, hP, g0, g1, q⟩ := h
    refine ⟨_, (pss_cons (ps_set (i := 2) nd rfl (by first | exact Or.inl rfl | exact Or.inr rfl) (pe_call (ok_l_one T) (hr.mono (by decide)) (by rfl) T.D_l_one.g T.D_l_one.F.kp T.D_l_one.b .nil pass0 (pa_cons (pv 0) (pa_cons (pe_lst (pa_cons pe_int (pa_cons pe_int (pa_cons (pe_op op_add pe_int (pe_call (ok_l_draw T) (hr.mono (by decide)) (by rfl) T.D_l_draw.g T.D_l_draw.F.kp T.D_l_draw.b .nil pass0 (pa_cons (pv 0) (pa_cons pe_int pa_nil)))) (pa_cons (pe_op op_add pe_int (pe_call (ok_l_draw T) (hr.mono (by decide)) (by rfl) T.D_l_draw.g T.D_l_draw.F.kp T.D_l_draw.b .nil pass0 (pa_cons (pv 0) (pa_cons pe_int pa_nil)))) (pa_cons (pe_op op_add pe_int (pe_call (ok_l_draw T) (hr.mono (by decide)) (by rfl) T.D_l_draw.g T.D_l_draw.F.kp T.D_l_draw.b .nil pass0 (pa_cons (pv 0) (pa_cons (pv 1) pa_nil)))) (pa_cons (pv 1) pa_nil))))))) pa_nil))))
  (pss_one (ps_ret (pe_tup (pa_cons (pe_call (ok_l_one T) (hr.mono (by decide)) (by rfl) T.D_l_one.g T.D_l_one.F.kp T.D_l_one.b .nil pass0 (pa_cons (pv 0) (pa_cons (pe_lst (pa_cons pe_str (pa_cons pe_str pa_nil))) pa_nil))) (pa_cons (pv 2) pa_nil)))))), ?_⟩
    refine s_set ?_
    have eg : Ev Z p dl al H [some (.ref p), some (.int g), none] (tVar 1) (IR 1 1000000000) := ev_ivar rfl g0 g1
    have ed : Ev Z p dl al H [some (.ref p), some (.int g), none] (tCall sp_draw [] E0 (tCons (tVar 0) (tCons (tVar 1) tNil))) (IR 0 999999999) := (ev_draw (b := 1000000000) rfl (by decide) eg).wide (by decide) (by decide)
    refine (ev_one (m := 5) (n := 6) (R := IR 1 1000000000) rfl (by decide) IR.mo (ev_lst (by decide) IR.mo (ei_cons ev_int (ei_cons ev_int (ei_cons (ev_add ev_int (ev_drawC rfl)) (ei_cons (ev_add ev_int (ev_drawC rfl)) (ei_cons (ev_add ev_int ed) (ei_cons eg eall_nil)))))))) _ _ hP (Kp.refl _ _ _) fun v H1 P1 k1 r1 => ?_
    obtain ⟨st, rfl, s0, s1⟩ := r1
    refine s_ret ?_
    have es : Ev Z p dl al H1 [some (.ref p), some (.int g), some (.int st)] (tVar 2) (IR 1 1000000000) := ev_ivar rfl s0 s1
    refine (ev_tupR (K := K) (m := 2) (n := 2) (R := DR K (Sm 30 1)) (by decide) DR.mo (eall_cons DR.mo (ev_one (m := 1) (n := 2) (by rfl) (by decide) DR.mo (ev_lst (by decide) DR.mo (eall_cons DR.mo (ev_d (fun _ => .str _) (sm_chk (by decide +kernel))) (eall_cons DR.mo (ev_d (fun _ => .str _) (sm_chk (by decide +kernel))) eall_nil)))) (eall_cons DR.mo (dI es (by decide) (by decide)) eall_nil))) _ _ P1 (Kp.refl _ _ _) fun x H2 P2 k2 r2 => ?_
    exact q x H2 P2 (k1.trans k2) r2
theorem ok_l_far_runs (T : All K mg) : FnOk P w K mg base CX0 3 T.f_l_far_runs T.fd_l_far_runs ["pot", "upto"] (sp_far K) := by
  have nd := sc_l_far_runs.nd
  refine T.D_l_far_runs.F.ok sc_l_far_runs (fun vs H Q E h => ?_) (fun cdv A outer s H vs Q E hr h => ?_)
  · obtain ⟨Z, p, dl, al, u, rfl, _⟩ := h
    rfl
  · obtain ⟨Z, p, dl, al, u, rfl, hP, u0, u1, q⟩ := h
    refine ⟨_, (pss_cons (ps_par3 (i := 2) (j := 3) (l := 4) (by rfl) nd rfl rfl rfl (by decide) (by decide) (by decide) rfl rfl rfl (pa_cons (pe_lst pa_nil) (pa_cons (pe_call (ok_l_one T) (hr.mono (by decide)) (by rfl) T.D_l_one.g T.D_l_one.F.kp T.D_l_one.b .nil pass0 (pa_cons (pv 0) (pa_cons (pe_lst (pa_cons pe_int (pa_cons (pe_call (ok_l_draw T) (hr.mono (by decide)) (by rfl) T.D_l_draw.g T.D_l_draw.F.kp T.D_l_draw.b .nil pass0 (pa_cons (pv 0) (pa_cons pe_int pa_nil))) (pa_cons (pe_call (ok_l_draw T) (hr.mono (by decide)) (by rfl) T.D_l_draw.g T.D_l_draw.F.kp T.D_l_draw.b .nil pass0 (pa_cons (pv 0) (pa_cons (pe_op op_pow pe_int pe_int) pa_nil))) pa_nil)))) pa_nil))) (pa_cons (pe_op op_pow pe_int pe_int) pa_nil))) (by rfl))
  (pss_cons (ps_for PassesOwn.never rfl (pi_range1 (by rfl) T.z_range (pa_cons (pe_call (ok_l_draw T) (hr.mono (by decide)) (by rfl) T.D_l_draw.g T.D_l_draw.F.kp T.D_l_draw.b .nil pass0 (pa_cons (pv 0) (pa_cons (pe_op op_add (pv 1) pe_int) pa_nil))) pa_nil)) (pg_name (i := 5) nd rfl (by first | exact Or.inl rfl | exact Or.inr rfl))
    (pss_cons (ps_set (i := 6) nd rfl (by first | exact Or.inl rfl | exact Or.inr rfl) (pe_call (ok_l_one T) (hr.mono (by decide)) (by rfl) T.D_l_one.g T.D_l_one.F.kp T.D_l_one.b .nil pass0 (pa_cons (pv 0) (pa_cons (pe_lst (pa_cons pe_int (pa_cons pe_int (pa_cons (pe_op op_add pe_int (pe_call (ok_l_draw T) (hr.mono (by decide)) (by rfl) T.D_l_draw.g T.D_l_draw.F.kp T.D_l_draw.b .nil pass0 (pa_cons (pv 0) (pa_cons pe_int pa_nil)))) (pa_cons (pe_op op_add pe_int (pe_call (ok_l_draw T) (hr.mono (by decide)) (by rfl) T.D_l_draw.g T.D_l_draw.F.kp T.D_l_draw.b .nil pass0 (pa_cons (pv 0) (pa_cons (pe_op op_pow pe_int pe_int) pa_nil)))) (pa_cons (pe_op op_pow pe_int pe_int) pa_nil)))))) pa_nil))))
  (pss_cons (ps_set (i := 7) nd rfl (by first | exact Or.inl rfl | exact Or.inr rfl) (pe_op op_add pe_int (pe_callB (call_min2 rfl) (by rfl) T.z_min (by decide +kernel) (pa_cons (pe_op op_fdivN (pe_op op_sub (pv 4) (pv 3)) (pv 6)) (pa_cons (pe_call (ok_l_one T) (hr.mono (by decide)) (by rfl) T.D_l_one.g T.D_l_one.F.kp T.D_l_one.b .nil pass0 (pa_cons (pv 0) (pa_cons (pe_lst (pa_cons pe_int (pa_cons pe_int (pa_cons (pe_call (ok_l_draw T) (hr.mono (by decide)) (by rfl) T.D_l_draw.g T.D_l_draw.F.kp T.D_l_draw.b .nil pass0 (pa_cons (pv 0) (pa_cons pe_int pa_nil))) (pa_cons (pe_call (ok_l_draw T) (hr.mono (by decide)) (by rfl) T.D_l_draw.g T.D_l_draw.F.kp T.D_l_draw.b .nil pass0 (pa_cons (pv 0) (pa_cons (pe_op op_pow pe_int pe_int) pa_nil))) (pa_cons (pv 4) pa_nil)))))) pa_nil))) pa_nil)))))
  (pss_one (ps_if (pt_cmpR op_le (pv 3) (pv 4) (nomark _))
    (pss_cons (ps_expr (pe_bm PySem.F.plainAttrs_list PySem.F.slot_list_append PySem.F.type_list_append mt_append (pv 2) (pa_cons (pe_tup (pa_cons (pv 3) (pa_cons (pe_ifExp (pt_cmpR op_gt (pv 7) pe_int (nomark _)) (pv 6) pe_int) (pa_cons (pv 7) pa_nil)))) pa_nil)))
  (pss_cons (ps_set (i := 8) nd rfl (by first | exact Or.inl rfl | exact Or.inr rfl) (pe_call (ok_l_one T) (hr.mono (by decide)) (by rfl) T.D_l_one.g T.D_l_one.F.kp T.D_l_one.b .nil pass0 (pa_cons (pv 0) (pa_cons (pe_lst (pa_cons pe_int (pa_cons pe_int (pa_cons (pe_op op_add pe_int (pe_call (ok_l_draw T) (hr.mono (by decide)) (by rfl) T.D_l_draw.g T.D_l_draw.F.kp T.D_l_draw.b .nil pass0 (pa_cons (pv 0) (pa_cons pe_int pa_nil)))) (pa_cons (pe_op op_add pe_int (pe_call (ok_l_draw T) (hr.mono (by decide)) (by rfl) T.D_l_draw.g T.D_l_draw.F.kp T.D_l_draw.b .nil pass0 (pa_cons (pv 0) (pa_cons (pe_op op_pow pe_int pe_int) pa_nil)))) pa_nil))))) pa_nil))))
  (pss_one (ps_set (i := 3) nd rfl (by first | exact Or.inl rfl | exact Or.inr rfl) (pe_op op_add (pe_op op_add (pv 3) (pe_op op_mul (pv 6) (pe_op op_sub (pv 7) pe_int))) (pv 8))))))
    pss_nil)))))
  (pss_one (ps_ret (pe_callTy call_tuple_of (by rfl) T.z_tuple (by decide +kernel) (pa_cons (pv 2) pa_nil)))))), ?_⟩
    refine s_par3 ⟨Nat.zero_le _, fun f nf => ?_⟩
    obtain ⟨P1, k1, e1⟩ := laid (o := .lst []) hP nf
    have ff := hP.free nf
    refine (eva_cons IR.mo (ev_one (m := 2) (n := 3) (R := IR 0 100000000) (by rfl) (by decide) IR.mo (ev_lst (by decide) IR.mo (ei_cons ev_int (ei_cons (ev_drawC (by rfl)) (ei_cons (ev_drawP (by decide) (by rfl)) eall_nil))))) (eva_cons IR.mo (ev_pow (by decide)) eva_nil)) _ _ P1 (Kp.refl _ _ _) fun vs H2 P2 k2 r2 => ?_
    obtain ⟨h, r, rfl, ⟨b, rfl, b0, b1⟩, m, r', rfl, ⟨mm, rfl, m0, m1⟩, rfl⟩ := r2
    have em : mm = 1000000000 := by
      have a : (10 : Int) ^ (9 : Int).toNat = 1000000000 := by decide
      omega
    subst em
    clear m0 m1
    refine ⟨_, _, _, rfl, ?_⟩
    refine s_rng ?_
    refine (eva_cons IR.mo (ev_upto (by rfl) (by rfl) u0 (by omega)) eva_nil) _ _ P2 (Kp.refl _ _ _) fun vs H3 P3 k3 r3 => ?_
    obtain ⟨nn, r, rfl, ⟨n, rfl, n0, n1⟩, rfl⟩ := r3
    refine ⟨n, rfl, by omega, by omega, for_it walk_range (fun i σ Hi => ∃ acc b y5 y6 y7 y8, σ = [some (.ref p), some (.int u), some (.ref f), some (.int b), some (.int 1000000000), y5, y6, y7, y8] ∧ PotAt Z Hi p dl al ∧ Kp Z p dl H Hi ∧ Hi f = some (.lst acc) ∧
      (∀ x ∈ acc, TpR K 3 3 (IR 0 2000000000) x (hid Z p dl Hi)) ∧ acc.length ≤ i ∧ 0 ≤ b ∧ b ≤ 1010000000) ⟨[], b, _, _, _, _, rfl, P3, k1.trans (k2.trans k3), hid_same _ _ _ _ _ (k3 _ _ (k2 _ _ e1)), (fun x hx => nomatch hx), Nat.le_refl _, b0, by omega⟩ (fun i σ H1 _ h => trivial) ?_ ?_⟩
    · rintro i x σ Hi H' hi ⟨acc, b, y5, y6, y7, y8, rfl, Pi, ki, ei, hx, la, b0, b1⟩ ⟨rfl, rfl⟩
      refine s_set ?_
      refine (ev_one (m := 4) (n := 5) (R := IR 1 100000000) (by rfl) (by decide) IR.mo (ev_lst (by decide) IR.mo (ei_cons ev_int (ei_cons ev_int (ei_cons (ev_add ev_int (ev_drawC (by rfl))) (ei_cons (ev_add ev_int (ev_drawP (by decide) (by rfl))) (ei_cons (ev_pow (by decide)) eall_nil))))))) _ _ Pi (Kp.refl _ _ _) fun v H4 P4 k4 r4 => ?_
      obtain ⟨st, rfl, s0, s1⟩ := r4
      refine s_set ⟨.int 1000000000, rfl, .int b, rfl, _, _, rfl, rfl, .int st, rfl, _, _, rfl, rfl, ⟨by omega, by omega⟩, ?_⟩
      refine (eva_cons IR.mo (ev_one (m := 4) (n := 5) (R := IR 0 1000000000) (by rfl) (by decide) IR.mo (ev_lst (by decide) IR.mo (ei_cons ev_int (ei_cons ev_int (ei_cons (ev_drawC (by rfl)) (ei_cons (ev_drawP (by decide) (by rfl)) (ei_cons (ev_ivar (g := 1000000000) (lo := 1000000000) (hi := 1000000000) (by rfl) (Int.le_refl _) (Int.le_refl _)) eall_nil))))))) eva_nil) _ _ P4 (Kp.refl _ _ _) fun vs H5 P5 k5 r5 => ?_
      obtain ⟨xv, r, rfl, ⟨x, rfl, x0, x1⟩, rfl⟩ := r5
      refine ⟨_, _, rfl, 1, _, rfl, rfl, ?_⟩
      have f5 := hid_same _ _ _ _ _ (k5 _ _ (k4 _ _ (hid_get ff.1 ff.2 ei)))
      have hx5 : ∀ x ∈ acc, TpR K 3 3 (IR 0 2000000000) x (hid Z p dl H5) := fun x h => TpR.mo IR.mo _ _ _ (Kp.trans k4 k5) (hx x h)
      have k05 := ki.trans (k4.trans k5)
      refine s_if1 ?_
      refine ⟨.int b, rfl, .int 1000000000, rfl, _, _, rfl, rfl, _, rfl, ite2 (fun g => ?_) (fun g => ?_)⟩
      · have g' : b ≤ 1000000000 := of_decide_eq_true g
        have F := far_step (m := 1000000000 - b) (st := st) (x := x) (by omega) s0 x0
        generalize (if x < (1000000000 - b).fdiv st then x else (1000000000 - b).fdiv st) = kk at F ⊢
        obtain ⟨F0, F1, F2, F3⟩ := F
        refine s_expr ⟨.ref f, rfl, .inl ⟨rfl, _, .inl (.inl f5)⟩, ?_⟩
        refine (eva_cons (TpR.mo IR.mo) (ev_tupR (K := K) (m := 3) (n := 3) (R := IR 0 2000000000) (by decide) IR.mo (ei_cons (ev_ivar (g := b) (lo := 0) (hi := 2000000000) (by rfl) b0 (by omega)) (ei_cons (ev_ifGt (c := 1 + kk) (R := IR 0 2000000000) (by rfl) (ev_ivar (g := st) (by rfl) (by omega) (by omega)) (ev_int.wide (by decide) (by decide))) (ei_cons (ev_ivar (g := 1 + kk) (lo := 0) (hi := 2000000000) (by rfl) (by omega) (by omega)) eall_nil)))) eva_nil) _ _ P5 (Kp.refl _ _ _) fun vs H6 P6 k6 r6 => ?_
        obtain ⟨tv, r, rfl, rt, rfl⟩ := r6
        have f6 := hid_same _ _ _ _ _ (k6 _ _ (hid_get ff.1 ff.2 f5))
        obtain ⟨P7, k7, e7, h7⟩ := app_any (K := K) (m := 3) (n := 3) (R := IR 0 2000000000) (fun v G G' h => h) hP nf P6 (k05.trans k6) f6 (fun x h => TpR.mo IR.mo _ _ _ k6 (hx5 x h)) rt
        refine ⟨f, acc, tv, rfl, rfl, f6, small1000 (by omega), ?_⟩
        generalize upd H6 f (.lst (acc ++ [tv])) = H7 at P7 k7 e7 h7 ⊢
        refine s_set ?_
        refine (ev_one (m := 3) (n := 4) (R := IR 1 10000000) (by rfl) (by decide) IR.mo (ev_lst (by decide) IR.mo (ei_cons ev_int (ei_cons ev_int (ei_cons (ev_add ev_int (ev_drawC (by rfl))) (ei_cons (ev_add ev_int (ev_drawP (by decide) (by rfl))) eall_nil)))))) _ _ P7 (Kp.refl _ _ _) fun v H8 P8 k8 r8 => ?_
        obtain ⟨pz, rfl, z0, z1⟩ := r8
        have ek : (1 + kk - 1) = kk := by omega
        refine s_set1 ⟨.int b, rfl, .int st, rfl, .int (1 + kk), rfl, _, _, rfl, rfl, st, _, rfl, rfl, .inl ⟨by omega, by omega⟩, b, _, rfl, rfl, .int pz, rfl, _, _, rfl, rfl, acc ++ [tv], _, _, _, _, _, rfl, P8, k7.trans k8, hid_same _ _ _ _ _ (k8 _ _ (hid_get ff.1 ff.2 e7)), (fun x h => TpR.mo IR.mo _ _ _ k8 (h7 x h)), ?_, ?_, ?_⟩
        · rw [List.length_append]; show acc.length + 1 ≤ i + 1; omega
        · rw [ek]; omega
        · rw [ek]; omega
      · exact ⟨acc, b, _, _, _, _, rfl, P5, k05, f5, hx5, by omega, b0, b1⟩
    · rintro σ Hi ⟨acc, b, y5, y6, y7, y8, rfl, Pi, ki, ei, hx, la, b0, b1⟩
      refine ⟨.ref f, rfl, f, acc, rfl, .inl ⟨.inl (.inl ei), fun t nt => ?_⟩⟩
      obtain ⟨P7, k7, e7⟩ := laid (o := .tup acc) Pi nt
      exact q _ _ P7 (ki.trans k7) ⟨t, acc, rfl, .inl (.inl e7), Nat.zero_le _, by omega, fun x h => TpR.mo IR.mo _ _ _ k7 (hx x h)⟩
theorem ok_l_odd (T : All K mg) : FnOk P w K mg base CX0 3 T.f_l_odd T.fd_l_odd ["pot"] (sp_odd K) := by
  have nd := sc_l_odd.nd
  refine T.D_l_odd.F.ok sc_l_odd (fun vs H Q E h => ?_) (fun cdv A outer s H vs Q E hr h => ?_)
  · obtain ⟨Z, p, dl, al, rfl, _⟩ := h
    rfl
  · obtain ⟨Z, p, dl, al, rfl, hP, q⟩ := h
    refine ⟨_, (pss_cons (ps_set (i := 1) nd rfl (by first | exact Or.inl rfl | exact Or.inr rfl) (pe_lst (pa_cons pe_non (pa_cons pe_bl (pa_cons pe_bl (pa_cons (pe_un un_neg pe_int) (pa_cons pe_int (pa_cons pe_int (pa_cons pe_int (pa_cons (pe_op op_pow pe_int pe_int) (pa_cons (pe_op op_add (pe_op op_pow pe_int pe_int) pe_int) (pa_cons (pe_op op_pow pe_int pe_int) (pa_cons pe_str (pa_cons pe_str (pa_cons pe_str (pa_cons (pe_tup pa_nil) (pa_cons (pe_lst pa_nil) (pa_cons pe_dnewK (pa_cons (pe_tup (pa_cons pe_int pa_nil)) (pa_cons (pe_lst (pa_cons pe_int pa_nil)) pa_nil))))))))))))))))))))
  (pss_cons (ps_set (i := 1) nd rfl (by first | exact Or.inl rfl | exact Or.inr rfl) (pe_op op_cat (pv 1) (pe_lst (pa_cons (pe_tup (pa_cons pe_bl pa_nil)) (pa_cons (pe_tup (pa_cons pe_int (pa_cons pe_int pa_nil))) (pa_cons (pe_tup (pa_cons pe_int (pa_cons pe_int (pa_cons pe_int pa_nil)))) (pa_cons (pe_tup (pa_cons pe_str (pa_cons pe_int pa_nil))) (pa_cons pe_str (pa_cons (pe_disp (pps_cons pe_str pe_int pps_nil) (by rfl) (by rfl) (fun z => by cases z) (by decide)) pa_nil)))))))))
  (pss_one (ps_ret (pe_call (ok_l_one T) (hr.mono (by decide)) (by rfl) T.D_l_one.g T.D_l_one.F.kp T.D_l_one.b .nil pass0 (pa_cons (pv 0) (pa_cons (pe_op op_cat (pv 1) (pe_lst (pa_cons (pe_tup (pa_cons (pe_tup (pa_cons pe_str (pa_cons pe_int pa_nil))) pa_nil)) pa_nil))) pa_nil))))))), ?_⟩
    refine s_set ?_
    refine (ev_lst (m := 18) (n := 18) (R := DR K (Sm 60 3)) (by decide) DR.mo ?a1) H _ hP (Kp.refl _ _ _) fun v H1 P1 k1 r1 => ?_
    case a1 => exact (eall_cons DR.mo (ev_d (fun _ => .non) (sm_chk (by decide +kernel))) (eall_cons DR.mo (ev_d (fun _ => .bl _) (sm_chk (by decide +kernel))) (eall_cons DR.mo (ev_d (fun _ => .bl _) (sm_chk (by decide +kernel))) (eall_cons DR.mo (ei_d (ei_neg ei_c) (sm_chk (by decide +kernel))) (eall_cons DR.mo (ei_d ei_c (sm_chk (by decide +kernel))) (eall_cons DR.mo (ei_d ei_c (sm_chk (by decide +kernel))) (eall_cons DR.mo (ei_d ei_c (sm_chk (by decide +kernel))) (eall_cons DR.mo (ei_d (ei_pow (by decide)) (sm_chk (by decide +kernel))) (eall_cons DR.mo (ei_d (ei_add (ei_pow (by decide)) ei_c) (sm_chk (by decide +kernel))) (eall_cons DR.mo (ei_d (ei_pow (by decide)) (sm_chk (by decide +kernel))) (eall_cons DR.mo (ev_d (fun _ => .str _) (sm_chk (by decide +kernel))) (eall_cons DR.mo (ev_d (fun _ => .str _) (sm_chk (by decide +kernel))) (eall_cons DR.mo (ev_d (fun _ => .str _) (sm_chk (by decide +kernel))) (eall_cons DR.mo (ev_wide (ev_tupD (n := 10) (k := 0) (by decide) eall_nil) (by decide) (by decide)) (eall_cons DR.mo (ev_wide (ev_lstD (n := 10) (k := 0) (by decide) eall_nil) (by decide) (by decide)) (eall_cons DR.mo (ev_wide ev_dnew (by decide) (by decide)) (eall_cons DR.mo (ev_wide (ev_tupD (n := 10) (k := 0) (by decide) (eall_cons DR.mo (ei_d ei_c (sm_chk (by decide +kernel))) eall_nil)) (by decide) (by decide)) (eall_cons DR.mo (ev_wide (ev_lstD (n := 10) (k := 0) (by decide) (eall_cons DR.mo (ei_d ei_c (sm_chk (by decide +kernel))) eall_nil)) (by decide) (by decide)) eall_nil))))))))))))))))))
    refine s_set ?_
    refine (ev_cat (a := 18) (b := 18) (c := 6) (d := 6) (R := DR K (Sm 60 3)) (by decide) DR.mo (ev_var (v := v) rfl (LsR.mo DR.mo) ?a2) (ev_lst (by decide) DR.mo ?a3)) H1 _ P1 (Kp.refl _ _ _) fun v2 H2 P2 k2 r2 => ?_
    case a2 => exact r1
    case a3 => exact (eall_cons DR.mo (ev_wide (ev_tupD (n := 10) (k := 0) (by decide) (eall_cons DR.mo (ev_d (fun _ => .bl _) (sm_chk (by decide +kernel))) eall_nil)) (by decide) (by decide)) (eall_cons DR.mo (ev_wide (ev_tupD (n := 10) (k := 0) (by decide) (eall_cons DR.mo (ei_d ei_c (sm_chk (by decide +kernel))) (eall_cons DR.mo (ei_d ei_c (sm_chk (by decide +kernel))) eall_nil))) (by decide) (by decide)) (eall_cons DR.mo (ev_wide (ev_tupD (n := 10) (k := 0) (by decide) (eall_cons DR.mo (ei_d ei_c (sm_chk (by decide +kernel))) (eall_cons DR.mo (ei_d ei_c (sm_chk (by decide +kernel))) (eall_cons DR.mo (ei_d ei_c (sm_chk (by decide +kernel))) eall_nil)))) (by decide) (by decide)) (eall_cons DR.mo (ev_wide (ev_tupD (n := 10) (k := 0) (by decide) (eall_cons DR.mo (ev_d (fun _ => .str _) (sm_chk (by decide +kernel))) (eall_cons DR.mo (ei_d ei_c (sm_chk (by decide +kernel))) eall_nil))) (by decide) (by decide)) (eall_cons DR.mo (ev_d (fun _ => .str _) (sm_chk (by decide +kernel))) (eall_cons DR.mo (ev_disp1 rfl (sm_chk (by decide +kernel))) eall_nil))))))
    refine s_ret ?_
    refine (ev_one (m := 24) (n := 25) (R := DR K (Sm 60 3)) rfl (by decide) DR.mo (ev_cat (a := 24) (b := 24) (c := 1) (d := 1) (by decide) DR.mo (ev_var (v := v2) rfl (LsR.mo DR.mo) ?a4) (ev_lst (by decide) DR.mo ?a5))) H2 _ P2 (Kp.refl _ _ _) fun x H3 P3 k3 r3 => ?_
    case a4 => exact r2
    case a5 => exact (eall_cons DR.mo (ev_wide (ev_tupD (n := 27) (k := 1) (by decide) (eall_cons DR.mo (ev_wide (ev_tupD (n := 10) (k := 0) (by decide) (eall_cons DR.mo (ev_d (fun _ => .str _) (sm_chk (by decide +kernel))) (eall_cons DR.mo (ei_d ei_c (sm_chk (by decide +kernel))) eall_nil))) (by decide) (by decide)) eall_nil)) (by decide) (by decide)) eall_nil)
    exact q _ _ P3 (k1.trans (k2.trans k3)) r3
theorem ok_l_bent (T : All K mg) (c n k N : Nat) (hc : c ≤ 130) (hn : 60 ≤ n) (hk : 3 ≤ k) (hN : (3 * c + 1) * (n + 2) + 3 ≤ N) : FnOk P w K mg base CX0 4 T.f_l_bent T.fd_l_bent ["pot", "value"] (sp_bent K c n k N) := by
  have nd := sc_l_bent.nd
  refine T.D_l_bent.F.ok sc_l_bent (fun vs H Q E h => ?_) (fun cdv A outer s H vs Q E hr h => ?_)
  · obtain ⟨Z, p, dl, al, v, rfl, _⟩ := h
    rfl
  · obtain ⟨Z, p, dl, al, v, rfl, hP, hv, q⟩ := h
    refine ⟨_, (pss_cons (ps_set (i := 2) nd rfl (by first | exact Or.inl rfl | exact Or.inr rfl) (pe_call (ok_l_draw T) (hr.mono (by decide)) (by rfl) T.D_l_draw.g T.D_l_draw.F.kp T.D_l_draw.b .nil pass0 (pa_cons (pv 0) (pa_cons (pe_op op_add (pe_callB call_len_seq (by rfl) T.z_len (by decide +kernel) (pa_cons (pv 1) pa_nil)) pe_int) pa_nil))))
  (pss_cons (ps_par (i := 3) (j := 4) (by rfl) nd rfl rfl (by decide) rfl rfl (pa_cons (pe_slice sl_tupA (pv 1) po_none (po_some (pv 2))) (pa_cons (pe_slice sl_tupA (pv 1) (po_some (pv 2)) po_none) pa_nil)) (by rfl))
  (pss_cons (ps_set (i := 5) nd rfl (by first | exact Or.inl rfl | exact Or.inr rfl) (pe_call (ok_l_one T) (hr.mono (by decide)) (by rfl) T.D_l_one.g T.D_l_one.F.kp T.D_l_one.b .nil pass0 (pa_cons (pv 0) (pa_cons (pe_lst (pa_cons (pe_call (ok_l_odd T) (hr.mono (by decide)) (by rfl) T.D_l_odd.g T.D_l_odd.F.kp T.D_l_odd.b .nil pass0 (pa_cons (pv 0) pa_nil)) (pa_cons (pe_un un_neg pe_int) (pa_cons pe_int (pa_cons pe_int (pa_cons pe_bl (pa_cons (pe_op op_pow pe_int pe_int) (pa_cons (pe_op op_add (pe_op op_pow pe_int pe_int) pe_int) (pa_cons (pe_op op_mul pe_int (pe_op op_pow pe_int pe_int)) (pa_cons (pe_op op_add (pe_op op_mul pe_int (pe_op op_pow pe_int pe_int)) pe_int) (pa_cons (pe_tup (pa_cons pe_int (pa_cons pe_int (pa_cons pe_int pa_nil)))) pa_nil))))))))))) pa_nil))))
  (pss_cons (ps_set (i := 6) nd rfl (by first | exact Or.inl rfl | exact Or.inr rfl) (pe_lst (pa_cons (pe_op op_catA (pe_op op_catA (pv 3) (pe_tup (pa_cons (pv 5) pa_nil))) (pv 4)) (pa_cons (pe_op op_catA (pe_op op_catA (pv 3) (pe_tup (pa_cons (pv 5) pa_nil))) (pe_slice sl_tupA (pv 4) (po_some pe_int) po_none)) (pa_cons (pe_op op_catA (pv 3) (pe_slice sl_tupA (pv 4) (po_some pe_int) po_none)) (pa_cons (pe_op op_catA (pe_op op_catA (pv 3) (pe_slice sl_tupA (pv 4) po_none (po_some pe_int))) (pv 4)) pa_nil))))))
  (pss_one (ps_ret (pe_call (ok_l_one T) (hr.mono (by decide)) (by rfl) T.D_l_one.g T.D_l_one.F.kp T.D_l_one.b .nil pass0 (pa_cons (pv 0) (pa_cons (pe_op op_cat (pv 6) (pe_lst (pa_cons (pe_callTy call_list_of (by rfl) T.z_list (by decide +kernel) (pa_cons (pv 1) pa_nil)) (pa_cons (pe_op op_catA (pe_op op_catA (pv 3) (pe_revT (pe_slice sl_tupA (pv 4) po_none (po_some pe_int)))) (pe_slice sl_tupA (pv 4) (po_some pe_int) po_none)) pa_nil)))) pa_nil))))))))), ?_⟩
    have MD : Mo (DR K (Sm n k)) := DR.mo
    have le1 : ∀ c' : Nat, c' ≤ 3 * c + 1 → c' * (n + 2) + 3 ≤ N := fun c' h => Nat.le_trans (Nat.add_le_add_right (Nat.mul_le_mul_right _ h) 3) hN
    -- at
    refine s_set ?_
    refine (ev_draw (b := (c : Int) + 1) rfl (by omega) ((ev_add (ev_len (ev_var (v := v) rfl (TpR.mo MD) hv)) ev_int).wide (by omega) (by omega))) H _ hP (Kp.refl _ _ _) fun a H1 P1 k1 ra => ?_
    have hv1 := TpR.mo MD _ _ _ k1 hv
    -- head, tail
    refine s_par ?_
    refine (ev_pair (TpR.mo MD) (TpR.mo MD) (ev_slA MD (ev_var (v := v) rfl (TpR.mo MD) hv1) any_none (any_some (ev_i1 rfl ra).isInt)) (ev_slA MD (ev_var (v := v) rfl (TpR.mo MD) hv1) (any_some (ev_i1 rfl ra).isInt) any_none)) H1 _ P1 (Kp.refl _ _ _) fun vs H2 P2 k2 r2 => ?_
    obtain ⟨hd, tl, rfl, rh, rt⟩ := r2
    refine ⟨hd, tl, rfl, ?_⟩
    have hv2 := TpR.mo MD _ _ _ k2 hv1
    -- new
    refine s_set ?_
    refine (ev_one (m := 9) (n := 10) (R := DR K (Sm 60 3)) rfl (by decide) DR.mo (ev_lst (by decide) DR.mo (eall_cons DR.mo (ev_odd rfl) (eall_cons DR.mo (ei_d (ei_neg ei_c) (sm_chk (by decide +kernel))) (eall_cons DR.mo (ei_d ei_c (sm_chk (by decide +kernel))) (eall_cons DR.mo (ei_d ei_c (sm_chk (by decide +kernel))) (eall_cons DR.mo (ev_d (fun _ => .bl _) (sm_chk (by decide +kernel))) (eall_cons DR.mo (ei_d (ei_pow (by decide)) (sm_chk (by decide +kernel))) (eall_cons DR.mo (ei_d (ei_add (ei_pow (by decide)) ei_c) (sm_chk (by decide +kernel))) (eall_cons DR.mo (ei_d (ei_mul (by decide) ei_c (ei_pow (by decide))) (sm_chk (by decide +kernel))) (eall_cons DR.mo (ei_d (ei_add (ei_mul (by decide) ei_c (ei_pow (by decide))) ei_c) (sm_chk (by decide +kernel))) (eall_cons DR.mo (ev_wide (ev_tupD (n := 10) (k := 0) (by decide) (eall_cons DR.mo (ei_d ei_c (sm_chk (by decide +kernel))) (eall_cons DR.mo (ei_d ei_c (sm_chk (by decide +kernel))) (eall_cons DR.mo (ei_d ei_c (sm_chk (by decide +kernel))) eall_nil)))) (by decide) (by decide)) eall_nil)))))))))))) H2 _ P2 (Kp.refl _ _ _) fun nw H3 P3 k3 r3 => ?_
    have rn : DR K (Sm n k) nw (hid Z p dl H3) := r3.wide hn hk
    have hv3 := TpR.mo MD _ _ _ k3 hv2
    have rh3 := TpR.mo MD _ _ _ k3 rh
    have rt3 := TpR.mo MD _ _ _ k3 rt
    -- some
    refine s_set ?_
    generalize hσ : (List.set _ 5 (some nw) : L2.St) = σ
    have s0 : σ[0]? = some (some (.ref p)) := by rw [← hσ]; rfl
    have s1 : σ[1]? = some (some v) := by rw [← hσ]; rfl
    have s3 : σ[3]? = some (some hd) := by rw [← hσ]; rfl
    have s4 : σ[4]? = some (some tl) := by rw [← hσ]; rfl
    have s5 : σ[5]? = some (some nw) := by rw [← hσ]; rfl
    have eh : Ev Z p dl al H3 σ (tVar 3) (TpR K 0 c (DR K (Sm n k))) := ev_var s3 (TpR.mo MD) rh3
    have et : Ev Z p dl al H3 σ (tVar 4) (TpR K 0 c (DR K (Sm n k))) := ev_var s4 (TpR.mo MD) rt3
    have en : Ev Z p dl al H3 σ (tTup (tCons (tVar 5) tNil)) (TpR K 1 1 (DR K (Sm n k))) := ev_tupR (by decide) MD (eall_cons MD (ev_var s5 MD rn) eall_nil)
    have one : ∀ i : Int, Ev Z p dl al H3 σ (tC (.int i)) (fun v _ => ∃ i, v = .int i) := fun i => ev_int.isInt
    refine (ev_lst (m := 4) (n := 4) (R := DR K (Sm N (k + 1))) (by decide) DR.mo (eall_cons DR.mo (ev_tpD (ev_catA (by omega) MD (ev_catA (by omega) MD eh en) et) (le1 _ (by omega))) (eall_cons DR.mo (ev_tpD (ev_catA (by omega) MD (ev_catA (by omega) MD eh en) (ev_slA MD et (any_some (one 1)) any_none)) (le1 _ (by omega)))
      (eall_cons DR.mo (ev_tpD (ev_catA (by omega) MD eh (ev_slA MD et (any_some (one 1)) any_none)) (le1 _ (by omega))) (eall_cons DR.mo (ev_tpD (ev_catA (by omega) MD (ev_catA (by omega) MD eh (ev_slA MD et any_none (any_some (one 1)))) et) (le1 _ (by omega))) eall_nil))))) H3 _ P3 (Kp.refl _ _ _) fun sm H4 P4 k4 r4 => ?_
    -- the last choice
    refine s_ret ?_
    have e1 : (σ.set 6 (some sm))[1]? = some (some v) := by rw [List.getElem?_set_ne (by decide)]; exact s1
    have e3 : (σ.set 6 (some sm))[3]? = some (some hd) := by rw [List.getElem?_set_ne (by decide)]; exact s3
    have e4 : (σ.set 6 (some sm))[4]? = some (some tl) := by rw [List.getElem?_set_ne (by decide)]; exact s4
    have e0 : (σ.set 6 (some sm))[0]? = some (some (.ref p)) := by rw [List.getElem?_set_ne (by decide)]; exact s0
    have e6 : (σ.set 6 (some sm))[6]? = some (some sm) := by rw [← hσ]; rfl
    have et4 : Ev Z p dl al H4 (σ.set 6 (some sm)) (tVar 4) (TpR K 0 c (DR K (Sm n k))) := ev_var e4 (TpR.mo MD) (TpR.mo MD _ _ _ k4 rt3)
    have one4 : ∀ i : Int, Ev Z p dl al H4 (σ.set 6 (some sm)) (tC (.int i)) (fun v _ => ∃ i, v = .int i) := fun i => ev_int.isInt
    refine (ev_one (m := 5) (n := 6) (R := DR K (Sm N (k + 1))) e0 (by decide) DR.mo (ev_cat (a := 4) (b := 4) (c := 2) (d := 2) (by decide) DR.mo (ev_var e6 (LsR.mo DR.mo) r4) (ev_lst (by decide) DR.mo (eall_cons DR.mo (ev_lsD (ev_listOf MD (ev_var e1 (TpR.mo MD) (TpR.mo MD _ _ _ k4 hv3))) (le1 _ (by omega)))
      (eall_cons DR.mo (ev_tpD (ev_catA (by omega) MD (ev_catA (by omega) MD (ev_var e3 (TpR.mo MD) (TpR.mo MD _ _ _ k4 rh3)) (ev_revT MD (ev_slA MD et4 any_none (any_some (one4 2))))) (ev_slA MD et4 (any_some (one4 2)) any_none)) (le1 _ (by omega))) eall_nil))))) H4 _ P4 (Kp.refl _ _ _) fun x H5 P5 k5 r5 => ?_
    exact q x H5 P5 (k1.trans (k2.trans (k3.trans (k4.trans k5)))) r5
theorem ok_l_whole (T : All K mg) : FnOk P w K mg base CX0 1 T.f_l_whole T.fd_l_whole ["value", "low", "high"] (sp_whole K) := by
  have nd := sc_l_whole.nd
  refine T.D_l_whole.F.ok sc_l_whole (fun vs H Q E h => ?_) (fun cdv A outer s H vs Q E hr h => ?_)
  · obtain ⟨v, d, lo, hi, rfl, _⟩ := h
    rfl
  · obtain ⟨v, d, lo, hi, rfl, hd, q⟩ := h
    refine ⟨_, (pss_one (ps_ret (pe_and (pe_callB call_isi (by rfl) T.z_isinstance (by decide +kernel) (pa_cons (pv 0) (pa_cons (pe_bltn (v := .ty "int") (by rfl) T.z_int (by decide +kernel) rfl) pa_nil))) (pe_and (pe_not (pe_callB call_isi (by rfl) T.z_isinstance (by decide +kernel) (pa_cons (pv 0) (pa_cons (pe_bltn (v := .ty "bool") (by rfl) T.z_bool (by decide +kernel) rfl) pa_nil)))) (pe_one (pe_chain op_le op_le (pv 1) (pv 0) (pv 2))))))), ?_⟩
    refine ⟨v, rfl, v, .ty "int", _, _, _, rfl, .ty "int", hd.ty, kit_ty (kit_i d), _, rfl, ?_⟩
    cases hd with
    | int i =>
      have q : Q (.bl (decide (lo ≤ i) && decide (i ≤ hi))) H := q
      refine iteT ⟨_, rfl, _, .ty "bool", _, _, _, rfl, .ty "bool", (Dq.int (K := K) (H := H) i).ty, kit_ty (kit_b _), _, rfl, _, rfl, iteT ?_⟩
      refine ⟨_, rfl, _, rfl, lo, i, rfl, rfl, _, rfl, ?_⟩
      by_cases h1 : lo ≤ i
      · rw [decide_eq_true h1] at q ⊢
        refine iteT ⟨_, rfl, i, hi, rfl, rfl, ?_⟩
        rw [Bool.true_and] at q
        exact q
      · rw [decide_eq_false h1] at q ⊢
        exact iteF q
    | bl b => exact iteT ⟨_, rfl, _, .ty "bool", _, _, _, rfl, .ty "bool", (Dq.bl (K := K) (H := H) b).ty, kit_ty (kit_b _), _, rfl, _, rfl, iteF q⟩
    | _ => exact iteF q
theorem ok_l_is_run (T : All K mg) : FnOk P w K mg base CX0 2 T.f_l_is_run T.fd_l_is_run ["value"] (sp_bool K fun d => (runOf d).isSome) := by
  have nd := sc_l_is_run.nd
  refine T.D_l_is_run.F.ok sc_l_is_run (fun vs H Q E h => ?_) (fun cdv A outer s H vs Q E hr h => ?_)
  · obtain ⟨v, d, rfl, _⟩ := h
    rfl
  · obtain ⟨v, d, rfl, hd, q⟩ := h
    dsimp only at q
    refine ⟨_, (pss_cons (ps_if (PW.pt (pw_or (pt_not (pt_val (pe_callB call_isi (by rfl) T.z_isinstance (by decide +kernel) (pa_cons (pv 0) (pa_cons (pe_bltn (v := .ty "tuple") (by rfl) T.z_tuple (by decide +kernel) rfl) pa_nil))))) (pw_or (pt_cmpR op_ne (pe_callB call_len_seq (by rfl) T.z_len (by decide +kernel) (pa_cons (pv 0) pa_nil)) pe_int (nomark _)) (pw_or1 (pt_cmpR (op_neE hr.units0) (pe_lc (own := [("k", 1)]) rfl nd (pi_tup (pv 0)) (blkOk_by (own := [("k", 1)]) (N := n_l_is_run) (sc := defScope s_l_is_run) (by decide +kernel)) (fun _ _ _ _ _ => (pg_name (i := 1) nd rfl (by first | exact Or.inl rfl | exact Or.inr rfl))) (fun _ _ _ _ _ => (pts_one (pt_not (pt_val (pe_call (ok_l_whole T) (hr.mono (by decide)) (by rfl) T.D_l_whole.g T.D_l_whole.F.kp T.D_l_whole.b .nil pass0 (pa_cons (pv 1) (pa_cons pe_int (pa_cons (pe_op op_add (pe_op op_pow pe_int pe_int) pe_int) pa_nil)))))))) (fun _ _ _ _ _ => (pv 1))) (pe_lst pa_nil) (nomark _))))))
    (pss_one (ps_ret pe_bl))
    pss_nil)
  (pss_cons (ps_asg (pv 0) (pg_tup rfl (pgs_cons (pg_name (i := 2) nd rfl (by first | exact Or.inl rfl | exact Or.inr rfl)) (pgs_cons (pg_name (i := 3) nd rfl (by first | exact Or.inl rfl | exact Or.inr rfl)) (pgs_cons (pg_name (i := 4) nd rfl (by first | exact Or.inl rfl | exact Or.inr rfl)) pgs_nil)))))
  (pss_cons (ps_if (PW.pt (pw_or (pt_cmpR op_eq (pv 3) pe_int (nomark _)) (pw_or (pt_cmpR op_eq (pv 4) pe_int (nomark _)) (pw_or1 (PW.pt (pw_and (pt_cmpR op_eq (pv 4) pe_int (nomark _)) (pw_and1 (pt_cmpR op_gt (pv 3) pe_int (nomark _)))))))))
    (pss_one (ps_ret pe_bl))
    pss_nil)
  (pss_one (ps_ret (pe_cmpR op_le (pe_op op_add (pv 2) (pe_op op_mul (pv 3) (pe_op op_sub (pv 4) pe_int))) (pe_op op_pow pe_int pe_int) (nomark _))))))), ?_⟩
    refine s_if ?_
    refine ⟨v, rfl, v, .ty "tuple", _, _, _, rfl, .ty "tuple", hd.ty, kit_ty (kit_t d), _, rfl, ?_⟩
    cases hd with
    | @tup a xs ds hs ha =>
      have hl := ha.len
      refine iteF ⟨.ref a, rfl, a, xs, rfl, .inr hs, rfl, _, rfl, ?_⟩
      by_cases h2 : (xs.length : Int) = 3
      · rw [show (!decide (V.int (xs.length : Int) = V.int 3)) = false from by rw [decide_eq_true (by rw [h2])]; rfl]
        refine iteF ⟨.ref a, rfl, a, rfl, ⟨_, hs⟩, fun D nD => ?_⟩
        refine lc_tup (K := K) (a := a) (xs := xs) (fun i H1 => (∃ acc, H1 D = some (.lst acc) ∧ acc.length ≤ i ∧ acc.isEmpty = (ds.take i).all (inW 0 1000000001)) ∧ Same H H1) ⟨⟨[], upd_same, Nat.le_refl _, rfl⟩, same_new nD⟩ (fun i H1 _ h => Same.seqT h.2 hs) ?_ ?_
        · rintro i x H1 hx ⟨⟨acc, eD, la, ea⟩, s1⟩
          obtain ⟨e, he, hq⟩ := ha.get hx
          have hi : i < ds.length := (List.getElem?_eq_some_iff.mp he).1
          refine ⟨rfl, x, rfl, 10, 9, rfl, rfl, ⟨by decide, by decide, by decide⟩, _, 1, rfl, rfl, x, e, 0, 1000000001, rfl, hq.mono s1, _, rfl, ?_⟩
          cases hw : inW 0 1000000001 e with
          | true =>
            refine iteF ⟨⟨acc, eD, by omega, ?_⟩, s1⟩
            rw [List.take_add_one, he, List.all_append, ea]
            simp [hw]
          | false =>
            refine iteT ⟨x, rfl, acc, eD, small1000 (by omega), ⟨acc ++ [x], upd_same, by simp; omega, ?_⟩, same_upd2 s1 nD⟩
            rw [List.take_add_one, he, List.all_append]
            simp [hw]
        · rintro H1 ⟨⟨acc, eD, la, ea⟩, s1⟩
          rw [hl, List.take_length] at ea
          refine ⟨Nat.zero_le _, fun l nl => ?_⟩
          have s2 := same_new (o := .lst []) nl
          refine ⟨D, l, acc, rfl, rfl, .inl (.inl (s2 _ _ eD)), .inl (.inl upd_same), _, rfl, ?_⟩
          cases hw : ds.all (inW 0 1000000001) with
          | false =>
            rw [ea, hw]
            have e := runOf_out hw
            rw [e] at q
            exact iteT (q _ (s1.trans s2))
          | true =>
            rw [ea, hw]
            refine iteF ?_
            match ds, ha, hl, hw with
            | [d1, d2, d3], ha, hl, hw =>
              simp only [List.all_cons, List.all_nil, Bool.and_true, Bool.and_eq_true] at hw
              obtain ⟨a', rfl, a1, a2⟩ := inW_int hw.1
              obtain ⟨st, rfl, b1, b2⟩ := inW_int hw.2.1
              obtain ⟨c, rfl, c1, c2⟩ := inW_int hw.2.2
              cases ha with
              | cons h1 h2 =>
                cases h2 with
                | cons h3 h4 =>
                  cases h4 with
                  | cons h5 h6 =>
                    cases h6
                    cases h1
                    cases h3
                    cases h5
                    have hs2 := Same.seqT (s1.trans s2) hs
                    have ss := s1.trans s2
                    rw [runOf_eq] at q
                    have q' := q _ ss
                    clear q
                    generalize upd H1 l (.lst []) = H5 at hs2 q' ⊢
                    have no : ¬ (0 ≤ a' ∧ 1 ≤ st ∧ 1 ≤ c ∧ (c = 1 → st = 1) ∧ a' + st * (c - 1) ≤ 1000000000) → Q (.bl false) H5 := fun n => by
                      rw [decide_eq_false n] at q'
                      exact q'
                    refine ⟨.ref a, rfl, a, _, rfl, hs2, rfl, _, _, rfl, _, _, rfl, _, _, rfl, rfl, ?_⟩
                    refine ⟨.int st, rfl, rfl, _, rfl, ?_⟩
                    by_cases g2 : st = 0
                    · rw [show decide (V.int st = V.int 0) = true from by rw [g2]; rfl]
                      exact iteT (no (by omega))
                    · rw [show decide (V.int st = V.int 0) = false from decide_eq_false fun z => g2 (V.int.inj z)]
                      refine iteF ⟨.int c, rfl, rfl, _, rfl, ?_⟩
                      by_cases g3 : c = 0
                      · rw [show decide (V.int c = V.int 0) = true from by rw [g3]; rfl]
                        exact iteT (no (by omega))
                      · rw [show decide (V.int c = V.int 0) = false from decide_eq_false fun z => g3 (V.int.inj z)]
                        have fin : (c = 1 → st = 1) → ∃ i j, V.int (a' + st * (c - 1)) = .int i ∧ V.int 1000000000 = .int j ∧ Q (.bl (decide (i ≤ j))) H5 := fun g => by
                          refine ⟨_, _, rfl, rfl, ?_⟩
                          have e : decide (0 ≤ a' ∧ 1 ≤ st ∧ 1 ≤ c ∧ (c = 1 → st = 1) ∧ a' + st * (c - 1) ≤ 1000000000) = decide (a' + st * (c - 1) ≤ 1000000000) := by
                            rw [decide_eq_decide]
                            exact ⟨fun h => h.2.2.2.2, fun h => ⟨by omega, by omega, by omega, g, h⟩⟩
                          rw [e] at q'
                          exact q'
                        refine iteF ⟨.int c, rfl, rfl, _, rfl, ?_⟩
                        by_cases g4 : c = 1
                        · rw [show decide (V.int c = V.int 1) = true from by rw [g4]; rfl]
                          refine iteT ⟨.int st, rfl, st, 1, rfl, rfl, _, rfl, ?_⟩
                          by_cases g5 : 1 < st
                          · rw [decide_eq_true g5]
                            exact iteT (no (by omega))
                          · rw [decide_eq_false g5]
                            exact iteF ⟨.int a', rfl, .int st, rfl, .int c, rfl, c, 1, rfl, rfl, st, _, rfl, rfl, .inl ⟨by omega, by omega⟩, a', _, rfl, rfl, 10, 9, rfl, rfl, ⟨by decide, by decide, by decide⟩, fin fun _ => by omega⟩
                        · rw [show decide (V.int c = V.int 1) = false from decide_eq_false fun z => g4 (V.int.inj z)]
                          exact iteF ⟨.int a', rfl, .int st, rfl, .int c, rfl, c, 1, rfl, rfl, st, _, rfl, rfl, .inl ⟨by omega, by omega⟩, a', _, rfl, rfl, 10, 9, rfl, rfl, ⟨by decide, by decide, by decide⟩, fin fun g => absurd g g4⟩
            | [], _, hl, _ => exact absurd h2 (by rw [hl]; simp)
            | [_], _, hl, _ => exact absurd h2 (by rw [hl]; simp)
            | [_, _], _, hl, _ => exact absurd h2 (by rw [hl]; simp)
            | _ :: _ :: _ :: _ :: _, _, hl, _ => exact absurd h2 (by rw [hl]; simp only [List.length_cons]; omega)
      · rw [show (!decide (V.int (xs.length : Int) = V.int 3)) = true from by rw [decide_eq_false fun z => h2 (V.int.inj z)]; rfl]
        rw [hl] at h2
        rw [runOf_len h2] at q
        exact iteT (q H (Same.refl H))
    | _ => exact iteT (q H (Same.refl H))
theorem ok_l_is_lamp (T : All K mg) : FnOk P w K mg base CX0 2 T.f_l_is_lamp T.fd_l_is_lamp ["value"] (sp_bool K lampB) := by
  have nd := sc_l_is_lamp.nd
  refine T.D_l_is_lamp.F.ok sc_l_is_lamp (fun vs H Q E h => ?_) (fun cdv A outer s H vs Q E hr h => ?_)
  · obtain ⟨v, d, rfl, _⟩ := h
    rfl
  · obtain ⟨v, d, rfl, hd, q⟩ := h
    refine ⟨_, (pss_cons (ps_if (PW.pt (pw_or (pt_not (pt_val (pe_callB call_isi (by rfl) T.z_isinstance (by decide +kernel) (pa_cons (pv 0) (pa_cons (pe_bltn (v := .ty "tuple") (by rfl) T.z_tuple (by decide +kernel) rfl) pa_nil))))) (pw_or (pt_cmpR op_ne (pe_callB call_len_seq (by rfl) T.z_len (by decide +kernel) (pa_cons (pv 0) pa_nil)) pe_int (nomark _)) (pw_or1 (pt_not (pt_val (pe_callB call_isi (by rfl) T.z_isinstance (by decide +kernel) (pa_cons (pe_ix ix_tup (pv 0) pe_int (fun _ _ => rfl)) (pa_cons (pe_bltn (v := .ty "str") (by rfl) T.z_str (by decide +kernel) rfl) pa_nil)))))))))
    (pss_one (ps_ret pe_bl))
    pss_nil)
  (pss_one (ps_ret (pe_and (pe_cmpR (op_inStr (in1_units hr.units)) (pe_ix ix_tup (pv 0) pe_int (fun _ _ => rfl)) (pe_lst (pa_cons pe_str (pa_cons pe_str pa_nil))) (by rfl)) (pe_one (pe_call (ok_l_whole T) (hr.mono (by decide)) (by rfl) T.D_l_whole.g T.D_l_whole.F.kp T.D_l_whole.b .nil pass0 (pa_cons (pe_ix ix_tup (pv 0) pe_int (fun _ _ => rfl)) (pa_cons pe_int (pa_cons (pe_op op_pow pe_int pe_int) pa_nil))))))))), ?_⟩
    refine s_if ?_
    refine ⟨v, rfl, v, .ty "tuple", _, _, _, rfl, .ty "tuple", hd.ty, kit_ty (kit_t d), _, rfl, ?_⟩
    cases hd with
    | @tup a xs ds hs ha =>
      have hl := ha.len
      refine iteF ⟨.ref a, rfl, a, xs, rfl, .inr hs, rfl, _, rfl, ?_⟩
      by_cases h2 : (xs.length : Int) = 2
      · rw [show (!decide (V.int (xs.length : Int) = V.int 2)) = false from by rw [decide_eq_true (by rw [h2])]; rfl]
        match ds, ha, hl with
        | [dk, dz], ha, hl =>
          cases ha with
          | @cons k _ _ _ h1 h3 =>
            cases h3 with
            | @cons z _ _ _ h3 h4 =>
              cases h4
              refine iteF ⟨.ref a, rfl, a, _, 0, k, rfl, rfl, hs, atI_nat (j := 0) rfl, k, .ty "str", _, _, _, rfl, .ty "str", h1.ty, kit_ty (kit_s dk), _, rfl, ?_⟩
              cases hi : isS dk with
              | false =>
                have e : lampB (.tuple [dk, dz]) = false := by
                  cases dk <;> first | (cases hi; done) | rfl
                rw [e] at q
                exact iteT (q H (Same.refl H))
              | true =>
                refine iteF ⟨.ref a, rfl, a, _, 0, k, rfl, rfl, hs, atI_nat (j := 0) rfl, sz2, fun l nl => ?_⟩
                have s1 := same_new (o := .lst [.str "hold", .str "pulse"]) nl
                refine ⟨dk, l, ["hold", "pulse"], h1.mono s1, rfl, .inl (.inl (.inl upd_same)), _, rfl, ?_⟩
                cases hb : (["hold", "pulse"] : List Str).any (strIs dk) with
                | false =>
                  have e : lampB (.tuple [dk, dz]) = false := by
                    show ((["hold", "pulse"] : List Str).any (strIs dk) && inW 1 1000000000 dz) = false
                    rw [hb]; rfl
                  rw [e] at q
                  exact iteF (q _ s1)
                | true =>
                  have e : lampB (.tuple [dk, dz]) = inW 1 1000000000 dz := by
                    show ((["hold", "pulse"] : List Str).any (strIs dk) && inW 1 1000000000 dz) = _
                    rw [hb]; rfl
                  rw [e] at q
                  exact iteT ⟨.ref a, rfl, a, _, 1, z, rfl, rfl, Same.seqT s1 hs, atI_nat (j := 1) rfl, 10, 9, rfl, rfl, ⟨by decide, by decide, by decide⟩, z, dz, 1, 1000000000, rfl, h3.mono s1, q _ s1⟩
        | [], _, hl => exact absurd h2 (by rw [hl]; simp)
        | [_], _, hl => exact absurd h2 (by rw [hl]; simp)
        | _ :: _ :: _ :: _, _, hl => exact absurd h2 (by rw [hl]; simp only [List.length_cons]; omega)
      · rw [show (!decide (V.int (xs.length : Int) = V.int 2)) = true from by rw [decide_eq_false fun z => h2 (V.int.inj z)]; rfl]
        have e : lampB (.tuple ds) = false := by
          match ds, hl with
          | [_, _], hl => exact absurd (by rw [hl]; rfl) h2
          | [], _ => rfl
          | [_], _ => rfl
          | _ :: _ :: _ :: _, _ => rfl
        rw [e] at q
        exact iteT (q H (Same.refl H))
    | _ => exact iteT (q H (Same.refl H))
theorem ok_l_fault (T : All K mg) : FnOk P w K mg base CX0 3 T.f_l_fault T.fd_l_fault ["value"] (sp_err K motErr) := by
  have nd := sc_l_fault.nd
  refine T.D_l_fault.F.ok sc_l_fault (fun vs H Q E h => ?_) (fun cdv A outer s H vs Q E hr h => ?_)
  · obtain ⟨v, d, rfl, _⟩ := h
    rfl
  · obtain ⟨v, d, rfl, hd, q⟩ := h
    refine ⟨_, (pss_cons (ps_if (PW.pt (pw_or (pt_not (pt_val (pe_callB call_isi (by rfl) T.z_isinstance (by decide +kernel) (pa_cons (pv 0) (pa_cons (pe_bltn (v := .ty "tuple") (by rfl) T.z_tuple (by decide +kernel) rfl) pa_nil))))) (pw_or1 (pt_cmpR op_gt (pe_callB call_len_seq (by rfl) T.z_len (by decide +kernel) (pa_cons (pv 0) pa_nil)) pe_int (nomark _)))))
    (pss_one (ps_ret (pe_tup (pa_cons pe_non (pa_cons pe_str pa_nil)))))
    pss_nil)
  (pss_cons (ps_set (i := 1) nd rfl (by first | exact Or.inl rfl | exact Or.inr rfl) (pe_un un_neg pe_int))
  (pss_cons (ps_for PassesOwn.never rfl (pi_enumT (by rfl) T.z_enumerate (pa_cons (pv 0) pa_nil)) (pg_tup rfl (pgs_cons (pg_name (i := 2) nd rfl (by first | exact Or.inl rfl | exact Or.inr rfl)) (pgs_cons (pg_name (i := 3) nd rfl (by first | exact Or.inl rfl | exact Or.inr rfl)) pgs_nil)))
    (pss_cons (ps_if (pt_not (pt_val (pe_call (ok_l_is_run T) (hr.mono (by decide)) (by rfl) T.D_l_is_run.g T.D_l_is_run.F.kp T.D_l_is_run.b .nil pass0 (pa_cons (pv 3) pa_nil))))
    (pss_one (ps_ret (pe_tup (pa_cons (pv 2) (pa_cons pe_str pa_nil)))))
    pss_nil)
  (pss_cons (ps_if (pt_cmpR op_le (pe_ix ix_tup (pv 3) pe_int (fun _ _ => rfl)) (pv 1) (nomark _))
    (pss_one (ps_ret (pe_tup (pa_cons (pv 2) (pa_cons pe_str pa_nil)))))
    pss_nil)
  (pss_one (ps_set (i := 1) nd rfl (by first | exact Or.inl rfl | exact Or.inr rfl) (pe_op op_add (pe_ix ix_tup (pv 3) pe_int (fun _ _ => rfl)) (pe_op op_mul (pe_ix ix_tup (pv 3) pe_int (fun _ _ => rfl)) (pe_op op_sub (pe_ix ix_tup (pv 3) pe_int (fun _ _ => rfl)) pe_int))))))))
  (pss_one (ps_ret pe_non))))), ?_⟩
    have no : motErr d = two .none (.str "motions") → ∀ t, H t = none → Q (.ref t) (upd H t (.tup [.non, .str "motions"])) := fun e t nt =>
      q _ _ (same_new nt) (.inr ⟨t, _, _, _, _, rfl, nt, upd_same, e, fun _ => .non, fun _ => .str _⟩)
    refine s_if ?_
    refine ⟨v, rfl, v, .ty "tuple", _, _, _, rfl, .ty "tuple", hd.ty, kit_ty (kit_t d), _, rfl, ?_⟩
    cases hd with
    | @tup a xs ds hs ha =>
      have hl := ha.len
      refine iteF ⟨.ref a, rfl, a, xs, rfl, .inr hs, _, 360, rfl, rfl, _, rfl, ite2 (fun g => ?_) (fun g => ?_)⟩
      · have g' : (360 : Int) < (xs.length : Int) := of_decide_eq_true g
        exact ⟨sz2, no (by show (if 360 < ds.length then _ else _) = _; rw [if_pos (by omega)])⟩
      · have g' : ¬ (360 : Int) < (xs.length : Int) := fun z => g (decide_eq_true z)
        have e0 : motErr (.tuple ds) = motGo ds 0 (-1) := by
          show (if 360 < ds.length then _ else _) = _
          rw [if_neg (by omega)]
        rw [e0] at q
        refine ⟨1, rfl, ?_⟩
        refine ⟨.ref a, rfl, a, xs, rfl, hs, for_it walk_enumT (fun i σ H1 => (∃ b y2 y3, σ = [some (.ref a), some (.int b), y2, y3] ∧ motGo ds 0 (-1) = motGo (ds.drop i) i b) ∧ Same H H1) ⟨⟨-1, _, _, rfl, rfl⟩, Same.refl H⟩ (fun i σ H1 _ h => Same.seqT h.2 hs) ?_ ?_⟩
        · rintro i x σ H1 H2 hi ⟨⟨b, y2, y3, rfl, eg⟩, s1⟩ ⟨t, z, rfl, nt, rfl, hz⟩
          obtain ⟨e, he, hq⟩ := ha.get hz
          have s2 : Same H (upd H1 t (.tup [.int (i : Nat), z])) := s1.trans (same_new nt)
          rw [motGo_cons he] at eg
          refine ⟨t, _, rfl, .inl (.inl upd_same), rfl, _, _, rfl, _, _, rfl, rfl, ?_⟩
          refine s_if ?_
          refine ⟨z, rfl, z, e, rfl, hq.mono s2, fun H3 s3 => ⟨(runOf e).isSome, rfl, ?_⟩⟩
          have s4 := s2.trans s3
          cases hst : runOf e with
          | none =>
            have eg' : motGo ds 0 (-1) = two (.int i) (.str "run") := by
              rw [eg]
              simp only [motGo, hst]
            refine iteT ⟨.int i, rfl, sz2, fun u nu => ?_⟩
            exact q _ _ (s4.trans (same_new nu)) (.inr ⟨u, _, _, _, _, rfl, s4.free nu, upd_same, eg', fun _ => .int _, fun _ => .str _⟩)
          | some ab =>
            obtain ⟨on, st, c, rfl, est, _, _, s0, s1', _⟩ := runOf_wt (d := e) (by rw [hst]; rfl)
            rw [hst] at est
            cases est
            cases hq with
            | @tup ad ys _ hs2 ha2 =>
              cases ha2 with
              | cons h1 h2 =>
                cases h2 with
                | cons h3 h4 =>
                  cases h4 with
                  | cons h5 h6 =>
                    cases h6
                    cases h1
                    cases h3
                    cases h5
                    refine iteF ⟨.ref ad, rfl, ad, _, 0, .int on, rfl, rfl, Same.seqT s4 hs2, atI_nat (j := 0) rfl, .int b, rfl, on, b, rfl, rfl, _, rfl, ite2 (fun g => ?_) (fun g => ?_)⟩
                    · have g' : on ≤ b := of_decide_eq_true g
                      have eg' : motGo ds 0 (-1) = two (.int i) (.str "order") := by
                        rw [eg]
                        simp only [motGo, hst, if_pos g']
                      refine ⟨.int i, rfl, sz2, fun u nu => ?_⟩
                      exact q _ _ (s4.trans (same_new nu)) (.inr ⟨u, _, _, _, _, rfl, s4.free nu, upd_same, eg', fun _ => .int _, fun _ => .str _⟩)
                    · have g' : ¬ on ≤ b := fun z => g (decide_eq_true z)
                      refine ⟨.ref ad, rfl, ad, _, 0, .int on, rfl, rfl, Same.seqT s4 hs2, atI_nat (j := 0) rfl, .ref ad, rfl, ad, _, 1, .int st, rfl, rfl, Same.seqT s4 hs2, atI_nat (j := 1) rfl, .ref ad, rfl, ad, _, 2, .int c, rfl, rfl, Same.seqT s4 hs2, atI_nat (j := 2) rfl, c, 1, rfl, rfl, st, _, rfl, rfl, .inl ⟨by omega, by omega⟩, on, _, rfl, rfl, ⟨_, _, _, rfl, ?_⟩, s4⟩
                      rw [eg]
                      simp only [motGo, hst, if_neg g']
        · rintro σ H1 ⟨⟨b, y2, y3, rfl, eg⟩, s1⟩
          rw [hl, List.drop_length] at eg
          exact q _ _ s1 (.inl ⟨rfl, eg⟩)
    | _ => exact iteT ⟨sz2, no rfl⟩
theorem ok_l_spoilt (T : All K mg) : FnOk P w K mg base CX0 5 T.f_l_spoilt T.fd_l_spoilt ["pot", "runs"] (sp_spoiltR K) := by
  have nd := sc_l_spoilt.nd
  refine T.D_l_spoilt.F.ok sc_l_spoilt (fun vs H Q E h => ?_) (fun cdv A outer s H vs Q E hr h => ?_)
  · obtain ⟨Z, p, dl, al, v, rfl, _⟩ := h
    rfl
  · obtain ⟨Z, p, dl, al, v, rfl, hP, hv, q⟩ := h
    refine ⟨_, (pss_cons (ps_if (pt_cmpR (op_eqD hr.units) (pv 1) (pe_tup pa_nil) (nomark _))
    (pss_one (ps_ret (pe_call (ok_l_odd T) (hr.mono (by decide)) (by rfl) T.D_l_odd.g T.D_l_odd.F.kp T.D_l_odd.b .nil pass0 (pa_cons (pv 0) pa_nil))))
    pss_nil)
  (pss_cons (ps_set (i := 2) nd rfl (by first | exact Or.inl rfl | exact Or.inr rfl) (pe_call (ok_l_draw T) (hr.mono (by decide)) (by rfl) T.D_l_draw.g T.D_l_draw.F.kp T.D_l_draw.b .nil pass0 (pa_cons (pv 0) (pa_cons (pe_callB call_len_seq (by rfl) T.z_len (by decide +kernel) (pa_cons (pv 1) pa_nil)) pa_nil))))
  (pss_cons (ps_asg (pe_ix ix_tup (pv 1) (pv 2) (fun _ _ => rfl)) (pg_tup rfl (pgs_cons (pg_name (i := 3) nd rfl (by first | exact Or.inl rfl | exact Or.inr rfl)) (pgs_cons (pg_name (i := 4) nd rfl (by first | exact Or.inl rfl | exact Or.inr rfl)) (pgs_cons (pg_name (i := 5) nd rfl (by first | exact Or.inl rfl | exact Or.inr rfl)) pgs_nil)))))
  (pss_cons (ps_set (i := 6) nd rfl (by first | exact Or.inl rfl | exact Or.inr rfl) (pe_call (ok_l_one T) (hr.mono (by decide)) (by rfl) T.D_l_one.g T.D_l_one.F.kp T.D_l_one.b .nil pass0 (pa_cons (pv 0) (pa_cons (pe_lst (pa_cons (pe_tup (pa_cons (pv 3) (pa_cons (pv 4) (pa_cons (pe_op op_add (pv 5) pe_int) pa_nil)))) (pa_cons (pe_tup (pa_cons (pe_op op_add (pv 3) pe_int) (pa_cons (pv 4) (pa_cons (pv 5) pa_nil)))) (pa_cons (pe_tup (pa_cons (pv 3) (pa_cons (pv 4) (pa_cons pe_int pa_nil)))) (pa_cons (pe_tup (pa_cons (pv 3) (pa_cons pe_int (pa_cons (pv 5) pa_nil)))) pa_nil))))) pa_nil))))
  (pss_cons (ps_set (i := 6) nd rfl (by first | exact Or.inl rfl | exact Or.inr rfl) (pe_call (ok_l_one T) (hr.mono (by decide)) (by rfl) T.D_l_one.g T.D_l_one.F.kp T.D_l_one.b .nil pass0 (pa_cons (pv 0) (pa_cons (pe_lst (pa_cons (pv 6) (pa_cons (pe_call (ok_l_bent T 3 60 3 623 (by decide) (by decide) (by decide) (by decide)) (hr.mono (by decide)) (by rfl) T.D_l_bent.g T.D_l_bent.F.kp T.D_l_bent.b .nil pass0 (pa_cons (pv 0) (pa_cons (pe_ix ix_tup (pv 1) (pv 2) (fun _ _ => rfl)) pa_nil))) (pa_cons (pe_tup (pa_cons (pv 3) (pa_cons pe_int (pa_cons pe_int pa_nil)))) (pa_cons (pe_tup (pa_cons (pe_op op_sub (pv 3) pe_int) (pa_cons (pv 4) (pa_cons (pv 5) pa_nil)))) (pa_cons (pe_lst (pa_cons (pv 3) (pa_cons (pv 4) (pa_cons (pv 5) pa_nil)))) pa_nil)))))) pa_nil))))
  (pss_one (ps_ret (pe_op op_catA (pe_op op_catA (pe_slice sl_tupA (pv 1) po_none (po_some (pv 2))) (pe_tup (pa_cons (pv 6) pa_nil))) (pe_slice sl_tupA (pv 1) (po_some (pe_op op_add (pv 2) pe_int)) po_none))))))))), ?_⟩
    have MI : Mo (IR 0 2000000000) := IR.mo
    have MT : Mo (TpR K 3 3 (IR 0 2000000000)) := TpR.mo IR.mo
    obtain ⟨a, xs, rfl, g, l1, l2, l3⟩ := hv
    refine s_ifn ⟨.ref a, rfl, Nat.zero_le _, fun t nt => ?_⟩
    obtain ⟨P1, k1, e1⟩ := laid (o := .tup []) hP nt
    have s1 : Same (hid Z p dl H) (upd H t (.tup [])) := (hid_same _ _ _).trans (same_new nt)
    obtain ⟨ts, hts, hlen⟩ := runs_dp (fun x hx => MT _ _ _ s1 (l3 x hx))
    refine ⟨.tuple (ts.map tD), .tuple [], .tup (Same.seqT s1 g) hts, .tup (.inl (.inl upd_same)) .nil, tD_shaped ts, tD_shaped [], _, rfl, ?_⟩
    rw [tD_eqv]
    obtain ⟨L, hL, hI⟩ : ∃ L : Nat, L = ts.length ∧ TpR K L L (TpR K 3 3 (IR 0 2000000000)) (.ref a) (hid Z p dl (upd H t (.tup []))) := ⟨_, rfl, TpR.mo MT _ _ _ k1 ⟨a, xs, rfl, g, Nat.le_of_eq hlen, Nat.le_of_eq hlen.symm, l3⟩⟩
    cases ts with
    | nil =>
      refine iteT (s_ret ?_)
      exact (ev_odd (by rfl)) _ _ P1 (Kp.refl _ _ _) fun x H' P' k' r => q x H' P' (k1.trans k') (r.wide (by decide) (by decide))
    | cons q0 qs =>
      refine iteF ?_
      have hL1 : 1 ≤ L := by rw [hL]; simp
      have hL2 : L ≤ 40 := by rw [hL, hlen]; exact l2
      clear hL hlen hts l1 l2 l3
      -- at
      refine s_set ?_
      refine (ev_draw (b := (L : Int)) (by rfl) (by omega) ((ev_len (ev_var (v := .ref a) rfl (TpR.mo MT) hI)).wide (by omega) (by omega))) _ _ P1 (Kp.refl _ _ _) fun at_ H2 P2 k2 r2 => ?_
      obtain ⟨at', rfl, at0, at1⟩ := r2
      have hI2 := TpR.mo MT _ _ _ k2 hI
      -- on, off
      refine s_asg ?_
      generalize hσ : (List.set _ 2 (some (V.int at')) : L2.St) = σ
      have s0 : σ[0]? = some (some (.ref p)) := by rw [← hσ]; rfl
      have s1' : σ[1]? = some (some (.ref a)) := by rw [← hσ]; rfl
      have s2' : σ[2]? = some (some (.int at')) := by rw [← hσ]; rfl
      have el : Ev Z p dl al H2 σ (tVar 1) (TpR K L L (TpR K 3 3 (IR 0 2000000000))) := ev_var s1' (TpR.mo MT) hI2
      have ea : Ev Z p dl al H2 σ (tVar 2) (IR 0 ((L : Int) - 1)) := ev_var s2' IR.mo ⟨at', rfl, at0, at1⟩
      have e1 := ev_ixT MT el ea (by omega) (by omega)
      refine e1 _ _ P2 (Kp.refl _ _ _) fun pv H3 P3 k3 r3 => ?_
      obtain ⟨tt, ys, rfl, gt, l1, l2, l3⟩ := r3
      obtain ⟨x0, x1, x2, rfl⟩ := three_of l1 l2
      obtain ⟨on, rfl, on0, on1⟩ := l3 x0 (by simp)
      obtain ⟨st, rfl, st0, st1⟩ := l3 x1 (by simp)
      obtain ⟨cn, rfl, cn0, cn1⟩ := l3 x2 (by simp)
      refine ⟨tt, _, rfl, Same.seqT (hid_same _ _ _) gt, rfl, _, _, rfl, _, _, rfl, _, _, rfl, rfl, ?_⟩
      have hI3 := TpR.mo MT _ _ _ k3 hI2
      clear e1 el ea
      -- new, for the first time
      refine s_set ?_
      generalize hτ : (List.set (List.set (List.set σ 3 (some (V.int on))) 4 (some (V.int st))) 5 (some (V.int cn)) : L2.St) = τ
      have t0 : τ[0]? = some (some (.ref p)) := by rw [← hτ, ← hσ]; rfl
      have t1 : τ[1]? = some (some (.ref a)) := by rw [← hτ, ← hσ]; rfl
      have t2 : τ[2]? = some (some (.int at')) := by rw [← hτ, ← hσ]; rfl
      have t3 : τ[3]? = some (some (.int on)) := by rw [← hτ, ← hσ]; rfl
      have t4 : τ[4]? = some (some (.int st)) := by rw [← hτ, ← hσ]; rfl
      have t5 : τ[5]? = some (some (.int cn)) := by rw [← hτ, ← hσ]; rfl
      have eon : Ev Z p dl al H3 τ (tVar 3) (IR 0 2000000000) := ev_var t3 IR.mo ⟨on, rfl, on0, on1⟩
      have est : Ev Z p dl al H3 τ (tVar 4) (IR 0 2000000000) := ev_var t4 IR.mo ⟨st, rfl, st0, st1⟩
      have ecn : Ev Z p dl al H3 τ (tVar 5) (IR 0 2000000000) := ev_var t5 IR.mo ⟨cn, rfl, cn0, cn1⟩
      refine (ev_one (m := 3) (n := 4) (R := DR K (Sm 623 4)) t0 (by decide) DR.mo (ev_lst (by decide) DR.mo (eall_cons DR.mo (ev_wide (ev_tupD (n := 30) (k := 1) (by decide) (eall_cons DR.mo (dI eon (by decide) (by decide)) (eall_cons DR.mo (dI est (by decide) (by decide)) (eall_cons DR.mo (dI (ev_add ecn ev_int) (by decide) (by decide)) eall_nil)))) (by decide) (by decide)) (eall_cons DR.mo (ev_wide (ev_tupD (n := 30) (k := 1) (by decide) (eall_cons DR.mo (dI (ev_add eon ev_int) (by decide) (by decide)) (eall_cons DR.mo (dI est (by decide) (by decide)) (eall_cons DR.mo (dI ecn (by decide) (by decide)) eall_nil)))) (by decide) (by decide)) (eall_cons DR.mo (ev_wide (ev_tupD (n := 30) (k := 1) (by decide) (eall_cons DR.mo (dI eon (by decide) (by decide)) (eall_cons DR.mo (dI est (by decide) (by decide)) (eall_cons DR.mo (ei_d ei_c (sm_chk (by decide +kernel))) eall_nil)))) (by decide) (by decide)) (eall_cons DR.mo (ev_wide (ev_tupD (n := 30) (k := 1) (by decide) (eall_cons DR.mo (dI eon (by decide) (by decide)) (eall_cons DR.mo (ei_d ei_c (sm_chk (by decide +kernel))) (eall_cons DR.mo (dI ecn (by decide) (by decide)) eall_nil)))) (by decide) (by decide)) eall_nil)))))) _ _ P3 (Kp.refl _ _ _) fun n1 H4 P4 k4 r4 => ?_
      have hI4 := TpR.mo MT _ _ _ k4 hI3
      clear eon est ecn
      -- new, for the second time
      refine s_set ?_
      generalize hυ : (List.set τ 6 (some n1) : L2.St) = υ
      have u0 : υ[0]? = some (some (.ref p)) := by rw [← hυ, ← hτ, ← hσ]; rfl
      have u1 : υ[1]? = some (some (.ref a)) := by rw [← hυ, ← hτ, ← hσ]; rfl
      have u2 : υ[2]? = some (some (.int at')) := by rw [← hυ, ← hτ, ← hσ]; rfl
      have u3 : υ[3]? = some (some (.int on)) := by rw [← hυ, ← hτ, ← hσ]; rfl
      have u4 : υ[4]? = some (some (.int st)) := by rw [← hυ, ← hτ, ← hσ]; rfl
      have u5 : υ[5]? = some (some (.int cn)) := by rw [← hυ, ← hτ, ← hσ]; rfl
      have u6 : υ[6]? = some (some n1) := by rw [← hυ, ← hτ, ← hσ]; rfl
      have eon : Ev Z p dl al H4 υ (tVar 3) (IR 0 2000000000) := ev_var u3 IR.mo ⟨on, rfl, on0, on1⟩
      have est : Ev Z p dl al H4 υ (tVar 4) (IR 0 2000000000) := ev_var u4 IR.mo ⟨st, rfl, st0, st1⟩
      have ecn : Ev Z p dl al H4 υ (tVar 5) (IR 0 2000000000) := ev_var u5 IR.mo ⟨cn, rfl, cn0, cn1⟩
      have en1 : Ev Z p dl al H4 υ (tVar 6) (DR K (Sm 623 4)) := ev_var u6 DR.mo r4
      have el : Ev Z p dl al H4 υ (tVar 1) (TpR K L L (TpR K 3 3 (IR 0 2000000000))) := ev_var u1 (TpR.mo MT) hI4
      have ea : Ev Z p dl al H4 υ (tVar 2) (IR 0 ((L : Int) - 1)) := ev_var u2 IR.mo ⟨at', rfl, at0, at1⟩
      have e1 : Ev Z p dl al H4 υ (tOp (rIxT K) (tVar 1) (tVar 2)) (TpR K 0 3 (DR K (Sm 60 3))) := (ev_ixT MT el ea (by omega) (by omega)).imp fun v G r => r.weak (Nat.zero_le _) (Nat.le_refl _) fun x hx => (ir_data hx (by decide) (by decide)).wide (by decide) (by decide)
      have e3 : Ev Z p dl al H4 υ (tCall (sp_bent K 3 60 3 623) [] E0 (tCons (tVar 0) (tCons (tOp (rIxT K) (tVar 1) (tVar 2)) tNil))) (DR K (Sm 623 4)) := ev_bent u0 e1
      refine (ev_one (m := 4) (n := 5) (R := DR K (Sm 623 4)) u0 (by decide) DR.mo (ev_lst (by decide) DR.mo (eall_cons DR.mo en1 (eall_cons DR.mo e3 (eall_cons DR.mo (ev_wide (ev_tupD (n := 30) (k := 1) (by decide) (eall_cons DR.mo (dI eon (by decide) (by decide)) (eall_cons DR.mo (ei_d ei_c (sm_chk (by decide +kernel))) (eall_cons DR.mo (ei_d ei_c (sm_chk (by decide +kernel))) eall_nil)))) (by decide) (by decide)) (eall_cons DR.mo (ev_wide (ev_tupD (n := 30) (k := 1) (by decide) (eall_cons DR.mo (dI (ev_sub eon ev_int) (by decide) (by decide)) (eall_cons DR.mo (dI est (by decide) (by decide)) (eall_cons DR.mo (dI ecn (by decide) (by decide)) eall_nil)))) (by decide) (by decide)) (eall_cons DR.mo (ev_wide (ev_lstD (n := 30) (k := 1) (by decide) (eall_cons DR.mo (dI eon (by decide) (by decide)) (eall_cons DR.mo (dI est (by decide) (by decide)) (eall_cons DR.mo (dI ecn (by decide) (by decide)) eall_nil)))) (by decide) (by decide)) eall_nil))))))) _ _ P4 (Kp.refl _ _ _) fun n2 H5 P5 k5 r5 => ?_
      have hI5 := TpR.mo MT _ _ _ k5 hI4
      clear eon est ecn en1 el ea e1 e3
      -- the result
      refine s_ret ?_
      generalize hω : (List.set υ 6 (some n2) : L2.St) = ω
      have w1 : ω[1]? = some (some (.ref a)) := by rw [← hω, ← hυ, ← hτ, ← hσ]; rfl
      have w2 : ω[2]? = some (some (.int at')) := by rw [← hω, ← hυ, ← hτ, ← hσ]; rfl
      have w6 : ω[6]? = some (some n2) := by rw [← hω, ← hυ, ← hτ, ← hσ]; rfl
      have MD : Mo (DR K (Sm 623 4)) := DR.mo
      have el : Ev Z p dl al H5 ω (tVar 1) (TpR K 0 40 (DR K (Sm 623 4))) := ev_var w1 (TpR.mo MD) (hI5.weak (Nat.zero_le _) hL2 fun x hx => (tri_data hx).wide (by decide) (by decide))
      have ea : Ev Z p dl al H5 ω (tVar 2) (IR 0 ((L : Int) - 1)) := ev_var w2 IR.mo ⟨at', rfl, at0, at1⟩
      have en : Ev Z p dl al H5 ω (tTup (tCons (tVar 6) tNil)) (TpR K 1 1 (DR K (Sm 623 4))) := ev_tupR (by decide) MD (eall_cons MD (ev_var w6 MD r5) eall_nil)
      have er : Ev Z p dl al H5 ω (tOp (rCatA K) (tOp (rCatA K) (tSl (rSlA K) (tVar 1) tNoPart (tPart (tVar 2))) (tTup (tCons (tVar 6) tNil))) (tSl (rSlA K) (tVar 1) (tPart (tOp (rI0 fun i j => .int (i + j)) (tVar 2) (tC (.int 1)))) tNoPart)) (DR K (Sm 53122 5)) :=
        ev_wide (n := 50628) (k := 5) (ev_tpD (ev_catA (by decide) MD (ev_catA (by decide) MD (ev_slA MD el any_none (any_some ea.isInt)) en) (ev_slA MD el (any_some (ev_add ea ev_int).isInt) any_none)) (by decide)) (by decide) (by decide)
      refine er _ _ P5 (Kp.refl _ _ _) fun x H6 P6 k6 r6 => ?_
      exact q x H6 P6 (k1.trans (k2.trans (k3.trans (k4.trans (k5.trans k6))))) r6
theorem ok_law (T : All K mg) : FnG P w K mg base CX0 6 T.f_law T.fd_law ["script"] (sp_law K) := by
  have nd := sc_law.nd
  refine Lm.Fun.okG T.D_law.F sc_law (fun vs H Q E h => ?_) (fun cdv A outer s H vs Q E hgd hr h => ?_)
  · obtain ⟨a, ns, rfl, _⟩ := h
    rfl
  · obtain ⟨a, ns, rfl, hS, hl, q⟩ := h
    refine ⟨_, (pss_cons (ps_set (i := 1) nd rfl (by first | exact Or.inl rfl | exact Or.inr rfl) (pe_call (ok_l_opened T) (hr.mono (by decide)) (by rfl) T.D_l_opened.g T.D_l_opened.F.kp T.D_l_opened.b .nil pass0 (pa_cons (pv 0) pa_nil)))
  (pss_cons (ps_for PassesOwn.never rfl (pi_range1 (by rfl) T.z_range (pa_cons pe_int pa_nil)) (pg_name (i := 2) nd rfl (by first | exact Or.inl rfl | exact Or.inr rfl))
    (pss_cons (ps_set (i := 3) nd rfl (by first | exact Or.inl rfl | exact Or.inr rfl) (pe_call (ok_l_far_runs T) (hr.mono (by decide)) (by rfl) T.D_l_far_runs.g T.D_l_far_runs.F.kp T.D_l_far_runs.b .nil pass0 (pa_cons (pv 1) (pa_cons pe_int pa_nil))))
  (pss_cons (ps_set (i := 5) nd rfl (by first | exact Or.inl rfl | exact Or.inr rfl) (pe_callTy call_tuple_of (by rfl) T.z_tuple (by decide +kernel) (pa_cons (pe_lc (own := [("k", 4)]) rfl nd (pi_range1 (by rfl) T.z_range (pa_cons pe_int pa_nil)) (blkOk_by (own := [("k", 4)]) (N := n_law) (sc := defScope s_law) (by decide +kernel)) (fun _ _ _ _ _ => (pg_name (i := 4) nd rfl (by first | exact Or.inl rfl | exact Or.inr rfl))) (fun _ _ _ _ _ => pts_nil) (fun _ _ _ _ _ => (pe_tup (pa_cons (pe_op op_mul pe_int (pv 4)) (pa_cons pe_int (pa_cons pe_int pa_nil)))))) pa_nil)))
  (pss_cons (ps_set (i := 6) nd rfl (by first | exact Or.inl rfl | exact Or.inr rfl) (pe_lst (pa_cons (pv 3) (pa_cons (pe_callTy call_list_of (by rfl) T.z_list (by decide +kernel) (pa_cons (pv 3) pa_nil)) (pa_cons (pe_op op_catA (pv 3) (pv 3)) (pa_cons (pe_revT (pv 3)) (pa_cons (pv 5) (pa_cons (pe_slice sl_tupA (pv 5) po_none (po_some pe_int)) (pa_cons (pe_tup pa_nil) (pa_cons (pe_tup (pa_cons (pe_tup pa_nil) pa_nil)) (pa_cons pe_non (pa_cons (pe_tup (pa_cons (pe_tup (pa_cons pe_int (pa_cons pe_int (pa_cons (pe_op op_add (pe_op op_pow pe_int pe_int) pe_int) pa_nil)))) pa_nil)) pa_nil))))))))))))
  (pss_cons (ps_set (i := 6) nd rfl (by first | exact Or.inl rfl | exact Or.inr rfl) (pe_op op_cat (pv 6) (pe_lst (pa_cons (pe_tup (pa_cons (pe_tup (pa_cons pe_int (pa_cons pe_int (pa_cons (pe_op op_add (pe_op op_pow pe_int pe_int) pe_int) pa_nil)))) pa_nil)) (pa_cons (pe_tup (pa_cons (pe_tup (pa_cons (pe_op op_pow pe_int pe_int) (pa_cons pe_int (pa_cons pe_int pa_nil)))) pa_nil)) (pa_cons (pe_tup (pa_cons (pe_tup (pa_cons (pe_op op_pow pe_int pe_int) (pa_cons pe_int (pa_cons pe_int pa_nil)))) pa_nil)) (pa_cons (pe_tup (pa_cons (pe_tup (pa_cons pe_bl (pa_cons pe_int (pa_cons pe_int pa_nil)))) pa_nil)) pa_nil)))))))
  (pss_cons (ps_expr (pe_bm PySem.F.plainAttrs_list PySem.F.slot_list_append PySem.F.type_list_append mt_append (pv 6) (pa_cons (pe_tup (pa_cons (pe_tup (pa_cons pe_int (pa_cons pe_int (pa_cons pe_int pa_nil)))) pa_nil)) pa_nil)))
  (pss_cons (ps_set (i := 6) nd rfl (by first | exact Or.inl rfl | exact Or.inr rfl) (pe_op op_cat (pe_op op_cat (pv 6) (pe_lc (own := [("k", 4)]) rfl nd (pi_range1 (by rfl) T.z_range (pa_cons pe_int pa_nil)) (blkOk_by (own := [("k", 4)]) (N := n_law) (sc := defScope s_law) (by decide +kernel)) (fun _ _ _ _ _ => (pg_name (i := 4) nd rfl (by first | exact Or.inl rfl | exact Or.inr rfl))) (fun _ _ _ _ _ => pts_nil) (fun _ _ _ _ _ => (pe_call (ok_l_spoilt T) (hr.mono (by decide)) (by rfl) T.D_l_spoilt.g T.D_l_spoilt.F.kp T.D_l_spoilt.b .nil pass0 (pa_cons (pv 1) (pa_cons (pv 3) pa_nil)))))) (pe_lc (own := [("k", 4)]) rfl nd (pi_range1 (by rfl) T.z_range (pa_cons pe_int pa_nil)) (blkOk_by (own := [("k", 4)]) (N := n_law) (sc := defScope s_law) (by decide +kernel)) (fun _ _ _ _ _ => (pg_name (i := 4) nd rfl (by first | exact Or.inl rfl | exact Or.inr rfl))) (fun _ _ _ _ _ => pts_nil) (fun _ _ _ _ _ => (pe_call (ok_l_bent T 40 60 3 7505 (by decide) (by decide) (by decide) (by decide)) (hr.mono (by decide)) (by rfl) T.D_l_bent.g T.D_l_bent.F.kp T.D_l_bent.b .nil pass0 (pa_cons (pv 1) (pa_cons (pv 3) pa_nil)))))))
  (pss_cons (ps_for PassesOwn.never rfl (pi_list (pe_op op_cat (pv 6) (pe_lst (pa_cons (pe_call (ok_l_odd T) (hr.mono (by decide)) (by rfl) T.D_l_odd.g T.D_l_odd.F.kp T.D_l_odd.b .nil pass0 (pa_cons (pv 1) pa_nil)) pa_nil)))) (pg_name (i := 7) nd rfl (by first | exact Or.inl rfl | exact Or.inr rfl))
    (pss_cons (ps_par (i := 8) (j := 9) (by rfl) nd rfl rfl (by decide) rfl rfl (pa_cons (pe_callB (call_reprD hgd hr) (by rfl) T.z_repr (by decide +kernel) (pa_cons (pv 7) pa_nil)) (pa_cons (pe_call (ok_l_fault T) (hr.mono (by decide)) (by rfl) T.D_l_fault.g T.D_l_fault.F.kp T.D_l_fault.b .nil pass0 (pa_cons (pv 7) pa_nil)) pa_nil)) (by rfl))
  (pss_one (ps_if (PW.pt (pw_or (pt_cmpR op_ne (pe_callB (call_reprD hgd hr) (by rfl) T.z_repr (by decide +kernel) (pa_cons (pe_lst (pa_cons (pe_call (ok_motions_error T) (hr.mono (by decide)) (by rfl) T.D_motions_error.g T.D_motions_error.F.kp T.D_motions_error.b .nil pass0 (pa_cons (pv 7) pa_nil)) (pa_cons (pe_call (ok_is_motions T) (hr.mono (by decide)) (by rfl) T.D_is_motions.g T.D_is_motions.F.kp T.D_is_motions.b .nil pass0 (pa_cons (pv 7) pa_nil)) pa_nil))) pa_nil)) (pe_callB (call_reprD hgd hr) (by rfl) T.z_repr (by decide +kernel) (pa_cons (pe_lst (pa_cons (pv 9) (pa_cons (pe_cmpR op_isN (pv 9) pe_non (nomark _)) pa_nil))) pa_nil)) (nomark _)) (pw_or1 (pt_cmpR op_ne (pe_callB (call_reprD hgd hr) (by rfl) T.z_repr (by decide +kernel) (pa_cons (pv 7) pa_nil)) (pv 8) (nomark _)))))
    (pss_one (ps_ret pe_bl))
    pss_nil))))
  (pss_cons (ps_set (i := 10) nd rfl (by first | exact Or.inl rfl | exact Or.inr rfl) (pe_call (ok_l_lamp T) (hr.mono (by decide)) (by rfl) T.D_l_lamp.g T.D_l_lamp.F.kp T.D_l_lamp.b .nil pass0 (pa_cons (pv 1) (pa_cons (pe_op op_pow pe_int pe_int) pa_nil))))
  (pss_cons (ps_set (i := 6) nd rfl (by first | exact Or.inl rfl | exact Or.inr rfl) (pe_lst (pa_cons (pv 10) (pa_cons (pe_tup (pa_cons pe_str (pa_cons (pe_op op_pow pe_int pe_int) pa_nil))) (pa_cons (pe_tup (pa_cons pe_str (pa_cons pe_int pa_nil))) (pa_cons (pe_tup (pa_cons pe_str (pa_cons pe_int pa_nil))) (pa_cons (pe_tup (pa_cons pe_str (pa_cons (pe_op op_add (pe_op op_pow pe_int pe_int) pe_int) pa_nil))) (pa_cons (pe_tup (pa_cons pe_str (pa_cons pe_int pa_nil))) pa_nil))))))))
  (pss_cons (ps_set (i := 6) nd rfl (by first | exact Or.inl rfl | exact Or.inr rfl) (pe_op op_cat (pv 6) (pe_lst (pa_cons (pe_tup (pa_cons pe_str (pa_cons pe_bl pa_nil))) (pa_cons (pe_revT (pv 10)) (pa_cons (pe_op op_catA (pv 10) (pe_tup (pa_cons pe_int pa_nil))) (pa_cons (pe_callTy call_list_of (by rfl) T.z_list (by decide +kernel) (pa_cons (pv 10) pa_nil)) (pa_cons (pe_call (ok_l_odd T) (hr.mono (by decide)) (by rfl) T.D_l_odd.g T.D_l_odd.F.kp T.D_l_odd.b .nil pass0 (pa_cons (pv 1) pa_nil)) (pa_cons (pe_tup (pa_cons (pe_tup pa_nil) (pa_cons pe_int pa_nil))) pa_nil)))))))))
  (pss_cons (ps_set (i := 6) nd rfl (by first | exact Or.inl rfl | exact Or.inr rfl) (pe_op op_cat (pv 6) (pe_lst (pa_cons (pe_tup (pa_cons pe_str (pa_cons pe_str pa_nil))) (pa_cons (pe_tup (pa_cons pe_str (pa_cons pe_int pa_nil))) (pa_cons (pe_tup (pa_cons pe_str pa_nil)) pa_nil))))))
  (pss_one (ps_for PassesOwn.never rfl (pi_list (pe_op op_cat (pv 6) (pe_lc (own := [("k", 4)]) rfl nd (pi_range1 (by rfl) T.z_range (pa_cons pe_int pa_nil)) (blkOk_by (own := [("k", 4)]) (N := n_law) (sc := defScope s_law) (by decide +kernel)) (fun _ _ _ _ _ => (pg_name (i := 4) nd rfl (by first | exact Or.inl rfl | exact Or.inr rfl))) (fun _ _ _ _ _ => pts_nil) (fun _ _ _ _ _ => (pe_call (ok_l_bent T 40 60 3 7505 (by decide) (by decide) (by decide) (by decide)) (hr.mono (by decide)) (by rfl) T.D_l_bent.g T.D_l_bent.F.kp T.D_l_bent.b .nil pass0 (pa_cons (pv 1) (pa_cons (pv 10) pa_nil))))))) (pg_name (i := 7) nd rfl (by first | exact Or.inl rfl | exact Or.inr rfl))
    (pss_one (ps_if (pt_cmpR op_ne (pe_callB (call_reprD hgd hr) (by rfl) T.z_repr (by decide +kernel) (pa_cons (pe_call (ok_is_lamp T) (hr.mono (by decide)) (by rfl) T.D_is_lamp.g T.D_is_lamp.F.kp T.D_is_lamp.b .nil pass0 (pa_cons (pv 7) pa_nil)) pa_nil)) (pe_callB (call_reprD hgd hr) (by rfl) T.z_repr (by decide +kernel) (pa_cons (pe_call (ok_l_is_lamp T) (hr.mono (by decide)) (by rfl) T.D_l_is_lamp.g T.D_l_is_lamp.F.kp T.D_l_is_lamp.b .nil pass0 (pa_cons (pv 7) pa_nil)) pa_nil)) (nomark _))
    (pss_one (ps_ret pe_bl))
    pss_nil))))))))))))))))
  (pss_one (ps_ret pe_bl)))), ?_⟩
    refine s_set ⟨.ref a, rfl, a, ns, rfl, hS, hl, fun p dl al H1 P1 s1 => ?_⟩
    generalize hZ : (fun _ => none : Hp) = Z at P1
    refine s_rng ⟨4, rfl, by omega, by omega, for_it walk_range (fun i σ Hi => ∃ y2 y3 y4 y5 y6 y7 y8 y9 y10, σ = [some (.ref a), some (.ref p), y2, y3, y4, y5, y6, y7, y8, y9, y10] ∧ PotAt Z Hi p dl al) ⟨_, _, _, _, _, _, _, _, _, rfl, P1⟩ (fun _ _ _ _ _ => trivial) ?_ ?_⟩
    · rintro i x σ Hi H' hi ⟨y2, y3, y4, y5, y6, y7, y8, y9, y10, rfl, Pi⟩ ⟨rfl, rfl⟩
      -- runs
      refine s_set ⟨.ref p, rfl, Z, p, dl, al, 40, rfl, Pi, by decide, by decide, fun rv H2 P2 k2 hrv => ?_⟩
      -- many
      refine s_set ⟨361, rfl, by omega, by omega, fun D nD => ?_⟩
      refine lc_range (fun i Hj => ∃ acc, PotAt Z Hj p dl al ∧ Kp Z p dl H2 Hj ∧ Hj D = some (.lst acc) ∧ acc.length = i ∧ ∀ x ∈ acc, TpR K 3 3 (IR 0 2000000000) x (hid Z p dl Hj)) ⟨[], P2.new nD, Kp.new nD, upd_same, rfl, fun q hq => nomatch hq⟩ ?_ ?_
      · rintro k Hj hk ⟨acc, Pj, kj, ej, lj, hj⟩
        have hk' : (k : Int) < 361 := by omega
        have hc : CMul 3 (0 + (k : Int)) := .inl ⟨by omega, by omega⟩
        refine ⟨rfl, yes_if ⟨.int (0 + (k : Int)), rfl, 3, _, rfl, rfl, hc, Nat.le_of_lt (small1000 (Nat.le_add_left 3 997)), fun t nt => ?_⟩⟩
        obtain ⟨P4, k4, e4⟩ := laid (o := .tup [.int (3 * (0 + (k : Int))), .int 1, .int 2]) Pj nt
        have tD : D ≠ t := fun e => by rw [← e, ej] at nt; cases nt
        have e5 : (upd Hj t (.tup [.int (3 * (0 + (k : Int))), .int 1, .int 2])) D = some (.lst acc) := by rw [upd_ne tD]; exact ej
        obtain ⟨P6, k6, e6, h6⟩ := app_any (K := K) (m := 3) (n := 3) (R := IR 0 2000000000) (fun v G G' h => h) P2 nD P4 (kj.trans k4) e5 (fun x h => TpR.mo IR.mo _ _ _ k4 (hj x h)) (tri_at e4 (by omega))
        exact ⟨acc, e5, small1000 (by omega), _, P6, k6, e6, by rw [List.length_append, lj]; rfl, h6⟩
      rintro H3 ⟨acc, P3, k3, e3, l3, h3⟩
      refine ⟨D, acc, rfl, .inl ⟨.inl (.inl e3), fun mt nmt => ?_⟩⟩
      obtain ⟨P4, k4, e4⟩ := laid (o := .tup acc) P3 nmt
      have MR : Mo (TpR K 0 40 (TpR K 3 3 (IR 0 2000000000))) := TpR.mo (TpR.mo IR.mo)
      have hmany : TpR K 0 361 (DR K (Sm 48 1)) (.ref mt) (hid Z p dl (upd H3 mt (.tup acc))) := ⟨mt, acc, rfl, .inl (.inl e4), Nat.zero_le _, Nat.le_of_eq l3, fun x hx => tri_data (TpR.mo IR.mo _ _ _ k4 (h3 x hx))⟩
      have hlg4 := MR _ _ _ (Kp.trans k3 k4) hrv
      clear hrv k2 k3 k4 e3 l3 h3 e4 nmt P2 P3
      -- values
      refine s_set ?_
      generalize hσ : (List.set _ 5 (some (.ref mt)) : L2.St) = σ
      have z1 : σ[1]? = some (some (.ref p)) := by rw [← hσ]; rfl
      have z3 : σ[3]? = some (some rv) := by rw [← hσ]; rfl
      have z5 : σ[5]? = some (some (.ref mt)) := by rw [← hσ]; rfl
      generalize hG : upd H3 mt (.tup acc) = H4 at P4 hmany hlg4 ⊢
      have MS : Mo (DR K (Sm 48 1)) := DR.mo
      have elog : Ev Z p dl al H4 σ (tVar 3) (TpR K 0 40 (DR K (Sm 48 1))) := ev_var z3 (TpR.mo MS) (hlg4.weak (Nat.le_refl _) (Nat.le_refl _) fun x hx => tri_data hx)
      have emany : Ev Z p dl al H4 σ (tVar 5) (TpR K 0 361 (DR K (Sm 48 1))) := ev_var z5 (TpR.mo MS) hmany
      have e1 := ev_wide (n' := 53122) (k' := 5) (ev_tpD elog (Nat.le_refl _)) (by decide) (by decide)
      have e2 := ev_wide (n' := 53122) (k' := 5) (ev_lsD (ev_listOf MS elog) (Nat.le_refl _)) (by decide) (by decide)
      have e3 := ev_wide (n' := 53122) (k' := 5) (ev_tpD (ev_catA (by decide) MS elog elog) (Nat.le_refl _)) (by decide) (by decide)
      have e4 := ev_wide (n' := 53122) (k' := 5) (ev_tpD (ev_revT MS elog) (Nat.le_refl _)) (by decide) (by decide)
      have e5 := ev_wide (n' := 53122) (k' := 5) (ev_tpD emany (Nat.le_refl _)) (by decide) (by decide)
      have e6 := ev_wide (n' := 53122) (k' := 5) (ev_tpD (ev_slA MS emany any_none (any_some (ev_int (i := 360)).isInt)) (Nat.le_refl _)) (by decide) (by decide)
      refine (ev_lst (m := 10) (n := 10) (R := DR K (Sm 53122 5)) (by decide) DR.mo (eall_cons DR.mo e1 (eall_cons DR.mo e2 (eall_cons DR.mo e3 (eall_cons DR.mo e4 (eall_cons DR.mo e5 (eall_cons DR.mo e6 (eall_cons DR.mo (ev_wide (ev_tupD (n := 10) (k := 0) (by decide) eall_nil) (by decide) (by decide)) (eall_cons DR.mo (ev_wide (ev_tupD (n := 3) (k := 1) (by decide) (eall_cons DR.mo (ev_wide (ev_tupD (n := 10) (k := 0) (by decide) eall_nil) (by decide) (by decide)) eall_nil)) (by decide) (by decide)) (eall_cons DR.mo (ev_d (fun _ => .non) (sm_chk (by decide +kernel))) (eall_cons DR.mo (ev_wide (ev_tupD (n := 39) (k := 1) (by decide) (eall_cons DR.mo (ev_wide (ev_tupD (n := 10) (k := 0) (by decide) (eall_cons DR.mo (ei_d ei_c (sm_chk (by decide +kernel))) (eall_cons DR.mo (ei_d ei_c (sm_chk (by decide +kernel))) (eall_cons DR.mo (ei_d (ei_add (ei_pow (by decide)) ei_c) (sm_chk (by decide +kernel))) eall_nil)))) (by decide) (by decide)) eall_nil)) (by decide) (by decide)) eall_nil))))))))))) _ _ P4 (Kp.refl _ _ _) fun v5 H5 P5 k5 r5 => ?_
      have hlg5 := MR _ _ _ k5 hlg4
      clear e1 e2 e3 e4 e5 e6 elog emany hmany hlg4
      have tw : ∃ y2 y4 y5 y7 y8 y9 y10, σ = [some (.ref a), some (.ref p), y2, some rv, y4, y5, y6, y7, y8, y9, y10] := by rw [← hσ]; exact ⟨_, _, _, _, _, _, _, rfl⟩
      clear hσ z1 z3 z5
      obtain ⟨c2, c4, c5, c7, c8, c9, c10, rfl⟩ := tw
      -- values + [four]
      refine s_set ⟨v5, rfl, ?_⟩
      refine (ev_lst (m := 4) (n := 4) (R := DR K (Sm 53122 5)) (by decide) DR.mo (eall_cons DR.mo (ev_wide (ev_tupD (n := 39) (k := 1) (by decide) (eall_cons DR.mo (ev_wide (ev_tupD (n := 10) (k := 0) (by decide) (eall_cons DR.mo (ei_d ei_c (sm_chk (by decide +kernel))) (eall_cons DR.mo (ei_d ei_c (sm_chk (by decide +kernel))) (eall_cons DR.mo (ei_d (ei_add (ei_pow (by decide)) ei_c) (sm_chk (by decide +kernel))) eall_nil)))) (by decide) (by decide)) eall_nil)) (by decide) (by decide)) (eall_cons DR.mo (ev_wide (ev_tupD (n := 39) (k := 1) (by decide) (eall_cons DR.mo (ev_wide (ev_tupD (n := 10) (k := 0) (by decide) (eall_cons DR.mo (ei_d (ei_pow (by decide)) (sm_chk (by decide +kernel))) (eall_cons DR.mo (ei_d ei_c (sm_chk (by decide +kernel))) (eall_cons DR.mo (ei_d ei_c (sm_chk (by decide +kernel))) eall_nil)))) (by decide) (by decide)) eall_nil)) (by decide) (by decide)) (eall_cons DR.mo (ev_wide (ev_tupD (n := 39) (k := 1) (by decide) (eall_cons DR.mo (ev_wide (ev_tupD (n := 10) (k := 0) (by decide) (eall_cons DR.mo (ei_d (ei_pow (by decide)) (sm_chk (by decide +kernel))) (eall_cons DR.mo (ei_d ei_c (sm_chk (by decide +kernel))) (eall_cons DR.mo (ei_d ei_c (sm_chk (by decide +kernel))) eall_nil)))) (by decide) (by decide)) eall_nil)) (by decide) (by decide)) (eall_cons DR.mo (ev_wide (ev_tupD (n := 39) (k := 1) (by decide) (eall_cons DR.mo (ev_wide (ev_tupD (n := 10) (k := 0) (by decide) (eall_cons DR.mo (ev_d (fun _ => .bl _) (sm_chk (by decide +kernel))) (eall_cons DR.mo (ei_d ei_c (sm_chk (by decide +kernel))) (eall_cons DR.mo (ei_d ei_c (sm_chk (by decide +kernel))) eall_nil)))) (by decide) (by decide)) eall_nil)) (by decide) (by decide)) eall_nil))))) _ _ P5 (Kp.refl _ _ _) fun w5 H6 P6 k6 r6 => ?_
      obtain ⟨A1, as1, rfl, g1, a1, a2, a3⟩ := LsR.mo DR.mo _ _ _ k6 r5
      obtain ⟨A2, as2, rfl, g2, b1, b2, b3⟩ := r6
      have hlg6 := MR _ _ _ k6 hlg5
      refine ⟨A1, A2, as1, as2, rfl, rfl, hid_same _ _ _ _ _ g1, hid_same _ _ _ _ _ g2, Nat.le_of_lt (small1000 (by omega)), fun L nL => ?_⟩
      have hall : ∀ x ∈ as1 ++ as2, DR K (Sm 53122 5) x (hid Z p dl H6) := fun x hx => by
        rcases List.mem_append.mp hx with e | e
        · exact a3 x e
        · exact b3 x e
      have len14 : (as1 ++ as2).length = 14 := by rw [List.length_append]; omega
      clear g1 g2 a1 a2 a3 b1 b2 b3 r5 k5 k6 hlg5 P5
      generalize as1 ++ as2 = vs at nL hall len14 ⊢
      -- values.append(..)
      refine s_expr ⟨.ref L, rfl, .inl ⟨rfl, _, .inl (.inl upd_same)⟩, Nat.le_of_lt (small1000 (Nat.le_add_left 3 997)), fun w nw => ⟨Nat.le_of_lt (small1000 (Nat.le_add_left 1 999)), fun u nu => ?_⟩⟩
      obtain ⟨P7, k7, e7, h7⟩ := app_three (K := K) (φ := Sm 53122 5) P6 nL nw nu hall (sm_chk (by decide +kernel))
      have wL : L ≠ w := fun e => by rw [← e, upd_same] at nw; cases nw
      have uL : L ≠ u := fun e => by rw [← e, upd_ne wL, upd_same] at nu; cases nu
      refine ⟨L, vs, _, rfl, rfl, by rw [upd_ne uL, upd_ne wL, upd_same], small1000 (by omega), ?_⟩
      generalize hG7 : upd _ L (.lst (vs ++ [.ref u])) = H7 at P7 k7 e7 h7 ⊢
      clear hG7
      have hlg7 := MR _ _ _ k7 hlg6
      have v7 : LsR 15 15 (DR K (Sm 53122 5)) (.ref L) (hid Z p dl H7) := ⟨L, _, rfl, e7, by rw [List.length_append]; show 15 ≤ vs.length + 1; omega, by rw [List.length_append]; show vs.length + 1 ≤ 15; omega, h7⟩
      clear nL nw nu k7 e7 h7 hlg6 P6 hall len14
      -- values + [spoilt ones] + [bent ones]
      refine s_set ?_
      refine (ev_cat (b := 27) (d := 6) (R := DR K (Sm 53122 5)) (by decide) DR.mo (ev_cat (b := 15) (d := 12) (by decide) DR.mo (ev_var (v := .ref L) (by rfl) (LsR.mo DR.mo) v7)
        (ev_lcR (j := 12) (by decide) (by decide) DR.mo fun Z' H1 x P' s' => ev_spoiltR (by rfl) (by rfl) (MR _ _ _ s' hlg7)))
        (ev_lcR (j := 6) (by decide) (by decide) DR.mo fun Z' H1 x P' s' => ev_wide (ev_bent (by rfl) (ev_var (v := rv) (by rfl) (TpR.mo DR.mo) ((MR _ _ _ s' hlg7).weak (Nat.le_refl _) (Nat.le_refl _) fun x hx => (tri_data hx).wide (by decide) (by decide)))) (by decide) (by decide))) _ _ P7 (Kp.refl _ _ _) fun v8 H8 P8 k8 r8 => ?_
      -- the first loop
      refine s_lst ?_
      refine (ev_cat (b := 33) (d := 1) (R := DR K (Sm 53122 5)) (by decide) DR.mo (ev_var (v := v8) (by rfl) (LsR.mo DR.mo) r8) (ev_lst (by decide) DR.mo (eall_cons DR.mo (ev_wide (ev_odd (by rfl)) (by decide) (by decide)) eall_nil))) _ _ P8 (Kp.refl _ _ _) fun v9 H9 P9 k9 r9 => ?_
      obtain ⟨B, xs, rfl, eB, l1, l2, hx⟩ := r9
      have ne : ∀ z : Str, V.bl (!decide (V.str z = V.str z)) = V.bl false := fun z => by rw [decide_eq_true rfl]; rfl
      refine ⟨B, rfl, ⟨xs, .inl (.inl (hid_same _ _ _ _ _ eB))⟩, for_it walk_list (fun i σ Hi => ∃ d7 d8 d9, σ = [some (.ref a), some (.ref p), c2, some rv, c4, c5, some v8, d7, d8, d9, c10] ∧ PotAt Z Hi p dl al ∧ Kp Z p dl H9 Hi) ⟨_, _, _, rfl, P9, Kp.refl _ _ _⟩ (fun i σ Hi _ h => by
        obtain ⟨_, _, _, _, _, k⟩ := h
        exact .inl (.inl (hid_same _ _ _ _ _ (k _ _ eB)))) ?_ ?_⟩
      · rintro i x σ Hi H' hi ⟨d7, d8, d9, rfl, Pi, ki⟩ ⟨rfl, hxi⟩
        obtain ⟨d, hd, sd⟩ := hx x (List.mem_of_getElem? hxi)
        have hd0 : Dq K H' x d := (hd.mono ki).mono (hid_same _ _ _)
        have fd := sd.fine (by decide) (by decide)
        have sh := sd.sh
        refine s_par ⟨x, rfl, x, d, rfl, hd0, fd, x, rfl, x, d, rfl, hd0, fun r H10 s10 f10 => ⟨_, _, rfl, ?_⟩⟩
        refine s_if1 ?_
        refine ⟨x, rfl, x, d, rfl, hd0.mono s10, sh, fun r1 H11 s11 f11 => ⟨x, rfl, x, d, rfl, (hd0.mono s10).mono s11, sh, fun H12 s12 => ⟨sz2, fun t nt => ?_⟩⟩⟩
        have s13 : Same H11 (upd H12 t (.lst [r1, .bl (isN (motErr d))])) := s12.trans (same_new nt)
        refine ⟨.ref t, .list [motErr d, .bool (isN (motErr d))], rfl, .lst (.inl (.inl upd_same)) (.cons (f11.dq0.mono s13) (.cons (.bl _) .nil)), pair_fine (motErr_sm d) _, ?_⟩
        refine ⟨r, rfl, r, rfl, rfl, sz2, fun u nu => ?_⟩
        have s14 : Same H10 (upd (upd H12 t (.lst [r1, .bl (isN (motErr d))])) u (.lst [r, .bl (decide (r = .non))])) := (s11.trans s13).trans (same_new nu)
        refine ⟨.ref u, .list [motErr d, .bool (isN (motErr d))], rfl, .lst (.inl (.inl upd_same)) (.cons (f10.dq0.mono s14) (.cons (by rw [← f10.isN]; exact .bl _) .nil)), pair_fine (motErr_sm d) _, ?_⟩
        refine ⟨rfl, false, ne _, iteF ?_⟩
        refine ⟨x, rfl, x, d, rfl, (hd0.mono s10).mono s14, fd, _, rfl, rfl, false, ne _, iteF ?_⟩
        exact ⟨_, _, _, rfl, Pi.keep (s10.trans s14), ki.trans (Kp.of (s10.trans s14))⟩
      rintro σ Hi ⟨d7, d8, d9, rfl, Pi, _⟩
      clear hlg7 v7 r8 eB l1 l2 hx k8 k9 P7 P8 P9
      -- a lamp
      refine ⟨.ref p, rfl, 10, 9, rfl, rfl, ⟨by decide, by decide, by decide⟩, Z, p, dl, al, 1000000000, rfl, Pi, by decide, by decide, fun lv H2 P2 k2 hlv => ?_⟩
      have ML : Mo (TpR K 2 2 (DR K (Sm 30 1))) := TpR.mo DR.mo
      -- its values
      refine s_nxe ?_
      refine s_set ?_
      have elamp : ∀ H3 σ, σ[10]? = some (some lv) → Same (hid Z p dl H2) (hid Z p dl H3) → Ev Z p dl al H3 σ (tVar 10) (TpR K 2 2 (DR K (Sm 30 1))) := fun H3 σ e s => ev_var e ML (ML _ _ _ s hlv)
      refine (ev_lst (m := 6) (n := 6) (R := DR K (Sm 53122 5)) (by decide) DR.mo (eall_cons DR.mo (ev_wide (ev_tpD (elamp _ _ (by rfl) (Same.refl _)) (Nat.le_refl _)) (by decide) (by decide)) (eall_cons DR.mo (ev_wide (ev_tupD (n := 10) (k := 0) (by decide) (eall_cons DR.mo (ev_d (fun _ => .str _) (sm_chk (by decide +kernel))) (eall_cons DR.mo (ei_d (ei_pow (by decide)) (sm_chk (by decide +kernel))) eall_nil))) (by decide) (by decide)) (eall_cons DR.mo (ev_wide (ev_tupD (n := 10) (k := 0) (by decide) (eall_cons DR.mo (ev_d (fun _ => .str _) (sm_chk (by decide +kernel))) (eall_cons DR.mo (ei_d ei_c (sm_chk (by decide +kernel))) eall_nil))) (by decide) (by decide)) (eall_cons DR.mo (ev_wide (ev_tupD (n := 10) (k := 0) (by decide) (eall_cons DR.mo (ev_d (fun _ => .str _) (sm_chk (by decide +kernel))) (eall_cons DR.mo (ei_d ei_c (sm_chk (by decide +kernel))) eall_nil))) (by decide) (by decide)) (eall_cons DR.mo (ev_wide (ev_tupD (n := 10) (k := 0) (by decide) (eall_cons DR.mo (ev_d (fun _ => .str _) (sm_chk (by decide +kernel))) (eall_cons DR.mo (ei_d (ei_add (ei_pow (by decide)) ei_c) (sm_chk (by decide +kernel))) eall_nil))) (by decide) (by decide)) (eall_cons DR.mo (ev_wide (ev_tupD (n := 10) (k := 0) (by decide) (eall_cons DR.mo (ev_d (fun _ => .str _) (sm_chk (by decide +kernel))) (eall_cons DR.mo (ei_d ei_c (sm_chk (by decide +kernel))) eall_nil))) (by decide) (by decide)) eall_nil))))))) _ _ P2 (Kp.refl _ _ _) fun v3 H3 P3 k3 r3 => ?_
      refine s_set ?_
      refine (ev_cat (b := 6) (d := 6) (R := DR K (Sm 53122 5)) (by decide) DR.mo (ev_var (v := v3) (by rfl) (LsR.mo DR.mo) r3) (ev_lst (m := 6) (n := 6) (by decide) DR.mo (eall_cons DR.mo (ev_wide (ev_tupD (n := 10) (k := 0) (by decide) (eall_cons DR.mo (ev_d (fun _ => .str _) (sm_chk (by decide +kernel))) (eall_cons DR.mo (ev_d (fun _ => .bl _) (sm_chk (by decide +kernel))) eall_nil))) (by decide) (by decide)) (eall_cons DR.mo (ev_wide (ev_tpD (ev_revT DR.mo (elamp _ _ (by rfl) k3)) (Nat.le_refl _)) (by decide) (by decide)) (eall_cons DR.mo (ev_wide (ev_tpD (ev_catA (by decide) DR.mo (elamp _ _ (by rfl) k3) (ev_tupR (by decide) DR.mo (eall_cons DR.mo (ei_d ei_c (sm_chk (by decide +kernel))) eall_nil))) (Nat.le_refl _)) (by decide) (by decide)) (eall_cons DR.mo (ev_wide (ev_lsD (ev_listOf DR.mo (elamp _ _ (by rfl) k3)) (Nat.le_refl _)) (by decide) (by decide)) (eall_cons DR.mo (ev_wide (ev_odd (by rfl)) (by decide) (by decide)) (eall_cons DR.mo (ev_wide (ev_tupD (n := 10) (k := 1) (by decide) (eall_cons DR.mo (ev_wide (ev_tupD (n := 10) (k := 0) (by decide) eall_nil) (by decide) (by decide)) (eall_cons DR.mo (ei_d ei_c (sm_chk (by decide +kernel))) eall_nil))) (by decide) (by decide)) eall_nil)))))))) _ _ P3 (Kp.refl _ _ _) fun v4 H4 P4 k4 r4 => ?_
      refine s_set ?_
      refine (ev_cat (b := 12) (d := 3) (R := DR K (Sm 53122 5)) (by decide) DR.mo (ev_var (v := v4) (by rfl) (LsR.mo DR.mo) r4) (ev_lst (m := 3) (n := 3) (by decide) DR.mo (eall_cons DR.mo (ev_wide (ev_tupD (n := 10) (k := 0) (by decide) (eall_cons DR.mo (ev_d (fun _ => .str _) (sm_chk (by decide +kernel))) (eall_cons DR.mo (ev_d (fun _ => .str _) (sm_chk (by decide +kernel))) eall_nil))) (by decide) (by decide)) (eall_cons DR.mo (ev_wide (ev_tupD (n := 10) (k := 0) (by decide) (eall_cons DR.mo (ev_d (fun _ => .str _) (sm_chk (by decide +kernel))) (eall_cons DR.mo (ei_d ei_c (sm_chk (by decide +kernel))) eall_nil))) (by decide) (by decide)) (eall_cons DR.mo (ev_wide (ev_tupD (n := 10) (k := 0) (by decide) (eall_cons DR.mo (ev_d (fun _ => .str _) (sm_chk (by decide +kernel))) eall_nil)) (by decide) (by decide)) eall_nil))))) _ _ P4 (Kp.refl _ _ _) fun v5 H5 P5 k5 r5 => ?_
      -- the second loop
      refine s_lst1 ?_
      refine (ev_cat (b := 15) (d := 6) (R := DR K (Sm 53122 5)) (by decide) DR.mo (ev_var (v := v5) (by rfl) (LsR.mo DR.mo) r5) (ev_lcR (j := 6) (by decide) (by decide) DR.mo fun Z' H1 x P' s' => ev_wide (ev_bent (by rfl) (ev_var (v := lv) (by rfl) (TpR.mo DR.mo) ((ML _ _ _ (((Same.trans k3 k4).trans k5).trans s') hlv).weak (m' := 0) (c' := 40) (Nat.zero_le _) (by decide) fun x hx => hx.wide (by decide) (by decide)))) (by decide) (by decide))) _ _ P5 (Kp.refl _ _ _) fun v9 H9 P9 k9 r9 => ?_
      obtain ⟨B, xs, rfl, eB, l1, l2, hx⟩ := r9
      refine ⟨B, rfl, ⟨xs, .inl (.inl (hid_same _ _ _ _ _ eB))⟩, for_it walk_list (fun i σ Hi => ∃ d7, σ = [some (.ref a), some (.ref p), c2, some rv, c4, c5, some v5, d7, d8, d9, some lv] ∧ PotAt Z Hi p dl al ∧ Kp Z p dl H9 Hi) ⟨_, rfl, P9, Kp.refl _ _ _⟩ (fun i σ Hi _ h => by
        obtain ⟨_, _, _, k⟩ := h
        exact .inl (.inl (hid_same _ _ _ _ _ (k _ _ eB)))) ?_ ?_⟩
      · rintro i x σ Hi H' hi ⟨d7, rfl, Pi, ki⟩ ⟨rfl, hxi⟩
        obtain ⟨d, hd, sd⟩ := hx x (List.mem_of_getElem? hxi)
        have hd0 : Dq K H' x d := (hd.mono ki).mono (hid_same _ _ _)
        refine s_if1 ?_
        refine ⟨x, rfl, x, d, rfl, hd0, fun H10 s10 => ⟨.bl (lampB d), .bool (lampB d), rfl, .bl _, bool_fine _, x, rfl, x, d, rfl, hd0.mono s10, fun H11 s11 => ⟨.bl (lampB d), .bool (lampB d), rfl, .bl _, bool_fine _, rfl, false, ne _, iteF ?_⟩⟩⟩
        exact ⟨_, rfl, Pi.keep (s10.trans s11), ki.trans (Kp.of (s10.trans s11))⟩
      · rintro σ Hi ⟨d7, rfl, Pi, ki⟩
        exact ⟨_, _, _, _, _, _, _, _, _, rfl, Pi⟩
    · rintro σ Hi ⟨y2, y3, y4, y5, y6, y7, y8, y9, y10, rfl, Pi⟩
      exact q Hi
end
theorem all_mk {K : PySem.W.Frag} {h : Heap} {mg : Str → Option Value} (X : K.In h) (G : h.Ns mainGlobals mg)
  {f0 : Addr} {od0 an0 : Option Addr} {sl0 : Array (Option Value)} {oc0 kV0 dc0 pm0 cd0 ct0 : Value}
  (a0 : PySem.W.nsIn K mainGlobals "is_whole" = some (some (.ref f0))) (l0 : K.lookup f0 = some ⟨oc0, od0, .func (PySem.W.fnOf "is_whole" "is_whole" (defArgs s_is_whole) (defBody s_is_whole) (defScope s_is_whole) .none kV0 dc0 pm0 an0 cd0 ct0), sl0⟩) (c0 : PySem.W.codeIn K cd0 "is_whole" = true) (k0 : PySem.W.keepIn K (.ref f0) = true)
  {f1 : Addr} {od1 an1 : Option Addr} {sl1 : Array (Option Value)} {oc1 kV1 dc1 pm1 cd1 ct1 : Value}
  (a1 : PySem.W.nsIn K mainGlobals "is_whole_tuple" = some (some (.ref f1))) (l1 : K.lookup f1 = some ⟨oc1, od1, .func (PySem.W.fnOf "is_whole_tuple" "is_whole_tuple" (defArgs s_is_whole_tuple) (defBody s_is_whole_tuple) (defScope s_is_whole_tuple) .none kV1 dc1 pm1 an1 cd1 ct1), sl1⟩) (c1 : PySem.W.codeIn K cd1 "is_whole_tuple" = true) (k1 : PySem.W.keepIn K (.ref f1) = true)
  {f2 : Addr} {od2 an2 : Option Addr} {sl2 : Array (Option Value)} {oc2 kV2 dc2 pm2 cd2 ct2 : Value}
  (a2 : PySem.W.nsIn K mainGlobals "is_stay" = some (some (.ref f2))) (l2 : K.lookup f2 = some ⟨oc2, od2, .func (PySem.W.fnOf "is_stay" "is_stay" (defArgs s_is_stay) (defBody s_is_stay) (defScope s_is_stay) .none kV2 dc2 pm2 an2 cd2 ct2), sl2⟩) (c2 : PySem.W.codeIn K cd2 "is_stay" = true) (k2 : PySem.W.keepIn K (.ref f2) = true)
  {f3 : Addr} {od3 an3 : Option Addr} {sl3 : Array (Option Value)} {oc3 kV3 dc3 pm3 cd3 ct3 : Value}
  (a3 : PySem.W.nsIn K mainGlobals "last_minute" = some (some (.ref f3))) (l3 : K.lookup f3 = some ⟨oc3, od3, .func (PySem.W.fnOf "last_minute" "last_minute" (defArgs s_last_minute) (defBody s_last_minute) (defScope s_last_minute) .none kV3 dc3 pm3 an3 cd3 ct3), sl3⟩) (c3 : PySem.W.codeIn K cd3 "last_minute" = true) (k3 : PySem.W.keepIn K (.ref f3) = true)
  {f4 : Addr} {od4 an4 : Option Addr} {sl4 : Array (Option Value)} {oc4 kV4 dc4 pm4 cd4 ct4 : Value}
  (a4 : PySem.W.nsIn K mainGlobals "is_run" = some (some (.ref f4))) (l4 : K.lookup f4 = some ⟨oc4, od4, .func (PySem.W.fnOf "is_run" "is_run" (defArgs s_is_run) (defBody s_is_run) (defScope s_is_run) .none kV4 dc4 pm4 an4 cd4 ct4), sl4⟩) (c4 : PySem.W.codeIn K cd4 "is_run" = true) (k4 : PySem.W.keepIn K (.ref f4) = true)
  {f5 : Addr} {od5 an5 : Option Addr} {sl5 : Array (Option Value)} {oc5 kV5 dc5 pm5 cd5 ct5 : Value}
  (a5 : PySem.W.nsIn K mainGlobals "is_lamp" = some (some (.ref f5))) (l5 : K.lookup f5 = some ⟨oc5, od5, .func (PySem.W.fnOf "is_lamp" "is_lamp" (defArgs s_is_lamp) (defBody s_is_lamp) (defScope s_is_lamp) .none kV5 dc5 pm5 an5 cd5 ct5), sl5⟩) (c5 : PySem.W.codeIn K cd5 "is_lamp" = true) (k5 : PySem.W.keepIn K (.ref f5) = true)
  {f6 : Addr} {od6 an6 : Option Addr} {sl6 : Array (Option Value)} {oc6 kV6 dc6 pm6 cd6 ct6 : Value}
  (a6 : PySem.W.nsIn K mainGlobals "motions_error" = some (some (.ref f6))) (l6 : K.lookup f6 = some ⟨oc6, od6, .func (PySem.W.fnOf "motions_error" "motions_error" (defArgs s_motions_error) (defBody s_motions_error) (defScope s_motions_error) .none kV6 dc6 pm6 an6 cd6 ct6), sl6⟩) (c6 : PySem.W.codeIn K cd6 "motions_error" = true) (k6 : PySem.W.keepIn K (.ref f6) = true)
  {f7 : Addr} {od7 an7 : Option Addr} {sl7 : Array (Option Value)} {oc7 kV7 dc7 pm7 cd7 ct7 : Value}
  (a7 : PySem.W.nsIn K mainGlobals "is_motions" = some (some (.ref f7))) (l7 : K.lookup f7 = some ⟨oc7, od7, .func (PySem.W.fnOf "is_motions" "is_motions" (defArgs s_is_motions) (defBody s_is_motions) (defScope s_is_motions) .none kV7 dc7 pm7 an7 cd7 ct7), sl7⟩) (c7 : PySem.W.codeIn K cd7 "is_motions" = true) (k7 : PySem.W.keepIn K (.ref f7) = true)
  {f8 : Addr} {od8 an8 : Option Addr} {sl8 : Array (Option Value)} {oc8 kV8 dc8 pm8 cd8 ct8 : Value}
  (a8 : PySem.W.nsIn K mainGlobals "_law_opened" = some (some (.ref f8))) (l8 : K.lookup f8 = some ⟨oc8, od8, .func (PySem.W.fnOf "_law_opened" "_law_opened" (defArgs s_l_opened) (defBody s_l_opened) (defScope s_l_opened) .none kV8 dc8 pm8 an8 cd8 ct8), sl8⟩) (c8 : PySem.W.codeIn K cd8 "_law_opened" = true) (k8 : PySem.W.keepIn K (.ref f8) = true)
  {f9 : Addr} {od9 an9 : Option Addr} {sl9 : Array (Option Value)} {oc9 kV9 dc9 pm9 cd9 ct9 : Value}
  (a9 : PySem.W.nsIn K mainGlobals "_law_draw" = some (some (.ref f9))) (l9 : K.lookup f9 = some ⟨oc9, od9, .func (PySem.W.fnOf "_law_draw" "_law_draw" (defArgs s_l_draw) (defBody s_l_draw) (defScope s_l_draw) .none kV9 dc9 pm9 an9 cd9 ct9), sl9⟩) (c9 : PySem.W.codeIn K cd9 "_law_draw" = true) (k9 : PySem.W.keepIn K (.ref f9) = true)
  {f10 : Addr} {od10 an10 : Option Addr} {sl10 : Array (Option Value)} {oc10 kV10 dc10 pm10 cd10 ct10 : Value}
  (a10 : PySem.W.nsIn K mainGlobals "_law_one" = some (some (.ref f10))) (l10 : K.lookup f10 = some ⟨oc10, od10, .func (PySem.W.fnOf "_law_one" "_law_one" (defArgs s_l_one) (defBody s_l_one) (defScope s_l_one) .none kV10 dc10 pm10 an10 cd10 ct10), sl10⟩) (c10 : PySem.W.codeIn K cd10 "_law_one" = true) (k10 : PySem.W.keepIn K (.ref f10) = true)
  {f11 : Addr} {od11 an11 : Option Addr} {sl11 : Array (Option Value)} {oc11 kV11 dc11 pm11 cd11 ct11 : Value}
  (a11 : PySem.W.nsIn K mainGlobals "_law_lamp" = some (some (.ref f11))) (l11 : K.lookup f11 = some ⟨oc11, od11, .func (PySem.W.fnOf "_law_lamp" "_law_lamp" (defArgs s_l_lamp) (defBody s_l_lamp) (defScope s_l_lamp) .none kV11 dc11 pm11 an11 cd11 ct11), sl11⟩) (c11 : PySem.W.codeIn K cd11 "_law_lamp" = true) (k11 : PySem.W.keepIn K (.ref f11) = true)
  {f12 : Addr} {od12 an12 : Option Addr} {sl12 : Array (Option Value)} {oc12 kV12 dc12 pm12 cd12 ct12 : Value}
  (a12 : PySem.W.nsIn K mainGlobals "_law_far_runs" = some (some (.ref f12))) (l12 : K.lookup f12 = some ⟨oc12, od12, .func (PySem.W.fnOf "_law_far_runs" "_law_far_runs" (defArgs s_l_far_runs) (defBody s_l_far_runs) (defScope s_l_far_runs) .none kV12 dc12 pm12 an12 cd12 ct12), sl12⟩) (c12 : PySem.W.codeIn K cd12 "_law_far_runs" = true) (k12 : PySem.W.keepIn K (.ref f12) = true)
  {f13 : Addr} {od13 an13 : Option Addr} {sl13 : Array (Option Value)} {oc13 kV13 dc13 pm13 cd13 ct13 : Value}
  (a13 : PySem.W.nsIn K mainGlobals "_law_odd" = some (some (.ref f13))) (l13 : K.lookup f13 = some ⟨oc13, od13, .func (PySem.W.fnOf "_law_odd" "_law_odd" (defArgs s_l_odd) (defBody s_l_odd) (defScope s_l_odd) .none kV13 dc13 pm13 an13 cd13 ct13), sl13⟩) (c13 : PySem.W.codeIn K cd13 "_law_odd" = true) (k13 : PySem.W.keepIn K (.ref f13) = true)
  {f14 : Addr} {od14 an14 : Option Addr} {sl14 : Array (Option Value)} {oc14 kV14 dc14 pm14 cd14 ct14 : Value}
  (a14 : PySem.W.nsIn K mainGlobals "_law_bent" = some (some (.ref f14))) (l14 : K.lookup f14 = some ⟨oc14, od14, .func (PySem.W.fnOf "_law_bent" "_law_bent" (defArgs s_l_bent) (defBody s_l_bent) (defScope s_l_bent) .none kV14 dc14 pm14 an14 cd14 ct14), sl14⟩) (c14 : PySem.W.codeIn K cd14 "_law_bent" = true) (k14 : PySem.W.keepIn K (.ref f14) = true)
  {f15 : Addr} {od15 an15 : Option Addr} {sl15 : Array (Option Value)} {oc15 kV15 dc15 pm15 cd15 ct15 : Value}
  (a15 : PySem.W.nsIn K mainGlobals "_law_whole" = some (some (.ref f15))) (l15 : K.lookup f15 = some ⟨oc15, od15, .func (PySem.W.fnOf "_law_whole" "_law_whole" (defArgs s_l_whole) (defBody s_l_whole) (defScope s_l_whole) .none kV15 dc15 pm15 an15 cd15 ct15), sl15⟩) (c15 : PySem.W.codeIn K cd15 "_law_whole" = true) (k15 : PySem.W.keepIn K (.ref f15) = true)
  {f16 : Addr} {od16 an16 : Option Addr} {sl16 : Array (Option Value)} {oc16 kV16 dc16 pm16 cd16 ct16 : Value}
  (a16 : PySem.W.nsIn K mainGlobals "_law_is_run" = some (some (.ref f16))) (l16 : K.lookup f16 = some ⟨oc16, od16, .func (PySem.W.fnOf "_law_is_run" "_law_is_run" (defArgs s_l_is_run) (defBody s_l_is_run) (defScope s_l_is_run) .none kV16 dc16 pm16 an16 cd16 ct16), sl16⟩) (c16 : PySem.W.codeIn K cd16 "_law_is_run" = true) (k16 : PySem.W.keepIn K (.ref f16) = true)
  {f17 : Addr} {od17 an17 : Option Addr} {sl17 : Array (Option Value)} {oc17 kV17 dc17 pm17 cd17 ct17 : Value}
  (a17 : PySem.W.nsIn K mainGlobals "_law_is_lamp" = some (some (.ref f17))) (l17 : K.lookup f17 = some ⟨oc17, od17, .func (PySem.W.fnOf "_law_is_lamp" "_law_is_lamp" (defArgs s_l_is_lamp) (defBody s_l_is_lamp) (defScope s_l_is_lamp) .none kV17 dc17 pm17 an17 cd17 ct17), sl17⟩) (c17 : PySem.W.codeIn K cd17 "_law_is_lamp" = true) (k17 : PySem.W.keepIn K (.ref f17) = true)
  {f18 : Addr} {od18 an18 : Option Addr} {sl18 : Array (Option Value)} {oc18 kV18 dc18 pm18 cd18 ct18 : Value}
  (a18 : PySem.W.nsIn K mainGlobals "_law_fault" = some (some (.ref f18))) (l18 : K.lookup f18 = some ⟨oc18, od18, .func (PySem.W.fnOf "_law_fault" "_law_fault" (defArgs s_l_fault) (defBody s_l_fault) (defScope s_l_fault) .none kV18 dc18 pm18 an18 cd18 ct18), sl18⟩) (c18 : PySem.W.codeIn K cd18 "_law_fault" = true) (k18 : PySem.W.keepIn K (.ref f18) = true)
  {f19 : Addr} {od19 an19 : Option Addr} {sl19 : Array (Option Value)} {oc19 kV19 dc19 pm19 cd19 ct19 : Value}
  (a19 : PySem.W.nsIn K mainGlobals "_law_spoilt" = some (some (.ref f19))) (l19 : K.lookup f19 = some ⟨oc19, od19, .func (PySem.W.fnOf "_law_spoilt" "_law_spoilt" (defArgs s_l_spoilt) (defBody s_l_spoilt) (defScope s_l_spoilt) .none kV19 dc19 pm19 an19 cd19 ct19), sl19⟩) (c19 : PySem.W.codeIn K cd19 "_law_spoilt" = true) (k19 : PySem.W.keepIn K (.ref f19) = true)
  {f20 : Addr} {od20 an20 : Option Addr} {sl20 : Array (Option Value)} {oc20 kV20 dc20 pm20 cd20 ct20 : Value}
  (a20 : PySem.W.nsIn K mainGlobals "law" = some (some (.ref f20))) (l20 : K.lookup f20 = some ⟨oc20, od20, .func (PySem.W.fnOf "law" "law" (defArgs s_law) (defBody s_law) (defScope s_law) .none kV20 dc20 pm20 an20 cd20 ct20), sl20⟩) (c20 : PySem.W.codeIn K cd20 "law" = true) (k20 : PySem.W.keepIn K (.ref f20) = true)
  (z_abs : PySem.W.nsIn K mainGlobals "abs" = some none)
  (z_all : PySem.W.nsIn K mainGlobals "all" = some none)
  (z_bool : PySem.W.nsIn K mainGlobals "bool" = some none)
  (z_enumerate : PySem.W.nsIn K mainGlobals "enumerate" = some none)
  (z_int : PySem.W.nsIn K mainGlobals "int" = some none)
  (z_isinstance : PySem.W.nsIn K mainGlobals "isinstance" = some none)
  (z_len : PySem.W.nsIn K mainGlobals "len" = some none)
  (z_list : PySem.W.nsIn K mainGlobals "list" = some none)
  (z_min : PySem.W.nsIn K mainGlobals "min" = some none)
  (z_range : PySem.W.nsIn K mainGlobals "range" = some none)
  (z_repr : PySem.W.nsIn K mainGlobals "repr" = some none)
  (z_str : PySem.W.nsIn K mainGlobals "str" = some none)
  (z_tuple : PySem.W.nsIn K mainGlobals "tuple" = some none)
  {a_KINDS : Addr} {od_KINDS : Option Addr} {sl_KINDS : Array (Option Value)} {n_KINDS : Nat} {t0_KINDS t1_KINDS : Tok} (c_KINDS : PySem.W.nsIn K mainGlobals "KINDS" = some (some (.ref a_KINDS))) (l_KINDS : K.lookup a_KINDS = some ⟨.type "tuple", od_KINDS, .seq #[.str "hold" t0_KINDS, .str "pulse" t1_KINDS] n_KINDS, sl_KINDS⟩)
  {t_MAX_MINUTE : Tok} (c_MAX_MINUTE : PySem.W.nsIn K mainGlobals "MAX_MINUTE" = some (some (.int 1000000000 t_MAX_MINUTE)))
  {t_MAX_RUNS : Tok} (c_MAX_RUNS : PySem.W.nsIn K mainGlobals "MAX_RUNS" = some (some (.int 360 t_MAX_RUNS)))
  : ∃ (T : All K mg) (kV dc pm : Value) (an : Option Addr) (cd ct : Value), T.fd_law = PySem.W.fnOf "law" "law" (defArgs s_law) (defBody s_law) (defScope s_law) .none kV dc pm an cd ct :=
  ⟨{ f_is_whole := f0, fd_is_whole := _, D_is_whole := ⟨fun_mk (st := s_is_whole) l0 c0 k0, PySem.W.mg_of X G a0, (fun_mk (st := s_is_whole) l0 c0 k0).binds (ps := ["value"]) fun _ _ _ _ _ _ us hl => match us, hl with | [_], _ => rfl⟩,
     f_is_whole_tuple := f1, fd_is_whole_tuple := _, D_is_whole_tuple := ⟨fun_mk (st := s_is_whole_tuple) l1 c1 k1, PySem.W.mg_of X G a1, (fun_mk (st := s_is_whole_tuple) l1 c1 k1).binds (ps := ["value", "many"]) fun _ _ _ _ _ _ us hl => match us, hl with | [_, _], _ => rfl⟩,
     f_is_stay := f2, fd_is_stay := _, D_is_stay := ⟨fun_mk (st := s_is_stay) l2 c2 k2, PySem.W.mg_of X G a2, (fun_mk (st := s_is_stay) l2 c2 k2).binds (ps := ["value"]) fun _ _ _ _ _ _ us hl => match us, hl with | [_], _ => rfl⟩,
     f_last_minute := f3, fd_last_minute := _, D_last_minute := ⟨fun_mk (st := s_last_minute) l3 c3 k3, PySem.W.mg_of X G a3, (fun_mk (st := s_last_minute) l3 c3 k3).binds (ps := ["run"]) fun _ _ _ _ _ _ us hl => match us, hl with | [_], _ => rfl⟩,
     f_is_run := f4, fd_is_run := _, D_is_run := ⟨fun_mk (st := s_is_run) l4 c4 k4, PySem.W.mg_of X G a4, (fun_mk (st := s_is_run) l4 c4 k4).binds (ps := ["value"]) fun _ _ _ _ _ _ us hl => match us, hl with | [_], _ => rfl⟩,
     f_is_lamp := f5, fd_is_lamp := _, D_is_lamp := ⟨fun_mk (st := s_is_lamp) l5 c5 k5, PySem.W.mg_of X G a5, (fun_mk (st := s_is_lamp) l5 c5 k5).binds (ps := ["value"]) fun _ _ _ _ _ _ us hl => match us, hl with | [_], _ => rfl⟩,
     f_motions_error := f6, fd_motions_error := _, D_motions_error := ⟨fun_mk (st := s_motions_error) l6 c6 k6, PySem.W.mg_of X G a6, (fun_mk (st := s_motions_error) l6 c6 k6).binds (ps := ["value"]) fun _ _ _ _ _ _ us hl => match us, hl with | [_], _ => rfl⟩,
     f_is_motions := f7, fd_is_motions := _, D_is_motions := ⟨fun_mk (st := s_is_motions) l7 c7 k7, PySem.W.mg_of X G a7, (fun_mk (st := s_is_motions) l7 c7 k7).binds (ps := ["value"]) fun _ _ _ _ _ _ us hl => match us, hl with | [_], _ => rfl⟩,
     f_l_opened := f8, fd_l_opened := _, D_l_opened := ⟨fun_mk (st := s_l_opened) l8 c8 k8, PySem.W.mg_of X G a8, (fun_mk (st := s_l_opened) l8 c8 k8).binds (ps := ["script"]) fun _ _ _ _ _ _ us hl => match us, hl with | [_], _ => rfl⟩,
     f_l_draw := f9, fd_l_draw := _, D_l_draw := ⟨fun_mk (st := s_l_draw) l9 c9 k9, PySem.W.mg_of X G a9, (fun_mk (st := s_l_draw) l9 c9 k9).binds (ps := ["pot", "many"]) fun _ _ _ _ _ _ us hl => match us, hl with | [_, _], _ => rfl⟩,
     f_l_one := f10, fd_l_one := _, D_l_one := ⟨fun_mk (st := s_l_one) l10 c10 k10, PySem.W.mg_of X G a10, (fun_mk (st := s_l_one) l10 c10 k10).binds (ps := ["pot", "items"]) fun _ _ _ _ _ _ us hl => match us, hl with | [_, _], _ => rfl⟩,
     f_l_lamp := f11, fd_l_lamp := _, D_l_lamp := ⟨fun_mk (st := s_l_lamp) l11 c11 k11, PySem.W.mg_of X G a11, (fun_mk (st := s_l_lamp) l11 c11 k11).binds (ps := ["pot", "great"]) fun _ _ _ _ _ _ us hl => match us, hl with | [_, _], _ => rfl⟩,
     f_l_far_runs := f12, fd_l_far_runs := _, D_l_far_runs := ⟨fun_mk (st := s_l_far_runs) l12 c12 k12, PySem.W.mg_of X G a12, (fun_mk (st := s_l_far_runs) l12 c12 k12).binds (ps := ["pot", "upto"]) fun _ _ _ _ _ _ us hl => match us, hl with | [_, _], _ => rfl⟩,
     f_l_odd := f13, fd_l_odd := _, D_l_odd := ⟨fun_mk (st := s_l_odd) l13 c13 k13, PySem.W.mg_of X G a13, (fun_mk (st := s_l_odd) l13 c13 k13).binds (ps := ["pot"]) fun _ _ _ _ _ _ us hl => match us, hl with | [_], _ => rfl⟩,
     f_l_bent := f14, fd_l_bent := _, D_l_bent := ⟨fun_mk (st := s_l_bent) l14 c14 k14, PySem.W.mg_of X G a14, (fun_mk (st := s_l_bent) l14 c14 k14).binds (ps := ["pot", "value"]) fun _ _ _ _ _ _ us hl => match us, hl with | [_, _], _ => rfl⟩,
     f_l_whole := f15, fd_l_whole := _, D_l_whole := ⟨fun_mk (st := s_l_whole) l15 c15 k15, PySem.W.mg_of X G a15, (fun_mk (st := s_l_whole) l15 c15 k15).binds (ps := ["value", "low", "high"]) fun _ _ _ _ _ _ us hl => match us, hl with | [_, _, _], _ => rfl⟩,
     f_l_is_run := f16, fd_l_is_run := _, D_l_is_run := ⟨fun_mk (st := s_l_is_run) l16 c16 k16, PySem.W.mg_of X G a16, (fun_mk (st := s_l_is_run) l16 c16 k16).binds (ps := ["value"]) fun _ _ _ _ _ _ us hl => match us, hl with | [_], _ => rfl⟩,
     f_l_is_lamp := f17, fd_l_is_lamp := _, D_l_is_lamp := ⟨fun_mk (st := s_l_is_lamp) l17 c17 k17, PySem.W.mg_of X G a17, (fun_mk (st := s_l_is_lamp) l17 c17 k17).binds (ps := ["value"]) fun _ _ _ _ _ _ us hl => match us, hl with | [_], _ => rfl⟩,
     f_l_fault := f18, fd_l_fault := _, D_l_fault := ⟨fun_mk (st := s_l_fault) l18 c18 k18, PySem.W.mg_of X G a18, (fun_mk (st := s_l_fault) l18 c18 k18).binds (ps := ["value"]) fun _ _ _ _ _ _ us hl => match us, hl with | [_], _ => rfl⟩,
     f_l_spoilt := f19, fd_l_spoilt := _, D_l_spoilt := ⟨fun_mk (st := s_l_spoilt) l19 c19 k19, PySem.W.mg_of X G a19, (fun_mk (st := s_l_spoilt) l19 c19 k19).binds (ps := ["pot", "runs"]) fun _ _ _ _ _ _ us hl => match us, hl with | [_, _], _ => rfl⟩,
     f_law := f20, fd_law := _, D_law := ⟨fun_mk (st := s_law) l20 c20 k20, PySem.W.mg_of X G a20, (fun_mk (st := s_law) l20 c20 k20).binds (ps := ["script"]) fun _ _ _ _ _ _ us hl => match us, hl with | [_], _ => rfl⟩,
     z_abs := PySem.W.mg_none_of X G z_abs,
     z_all := PySem.W.mg_none_of X G z_all,
     z_bool := PySem.W.mg_none_of X G z_bool,
     z_enumerate := PySem.W.mg_none_of X G z_enumerate,
     z_int := PySem.W.mg_none_of X G z_int,
     z_isinstance := PySem.W.mg_none_of X G z_isinstance,
     z_len := PySem.W.mg_none_of X G z_len,
     z_list := PySem.W.mg_none_of X G z_list,
     z_min := PySem.W.mg_none_of X G z_min,
     z_range := PySem.W.mg_none_of X G z_range,
     z_repr := PySem.W.mg_none_of X G z_repr,
     z_str := PySem.W.mg_none_of X G z_str,
     z_tuple := PySem.W.mg_none_of X G z_tuple,
     a_KINDS := a_KINDS, c_KINDS := PySem.W.mg_of X G c_KINDS, s_KINDS := fun H => .inr ⟨_, _, _, l_KINDS, rfl, rfl, Nat.le_of_lt (small1000 (by show 2 ≤ 1000; decide)), .cons ⟨_, rfl⟩ (.cons ⟨_, rfl⟩ (.nil))⟩,
     t_MAX_MINUTE := t_MAX_MINUTE, c_MAX_MINUTE := PySem.W.mg_of X G c_MAX_MINUTE,
     t_MAX_RUNS := t_MAX_RUNS, c_MAX_RUNS := PySem.W.mg_of X G c_MAX_RUNS }, _, _, _, _, _, _, rfl⟩
theorem law_end {l : PySem.W.OpenLaw} {w : World} {K : PySem.W.Frag} {mg : Str → Option Value} {fa : Addr} (hmg : mg "law" = some (.ref fa))
    (M : ∃ (T : All K mg) (kV dc pm : Value) (an : Option Addr) (cd ct : Value), T.fd_law = PySem.W.fnOf "law" "law" (defArgs s_law) (defBody s_law) (defScope s_law) .none kV dc pm an cd ct) :
    ∃ fd : FuncData, (∀ (s : Shared) (u : Value), BindsTo s fd ⟨[u], []⟩ [("script", u)]) ∧ ∀ base : Heap, K.In base → base.Ns mainGlobals mg → FnG l.prog w K mg base CX0 6 fa fd ["script"] (sp_law K) := by
  obtain ⟨T, kV, dc, pm, an, cd, ct, hfd⟩ := M
  have e : T.f_law = fa := by
    have h := T.D_law.g
    rw [hmg] at h
    exact (Value.ref.inj (Option.some.inj h)).symm
  refine ⟨T.fd_law, fun s u => ?_, fun base _ _ => ?_⟩
  · rw [hfd]
    exact BindsTo.of_eq rfl
  · rw [← e]
    exact ok_law T
end Lm
open PySem PySem.W PyProof.Rows
set_option maxRecDepth 100000 in
set_option maxHeartbeats 0 in
theorem PySem.Challenge.cw_lampstays_k02_lamps_and_motions_judged_holds : PySem.Challenge.rw_lampstays_k02_lamps_and_motions_judged.Holds := by
  w_on; o_law; k_head; (case hw => w_witness2)
  k_fill
  refine Lm.walkG (l := PySem.Challenge.rw_lampstays_k02_lamps_and_motions_judged) (n := 63) (k := 6) (sp := Lm.sp_law) (x := "script") rfl (by decide) rfl ⟨rfl, by decide, by decide⟩ (fun w h Y => PySem.W.kIn_of Y) ?F Lm.sp_law_ok
  case F =>
    intro w mg fa h KX G hmg
    refine Lm.law_end (l := PySem.Challenge.rw_lampstays_k02_lamps_and_motions_judged) hmg ?lmT
    case lmT =>
      refine' Lm.all_mk KX G ?a0 ?l0 ?c0 ?k0 ?a1 ?l1 ?c1 ?k1 ?a2 ?l2 ?c2 ?k2 ?a3 ?l3 ?c3 ?k3 ?a4 ?l4 ?c4 ?k4 ?a5 ?l5 ?c5 ?k5 ?a6 ?l6 ?c6 ?k6 ?a7 ?l7 ?c7 ?k7 ?a8 ?l8 ?c8 ?k8 ?a9 ?l9 ?c9 ?k9 ?a10 ?l10 ?c10 ?k10 ?a11 ?l11 ?c11 ?k11 ?a12 ?l12 ?c12 ?k12 ?a13 ?l13 ?c13 ?k13 ?a14 ?l14 ?c14 ?k14 ?a15 ?l15 ?c15 ?k15 ?a16 ?l16 ?c16 ?k16 ?a17 ?l17 ?c17 ?k17 ?a18 ?l18 ?c18 ?k18 ?a19 ?l19 ?c19 ?k19 ?a20 ?l20 ?c20 ?k20 ?z_abs ?z_all ?z_bool ?z_enumerate ?z_int ?z_isinstance ?z_len ?z_list ?z_min ?z_range ?z_repr ?z_str ?z_tuple ?c_KINDS ?l_KINDS ?c_MAX_MINUTE ?c_MAX_RUNS
      (case a0 => k_is)
      (case l0 => k_is)
      (case c0 => k_is)
      (case k0 => k_is)
      (case a1 => k_is)
      (case l1 => k_is)
      (case c1 => k_is)
      (case k1 => k_is)
      (case a2 => k_is)
      (case l2 => k_is)
      (case c2 => k_is)
      (case k2 => k_is)
      (case a3 => k_is)
      (case l3 => k_is)
      (case c3 => k_is)
      (case k3 => k_is)
      (case a4 => k_is)
      (case l4 => k_is)
      (case c4 => k_is)
      (case k4 => k_is)
      (case a5 => k_is)
      (case l5 => k_is)
      (case c5 => k_is)
      (case k5 => k_is)
      (case a6 => k_is)
      (case l6 => k_is)
      (case c6 => k_is)
      (case k6 => k_is)
      (case a7 => k_is)
      (case l7 => k_is)
      (case c7 => k_is)
      (case k7 => k_is)
      (case a8 => k_is)
      (case l8 => k_is)
      (case c8 => k_is)
      (case k8 => k_is)
      (case a9 => k_is)
      (case l9 => k_is)
      (case c9 => k_is)
      (case k9 => k_is)
      (case a10 => k_is)
      (case l10 => k_is)
      (case c10 => k_is)
      (case k10 => k_is)
      (case a11 => k_is)
      (case l11 => k_is)
      (case c11 => k_is)
      (case k11 => k_is)
      (case a12 => k_is)
      (case l12 => k_is)
      (case c12 => k_is)
      (case k12 => k_is)
      (case a13 => k_is)
      (case l13 => k_is)
      (case c13 => k_is)
      (case k13 => k_is)
      (case a14 => k_is)
      (case l14 => k_is)
      (case c14 => k_is)
      (case k14 => k_is)
      (case a15 => k_is)
      (case l15 => k_is)
      (case c15 => k_is)
      (case k15 => k_is)
      (case a16 => k_is)
      (case l16 => k_is)
      (case c16 => k_is)
      (case k16 => k_is)
      (case a17 => k_is)
      (case l17 => k_is)
      (case c17 => k_is)
      (case k17 => k_is)
      (case a18 => k_is)
      (case l18 => k_is)
      (case c18 => k_is)
      (case k18 => k_is)
      (case a19 => k_is)
      (case l19 => k_is)
      (case c19 => k_is)
      (case k19 => k_is)
      (case a20 => k_is)
      (case l20 => k_is)
      (case c20 => k_is)
      (case k20 => k_is)
      (case z_abs => k_is)
      (case z_all => k_is)
      (case z_bool => k_is)
      (case z_enumerate => k_is)
      (case z_int => k_is)
      (case z_isinstance => k_is)
      (case z_len => k_is)
      (case z_list => k_is)
      (case z_min => k_is)
      (case z_range => k_is)
      (case z_repr => k_is)
      (case z_str => k_is)
      (case z_tuple => k_is)
      (case c_KINDS => k_is)
      (case l_KINDS => k_is)
      (case c_MAX_MINUTE => k_is)
      (case c_MAX_RUNS => k_is)
