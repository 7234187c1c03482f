import PyProof.Rows.All
import Wide.All
import OpenK.AllK
import Wide.FinOn
import HandS.ForMost
import HandS.IsInst
import HandS.TupAny
import HandS.More
import HandS.Flow
import HandS.Style
import KE.GoesMore
import HandS.Walk
import PyProof.EqKinds
import KE.KEqDict
import HandS.Wide
import HandS.TryOnly
import PySem.Challenge.RW_lampstays_k11_stretches_that_do_not_fit
set_option Elab.async false
set_option linter.all false
set_option maxRecDepth 100000
set_option maxHeartbeats 4000000
namespace Lm
open PySem PySem.Spec PyProof.Rows L2
/-! ### data at values: None, bools, ints, texts, lists, tuples, dicts -/
def kD : L2.Key → PyData
  | .inl i => .int i
  | .inr x => .str x
mutual
inductive Dq (K : PySem.W.Frag) (H : Hp) : V → PyData → Prop
  | non : Dq K H .non .none
  | bl (b : Bool) : Dq K H (.bl b) (.bool b)
  | int (i : Int) : Dq K H (.int i) (.int i)
  | str (x : Str) : Dq K H (.str x) (.str x)
  | lst {a : Addr} {xs : List V} {ds : List PyData} : SqL K H a xs → Dqs K H xs ds → Dq K H (.ref a) (.list ds)
  | tup {a : Addr} {xs : List V} {ds : List PyData} : SqT K H a xs → Dqs K H xs ds → Dq K H (.ref a) (.tuple ds)
  | dct {a : Addr} {kvs : List (L2.Key × V)} {ds : List PyData} : H a = some (.dK kvs) → Dqs K H (kvs.map (·.2)) ds → Dq K H (.ref a) (.dict ((kvs.map fun kv => kD kv.1).zip ds))
inductive Dqs (K : PySem.W.Frag) (H : Hp) : List V → List PyData → Prop
  | nil : Dqs K H [] []
  | cons {v : V} {vs : List V} {d : PyData} {ds : List PyData} : Dq K H v d → Dqs K H vs ds → Dqs K H (v :: vs) (d :: ds)
end
theorem Dqs.len {K : PySem.W.Frag} {H : Hp} : ∀ {vs : List V} {ds : List PyData}, Dqs K H vs ds → vs.length = ds.length
  | _, _, .nil => rfl
  | _, _, .cons _ t => congrArg Nat.succ (Dqs.len t)
theorem Dqs.get {K : PySem.W.Frag} {H : Hp} : ∀ {vs : List V} {ds : List PyData} {i : Nat} {v : V}, Dqs K H vs ds → vs[i]? = some v → ∃ d, ds[i]? = some d ∧ Dq K H v d
  | _, _, _, _, .nil, e => by simp at e
  | _, _, 0, _, .cons r _, e => by simp at e; subst e; exact ⟨_, rfl, r⟩
  | _, _, i + 1, v, .cons _ t, e => by
    obtain ⟨u, h1, h2⟩ := Dqs.get (i := i) (v := v) t (by simpa using e)
    exact ⟨u, by simpa using h1, h2⟩
theorem Dqs.app {K : PySem.W.Frag} {H : Hp} : ∀ {xs ys : List V} {ds es : List PyData}, Dqs K H xs ds → Dqs K H ys es → Dqs K H (xs ++ ys) (ds ++ es)
  | _, _, _, _, .nil, s => s
  | _, _, _, _, .cons r t, s => .cons r (Dqs.app t s)
theorem Dqs.take {K : PySem.W.Frag} {H : Hp} : ∀ {xs : List V} {ds : List PyData} (n : Nat), Dqs K H xs ds → Dqs K H (xs.take n) (ds.take n)
  | _, _, 0, _ => .nil
  | _, _, _ + 1, .nil => .nil
  | _, _, n + 1, .cons r t => .cons r (Dqs.take n t)
theorem Dqs.drop {K : PySem.W.Frag} {H : Hp} : ∀ {xs : List V} {ds : List PyData} (n : Nat), Dqs K H xs ds → Dqs K H (xs.drop n) (ds.drop n)
  | _, _, 0, r => r
  | _, _, _ + 1, .nil => .nil
  | _, _, n + 1, .cons _ t => Dqs.drop n t
theorem Dqs.rev {K : PySem.W.Frag} {H : Hp} : ∀ {xs : List V} {ds : List PyData}, Dqs K H xs ds → Dqs K H xs.reverse ds.reverse
  | _, _, .nil => .nil
  | _, _, .cons r t => by
    rw [List.reverse_cons, List.reverse_cons]
    exact Dqs.app (Dqs.rev t) (.cons r .nil)
theorem Same.seqT {K : PySem.W.Frag} {H H' : Hp} {a : Addr} {xs : List V} (e : Same H H') (h : SqT K H a xs) : SqT K H' a xs := by
  rcases h with (h | ⟨o, h⟩) | h
  · exact .inl (.inl (e a _ h))
  · exact .inl (.inr ⟨o, e a _ h⟩)
  · exact .inr h
mutual
theorem Dq.mono {K : PySem.W.Frag} {H H' : Hp} (s : Same H H') : ∀ {v : V} {d : PyData}, Dq K H v d → Dq K H' v d
  | _, _, .non => .non
  | _, _, .bl b => .bl b
  | _, _, .int i => .int i
  | _, _, .str x => .str x
  | _, _, .lst h t => .lst (s.seq h) (Dqs.mono s t)
  | _, _, .tup h t => .tup (Same.seqT s h) (Dqs.mono s t)
  | _, _, .dct h t => .dct (s _ _ h) (Dqs.mono s t)
theorem Dqs.mono {K : PySem.W.Frag} {H H' : Hp} (s : Same H H') : ∀ {vs : List V} {ds : List PyData}, Dqs K H vs ds → Dqs K H' vs ds
  | _, _, .nil => .nil
  | _, _, .cons h t => .cons (Dq.mono s h) (Dqs.mono s t)
end
/-! ### what such a value is in the heap -/
theorem dk_reads {h : Heap} {P : Program} {w : World} : ∀ {xs : List (L2.Key × V)} {vs : List (L2.Key × Value)} {es : List DictEntry}, KV xs vs → Pairs (mixKind P w) es vs →
    ReadsAll h (es.map (·.key)) (xs.map fun kv => kD kv.1) [] ∧ Vals (xs.map (·.2)) (es.map (·.val))
  | _, _, _, .nil, .nil => ⟨.nil, .nil⟩
  | p :: xs, kv :: vs, en :: es, .cons r t, .cons q e u => by
    obtain ⟨h1, h2⟩ := dk_reads (h := h) t u
    obtain ⟨r1, r2⟩ := r
    refine ⟨?_, .cons (by show L2.RelV p.2 en.val; rw [e]; exact r2) h2⟩
    have q' : keyIs kv.1 en.key = true := q
    rw [← r1] at q'
    show ReadsAll h (en.key :: _) (kD p.1 :: _) []
    rcases keyIs_shape q' with ⟨i, t, e1, e2⟩ | ⟨x, t, e1, e2⟩
    · rw [e1, e2]
      exact ReadsAll.cons (as := []) (bs := []) (.int i t) h1
    · rw [e1, e2]
      exact ReadsAll.cons (as := []) (bs := []) (.str x t) h1
section
variable {X : Cx} {pins : List (Addr × Obj)} {σ : L2.St} {H : Hp} {s : Shared}
mutual
theorem Dq.reads (I : Inv X pins σ H s) : ∀ {v : V} {d : PyData} (u : Value), Dq X.K H v d → L2.RelV v u → ∃ as, Reads s.heap u d as
  | _, _, u, .non, r => by cases r; exact ⟨_, .none⟩
  | _, _, u, .bl b, r => by cases r; exact ⟨_, .bool b⟩
  | _, _, u, .int i, r => by obtain ⟨t, rfl⟩ := r; exact ⟨_, .int i t⟩
  | _, _, u, .str x, r => by obtain ⟨t, rfl⟩ := r; exact ⟨_, .str x t⟩
  | _, _, u, .lst hs ha, r => by
    cases r
    obtain ⟨its, rv, ⟨o, n, ho, hc, _, hd⟩, _⟩ := I.list hs
    obtain ⟨as, hr⟩ := Dqs.reads I its ha rv
    exact ⟨_, .list ho hc hd hr⟩
  | _, _, u, .tup hs ha, r => by
    cases r
    obtain ⟨its, rv, ⟨o, ho, hc, n, hd⟩, _⟩ := I.tuple hs
    obtain ⟨as, hr⟩ := Dqs.reads I its ha rv
    exact ⟨_, .tuple ho hc hd hr⟩
  | _, _, u, .dct (kvs := kvs) (ds := ds) hs ha, r => by
    cases r
    obtain ⟨_, hne, vs, kv, o, es, ep, ho, ex, hd, _, pr, _⟩ := I.hok _ _ hs
    obtain ⟨h1, h2⟩ := dk_reads (h := s.heap) kv pr
    obtain ⟨bs, hr⟩ := Dqs.reads I _ ha h2
    have hl := ha.len
    rw [List.length_map] at hl
    refine ⟨_, Reads.dict (as := []) (bs := bs) ho ex.1 hd ?_ ?_⟩
    · rw [List.map_fst_zip (by rw [List.length_map]; omega)]
      exact h1
    · rw [List.map_snd_zip (by rw [List.length_map]; omega)]
      exact hr
theorem Dqs.reads (I : Inv X pins σ H s) : ∀ {vs : List V} {ds : List PyData} (us : List Value), Dqs X.K H vs ds → Vals vs us → ∃ as, ReadsAll s.heap us ds as
  | _, _, us, .nil, r => by cases r; exact ⟨_, .nil⟩
  | _, _, us, .cons h1 h2, r => by
    cases r with
    | cons r1 r2 =>
      obtain ⟨as, q1⟩ := Dq.reads I _ h1 r1
      obtain ⟨bs, q2⟩ := Dqs.reads I _ h2 r2
      exact ⟨_, .cons q1 q2⟩
end
/-- keys of a dict have their text at any level -/
theorem keys_reprK {h : Heap} {P : Program} {w : World} : ∀ (xs : List (L2.Key × V)) {vs : List (L2.Key × Value)} {es : List DictEntry} {bs : List Addr} {n : Nat}, KV xs vs → Pairs (mixKind P w) es vs →
    PyData.showableAll (xs.map fun kv => kD kv.1) = true → (∀ t ∈ PyData.shownAll (xs.map fun kv => kD kv.1), t.length ≤ sizeLine) →
    ReprAllK P w bs h n (es.map (·.key)) (PyData.shownAll (xs.map fun kv => kD kv.1))
  | [], _, _, _, _, .nil, .nil, _, _ => .nil
  | p :: xs, kv :: vs, en :: es, bs, n, .cons r t, .cons q e u, hs, hz => by
    have hs' : (kD p.1).showable = true ∧ PyData.showableAll (xs.map fun kv => kD kv.1) = true := by simpa [PyData.showableAll] using hs
    have q' : keyIs kv.1 en.key = true := q
    rw [← r.1] at q'
    have z1 := hz (kD p.1).shown (by simp [PyData.shownAll])
    refine .cons (show ReprK P w bs h n en.key (kD p.1).shown from ?_) (keys_reprK xs t u hs'.2 fun t ht => hz t (by simp only [List.map_cons, PyData.shownAll]; exact List.mem_cons_of_mem _ ht))
    rcases keyIs_shape q' with ⟨i, t, e1, e2⟩ | ⟨x, t, e1, e2⟩
    · rw [e2]
      have y := hs'.1
      rw [e1] at y ⊢
      exact ReprK.of_is (ReprIs.int t (by simpa [PyData.showable, kD] using y)) _ _ _
    · rw [e2]
      rw [e1] at z1 ⊢
      exact ReprK.of_is (ReprIs.str x t (by simpa only [PyData.shown, kD] using z1)) _ _ _
mutual
theorem Dq.textK (I : Inv X pins σ H s) : ∀ {v : V} {d : PyData} (u : Value), Dq X.K H v d → L2.RelV v u → d.showable = true → d.shown.length ≤ sizeLine →
    ∃ bs, ReadAtMost s.heap d.depth bs ∧ ReprK X.prog X.w bs s.heap d.depth u d.shown
  | _, _, u, .non, r, _, _ => by
    cases r
    exact ⟨[], fun _ h => (nomatch h), by simp only [PyData.shown]; exact .of_is ReprIs.none _ _ _⟩
  | _, _, u, .bl b, r, _, _ => by
    cases r
    exact ⟨[], fun _ h => (nomatch h), by simp only [PyData.shown]; exact .of_is (ReprIs.bool b) _ _ _⟩
  | _, _, u, .int i, r, hs, _ => by
    obtain ⟨t, rfl⟩ := r
    exact ⟨[], fun _ h => (nomatch h), by simp only [PyData.shown]; exact .of_is (ReprIs.int t (by simpa [PyData.showable] using hs)) _ _ _⟩
  | _, _, u, .str x, r, _, hz => by
    obtain ⟨t, rfl⟩ := r
    exact ⟨[], fun _ h => (nomatch h), by simp only [PyData.shown]; exact .of_is (ReprIs.str x t (by simpa only [PyData.shown] using hz)) _ _ _⟩
  | _, _, u, .lst (ds := ds) hq ha, r, hs, hz => by
    obtain ⟨as, rd⟩ := Dq.reads I u (.lst hq ha) r
    cases r
    obtain ⟨its, rv, ⟨o, n, ho, hc, _, hd⟩, _⟩ := I.list hq
    have z : (listText (PyData.shownAll ds)).length ≤ sizeLine := by simpa only [PyData.shown] using hz
    obtain ⟨bs, hb, hk⟩ := Dqs.textK I its ha rv (by simpa [PyData.showable] using hs) fun t ht => Nat.le_trans (listText_mem_le ht) z
    have hn := not_mem_of_deeper rd (by simp only [PyData.depth]; omega) hb
    refine ⟨_, ReadAtMost.cons rd (by simp only [PyData.depth]; omega) hb, ?_⟩
    simp only [PyData.depth, PyData.shown]
    cases its with
    | nil =>
      cases rv
      cases ha
      simp only [PyData.shownAll, listText_nil]
      exact ReprK.listEmpty ho hc hd
    | cons x l => exact ReprK.list ho hc hd hn (by simpa using hk.length_eq) fun i y e => hk.item i y (by simpa using e)
  | _, _, u, .tup (ds := ds) hq ha, r, hs, hz => by
    obtain ⟨as, rd⟩ := Dq.reads I u (.tup hq ha) r
    cases r
    obtain ⟨its, rv, ⟨o, ho, hc, n, hd⟩, _⟩ := I.tuple hq
    have z : (tupleText (PyData.shownAll ds)).length ≤ sizeLine := by simpa only [PyData.shown] using hz
    obtain ⟨bs, hb, hk⟩ := Dqs.textK I its ha rv (by simpa [PyData.showable] using hs) fun t ht => Nat.le_trans (tupleText_mem_le ht) z
    have hn := not_mem_of_deeper rd (by simp only [PyData.depth]; omega) hb
    refine ⟨_, ReadAtMost.cons rd (by simp only [PyData.depth]; omega) hb, ?_⟩
    simp only [PyData.depth, PyData.shown]
    exact ReprK.tuple ho hc hd hn hk
  | _, _, u, .dct (kvs := kvs) (ds := ds) hq ha, r, hs, hz => by
    obtain ⟨as, rd⟩ := Dq.reads I u (.dct hq ha) r
    cases r
    obtain ⟨_, hne, vs, kv, o, es, ep, ho, ex, hd, _, pr, _⟩ := I.hok _ _ hq
    have hl := ha.len
    rw [List.length_map] at hl
    have f1 : ((kvs.map fun kv => kD kv.1).zip ds).map (·.1) = kvs.map fun kv => kD kv.1 := List.map_fst_zip (by rw [List.length_map]; omega)
    have f2 : ((kvs.map fun kv => kD kv.1).zip ds).map (·.2) = ds := List.map_snd_zip (by rw [List.length_map]; omega)
    have z : (dictText (PyData.shownKv ((kvs.map fun kv => kD kv.1).zip ds))).length ≤ sizeLine := by simpa only [PyData.shown] using hz
    obtain ⟨s1, s2⟩ := PyData.showableKv_split _ (show PyData.showableKv ((kvs.map fun kv => kD kv.1).zip ds) = true by simpa [PyData.showable] using hs)
    have zk := fun t ht => (let ⟨p, hp, l⟩ := PyData.shownKv_key_le ((kvs.map fun kv => kD kv.1).zip ds) t ht; Nat.le_trans l (Nat.le_trans (dictText_mem_le hp) z))
    have zv := fun t ht => (let ⟨p, hp, l⟩ := PyData.shownKv_val_le ((kvs.map fun kv => kD kv.1).zip ds) t ht; Nat.le_trans l (Nat.le_trans (dictText_mem_le hp) z))
    have dv := PyData.depthAll_vals_le ((kvs.map fun kv => kD kv.1).zip ds)
    rw [f1] at s1 zk
    rw [f2] at s2 zv dv
    obtain ⟨bs, hb, hk⟩ := Dqs.textK I _ ha (dk_reads (h := s.heap) kv pr).2 s2 zv
    have hb' : ReadAtMost s.heap (PyData.depthKv ((kvs.map fun kv => kD kv.1).zip ds)) bs := hb.mono dv
    have hn := not_mem_of_deeper rd (by simp only [PyData.depth]; omega) hb'
    refine ⟨_, ReadAtMost.cons rd (by simp only [PyData.depth]; omega) hb', ?_⟩
    simp only [PyData.depth, PyData.shown, PyData.shownKv_eq, f1, f2]
    exact ReprK.dict ho ex.1 hd hne hn (ReprEntriesK.of_two es.toList _ _ (keys_reprK kvs kv pr s1 zk) (hk.more_le (fun b hb => hb) dv))
theorem Dqs.textK (I : Inv X pins σ H s) : ∀ {vs : List V} {ds : List PyData} (us : List Value), Dqs X.K H vs ds → Vals vs us → PyData.showableAll ds = true → (∀ t ∈ PyData.shownAll ds, t.length ≤ sizeLine) →
    ∃ bs, ReadAtMost s.heap (PyData.depthAll ds) bs ∧ ReprAllK X.prog X.w bs s.heap (PyData.depthAll ds) us (PyData.shownAll ds)
  | _, _, us, .nil, r, _, _ => by
    cases r
    exact ⟨[], fun _ h => (nomatch h), by simp only [PyData.shownAll]; exact .nil⟩
  | _, _, us, .cons (d := d) (ds := ds) h1 h2, r, hs, hz => by
    cases r with
    | cons r1 r2 =>
      have hs' : d.showable = true ∧ PyData.showableAll ds = true := by simpa [PyData.showableAll] using hs
      obtain ⟨b1, p1, k1⟩ := Dq.textK I _ h1 r1 hs'.1 (hz _ (by simp only [PyData.shownAll]; exact List.mem_cons_self ..))
      obtain ⟨b2, p2, k2⟩ := Dqs.textK I _ h2 r2 hs'.2 fun t ht => hz t (by simp only [PyData.shownAll]; exact List.mem_cons_of_mem _ ht)
      refine ⟨b1 ++ b2, ?_, ?_⟩
      · simp only [PyData.depthAll]
        exact (p1.mono (Nat.le_max_left _ _)).append (p2.mono (Nat.le_max_right _ _))
      · simp only [PyData.depthAll, PyData.shownAll]
        exact .cons ((k1.more fun b hb => List.mem_append_left _ hb).level_le (Nat.le_max_left _ _)) (k2.more_le (fun b hb => List.mem_append_right _ hb) (Nat.le_max_right _ _))
end
end
/-! ### repr of data -/
/-- what repr takes: numbers that have a text, few levels, a text that fits -/
structure Fine (d : PyData) : Prop where
  sh : d.showable = true
  dp : d.depth ≤ 100
  sz : d.shown.length ≤ sizeLine
def rRepr (K : PySem.W.Frag) : List V → Hp → VK → Prop := fun xs H Q => ∃ v d, xs = [v] ∧ Dq K H v d ∧ Fine d ∧ Q (.str d.shown) H
theorem call_reprD {X : Cx} {k : Nat} (hg : X.A.guards = some []) (hr : Room k X.A) : CallR X (.builtin "repr") (rRepr X.K) := by
  intro pins s σ H xs us Q I r h
  obtain ⟨v, d, rfl, hd, F, q⟩ := h
  obtain ⟨u, rfl, ru⟩ := vals1 r
  have hun := hr.un
  have hdp := F.dp
  have hsz := F.sz
  have hsh := F.sh
  have fin : ∀ (h' : Heap) (t : Tok) (tk : Nat), (∀ b o, s.heap.get? b = some o → h'.get? b = some o) → EP X pins σ Q (.str d.shown t) { s with heap := h', toks := tk } :=
    fun h' t tk hk => ⟨.str _, H, I.kept (t' := tk) hk, ⟨_, rfl⟩, q⟩
  cases hd with
  | non => cases ru; exact PySem.P.repr_of_none (by simpa [PyData.shown] using fin s.heap s.toks _ fun _ _ e => e)
  | bl b => cases ru; exact PySem.P.repr_of_bool (by simpa [PyData.shown] using fin s.heap s.toks _ fun _ _ e => e)
  | int i =>
    obtain ⟨t, rfl⟩ := ru
    exact PySem.P.repr_of_int (by simpa [PyData.showable] using hsh) (by simpa [PyData.shown] using fin s.heap s.toks _ fun _ _ e => e)
  | str x =>
    obtain ⟨t, rfl⟩ := ru
    exact PySem.P.repr_of_str (by simpa [PyData.shown] using fin s.heap s.toks _ fun _ _ e => e) (by simpa [PyData.shown] using hsz)
  | @lst a vs ds hq ha =>
    obtain ⟨as, rd⟩ := Dq.reads I u (.lst hq ha) ru
    cases ru
    obtain ⟨its, rv, ⟨o, n, ho, hc, _, hdt⟩, _⟩ := I.list hq
    have z : (listText (PyData.shownAll ds)).length ≤ sizeLine := by simpa only [PyData.shown] using hsz
    obtain ⟨bs, hb, hk⟩ := Dqs.textK I its ha rv (by simpa [PyData.showable] using hsh) fun t ht => Nat.le_trans (listText_mem_le ht) z
    have hn := not_mem_of_deeper rd (by simp only [PyData.depth]; omega) hb
    simp only [PyData.depth] at hdp
    simp only [PyData.shown] at fin
    refine call_repr_slot (by omega) ⟨o, ho, hc⟩ PySem.F.slot_list_repr.toG ?_
    cases its with
    | nil =>
      cases rv
      cases ha
      simp only [PyData.shownAll, listText_nil] at fin
      exact call_list_repr_empty ⟨o, ho, hc⟩ ho hdt ⟨_, _, rfl, fin s.heap _ _ fun _ _ e => e⟩
    | cons x l =>
      exact call_list_reprK ho hc hdt hn (by simpa using hk.length_eq) (fun i y e => hk.item i y (by simpa using e)) hg (fun b _ => Clear.nil b) (by show X.A.units + 1 + (PyData.depthAll ds + 1) < cLine; omega) (fun _ _ e => e)
        (fun h' u tk e => ⟨_, _, rfl, fin h' u tk e⟩) z
  | @tup a vs ds hq ha =>
    obtain ⟨as, rd⟩ := Dq.reads I u (.tup hq ha) ru
    cases ru
    obtain ⟨its, rv, ⟨o, ho, hc, n, hdt⟩, _⟩ := I.tuple hq
    have z : (tupleText (PyData.shownAll ds)).length ≤ sizeLine := by simpa only [PyData.shown] using hsz
    obtain ⟨bs, hb, hk⟩ := Dqs.textK I its ha rv (by simpa [PyData.showable] using hsh) fun t ht => Nat.le_trans (tupleText_mem_le ht) z
    have hn := not_mem_of_deeper rd (by simp only [PyData.depth]; omega) hb
    simp only [PyData.depth] at hdp
    simp only [PyData.shown] at fin
    refine call_repr_slot (by omega) ⟨o, ho, hc⟩ PySem.F.slot_tuple_repr ?_
    exact call_tuple_reprK ho hc hdt hn hk hg (fun b _ => Clear.nil b) (by show X.A.units + 1 + (PyData.depthAll ds + 1) < cLine; omega) (fun _ _ e => e) (fun h' u tk e => ⟨_, _, rfl, fin h' u tk e⟩) z
  | @dct a kvs ds hq ha =>
    obtain ⟨as, rd⟩ := Dq.reads I u (.dct hq ha) ru
    cases ru
    obtain ⟨_, hne, vs, kv, o, es, ep, ho, ex, hdt, _, pr, _⟩ := I.hok _ _ hq
    have hl := ha.len
    rw [List.length_map] at hl
    have f1 : ((kvs.map fun kv => kD kv.1).zip ds).map (·.1) = kvs.map fun kv => kD kv.1 := List.map_fst_zip (by rw [List.length_map]; omega)
    have f2 : ((kvs.map fun kv => kD kv.1).zip ds).map (·.2) = ds := List.map_snd_zip (by rw [List.length_map]; omega)
    have z : (dictText (PyData.shownKv ((kvs.map fun kv => kD kv.1).zip ds))).length ≤ sizeLine := by simpa only [PyData.shown] using hsz
    obtain ⟨s1, s2⟩ := PyData.showableKv_split _ (show PyData.showableKv ((kvs.map fun kv => kD kv.1).zip ds) = true by simpa [PyData.showable] using hsh)
    have zk := fun t ht => (let ⟨p, hp, l⟩ := PyData.shownKv_key_le ((kvs.map fun kv => kD kv.1).zip ds) t ht; Nat.le_trans l (Nat.le_trans (dictText_mem_le hp) z))
    have zv := fun t ht => (let ⟨p, hp, l⟩ := PyData.shownKv_val_le ((kvs.map fun kv => kD kv.1).zip ds) t ht; Nat.le_trans l (Nat.le_trans (dictText_mem_le hp) z))
    have dv := PyData.depthAll_vals_le ((kvs.map fun kv => kD kv.1).zip ds)
    rw [f1] at s1 zk
    rw [f2] at s2 zv dv
    obtain ⟨bs, hb, hk⟩ := Dqs.textK I _ ha (dk_reads (h := s.heap) kv pr).2 s2 zv
    have hb' : ReadAtMost s.heap (PyData.depthKv ((kvs.map fun kv => kD kv.1).zip ds)) bs := hb.mono dv
    have hn := not_mem_of_deeper rd (by simp only [PyData.depth]; omega) hb'
    simp only [PyData.depth] at hdp
    simp only [PyData.shown, PyData.shownKv_eq, f1, f2] at fin
    rw [PyData.shownKv_eq, f1, f2] at z
    refine call_repr_slot (by omega) ⟨o, ho, ex.1⟩ PySem.F.slot_dict_repr ?_
    exact call_dict_reprK ho ex.1 hdt hne hn (ReprEntriesK.of_two es.toList _ _ (keys_reprK kvs kv pr s1 zk) (hk.more_le (fun b hb => hb) dv)) hg (fun b _ => Clear.nil b)
      (by show X.A.units + 1 + (PyData.depthKv ((kvs.map fun kv => kD kv.1).zip ds) + 1) < cLine; omega) (fun _ _ e => e) (fun h' u tk e => ⟨_, _, rfl, fin h' u tk e⟩) z
end Lm

namespace Lm
open PySem PySem.Spec PyProof.Rows L2
/-! ### a def's promise where no repr runs around -/
structure FnG (P : Program) (w : World) (K : PySem.W.Frag) (mg : Str → Option Value) (base : Heap) (CX : CXT) (k : Nat) (f : Addr) (fd : FuncData) (ps : List Str) (sp : Sp) : Prop where
  len : ∀ vs H Q E, sp vs H Q E → vs.length = ps.length
  go : ∀ (A : Around) (outer : List Env) (s : Shared) (H : Hp) (args : Args) (us : List Value) (vs : List V) (Q : VK) (E : XK), A.guards = some [] → Room k A →
    Env0 P w K mg base A outer s H → BindsTo s fd args (ps.zip us) → Vals vs us → sp vs H Q E → codeAny (model P w) A (.call (.ref f) args) (CR CX outer P w H s Q E) s
section
variable {P : Program} {w : World} {K : PySem.W.Frag} {mg : Str → Option Value} {base : Heap}
theorem FnG.mono {CX : CXT} {j k : Nat} {f : Addr} {fd : FuncData} {ps : List Str} {sp : Sp} (F : FnG P w K mg base CX j f fd ps sp) (h : j ≤ k) : FnG P w K mg base CX k f fd ps sp :=
  ⟨F.len, fun A o s H as us vs Q E g r => F.go A o s H as us vs Q E g (r.mono h)⟩
theorem Fun.okG {x qual : Str} {st : Stmt} {f : Addr} {fd : FuncData} {N ps : List Str} {k : Nat} {sp : Sp} (F : Fun K x qual st f fd) (S : FnScope N ps (defScope st)) (hlen : ∀ vs H Q E, sp vs H Q E → vs.length = ps.length)
    (hb : ∀ (cdv : Value) (A : Around) (outer : List Env) (s : Shared) (H : Hp) (vs : List V) (Q : VK) (E : XK), A.guards = some [] → Room k (A.deeper (envOfC qual (defScope st) s.heap.objs.size f cdv)) → sp vs H Q E →
      ∃ t, PSs (cxOf CX0 P w K mg base N qual (defScope st) f cdv A outer s H E).nox (defBody st) t ∧ t { nx := fun _ H' => Q .non H', rt := Q } (start N vs) H) : FnG P w K mg base CX0 (k + 1) f fd ps sp := by
  obtain ⟨oc, od, kV, doc, pm, an, cdv, ct, osl, rfl, lk, hcd⟩ := F.ex
  refine ⟨hlen, fun A outer s H args us vs Q E g hr e0 bd r hs => ?_⟩
  have hl := hlen _ _ _ _ hs
  have KX : K.In s.heap := e0.mod.kin.keeps fun b o e => (e0.bs b o e).1
  have nl : s.heap.NoLimit := e0.mod.nolimit.keeps fun b o e => (e0.bs b o e).1
  have kinds : ∀ y ∈ ps.zip us, (defScope st).names.lookup y.1 = some .local ∨ ((defScope st).names.lookup y.1 = some .cell ∧ ((cellsFrom (s.heap.objs.size + 1) (defScope st).names []).lookup y.1).isSome = true) := by
    rintro ⟨nm, v⟩ hy
    have hm := (List.of_mem_zip hy).1
    cases S.par nm hm with
    | inl q => exact .inl q
    | inr q => exact .inr ⟨q, PySem.W.cellsFrom_some _ _ _ (.inl q)⟩
  refine codeAny_call_function (hr.depth) (KX _ _ lk) rfl S.co S.gen rfl (PySem.W.codeRec_of KX hcd) (bd _ _ _ _ ?_)
  refine wpAny_newFunctionEnv_cells S.kind kinds ?_
  intro env he s1 x
  subst he
  refine ⟨nl.keeps x.toInCall.keep, codeAny_func ?_⟩
  obtain ⟨t, ht, hq⟩ := hb cdv A outer s H vs Q E g (hr.deeper _) hs
  have J := inv_start (CX := CX0) (E := E) S hr.hd e0 hl r x
  refine wpAny_mono (ht.nox.run [] s1 (start N vs) H _ J hq) ?_ (fun e s' z => z)
  intro fl s' z
  cases fl with
  | ret u => obtain ⟨v, σ2, H2, J2, rv, q⟩ := z; exact ⟨v, H2, J2.os, J2.bare, J2.base, J2.hok, rv, q⟩
  | next => obtain ⟨σ2, H2, J2, q⟩ := z; exact ⟨V.non, H2, J2.os, J2.bare, J2.base, J2.hok, rfl, q⟩
  | brk => obtain ⟨_, _, _, q⟩ := z; exact q.elim
  | cont => obtain ⟨_, _, _, q⟩ := z; exact q.elim
end
/-! ### the law's own call -/
theorem lawCallG {P : Program} {w : World} {K : PySem.W.Frag} {mg mb : Str → Option Value} {k : Nat} {fa a : Addr} {fd : FuncData} {x : Str} {sp : Sp} {s₁ : Shared} {vs : List Value} {ns : List Int}
    (KX : K.In s₁.heap) (hns : s₁.heap.Ns mainGlobals mg) (hb : s₁.heap.Ns builtinsNs mb) (hbb : ∀ x : Str, x ≠ "__name__" → mb x = bootBuiltins x) (hlim : s₁.heap.NoLimit) (hg : s₁.gens = #[])
    (ha : s₁.heap.get? a = some { cls := .type "list", data := .seq vs.toArray }) (hi : IntsAre vs ns) (hl : ns.length ≤ sizeLine) (hr : Room k callerA)
    (F : ∀ base : Heap, K.In base → base.Ns mainGlobals mg → FnG P w K mg base CX0 k fa fd [x] sp) (hbind : ∀ (s : Shared) (u : Value), BindsTo s fd ⟨[u], []⟩ [(x, u)])
    (hsp : ∀ H : Hp, Only H → SqL K H a (ns.map V.int) → sp [.ref a] H (fun v _ => v = .bl true) fun _ _ _ => False) :
    codeAny (model P w) callerA (.call (.ref fa) ⟨[.ref a], []⟩) (fun r s' => r = .ok (.ret (.bool true)) ∧ OldK s₁.heap s'.heap ∧ s'.os = s₁.os ∧ AllBare s'.gens) s₁ := by
  have rv := vals_ints hi
  have ln := hi.length
  have main : ∀ H : Hp, Only H → SqL K H a (ns.map V.int) → HOk P w H s₁.heap → (∀ b, H b ≠ none → b = a) → (H a ≠ none → K.lookup a = none) →
      codeAny (model P w) callerA (.call (.ref fa) ⟨[.ref a], []⟩) (fun r s' => r = .ok (.ret (.bool true)) ∧ OldK s₁.heap s'.heap ∧ s'.os = s₁.os ∧ AllBare s'.gens) s₁ := by
    intro H hO hS ok hA hK
    have nsd : ∀ {b : Addr} {m : Str → Option Value}, s₁.heap.Ns b m → (hidT s₁.heap H).Ns b m := by
      rintro b m ⟨o, es, ep, e, d, r⟩
      refine ⟨o, es, ep, hidT_get e ?_, d, r⟩
      cases q : H b with
      | none => rfl
      | some u =>
        have eb := hA b (by rw [q]; exact fun z => nomatch z)
        rw [eb, ha] at e
        cases e
        cases d
    have hKb : K.In (hidT s₁.heap H) := by
      intro b o e
      refine hidT_get (KX b o e) ?_
      cases q : H b with
      | none => rfl
      | some u =>
        have eb := hA b (by rw [q]; exact fun z => nomatch z)
        rw [eb, hK (by rw [← eb, q]; exact fun z => nomatch z)] at e
        cases e
    obtain ⟨mc, n1, n2⟩ := hlim
    have env : Env0 P w K mg (hidT s₁.heap H) callerA [] s₁ H :=
      { frames := rfl, mod := ⟨hKb, nsd hns, ⟨mb, nsd hb, hbb⟩, ⟨mc, nsd n1, n2⟩⟩, bs := fun b o e => of_hidT e, bsz := Nat.le_of_eq (hidT_size _ _), funs := trivial, frf := (fun b hb => absurd hb (by simp [frs])), hok := ok, bare := .of_eq hg }
    have run := (F _ hKb (nsd hns)).go callerA [] s₁ H ⟨[.ref a], []⟩ [.ref a] [.ref a] _ _ rfl hr env (hbind s₁ (.ref a)) (.cons rfl .nil) (hsp H hO hS)
    refine codeAny_mono run ?_
    intro r s' h
    match r, h with
    | .error e, h => exact False.elim h
    | .ok .next, h => exact False.elim h
    | .ok .brk, h => exact False.elim h
    | .ok .cont, h => exact False.elim h
    | .ok (.ret u), h =>
      obtain ⟨v, H', os, bare, un, ok', r', q⟩ := h
      have q' : v = .bl true := q
      subst q'
      cases (show u = Value.bool true from r')
      refine ⟨rfl, OldK.of_keep (fun b o e => ?_), os, bare⟩
      cases q : H b with
      | none => exact un.keep b o e q (by simp [frs]) (by simp)
      | some u =>
        cases hO b with
        | inl z => rw [q] at z; cases z
        | inr z =>
          obtain ⟨ob, xs, z⟩ := z
          have e1 := (ok b _ z).1
          have e2 := (ok' b _ (un.frzs b ob _ z)).1
          rw [e] at e1
          rw [e2, ← e1]
  cases hk : K.lookup a with
  | some o =>
    have e := KX a o hk
    rw [ha] at e
    cases e
    exact main (fun _ => none) (fun _ => .inl rfl) (.inr ⟨_, vs.toArray, _, hk, rfl, rfl, rfl, by rw [List.size_toArray, ln]; exact hl, by simpa using rv⟩) (fun b u z => nomatch z) (fun b z => absurd rfl z) fun z => absurd rfl z
  | none =>
    have self : ∀ {b : Addr}, (if b = a then some (HO.frz { cls := .type "list", data := .seq vs.toArray } (.lst (ns.map V.int))) else none) ≠ none → b = a := fun {b} z => by
      by_cases e : b = a
      · exact e
      · rw [if_neg e] at z
        exact absurd rfl z
    refine main (fun b => if b = a then some (.frz { cls := .type "list", data := .seq vs.toArray } (.lst (ns.map V.int))) else none) ?_ (.inl (.inr ⟨_, if_pos rfl⟩)) ?_ (fun b z => self z) fun _ => hk
    · intro b
      by_cases e : b = a
      · exact .inr ⟨_, _, if_pos e⟩
      · exact .inl (if_neg e)
    · intro b u z
      dsimp only at z
      have eb := self (b := b) (by rw [z]; exact fun q => nomatch q)
      rw [if_pos eb] at z
      cases z
      rw [eb]
      exact ⟨ha, by rw [List.length_map]; exact hl, vs, _, rv, ha⟩
/-- a law row's end -/
theorem walkG {l : PySem.W.OpenLaw} {n k : Nat} {q : Program} {loose : List Str} {XP : (Str → Option Value) → Heap → Prop} {YP : World → Heap → Prop} {d : DefRec} {K : Params → PySem.W.Frag} {sp : PySem.W.Frag → Sp} {x : Str}
    (hn : l.most = some n) (hn2 : n ≤ sizeLine) (hdf : d.params.defaults = []) (hr : Room k callerA) (hY : ∀ (w : World) (h : Heap), YP w h → (K w.params).In h)
    (F : ∀ (w : World) (mg : Str → Option Value) (fa : Addr) (h : Heap), (K w.params).In h → h.Ns mainGlobals mg → mg d.name = some (.ref fa) →
      ∃ fd : FuncData, (∀ (s : Shared) (u : Value), BindsTo s fd ⟨[u], []⟩ [(x, u)]) ∧
        ∀ base : Heap, (K w.params).In base → base.Ns mainGlobals mg → FnG l.prog w (K w.params) mg base CX0 k fa fd [x] (sp (K w.params)))
    (hsp : ∀ (K : PySem.W.Frag) (H : Hp) (a : Addr) (ns : List Int), ns.length ≤ n → Only H → SqL K H a (ns.map V.int) → sp K [.ref a] H (fun v _ => v = .bl true) fun _ _ _ => False) :
    PySem.W.WalkO q loose XP YP l.row.toRowW d [] (fun f vs => PySem.call f vs) := by
  refine Att.attach_call hn hdf ?_
  intro w s₀ s₁ mg mb fa o pm cd doc a vs ns G Y ho hd hcd hmg hobj hints hlen hg
  obtain ⟨fd, b, f⟩ := F w mg fa _ (hY w _ Y) G.T.g hmg
  exact lawCallG (hY w _ Y) G.T.g G.T.b G.T.builtins G.T.nolimit hg hobj hints (Nat.le_trans hlen hn2) hr f b (fun H hO hS => hsp _ H a ns hlen hO hS)
/-! ### a call of such a def -/
section
variable {X : Cx}
theorem pe_callG {k : Nat} {f : Addr} {fd : FuncData} {ps : List Str} {sp : Sp} {E : XK} {x : Str} {e : Expr} {es : List Expr} {t : TA} {p pos : Pos} (F : FnG X.prog X.w X.K X.mg X.base CX0 k f fd ps sp) (hgd : X.A.guards = some []) (hr : Room k X.A) (hg : Gl X x)
    (hm : X.mg x = some (.ref f)) (hk : PySem.W.keepIn X.K (.ref f) = true) (hb : Binds X.K fd ps []) (ha : PA X (e :: es) t) (hdb : (x == ("__debug__" : Str)) = false := by decide)
    (he : starEach (e :: es) X.env = (false, eval e X.env) :: starEach es X.env := by rfl) (hpl : (backTo pos (starEach es X.env)).any (·.1) = false := by rfl) :
    PE X (.Call (.Name x p) (e :: es) [] pos) (tCall sp [] E0 t) := by
  refine ⟨fun pins s σ H Q I h => ?_⟩
  refine wpAny_Call_Name_kw (ld_glob I hg hm ?_ hdb)
  refine PySem.W.callWith_K (h₀ := X.base) I.ok.mod.kin hk (thn (ha.run pos pins s σ H _ I h) ?_) he hpl
  rintro us s1 ⟨vs, H1, I1, r, q⟩
  refine ⟨I1.kIn, ?_⟩
  have q' : sp vs H1 Q E0 := by simpa using q
  have hl : us.length = ps.length := r.length.symm.trans (F.len _ _ _ _ q')
  have bd := hb s1 us I1.kIn (by simpa using hl)
  simp only [List.append_nil] at bd
  refine wpAny_call (codeAny_mono (F.go X.A X.stack s1 H1 ⟨us, []⟩ us vs Q E0 hgd hr I1.env0 bd r q') ?_)
  intro r s' hq
  match r, hq with
  | .ok (.ret u), hq => exact I1.after hq
  | .ok .next, hq => exact False.elim hq
  | .ok .brk, hq => exact False.elim hq
  | .ok .cont, hq => exact False.elim hq
  | .error e, hq => exact False.elim hq
end
end Lm

namespace Lm
open PySem PySem.Spec PyProof.Rows L2
section
variable {X : Cx} {a b c d : Expr} {ta tb tc td : TE} {pos : Pos}
/-! ### a op1 b op2 c op3 d -/
def tChain3 (r1 r2 r3 : R2) (ta tb tc td : TE) : TE := fun σ H Q => ta σ H fun x H1 => tb σ H1 fun y H2 => r1 x y H2 fun z H3 => ∃ k, z = .bl k ∧
  (if k = true then tc σ H3 fun w H4 => r2 y w H4 fun z2 H5 => ∃ k2, z2 = .bl k2 ∧ (if k2 = true then td σ H5 fun w2 H6 => r3 w w2 H6 Q else Q (.bl false) H5) else Q (.bl false) H3)
theorem pe_chain3 {o1 o2 o3 : CmpOp} {r1 r2 r3 : R2} (h1 : OpR X (compareOp o1) r1) (h2 : OpR X (compareOp o2) r2) (h3 : OpR X (compareOp o3) r3) (ha : PE X a ta) (hb : PE X b tb) (hc : PE X c tc) (hd : PE X d td)
    (hm : lastMarks [o1, o2, o3] [b, c, d] = false := by with_unfolding_all rfl) : PE X (.Compare a [o1, o2, o3] [b, c, d] pos) (tChain3 r1 r2 r3 ta tb tc td) := by
  constructor
  intro pins s σ H Q I h
  refine Compare_chain (thn (ha.run pins s σ H _ I h) ?_) hm
  rintro v s1 ⟨x, H1, I1, e1, q1⟩
  refine chain_link (thn (hb.run pins s1 σ H1 _ I1 q1) ?_)
  rintro u s2 ⟨y, H2, I2, e2, q2⟩
  refine thn (h1 pins s2 σ H2 x y v u _ I2 e1 e2 q2) ?_
  rintro w1 s3 ⟨z, H3, I3, e3, k, rfl, q3⟩
  cases e3
  refine wpAny_truthy_bool ?_
  cases k with
  | false => exact ite_ff ⟨.bl false, H3, I3, rfl, q3⟩
  | true =>
    refine ite_tt (chain_link (thn (hc.run pins s3 σ H3 _ I3 q3) ?_))
    rintro w2 s4 ⟨y4, H4, I4, e4, q4⟩
    refine thn (h2 pins s4 σ H4 y y4 u w2 _ I4 e2 e4 q4) ?_
    rintro w3 s5 ⟨z5, H5, I5, e5, k5, rfl, q5⟩
    cases e5
    refine wpAny_truthy_bool ?_
    cases k5 with
    | false => exact ite_ff ⟨.bl false, H5, I5, rfl, q5⟩
    | true =>
      refine ite_tt (chain_last (thn (hd.run pins s5 σ H5 _ I5 q5) ?_))
      rintro w6 s6 ⟨y6, H6, I6, e6, q6⟩
      exact h3 pins s6 σ H6 y4 y6 w2 w6 Q I6 e4 e6 q6
end
/-! ### t[::-1] of a tuple -/
section
variable {prog : Program} {w : World} {A : Around} {E : Value → Shared → Prop} {s : Shared}
theorem getItem_tuple_back {t sl : Addr} {items : Array Value} {vl vu vs : Value} {Q : Value → Shared → Prop} (ht : IsTup s.heap t items) (hs : s.heap.IsSliceOf sl vl vu vs) (pl : IsPart vl none) (pu : IsPart vu none) (ps : IsPart vs (some (-1)))
    (h : Q (.ref s.heap.objs.size) { s with heap := s.heap.push { cls := .type "tuple", data := .seq items.toList.reverse.toArray } }) (hsz : items.size ≤ sizeLine) : wpAny (model prog w) A (getItem (.ref t) (.ref sl)) Q E s := by
  have ok : sizeOk (.seq items.toList.reverse.toArray) := by
    show items.toList.reverse.toArray.size ≤ sizeLine
    simpa using hsz
  obtain ⟨os, hos, hcs, hds⟩ := id hs
  have isSl : s.TypeIs (.ref sl) "slice" := ⟨os, hos, hcs⟩
  unfold getItem
  try with_reducible refine wpAny_holding ?_
  first | refine wpAny_bind (wpAny_pure ?_) | skip
  refine wpAny_bind (wpAny_sequenceKey ht.typeIs (by decide) ?_)
  refine wpAny_bind (wpAny_callSpecial?_slot (name := Str.ofString "__getitem__") ht.typeIs PyProof.Rows.slot_tuple_getitem (wpAny_call_entry PyProof.Rows.slot_tuple_getitem ht.typeIs entry_tuple_getitem ?_ (args_tuple_getitem _ _)))
  show wpAny _ _ (Builtin.Tuple.tupleItemsOf (.ref t) >>= _) _ _ s
  refine wpAny_bind (tupleItemsOf_ ht ?_)
  refine wpAny_bind (wpAny_typeOf isSl ?_)
  rw [if_pos (by decide)]
  refine wpAny_bind ?_
  unfold Builtin.Slice.sliceApplied Builtin.Slice.sliceFields
  refine wpAny_bind (wpAny_bind (wpAny_field hos hds (x := vl) rfl (wpAny_bind (wpAny_field hos hds (x := vu) rfl (wpAny_bind (wpAny_field hos hds (x := vs) rfl (wpAny_pure ?_)))))))
  refine wpAny_bind (HT.slicePart_ ps ?_)
  show wpAny _ _ (if ((-1 : Int) == 0) = true then _ else _) _ _ s
  rw [if_neg (by decide)]
  refine wpAny_bind (HT.slicePart_ pl (wpAny_bind (HT.slicePart_ pu (wpAny_bind (wpAny_pure ?_)))))
  have e1 : Builtin.Slice.sliceAdjust none none (-1) (items.size : Int) = ((items.size : Int) - 1, -1) := rfl
  have e2 : Builtin.Slice.slicePlaces ((items.size : Int) - 1) (-1) (-1) = items.size := by
    unfold Builtin.Slice.slicePlaces
    simp only [show ¬ ((-1 : Int) > 0) by decide, if_false, show (- -1 : Int) = 1 by decide, Int.ediv_one]
    split <;> omega
  show wpAny _ _ (match Builtin.Slice.sliceAdjust none none (-1) (items.size : Int) with | (lo, hi) => pure (lo, (-1 : Int), Builtin.Slice.slicePlaces lo hi (-1))) _ _ s
  rw [e1]
  show wpAny _ _ (pure ((items.size : Int) - 1, (-1 : Int), Builtin.Slice.slicePlaces ((items.size : Int) - 1) (-1) (-1))) _ _ s
  rw [e2]
  refine wpAny_pure ?_
  have no : ¬ ((((items.size : Int) - 1) == 0 && (-1 : Int) == 1 && items.size == items.size) = true) := by simp
  show wpAny _ _ (if (((items.size : Int) - 1) == 0 && (-1 : Int) == 1 && items.size == items.size) = true then _ else _) _ _ s
  rw [if_neg no]
  have pick : ((List.range items.size).filterMap fun (k : Nat) => items[(((items.size : Int) - 1) + (k : Int) * -1).toNat]?).toArray = items.toList.reverse.toArray := by
    rw [← PySem.W.krv_all items, ← List.filterMap_reverse, ← PySem.W.krv_range, List.filterMap_map]
    have cg : ∀ (l : List Nat), (∀ k ∈ l, k < items.size) → (l.filterMap fun (k : Nat) => items[(((items.size : Int) - 1) + (k : Int) * -1).toNat]?) = l.filterMap ((fun k => items[k]?) ∘ fun k => items.size - 1 - k) := by
      intro l
      induction l with
      | nil => intro _; rfl
      | cons k l ih =>
        intro hl
        have e : (((items.size : Int) - 1) + (k : Int) * -1).toNat = items.size - 1 - k := by
          have := hl k List.mem_cons_self
          omega
        rw [List.filterMap_cons, List.filterMap_cons, ih fun j hj => hl j (List.mem_cons_of_mem _ hj), e]
        rfl
    rw [cg _ fun k hk => List.mem_range.mp hk]
  rw [pick]
  first
    | exact wpAny_bind (m := Builtin.Tuple.tupleExact _) (wpAny_newObj_type (wpAny_pure ⟨_, rfl, wpAny_pure h⟩) ok)
    | exact wpAny_bind (m := Builtin.Tuple.tupleExact _) (wpAny_newObj_type (wpAny_bind (wpAny_pure (wpAny_pure ⟨_, rfl, wpAny_pure h⟩))) ok)
    | exact wpAny_bind (wpAny_bind (m := Builtin.Tuple.tupleExact _) (wpAny_newObj_type (wpAny_pure (wpAny_pure ⟨_, rfl, wpAny_pure h⟩)) ok))
    | exact wpAny_bind (wpAny_bind (m := Builtin.Tuple.tupleExact _) (wpAny_newObj_type (wpAny_pure ⟨_, rfl, wpAny_pure h⟩) ok))
end
section
variable {X : Cx}
def tRevT (K : PySem.W.Frag) (te : TE) : TE := fun σ H Q => te σ H fun x H1 => ∃ a xs, x = .ref a ∧ SqT K H1 a xs ∧ ∀ p, H1 p = none → Q (.ref p) (upd H1 p (.tup xs.reverse))
theorem pe_revT {e : Expr} {te : TE} {k : Nat} {p1 p2 p3 pos : Pos} (he : PE X e te) : PE X (.Subscript e (.Slice none none (some (.UnaryOp .USub (.Constant (.int 1) k p1) p2)) p3) pos) (tRevT X.K te) := by
  constructor
  intro pins s σ H Q I h
  refine Subscript_ (thn (he.run pins s σ H _ I h) ?_)
  rintro v s1 ⟨x, H1, I1, r1, a, xs, rfl, hx, q⟩
  cases r1
  have step : PO X (some (.UnaryOp .USub (.Constant (.int 1) k p1) p2)) (tPart (tUn (rU fun i => .int (-i)) (tC (.int 1)))) := po_some (pe_un un_neg pe_int)
  refine wpAny_Slice (thn (po_none.run pins s1 σ H1 (fun o H2 => o = none ∧ H2 = H1) I1 ⟨rfl, rfl⟩) ?_)
  rintro vl s2 ⟨l, H2, I2, pl, rfl, rfl⟩
  refine thn (po_none.run pins s2 σ H2 (fun o H3 => o = none ∧ H3 = H2) I2 ⟨rfl, rfl⟩) ?_
  rintro vu s3 ⟨u, H3, I3, pu, rfl, rfl⟩
  refine thn (step.run pins s3 σ H3 (fun o H4 => o = some (-1) ∧ H4 = H3) I3 ⟨1, rfl, -1, rfl, rfl, rfl⟩) ?_
  rintro vs s4 ⟨o, H4, I4, ps, rfl, rfl⟩
  have I5 : Inv X pins σ H4 { s4 with heap := s4.heap.push { cls := .type "slice", data := .fields #[vl, vu, vs] } } := I4.kept (t' := s4.toks) fun b ob q => Heap.get?_push_of_some _ q
  obtain ⟨its, r, ht, hz⟩ := I5.tuple hx
  have hlen := r.length
  show wpAny (model X.prog X.w) X.A (subscriptTail e (.Slice none none (some (.UnaryOp .USub (.Constant (.int 1) k p1) p2)) p3) (.ref a) (.ref s4.heap.objs.size)) _ _ _
  refine tail_any (ops := [.ref a, .ref s4.heap.objs.size]) ht.typeIs PyProof.Rows.slot_tuple_getitem.lookup ?_ (by with_unfolding_all rfl)
  refine getItem_tuple_back ht (Heap.IsSliceOf.new _ vl vu vs) pl pu ps ?_ (by rw [List.size_toArray]; omega)
  refine ⟨.ref _, _, I5.laid (t' := s4.toks) (o := .tup xs.reverse) (fun b ob q => Heap.get?_push_of_some _ q) (Nat.le_refl _) ?_, rfl, q _ (I5.hok.fresh (Nat.le_refl _))⟩
  exact ⟨by rw [List.length_reverse]; exact hz, its.reverse, r.reverse, IsTup.new _ _⟩
end
/-! ### enumerate of a tuple -/
section
set_option maxHeartbeats 1000000 in
theorem meets_enum_tup (t : Addr) (o : Obj) (items : Array Value) (n : Nat) (dd : Option Addr) (sl : Array (Option Value)) :
    Meets (Builtin.«enumerate.__new__» ⟨[.type "enumerate", .ref t], []⟩) (fun _ R s => s.heap.get? t = some { cls := .type "tuple", dict := dd, data := .seq items n, slots := sl } ∧
      R (.ok (.ret (.ref (s.heap.push { cls := .type "tuple_iterator", data := .fields #[.ref t, .int 0 0] }).objs.size)))
        { s with heap := (s.heap.push { cls := .type "tuple_iterator", data := .fields #[.ref t, .int 0 0] }).push { cls := .type "enumerate", data := .fields #[.none, .bool false, .ref s.heap.objs.size, rawInt 0, .none, .none] } }) :=
  .of_wp fun prog w A R s h => by
    obtain ⟨hp, g, d, tk, os⟩ := s
    obtain ⟨hl, h⟩ := h
    have hsub := sub_enumerate
    have hT : Heap.IsTuple (Shared.heap ⟨hp, g, d, tk, os⟩) t items := ⟨_, hl, rfl, n, rfl⟩
    have q1 : ∀ {A' : Around} {E : Value → Shared → Prop} {Q : Value → Shared → Prop}, Q (.ref hp.objs.size) ⟨hp.push { cls := .type "tuple_iterator", data := .fields #[.ref t, .int 0 0] }, g, d, tk, os⟩ → wpAny (model prog w) A' (pyIter (.ref t)) Q E ⟨hp, g, d, tk, os⟩ :=
      fun q => wpAny_pyIter_tuple hT q
    wp_walk using q1
    refine wpAny_stack_any fun st => wpAny_pure ?_
    split
    · rename_i c _ _ _ _ _
      cases (c == Value.type "enumerate") <;> (wp_walk using q1; exact ⟨_, rfl, h⟩)
    · wp_walk using q1
      exact ⟨_, rfl, h⟩
variable {prog : Program} {w : World} {A : Around} {E : Value → Shared → Prop} {s : Shared}
theorem call_enum_tup {t : Addr} {items : Array Value} {Q : Value → Shared → Prop} (hT : s.heap.IsTuple t items)
    (h : ∀ h', IsEnum h' (s.heap.objs.size + 1) s.heap.objs.size 0 .none → h'.IsTupleIter s.heap.objs.size t 0 → (∀ b o, s.heap.get? b = some o → h'.get? b = some o) → Q (.ref (s.heap.objs.size + 1)) { s with heap := h' }) :
    wpAny (model prog w) A (call (.type "enumerate") [.ref t]) Q E s := by
  obtain ⟨⟨c, dd, dt, sl⟩, hl, hc, n, hd⟩ := hT
  have hc' : c = .type "tuple" := hc
  have hd' : dt = .seq items n := hd
  subst hc' hd'
  refine callType_new F.called_enumerate (by decide) (F.typeCall_enumerate_1 _) (F.newCall_enumerate_1 _) (fun obj => F.args_object_init_2 obj _) F.entry_enumerate_new (meets_enum_tup t default items n dd sl) ⟨hl, ?_⟩
  have hz : (s.heap.push { cls := .type "tuple_iterator", data := .fields #[.ref t, .int 0 0] }).objs.size = s.heap.objs.size + 1 := Heap.size_push ..
  show _ ∧ _
  rw [hz]
  have he : IsEnum ((s.heap.push { cls := .type "tuple_iterator", data := .fields #[.ref t, .int 0 0] }).push { cls := .type "enumerate", data := .fields #[.none, .bool false, .ref s.heap.objs.size, rawInt 0, .none, .none] }) (s.heap.objs.size + 1) s.heap.objs.size 0 .none := by
    have q := Heap.get?_push_size (s.heap.push { cls := .type "tuple_iterator", data := .fields #[.ref t, .int 0 0] }) (o := { cls := .type "enumerate", data := .fields #[.none, .bool false, .ref s.heap.objs.size, rawInt 0, .none, .none] }) rfl
    rw [hz] at q
    exact q
  exact ⟨⟨_, he, rfl⟩, h _ he ⟨_, Heap.get?_push_of_some _ (Heap.get?_push_size _ rfl), rfl, rfl⟩ fun b o x => Heap.get?_push_of_some _ (Heap.get?_push_of_some _ x)⟩
end
/-- the tuple at a, each item in a new pair with its number -/
def Iet (K : PySem.W.Frag) (a : Addr) : It :=
  ⟨fun i H => ∃ (xs : List V) (x : V), SqT K H a xs ∧ xs[i]? = some x, fun i H v H' => ∃ T x, v = .ref T ∧ H T = none ∧ H' = upd H T (.tup [.int (i : Nat), x]) ∧ ∀ xs, SqT K H a xs → xs[i]? = some x, fun i H => ∃ xs : List V, SqT K H a xs ∧ xs.length ≤ i⟩
theorem turn_enumT {P : Program} {w : World} {K : PySem.W.Frag} {elts : List Expr} {kk : Nat} {tpos : Pos} (a e it : Addr) :
    Turn P w K (.Tuple elts kk tpos) (Iet K a) [e, it] e (fun i h => (∃ old, IsEnum h e it ((i : Nat) : Int) old) ∧ h.IsTupleIter it a i ∧ e ≠ it) where
  mem := by simp
  obj := by
    rintro i h ⟨⟨old, he⟩, ⟨o, ho, hc, hd⟩, _⟩ b hb
    have e' : b = e ∨ b = it := by simpa using hb
    cases e' with
    | inl z => rw [z]; exact ⟨_, he, fun v q => nomatch q⟩
    | inr z => rw [z]; exact ⟨o, ho, fun v q => by rw [hd] at q; cases q⟩
  keep := by
    rintro i h h' ⟨⟨old, he⟩, hi, hne⟩ k
    exact ⟨⟨old, k e (by simp) _ he⟩, hi.at fun o q => k it (by simp) o q, hne⟩
  item := by
    intro X hP hw hK hc i pins s σ H E I hf st hg
    subst hP hw hK
    obtain ⟨⟨old, he⟩, hit, hne⟩ := st
    obtain ⟨xs, x, hq, hx⟩ := hg
    obtain ⟨its, rv, p, hz⟩ := I.tuple hq
    obtain ⟨u, hu, ru⟩ := rv.get hx
    have hel : e < s.heap.objs.size := Heap.lt_size he
    have hil : it < s.heap.objs.size := by obtain ⟨_, q, _⟩ := hit; exact Heap.lt_size q
    have hai : a ≠ it := by
      rintro rfl
      obtain ⟨o1, g1, c1, _⟩ := hit
      obtain ⟨o2, g2, c2, _⟩ := p
      rw [g1] at g2
      cases g2
      rw [c1] at c2
      exact absurd c2 (by simp)
    have hae : a ≠ e := by
      rintro rfl
      obtain ⟨o2, g2, c2, _⟩ := p
      have g1 : s.heap.get? a = some _ := he
      rw [g1] at g2
      cases g2
      exact absurd c2 (by simp)
    have hu' : its.toArray[i]? = some u := by simpa using hu
    have hlt : i < its.toArray.size := (Array.getElem?_eq_some_iff.mp hu').1
    refine wpAny_pyNext_enum_itemD (Draws.tuple (A := X.A.in1) (prog := X.prog) (w := X.w) (I.ok.hd hc) it a hai its.toArray) he ⟨hit, p⟩ hlt hne (by simp [hne, hae.symm]) ?_
    intro y h' tk hy ho st' hT hsz hk
    have ey : y = u := Option.some.inj ((show its.toArray[i]? = some y from hy).symm.trans hu')
    subst ey
    refine ⟨_, rfl, wpAny_letOwnedTupleGo_enum (s := { s with heap := h', toks := tk + 1 }) ho ?_⟩
    intro h'' he' sb
    have hT2 : h''.get? s.heap.objs.size = some { cls := .type "tuple", data := .seq #[.int i tk, y] } := (sb.2 _ (Nat.ne_of_gt hel)).trans hT
    have new : ObjOk X.prog X.w (upd H s.heap.objs.size (.tup [.int (i : Nat), x])) h'' s.heap.objs.size (.tup [.int (i : Nat), x]) := ⟨by show 2 ≤ sizeLine; decide, [.int i tk, y], .cons ⟨_, rfl⟩ (.cons ru .nil), ⟨_, hT2, rfl, _, rfl⟩⟩
    have old2 : ∀ b ob, b ∉ [e, it] → s.heap.get? b = some ob → h''.get? b = some ob := fun b ob hb q => (sb.2 b (fun z => hb (by simp [z]))).trans (hk b ob (fun z => hb (by simp [z])) (fun z => hb (by simp [z])) q)
    have I1 : Inv X pins σ (upd H s.heap.objs.size (.tup [.int (i : Nat), x])) { s with heap := h'', toks := tk + 1 } := I.turnedNew (ch := [e, it]) old2 hf (Nat.le_refl _) new
    refine ⟨.ref s.heap.objs.size, _, I1, rfl, ⟨_, x, rfl, I.hok.fresh (Nat.le_refl _), rfl, fun ys hy => by rw [I.tuple_inj hy hq]; exact hx⟩, ⟨⟨y, ?_⟩, st'.1.at fun o q => (sb.2 it (Ne.symm hne)).trans q, hne⟩, ?_⟩
    · have e1 : ((i + 1 : Nat) : Int) = (i : Int) + 1 := by omega
      rw [e1]
      exact he'
    · intro b hb
      have hb' : b < s.heap.objs.size := by
        have e' : b = e ∨ b = it := by simpa using hb
        cases e' with
        | inl z => rw [z]; exact hel
        | inr z => rw [z]; exact hil
      rw [upd_ne (Nat.ne_of_lt hb')]
      exact (hf b hb).1
  done := by
    intro X hP hw hK hc i pins s σ H E I hf st hg
    subst hP hw hK
    obtain ⟨⟨old, he⟩, hit, hne⟩ := st
    obtain ⟨xs, hq, hx⟩ := hg
    obtain ⟨its, rv, p, hz⟩ := I.tuple hq
    obtain ⟨f0, f1, f2, f3, f4, f5⟩ := hf it (by simp)
    have hl := rv.length
    have isE : s.TypeIs (.ref e) "enumerate" := ⟨_, he, rfl⟩
    unfold pyNext
    refine wpAny_bind (wpAny_attempt (wpAny_callSpecial?_slot (name := Str.ofString "__next__") isE F.slot_enumerate_next (wpAny_call_entry F.slot_enumerate_next isE F.entry_enumerate_next ?_ (F.args_enumerate_next_1 _))))
    show wpAny _ _ (field (.ref e) 2 >>= _) _ _ _
    refine wpAny_bind (wpAny_field he rfl (x := .ref it) rfl ?_)
    refine wpAny_bind (wpAny_nextOf_tuple_end (I.ok.hd hc) hit p (by simp; omega) ?_)
    rintro h' x eb ⟨o, ho, hcl⟩
    refine wpAny_bind (wpAny_isInstance (T := "StopIteration") (b := true) ⟨o, ho, hcl⟩ isSubtype_stop ?_)
    exact wpAny_pure ⟨rfl, I.turned (t' := s.toks) (fun b o hb q => eb b o hb q) f0 f1 f3 f4 f5⟩
  self := by
    rintro A i s Q E ⟨⟨_, he⟩, _⟩ h
    exact wpAny_pyIter_enum he h
def iEnumT (K : PySem.W.Frag) (ta : TA) : TI := fun σ H R => ta σ H fun vs H1 => ∃ a xs, vs = [.ref a] ∧ SqT K H1 a xs ∧ R (Iet K a) H1
theorem pi_enumT {X : Cx} {e : Expr} {ta : TA} {p pos tpos : Pos} {elts : List Expr} {kk : Nat} (hg : Gl X "enumerate") (hm : X.mg "enumerate" = none) (ha : PA X [e] ta) (hs : starEach [e] X.env = [(false, eval e X.env)] := by rfl) :
    PI X (.Tuple elts kk tpos) (.Call (.Name "enumerate" p) [e] [] pos) (iEnumT X.K ta) := by
  constructor
  intro pins s σ H R I h
  refine Call_ (ld_blt I hg hm boot_enumerate (PyProof.Rows.callWith_type1 (thn (ha.run pos pins s σ H _ I h) ?_) hs rfl))
  rintro us s1 ⟨vs, H1, I1, r1, a, xs, rfl, hq, q⟩
  obtain ⟨u, rfl, ru⟩ := vals1 r1
  cases ru
  obtain ⟨its, rv, p', hz⟩ := I1.tuple hq
  refine call_enum_tup p' ?_
  intro h' he hit hk
  refine wpAny_pyIter_enum he ?_
  have I2 : Inv X pins σ H1 { s1 with heap := h' } := I1.kept (t' := s1.toks) hk
  refine ⟨s1.heap.objs.size + 1, [s1.heap.objs.size + 1, s1.heap.objs.size], _, _, H1, rfl, I2, turn_enumT a (s1.heap.objs.size + 1) s1.heap.objs.size, ⟨⟨.none, he⟩, hit, Nat.succ_ne_self _⟩, ?_, q⟩
  intro b hb
  have hb' : b = s1.heap.objs.size + 1 ∨ b = s1.heap.objs.size := by simpa using hb
  have hle : s1.heap.objs.size ≤ b := hb'.elim (fun z => by rw [z]; exact Nat.le_succ _) (fun z => by rw [z]; exact Nat.le_refl _)
  exact I1.fpOk hle (I1.hok.fresh hle)
/-- its walk: a new pair each turn -/
def YNum (xs : List V) : Nat → Hp → V → Hp → Prop := fun i H v H' => ∃ T x, v = .ref T ∧ H T = none ∧ H' = upd H T (.tup [.int (i : Nat), x]) ∧ xs[i]? = some x
theorem walk_enumT {K : PySem.W.Frag} {a : Addr} {xs : List V} : Walk (Iet K a) xs.length (fun H => SqT K H a xs) (YNum xs) :=
  ⟨fun i H hi h => ⟨xs, xs[i], h, by simp [hi]⟩, fun H h => ⟨xs, h, Nat.le_refl _⟩, fun i H x H' _ h y => by obtain ⟨T, z, e1, e2, e3, e4⟩ := y; exact ⟨T, z, e1, e2, e3, e4 xs h⟩⟩
theorem walk_enumL {K : PySem.W.Frag} {a : Addr} {xs : List V} : Walk (Ite K a) xs.length (fun H => SqL K H a xs) (YNum xs) :=
  ⟨fun i H hi h => ⟨xs, xs[i], h, by simp [hi]⟩, fun H h => ⟨xs, h, Nat.le_refl _⟩, fun i H x H' _ h y => by obtain ⟨T, z, e1, e2, e3, e4⟩ := y; exact ⟨T, z, e1, e2, e3, e4 xs h⟩⟩
end Lm

namespace Lm
open PySem PySem.Spec PyProof.Rows L2
/-! ### a def of the text, at hand -/
structure Def (K : PySem.W.Frag) (mg : Str → Option Value) (x : Str) (st : Stmt) (ps : List Str) (f : Addr) (fd : FuncData) : Prop where
  F : Fun K x x st f fd
  g : mg x = some (.ref f)
  b : Binds K fd ps []
/-! ### the pot -/

open Classical in
noncomputable def hid (Z : Hp) (p dl : Addr) (H : Hp) : Hp := fun b => if b = p ∨ b = dl ∨ Z b ≠ none then none else H b
theorem hid_at {Z : Hp} {p dl b : Addr} {H : Hp} (h1 : b ≠ p) (h2 : b ≠ dl ∧ Z b = none) : hid Z p dl H b = H b := if_neg (fun z => z.elim h1 (fun z => z.elim h2.1 (fun q => q h2.2)))
theorem hid_same {Z : Hp} (p dl : Addr) (H : Hp) : Same (hid Z p dl H) H := by
  intro b o e
  unfold hid at e
  split at e
  · cases e
  · exact e
theorem hid_some {Z : Hp} {p dl b : Addr} {H : Hp} {o : HO} (e : hid Z p dl H b = some o) : b ≠ p ∧ (b ≠ dl ∧ Z b = none) := by
  unfold hid at e
  split at e
  · cases e
  · rename_i z
    exact ⟨fun q => z (.inl q), fun q => z (.inr (.inl q)), Classical.byContradiction fun q => z (.inr (.inr q))⟩
/-- all but the pot's own two is as it was -/
def Kp (Z : Hp) (p dl : Addr) (H H' : Hp) : Prop := Same (hid Z p dl H) (hid Z p dl H')
theorem Kp.refl {Z : Hp} (p dl : Addr) (H : Hp) : Kp Z p dl H H := Same.refl _
theorem Kp.trans {Z : Hp} {p dl : Addr} {H H1 H2 : Hp} (a : Kp Z p dl H H1) (b : Kp Z p dl H1 H2) : Kp Z p dl H H2 := Same.trans a b
theorem Kp.of {Z : Hp} {p dl : Addr} {H H' : Hp} (s : Same H H') : Kp Z p dl H H' := by
  intro b o e
  have n := hid_some e
  rw [hid_at n.1 n.2] at e ⊢
  exact s b o e
theorem same_new {H : Hp} {q : Addr} {o : HO} (h : H q = none) : Same H (upd H q o) := fun b x e => by
  rw [upd_ne (ne_of_none e h)]
  exact e
theorem Kp.new {Z : Hp} {p dl q : Addr} {H : Hp} {o : HO} (h : H q = none) : Kp Z p dl H (upd H q o) := Kp.of (same_new h)
/-- the pot stands at p -/
structure PotAt (Z : Hp) (H : Hp) (p dl al : Addr) : Prop where
  ob : ∃ t : Int, H p = some (.dK [(.inr "deep", .ref dl), (.inr "all", .ref al), (.inr "times", .int t)])
  de : ∃ ns : List Int, H dl = some (.lst (ns.map V.int)) ∧ ns.length ≤ 64
  li : ∃ ns : List Int, H al = some (.lst (ns.map V.int)) ∧ ns ≠ [] ∧ ns.length ≤ 64
  ne : al ≠ dl
  zz : Same Z H
  zp : Z p = none
  zd : Z dl = none
theorem PotAt.pd {H : Hp} {Z : Hp} {p dl al : Addr} (h : PotAt Z H p dl al) : p ≠ dl := by
  obtain ⟨t, e⟩ := h.ob
  obtain ⟨ns, e2, _⟩ := h.de
  exact ne_of e e2 (fun z => nomatch z)
theorem PotAt.pa {H : Hp} {Z : Hp} {p dl al : Addr} (h : PotAt Z H p dl al) : al ≠ p := by
  obtain ⟨t, e⟩ := h.ob
  obtain ⟨ns, e2, _⟩ := h.li
  exact ne_of e2 e (fun z => nomatch z)
theorem PotAt.keep {H H' : Hp} {Z : Hp} {p dl al : Addr} (h : PotAt Z H p dl al) (s : Same H H') : PotAt Z H' p dl al :=
  ⟨let ⟨t, e⟩ := h.ob; ⟨t, s _ _ e⟩, let ⟨ns, e, l⟩ := h.de; ⟨ns, s _ _ e, l⟩, let ⟨ns, e, l⟩ := h.li; ⟨ns, s _ _ e, l⟩, h.ne, h.zz.trans s, h.zp, h.zd⟩
theorem PotAt.new {H : Hp} {Z : Hp} {p dl al q : Addr} {o : HO} (h : PotAt Z H p dl al) (n : H q = none) : PotAt Z (upd H q o) p dl al := h.keep (same_new n)
theorem PotAt.free {H : Hp} {Z : Hp} {p dl al q : Addr} (h : PotAt Z H p dl al) (n : H q = none) : q ≠ p ∧ (q ≠ dl ∧ Z q = none) := by
  obtain ⟨t, e⟩ := h.ob
  obtain ⟨ns, e2, _⟩ := h.de
  exact ⟨(ne_of_none e n).symm, (ne_of_none e2 n).symm, by
    cases e3 : Z q with
    | none => rfl
    | some o => rw [h.zz _ _ e3] at n; cases n⟩
theorem zz_upd {Z : Hp} {H : Hp} {f : Addr} {o : HO} (h : Same Z H) (n : Z f = none) : Same Z (upd H f o) := fun b x e => by
  rw [upd_ne (ne_of_none e n)]
  exact h b x e
def sp_draw : Sp := fun vs H Q _ => ∃ (Z : Hp) (p dl al : Addr) (n : Int), vs = [.ref p, .int n] ∧ PotAt Z H p dl al ∧ 0 < n ∧ n < 1073741824 ∧
  ∀ (r : Int) (H' : Hp), PotAt Z H' p dl al → Kp Z p dl H H' → 0 ≤ r → r < n → Q (.int r) H'
/-! ### xs == [], xs != [] -/
def rEqE (K : PySem.W.Frag) : R2 := fun x y H Q => ∃ a b xs, x = .ref a ∧ y = .ref b ∧ SqL K H a xs ∧ SqL K H b [] ∧ Q (.bl xs.isEmpty) H
def rNeE (K : PySem.W.Frag) : R2 := fun x y H Q => ∃ a b xs, x = .ref a ∧ y = .ref b ∧ SqL K H a xs ∧ SqL K H b [] ∧ Q (.bl (!xs.isEmpty)) H
section
variable {X : Cx}
theorem op_eqE (hu : X.A.units < cLine) : OpR X (compareOp .Eq) (rEqE X.K) := by
  rintro pins s σ H x y v u Q I rx ry ⟨a, b, xs, rfl, rfl, ha, hb, q⟩
  cases rx
  cases ry
  obtain ⟨i1, r1, p1, _⟩ := I.list ha
  obtain ⟨i2, r2, p2, _⟩ := I.list hb
  cases r2
  cases i1 with
  | nil =>
    cases r1
    exact SeqAt.RcAt.lists (e := fun _ => true) p1.isList p2.isList rfl hu (fun j h1 _ => absurd h1 (by simp)) _ _ _ _ ⟨.bl true, H, I, rfl, q⟩
  | cons z zs =>
    cases r1
    exact SeqAt.RcAt.lists_lengths p1.isList p2.isList (by simp) hu _ _ _ _ ⟨.bl false, H, I, rfl, q⟩
theorem op_neE (hu : X.A.units < cLine) : OpR X (compareOp .NotEq) (rNeE X.K) := by
  rintro pins s σ H x y v u Q I rx ry ⟨a, b, xs, rfl, rfl, ha, hb, q⟩
  cases rx
  cases ry
  obtain ⟨i1, r1, p1, _⟩ := I.list ha
  obtain ⟨i2, r2, p2, _⟩ := I.list hb
  cases r2
  cases i1 with
  | nil =>
    cases r1
    exact SeqAt.RcNeAt.lists (e := fun _ => true) p1.isList p2.isList rfl hu (fun j h1 _ => absurd h1 (by simp)) _ _ _ _ ⟨.bl false, H, I, rfl, q⟩
  | cons z zs =>
    cases r1
    exact SeqAt.RcNeAt.lists_lengths p1.isList p2.isList (by simp) hu _ _ _ _ ⟨.bl true, H, I, rfl, q⟩
end
theorem fmodB {a b : Int} (h : 0 < b) : 0 ≤ a.fmod b ∧ a.fmod b < b := ⟨Int.fmod_nonneg_of_pos a h, Int.fmod_lt_of_pos a h⟩
theorem seq0 {n : Nat} (h : 0 < n) : seqIndex? 0 n = some 0 := by
  unfold seqIndex?
  first
    | (simp [h]; done)
    | (simp; omega)
end Lm

namespace Lm
open PySem PySem.Spec PyProof.Rows L2
/-! ### what an expression gives while the pot stands: R of its value and of the heap without the pot -/
abbrev VR := V → Hp → Prop
abbrev LR := List V → Hp → Prop
def Mo (R : VR) : Prop := ∀ v G G', Same G G' → R v G → R v G'
def MoL (R : LR) : Prop := ∀ v G G', Same G G' → R v G → R v G'
def Ev (Z : Hp) (p dl al : Addr) (H0 : Hp) (σ : L2.St) (te : TE) (R : VR) : Prop :=
  ∀ (H : Hp) (Q : VK), PotAt Z H p dl al → Kp Z p dl H0 H → (∀ v H', PotAt Z H' p dl al → Kp Z p dl H H' → R v (hid Z p dl H') → Q v H') → te σ H Q
def EvA (Z : Hp) (p dl al : Addr) (H0 : Hp) (σ : L2.St) (ta : TA) (R : LR) : Prop :=
  ∀ (H : Hp) (Q : List V → Hp → Prop), PotAt Z H p dl al → Kp Z p dl H0 H → (∀ v H', PotAt Z H' p dl al → Kp Z p dl H H' → R v (hid Z p dl H') → Q v H') → ta σ H Q
section
variable {K : PySem.W.Frag} {Z : Hp} {p dl al : Addr} {H0 : Hp} {σ : L2.St} {te ta tb : TE} {tl : TA} {R R' R1 R2 : VR} {Rs Rt : LR}
theorem Ev.imp (h : Ev Z p dl al H0 σ te R) (i : ∀ v G, R v G → R' v G) : Ev Z p dl al H0 σ te R' := fun H Q P k q => h H Q P k fun v H' P' k' r => q v H' P' k' (i _ _ r)
theorem EvA.imp (h : EvA Z p dl al H0 σ tl Rs) (i : ∀ v G, Rs v G → Rt v G) : EvA Z p dl al H0 σ tl Rt := fun H Q P k q => h H Q P k fun v H' P' k' r => q v H' P' k' (i _ _ r)
theorem ev_c {v : V} : Ev Z p dl al H0 σ (tC v) (fun u _ => u = v) := fun H Q P k q => q v H P (Kp.refl _ _ _) rfl
theorem ev_var {i : Nat} {v : V} (e : σ[i]? = some (some v)) (m : Mo R) (h : R v (hid Z p dl H0)) : Ev Z p dl al H0 σ (tVar i) R := fun H Q P k q => ⟨v, e, q v H P (Kp.refl _ _ _) (m _ _ _ k h)⟩
theorem eva_nil : EvA Z p dl al H0 σ tNil (fun vs _ => vs = []) := fun H Q P k q => q [] H P (Kp.refl _ _ _) rfl
theorem eva_cons (m : Mo R) (h1 : Ev Z p dl al H0 σ te R) (h2 : EvA Z p dl al H0 σ tl Rs) : EvA Z p dl al H0 σ (tCons te tl) (fun vs G => ∃ v r, vs = v :: r ∧ R v G ∧ Rs r G) :=
  fun H Q P k q => h1 H _ P k fun v H1 P1 k1 r1 => h2 H1 _ P1 (k.trans k1) fun vs H2 P2 k2 r2 => q _ H2 P2 (k1.trans k2) ⟨v, vs, rfl, m _ _ _ k2 r1, r2⟩
/-! ### lists of alternatives, all of which have R -/
def AllR (m n : Nat) (R : VR) : LR := fun vs G => m ≤ vs.length ∧ vs.length ≤ n ∧ ∀ v ∈ vs, R v G
theorem eall_nil : EvA Z p dl al H0 σ tNil (AllR 0 0 R) := fun H Q P k q => q [] H P (Kp.refl _ _ _) ⟨Nat.le_refl _, Nat.le_refl _, fun v h => nomatch h⟩
theorem eall_cons {a b : Nat} (m : Mo R) (h1 : Ev Z p dl al H0 σ te R) (h2 : EvA Z p dl al H0 σ tl (AllR a b R)) : EvA Z p dl al H0 σ (tCons te tl) (AllR (a + 1) (b + 1) R) :=
  (eva_cons m h1 h2).imp fun vs G h => by
    obtain ⟨v, r, rfl, hv, h1, h2, h3⟩ := h
    refine ⟨Nat.succ_le_succ h1, Nat.succ_le_succ h2, fun x hx => ?_⟩
    rcases List.mem_cons.mp hx with e | e
    · rw [e]; exact hv
    · exact h3 x e
theorem AllR.mo {m n : Nat} (h : Mo R) : MoL (AllR m n R) := fun vs G G' s ⟨h1, h2, h3⟩ => ⟨h1, h2, fun v hv => h v _ _ s (h3 v hv)⟩
/-- a list, a tuple of things that have R -/
def LsR (m n : Nat) (R : VR) : VR := fun v G => ∃ a xs, v = .ref a ∧ G a = some (.lst xs) ∧ AllR m n R xs G
def TpR (K : PySem.W.Frag) (m n : Nat) (R : VR) : VR := fun v G => ∃ a xs, v = .ref a ∧ SqT K G a xs ∧ AllR m n R xs G
theorem LsR.mo {m n : Nat} (h : Mo R) : Mo (LsR m n R) := fun v G G' s ⟨a, xs, e, g, r⟩ => ⟨a, xs, e, s _ _ g, AllR.mo h _ _ _ s r⟩
theorem TpR.mo {m n : Nat} (h : Mo R) : Mo (TpR K m n R) := fun v G G' s ⟨a, xs, e, g, r⟩ => ⟨a, xs, e, Same.seqT s g, AllR.mo h _ _ _ s r⟩
theorem hid_new {H : Hp} {q : Addr} {o : HO} (P : PotAt Z H p dl al) (n : H q = none) : hid Z p dl (upd H q o) q = some o := by
  have f := P.free n
  rw [hid_at f.1 f.2, upd_same]
theorem hid_upd {H : Hp} {q : Addr} {o : HO} (h1 : q ≠ p) (h2 : q ≠ dl ∧ Z q = none) : hid Z p dl (upd H q o) q = some o := by rw [hid_at h1 h2, upd_same]
/-- a new thing that is not the pot's -/
theorem laid {H : Hp} {q : Addr} {o : HO} (P : PotAt Z H p dl al) (n : H q = none) : PotAt Z (upd H q o) p dl al ∧ Kp Z p dl H (upd H q o) ∧ hid Z p dl (upd H q o) q = some o := ⟨P.new n, Kp.new n, hid_new P n⟩
theorem ev_tup (h : EvA Z p dl al H0 σ tl Rs) (hl : ∀ vs G, Rs vs G → vs.length ≤ sizeLine) (m : MoL Rs) : Ev Z p dl al H0 σ (tTup tl) (fun v G => ∃ a xs, v = .ref a ∧ G a = some (.tup xs) ∧ Rs xs G) :=
  fun H Q P k q => h H _ P k fun vs H1 P1 k1 r1 => ⟨hl _ _ r1, fun t nt => by
    obtain ⟨P2, k2, e2⟩ := laid (o := .tup vs) P1 nt
    exact q _ _ P2 (k1.trans k2) ⟨t, vs, rfl, e2, m _ _ _ k2 r1⟩⟩
theorem ev_lst {m n : Nat} (hn : n ≤ 1000) (hm : Mo R) (h : EvA Z p dl al H0 σ tl (AllR m n R)) : Ev Z p dl al H0 σ (tLst tl) (LsR m n R) :=
  fun H Q P k q => h H _ P k fun vs H1 P1 k1 r1 => ⟨Nat.le_of_lt (small1000 (Nat.le_trans r1.2.1 hn)), fun t nt => by
    obtain ⟨P2, k2, e2⟩ := laid (o := .lst vs) P1 nt
    exact q _ _ P2 (k1.trans k2) ⟨t, vs, rfl, e2, AllR.mo hm _ _ _ k2 r1⟩⟩
theorem ev_tupR {m n : Nat} (hn : n ≤ 1000) (hm : Mo R) (h : EvA Z p dl al H0 σ tl (AllR m n R)) : Ev Z p dl al H0 σ (tTup tl) (TpR K m n R) :=
  (ev_tup h (fun vs G r => Nat.le_of_lt (small1000 (Nat.le_trans r.2.1 hn))) (AllR.mo hm)).imp fun v G ⟨a, xs, e, g, r⟩ => ⟨a, xs, e, .inl (.inl g), r⟩
theorem ev_cat {a b c d : Nat} (hn : b + d ≤ 1000) (hm : Mo R) (h1 : Ev Z p dl al H0 σ ta (LsR a b R)) (h2 : Ev Z p dl al H0 σ tb (LsR c d R)) : Ev Z p dl al H0 σ (tOp rCat ta tb) (LsR (a + c) (b + d) R) :=
  fun H Q P k q => h1 H _ P k fun x H1 P1 k1 r1 => h2 H1 _ P1 (k.trans k1) fun y H2 P2 k2 r2 => by
    obtain ⟨l, xs, rfl, g1, a1, a2, a3⟩ := LsR.mo hm _ _ _ k2 r1
    obtain ⟨l2, ys, rfl, g2, b1, b2, b3⟩ := r2
    refine ⟨l, l2, xs, ys, rfl, rfl, hid_same _ _ _ _ _ g1, hid_same _ _ _ _ _ g2, Nat.le_of_lt (small1000 (by omega)), fun t nt => ?_⟩
    obtain ⟨P3, k3, e3⟩ := laid (o := .lst (xs ++ ys)) P2 nt
    refine q _ _ P3 ((k1.trans k2).trans k3) ⟨t, _, rfl, e3, by rw [List.length_append]; omega, by rw [List.length_append]; omega, fun v hv => ?_⟩
    rcases List.mem_append.mp hv with e | e
    · exact hm _ _ _ k3 (a3 v e)
    · exact hm _ _ _ k3 (b3 v e)
theorem ev_catA {a b c d : Nat} (hn : b + d ≤ 1000) (hm : Mo R) (h1 : Ev Z p dl al H0 σ ta (TpR K a b R)) (h2 : Ev Z p dl al H0 σ tb (TpR K c d R)) : Ev Z p dl al H0 σ (tOp (rCatA K) ta tb) (TpR K (a + c) (b + d) R) :=
  fun H Q P k q => h1 H _ P k fun x H1 P1 k1 r1 => h2 H1 _ P1 (k.trans k1) fun y H2 P2 k2 r2 => by
    have r1' := TpR.mo hm _ _ _ k2 r1
    obtain ⟨l, xs, rfl, g1, a1, a2, a3⟩ := r1'
    obtain ⟨l2, ys, rfl, g2, b1, b2, b3⟩ := id r2
    refine ⟨l, l2, xs, ys, rfl, rfl, Same.seqT (hid_same _ _ _) g1, Same.seqT (hid_same _ _ _) g2, Nat.le_of_lt (small1000 (by omega)), fun z => ?_, fun z1 z2 => ?_, fun z1 z2 t nt => ?_⟩
    · subst z
      refine q _ _ P2 (k1.trans k2) ⟨l2, ys, rfl, g2, ?_, by omega, b3⟩
      simp only [List.length_nil] at a1; omega
    · subst z2
      refine q _ _ P2 (k1.trans k2) ⟨l, xs, rfl, g1, ?_, by omega, a3⟩
      simp only [List.length_nil] at b1; omega
    · obtain ⟨P3, k3, e3⟩ := laid (o := .tup (xs ++ ys)) P2 nt
      refine q _ _ P3 ((k1.trans k2).trans k3) ⟨t, _, rfl, .inl (.inl e3), by rw [List.length_append]; omega, by rw [List.length_append]; omega, fun v hv => ?_⟩
      rcases List.mem_append.mp hv with e | e
      · exact hm _ _ _ k3 (a3 v e)
      · exact hm _ _ _ k3 (b3 v e)
theorem mem_cutV {xs : List V} {lo hi : Option Int} {v : V} (h : v ∈ cutV xs lo hi) : v ∈ xs := List.mem_of_mem_drop (List.mem_of_mem_take h)
/-- any cut of a tuple -/
def AnyO (Z : Hp) (p dl al : Addr) (H0 : Hp) (σ : L2.St) (to : TO) : Prop := ∀ (H : Hp) (Q : Option Int → Hp → Prop), PotAt Z H p dl al → Kp Z p dl H0 H → (∀ o H', PotAt Z H' p dl al → Kp Z p dl H H' → Q o H') → to σ H Q
theorem any_none : AnyO Z p dl al H0 σ tNoPart := fun H Q P k q => q none H P (Kp.refl _ _ _)
theorem any_some {t : TE} (h : Ev Z p dl al H0 σ t (fun v _ => ∃ i, v = .int i)) : AnyO Z p dl al H0 σ (tPart t) := fun H Q P k q => h H _ P k fun v H1 P1 k1 ⟨i, e⟩ => ⟨i, e, q _ _ P1 k1⟩
theorem ev_slA {a b : Nat} {t1 t2 : TO} (hm : Mo R) (h : Ev Z p dl al H0 σ te (TpR K a b R)) (h1 : AnyO Z p dl al H0 σ t1) (h2 : AnyO Z p dl al H0 σ t2) : Ev Z p dl al H0 σ (tSl (rSlA K) te t1 t2) (TpR K 0 b R) :=
  fun H Q P k q => h H _ P k fun x H1 P1 k1 r1 => h1 H1 _ P1 (k.trans k1) fun lo H2 P2 k2 => h2 H2 _ P2 ((k.trans k1).trans k2) fun hi H3 P3 k3 => by
    obtain ⟨l, xs, rfl, g, a1, a2, a3⟩ := TpR.mo hm _ _ _ (Kp.trans k2 k3) r1
    refine ⟨l, xs, rfl, Same.seqT (hid_same _ _ _) g, fun _ => ?_, fun _ t nt => ?_⟩
    · exact q _ _ P3 (k1.trans (k2.trans k3)) ⟨l, xs, rfl, g, Nat.zero_le _, a2, a3⟩
    · obtain ⟨P4, k4, e4⟩ := laid (o := .tup (cutV xs lo hi)) P3 nt
      exact q _ _ P4 (k1.trans ((k2.trans k3).trans k4)) ⟨t, _, rfl, .inl (.inl e4), Nat.zero_le _, Nat.le_trans (cutV_length _ _ _) a2, fun v hv => hm _ _ _ k4 (a3 v (mem_cutV hv))⟩
theorem ev_revT {a b : Nat} (hm : Mo R) (h : Ev Z p dl al H0 σ te (TpR K a b R)) : Ev Z p dl al H0 σ (tRevT K te) (TpR K a b R) :=
  fun H Q P k q => h H _ P k fun x H1 P1 k1 r1 => by
    obtain ⟨l, xs, rfl, g, a1, a2, a3⟩ := r1
    refine ⟨l, xs, rfl, Same.seqT (hid_same _ _ _) g, fun t nt => ?_⟩
    obtain ⟨P4, k4, e4⟩ := laid (o := .tup xs.reverse) P1 nt
    exact q _ _ P4 (k1.trans k4) ⟨t, _, rfl, .inl (.inl e4), by rw [List.length_reverse]; exact a1, by rw [List.length_reverse]; exact a2, fun v hv => hm _ _ _ k4 (a3 v (List.mem_reverse.mp hv))⟩
/-! ### numbers -/
def IR (lo hi : Int) : VR := fun v _ => ∃ i, v = .int i ∧ lo ≤ i ∧ i ≤ hi
theorem IR.mo {lo hi : Int} : Mo (IR lo hi) := fun v G G' s h => h
theorem ev_int {i : Int} : Ev Z p dl al H0 σ (tC (.int i)) (IR i i) := ev_c.imp fun v G e => ⟨i, e, Int.le_refl _, Int.le_refl _⟩
theorem ev_neg {i j : Int} (h : Ev Z p dl al H0 σ te (IR i j)) : Ev Z p dl al H0 σ (tUn (rU fun i => .int (-i)) te) (IR (-j) (-i)) :=
  fun H Q P k q => h H _ P k fun v H1 P1 k1 ⟨x, e, h1, h2⟩ => ⟨x, e, q _ _ P1 k1 ⟨-x, rfl, by omega, by omega⟩⟩
theorem ev_add {a b c d : Int} (h1 : Ev Z p dl al H0 σ ta (IR a b)) (h2 : Ev Z p dl al H0 σ tb (IR c d)) : Ev Z p dl al H0 σ (tOp (rI0 fun i j => .int (i + j)) ta tb) (IR (a + c) (b + d)) :=
  fun H Q P k q => h1 H _ P k fun x H1 P1 k1 ⟨i, e1, i1, i2⟩ => h2 H1 _ P1 (k.trans k1) fun y H2 P2 k2 ⟨j, e2, j1, j2⟩ => ⟨i, j, e1, e2, q _ _ P2 (k1.trans k2) ⟨i + j, rfl, by omega, by omega⟩⟩
theorem ev_sub {a b c d : Int} (h1 : Ev Z p dl al H0 σ ta (IR a b)) (h2 : Ev Z p dl al H0 σ tb (IR c d)) : Ev Z p dl al H0 σ (tOp (rI0 fun i j => .int (i - j)) ta tb) (IR (a - d) (b - c)) :=
  fun H Q P k q => h1 H _ P k fun x H1 P1 k1 ⟨i, e1, i1, i2⟩ => h2 H1 _ P1 (k.trans k1) fun y H2 P2 k2 ⟨j, e2, j1, j2⟩ => ⟨i, j, e1, e2, q _ _ P2 (k1.trans k2) ⟨i - j, rfl, by omega, by omega⟩⟩
theorem ev_mul {a b c d : Int} (ha : 0 ≤ a) (hb : b < 2 ^ 64) (hc : 0 ≤ c) (h1 : Ev Z p dl al H0 σ ta (IR a b)) (h2 : Ev Z p dl al H0 σ tb (IR c d)) : Ev Z p dl al H0 σ (tOp (rI CMul fun i j => .int (i * j)) ta tb) (IR (a * c) (b * d)) :=
  fun H Q P k q => h1 H _ P k fun x H1 P1 k1 ⟨i, e1, i1, i2⟩ => h2 H1 _ P1 (k.trans k1) fun y H2 P2 k2 ⟨j, e2, j1, j2⟩ => by
    refine ⟨i, j, e1, e2, .inl ⟨by omega, by omega⟩, q _ _ P2 (k1.trans k2) ⟨i * j, rfl, ?_, ?_⟩⟩
    · exact Int.mul_le_mul i1 j1 hc (Int.le_trans ha i1)
    · exact Int.mul_le_mul i2 j2 (Int.le_trans hc j1) (Int.le_trans ha (Int.le_trans i1 i2))
theorem ev_pow {i j : Int} (h : CPow i j) : Ev Z p dl al H0 σ (tOp (rI CPow fun i j => .int (i ^ j.toNat)) (tC (.int i)) (tC (.int j))) (IR (i ^ j.toNat) (i ^ j.toNat)) :=
  fun H Q P k q => ⟨i, j, rfl, rfl, h, q _ _ P (Kp.refl _ _ _) ⟨_, rfl, Int.le_refl _, Int.le_refl _⟩⟩
theorem Ev.wide {a b c d : Int} (h : Ev Z p dl al H0 σ te (IR a b)) (h1 : c ≤ a) (h2 : b ≤ d) : Ev Z p dl al H0 σ te (IR c d) := h.imp fun v G ⟨i, e, i1, i2⟩ => ⟨i, e, by omega, by omega⟩
theorem Ev.isInt {a b : Int} (h : Ev Z p dl al H0 σ te (IR a b)) : Ev Z p dl al H0 σ te (fun v _ => ∃ i, v = .int i) := h.imp fun v G ⟨i, e, _⟩ => ⟨i, e⟩
/-! ### draws -/
def sp_one : Sp := fun vs H Q _ => ∃ (Z : Hp) (p dl al l : Addr) (xs : List V), vs = [.ref p, .ref l] ∧ PotAt Z H p dl al ∧ hid Z p dl H l = some (.lst xs) ∧ xs ≠ [] ∧ xs.length ≤ 1000 ∧
  ∀ (x : V) (H' : Hp), x ∈ xs → PotAt Z H' p dl al → Kp Z p dl H H' → Q x H'
theorem ev_draw {i : Nat} {b : Int} (e : σ[i]? = some (some (.ref p))) (hb : b < 1073741824) (h : Ev Z p dl al H0 σ te (IR 1 b)) : Ev Z p dl al H0 σ (tCall sp_draw [] E0 (tCons (tVar i) (tCons te tNil))) (IR 0 (b - 1)) :=
  fun H Q P k q => ⟨_, e, h H _ P k fun v H1 P1 k1 ⟨n, en, n1, n2⟩ => ⟨Z, p, dl, al, n, by rw [en]; rfl, P1, by omega, by omega, fun r H2 P2 k2 r1 r2 => q _ _ P2 (k1.trans k2) ⟨r, rfl, r1, by omega⟩⟩⟩
theorem ev_one {i m n : Nat} (e : σ[i]? = some (some (.ref p))) (hn : n ≤ 1000) (hm : Mo R) (h : Ev Z p dl al H0 σ te (LsR (m + 1) n R)) : Ev Z p dl al H0 σ (tCall sp_one [] E0 (tCons (tVar i) (tCons te tNil))) R :=
  fun H Q P k q => ⟨_, e, h H _ P k fun v H1 P1 k1 ⟨l, xs, el, g, l1, l2, l3⟩ => ⟨Z, p, dl, al, l, xs, by rw [el]; rfl, P1, g, (fun z => by subst z; simp at l1), by omega, fun x H2 hx P2 k2 => q _ _ P2 (k1.trans k2) (hm _ _ _ k2 (l3 x hx))⟩⟩
end
/-! ### data -/
def DR (K : PySem.W.Frag) (φ : PyData → Prop) : VR := fun v G => ∃ d, Dq K G v d ∧ φ d
theorem DR.mo {K : PySem.W.Frag} {φ : PyData → Prop} : Mo (DR K φ) := fun v G G' s ⟨d, h, x⟩ => ⟨d, h.mono s, x⟩
theorem all_data {K : PySem.W.Frag} {φ : PyData → Prop} {G : Hp} : ∀ {xs : List V}, (∀ x ∈ xs, DR K φ x G) → ∃ ds, Dqs K G xs ds ∧ ∀ d ∈ ds, φ d
  | [], _ => ⟨[], .nil, fun d h => nomatch h⟩
  | x :: r, h => by
    obtain ⟨d, hd, pd⟩ := h x List.mem_cons_self
    obtain ⟨ds, hs, ps⟩ := all_data (xs := r) fun y hy => h y (List.mem_cons_of_mem _ hy)
    refine ⟨d :: ds, .cons hd hs, fun e he => ?_⟩
    rcases List.mem_cons.mp he with z | z
    · rw [z]; exact pd
    · exact ps e z
/-- data whose text has at most n signs, with at most k levels -/
structure Sm (n k : Nat) (d : PyData) : Prop where
  sh : d.showable = true
  dp : d.depth ≤ k
  sz : d.shown.length ≤ n
theorem Sm.wide {n k n' k' : Nat} {d : PyData} (h : Sm n k d) (h1 : n ≤ n') (h2 : k ≤ k') : Sm n' k' d := ⟨h.sh, Nat.le_trans h.dp h2, Nat.le_trans h.sz h1⟩
theorem Sm.fine {n k : Nat} {d : PyData} (h : Sm n k d) (h1 : n ≤ 16777216) (h2 : k ≤ 100) : Fine d := ⟨h.sh, Nat.le_trans h.dp h2, Nat.le_trans h.sz (by rw [PySem.sizeLine_eq]; exact h1)⟩
end Lm

namespace Lm
open PySem PySem.Spec PyProof.Rows L2
/-! ### how long a text of data is -/
theorem all_showable : ∀ {ds : List PyData}, (∀ d ∈ ds, d.showable = true) → PyData.showableAll ds = true
  | [], _ => rfl
  | d :: r, h => by
    simp only [PyData.showableAll, h d List.mem_cons_self, Bool.true_and]
    exact all_showable fun e he => h e (List.mem_cons_of_mem _ he)
theorem all_depth {k : Nat} : ∀ {ds : List PyData}, (∀ d ∈ ds, d.depth ≤ k) → PyData.depthAll ds ≤ k
  | [], _ => Nat.zero_le _
  | d :: r, h => by
    simp only [PyData.depthAll]
    exact Nat.max_le.mpr ⟨h d List.mem_cons_self, all_depth fun e he => h e (List.mem_cons_of_mem _ he)⟩
theorem all_shown {n : Nat} : ∀ {ds : List PyData}, (∀ d ∈ ds, d.shown.length ≤ n) → ((PyData.shownAll ds).map (·.length)).sum ≤ ds.length * n ∧ (PyData.shownAll ds).length = ds.length
  | [], _ => by simp [PyData.shownAll]
  | d :: r, h => by
    obtain ⟨h1, h2⟩ := all_shown (ds := r) fun e he => h e (List.mem_cons_of_mem _ he)
    have h3 := h d List.mem_cons_self
    simp only [PyData.shownAll, List.map_cons, List.sum_cons, List.length_cons, h2, and_true]
    rw [Nat.succ_mul]
    omega
theorem seq_size {c n len sum : Nat} (h1 : sum ≤ len * n) (h2 : len ≤ c) : sum + 2 * len + 3 ≤ c * (n + 2) + 3 := by
  have h3 : len * n ≤ c * n := Nat.mul_le_mul_right n h2
  rw [Nat.mul_add]
  omega
theorem Sm.tuple {c n k : Nat} {ds : List PyData} (h : ∀ d ∈ ds, Sm n k d) (hc : ds.length ≤ c) : Sm (c * (n + 2) + 3) (k + 1) (.tuple ds) := by
  obtain ⟨h1, h2⟩ := all_shown fun d hd => (h d hd).sz
  refine ⟨?_, ?_, ?_⟩
  · simp only [PyData.showable]
    exact all_showable fun d hd => (h d hd).sh
  · simp only [PyData.depth]
    exact Nat.succ_le_succ (all_depth fun d hd => (h d hd).dp)
  · simp only [PyData.shown]
    refine Nat.le_trans (tupleText_len_le _) ?_
    rw [h2]
    exact seq_size h1 hc
theorem Sm.list {c n k : Nat} {ds : List PyData} (h : ∀ d ∈ ds, Sm n k d) (hc : ds.length ≤ c) : Sm (c * (n + 2) + 3) (k + 1) (.list ds) := by
  obtain ⟨h1, h2⟩ := all_shown fun d hd => (h d hd).sz
  refine ⟨?_, ?_, ?_⟩
  · simp only [PyData.showable]
    exact all_showable fun d hd => (h d hd).sh
  · simp only [PyData.depth]
    exact Nat.succ_le_succ (all_depth fun d hd => (h d hd).dp)
  · simp only [PyData.shown]
    refine Nat.le_trans (listText_len_le _) ?_
    rw [h2]
    exact seq_size h1 hc
theorem log2_lt {n : Nat} (h : n < 10 ^ 12) : n.log2 < 1920 := by
  by_cases z : n = 0
  · subst z; decide
  · exact (Nat.log2_lt z).mpr (Nat.lt_trans h (Nat.lt_of_lt_of_le (by decide : 10 ^ 12 < 2 ^ 40) (Nat.pow_le_pow_right (by decide) (by decide))))
theorem Sm.int {i : Int} (h : i.natAbs < 10 ^ 12) : Sm 13 0 (.int i) := by
  refine ⟨?_, Nat.le_refl _, PyData.shown_int_le h⟩
  simp only [PyData.showable, decide_eq_true_eq]
  exact log2_lt h
theorem Sm.bool (b : Bool) : Sm 5 0 (.bool b) := by cases b <;> exact ⟨rfl, Nat.le_refl _, by decide +kernel⟩
section
variable {K : PySem.W.Frag} {Z : Hp} {p dl al : Addr} {H0 : Hp} {σ : L2.St} {te ta tb : TE} {tl : TA} {R R' : VR} {n k : Nat}
theorem TpR.data {m c : Nat} {G : Hp} {v : V} (h : TpR K m c R v G) (i : ∀ x, R x G → DR K (Sm n k) x G) : DR K (Sm (c * (n + 2) + 3) (k + 1)) v G := by
  obtain ⟨a, xs, rfl, g, h1, h2, h3⟩ := h
  obtain ⟨ds, hd, hp⟩ := all_data fun x hx => i x (h3 x hx)
  exact ⟨_, .tup g hd, Sm.tuple hp (by rw [← hd.len]; exact h2)⟩
theorem LsR.data {m c : Nat} {G : Hp} {v : V} (h : LsR m c R v G) (i : ∀ x, R x G → DR K (Sm n k) x G) : DR K (Sm (c * (n + 2) + 3) (k + 1)) v G := by
  obtain ⟨a, xs, rfl, g, h1, h2, h3⟩ := h
  obtain ⟨ds, hd, hp⟩ := all_data fun x hx => i x (h3 x hx)
  exact ⟨_, .lst (.inl (.inl g)) hd, Sm.list hp (by rw [← hd.len]; exact h2)⟩
theorem DR.wide {n' k' : Nat} {G : Hp} {v : V} (h : DR K (Sm n k) v G) (h1 : n ≤ n') (h2 : k ≤ k') : DR K (Sm n' k') v G := let ⟨d, a, b⟩ := h; ⟨d, a, b.wide h1 h2⟩
theorem ev_wide {n' k' : Nat} (h : Ev Z p dl al H0 σ te (DR K (Sm n k))) (h1 : n ≤ n') (h2 : k ≤ k') : Ev Z p dl al H0 σ te (DR K (Sm n' k')) := h.imp fun v G r => r.wide h1 h2
theorem ev_d {v : V} {d : PyData} (h : ∀ G, Dq K G v d) (s : Sm n k d) : Ev Z p dl al H0 σ (tC v) (DR K (Sm n k)) := ev_c.imp fun u G e => by rw [e]; exact ⟨d, h G, s⟩
theorem ir_data {lo hi : Int} {v : V} {G : Hp} (h : IR lo hi v G) (h1 : -999999999999 ≤ lo) (h2 : hi ≤ 999999999999) : DR K (Sm 13 0) v G := by
  obtain ⟨i, rfl, i1, i2⟩ := h
  exact ⟨_, .int i, Sm.int (by omega)⟩
theorem ev_ir {lo hi : Int} (h : Ev Z p dl al H0 σ te (IR lo hi)) (h1 : -999999999999 ≤ lo) (h2 : hi ≤ 999999999999) : Ev Z p dl al H0 σ te (DR K (Sm 13 0)) := h.imp fun v G r => ir_data r h1 h2
theorem ev_tupD {m c : Nat} (hc : c ≤ 1000) (h : EvA Z p dl al H0 σ tl (AllR m c (DR K (Sm n k)))) : Ev Z p dl al H0 σ (tTup tl) (DR K (Sm (c * (n + 2) + 3) (k + 1))) :=
  (ev_tupR hc DR.mo h).imp fun v G r => r.data fun x z => z
theorem ev_lstD {m c : Nat} (hc : c ≤ 1000) (h : EvA Z p dl al H0 σ tl (AllR m c (DR K (Sm n k)))) : Ev Z p dl al H0 σ (tLst tl) (DR K (Sm (c * (n + 2) + 3) (k + 1))) :=
  (ev_lst hc DR.mo h).imp fun v G r => r.data fun x z => z
theorem ev_dnew : Ev Z p dl al H0 σ tDNewK (DR K (Sm 2 1)) := fun H Q P k q t nt => by
  obtain ⟨P4, k4, e4⟩ := laid (o := .dK []) P nt
  exact q _ _ P4 k4 ⟨_, .dct e4 .nil, ⟨rfl, by decide, by decide +kernel⟩⟩
theorem ev_disp1 {x : Str} {i : Int} {d : PyData} (hd : d = .dict [(.str x, .int i)]) (s : Sm n k d) : Ev Z p dl al H0 σ (tDisp [(tC (.str x), tC (.int i))]) (DR K (Sm n k)) := fun H Q P k q t nt => by
  subst hd
  have e : (upd (upd H t (.dK [])) t (.dK (mergeK [] [((Sum.inr x : L2.Key), V.int i)]))) = upd H t (.dK [(Sum.inr x, V.int i)]) := by rw [upd_upd]; rfl
  refine ⟨upd_same, [(Sum.inr x, V.int i)], rfl, Nat.le_add_left 1 14, ?_⟩
  rw [e]
  obtain ⟨P4, k4, e4⟩ := laid (o := .dK [(Sum.inr x, V.int i)]) P nt
  exact q _ _ P4 k4 ⟨_, .dct (ds := [.int i]) e4 (.cons (.int i) .nil), s⟩
/-- an odd value -/
def sp_odd (K : PySem.W.Frag) : Sp := fun vs H Q _ => ∃ (Z : Hp) (p dl al : Addr), vs = [.ref p] ∧ PotAt Z H p dl al ∧ ∀ (x : V) (H' : Hp), PotAt Z H' p dl al → Kp Z p dl H H' → DR K (Sm 60 3) x (hid Z p dl H') → Q x H'
theorem ev_odd {i : Nat} (e : σ[i]? = some (some (.ref p))) : Ev Z p dl al H0 σ (tCall (sp_odd K) [] E0 (tCons (tVar i) tNil)) (DR K (Sm 60 3)) := fun H Q P k q => ⟨_, e, Z, p, dl, al, rfl, P, fun x H' P' k' r => q x H' P' k' r⟩
def sp_opened (K : PySem.W.Frag) : Sp := fun vs H Q _ => ∃ (a : Addr) (ns : List Int), vs = [.ref a] ∧ SqL K H a (ns.map V.int) ∧ ns.length ≤ 63 ∧ ∀ (p dl al : Addr) (H' : Hp), PotAt (fun _ => none) H' p dl al → Same H H' → Q (.ref p) H'
end
theorem cut_all {xs : List V} (h : xs.length ≤ 64) : cutV xs none (some 64) = xs := by
  unfold cutV
  rw [HT.sIx_none, show HT.sIx xs.length xs.length (some 64) = min 64 xs.length from HT.sIx_nat xs.length xs.length 64, Nat.min_eq_right h, List.drop_zero, Nat.sub_zero, List.take_length]
theorem same_upd2 {H H' : Hp} {q : Addr} {o : HO} (s : Same H H') (n : H q = none) : Same H (upd H' q o) := fun b x e => by
  rw [upd_ne (ne_of_none e n)]
  exact s b x e
theorem yes_if {σ : L2.St} {H : Hp} {A B : Hp → Prop} (h : A H) : tYes σ H (fun b H3 => if b = true then A H3 else B H3) := by
  show if true = true then A H else B H
  rw [if_pos rfl]
  exact h
/-! ### one written number -/
def EI (i : Int) : VR := fun v _ => v = .int i
section
variable {K : PySem.W.Frag} {Z : Hp} {p dl al : Addr} {H0 : Hp} {σ : L2.St} {te ta tb : TE} {tl : TA} {n k : Nat} {a b : Int}
theorem ei_c {i : Int} : Ev Z p dl al H0 σ (tC (.int i)) (EI i) := ev_c
theorem ei_neg (h : Ev Z p dl al H0 σ te (EI a)) : Ev Z p dl al H0 σ (tUn (rU fun i => .int (-i)) te) (EI (-a)) := fun H Q P k q => h H _ P k fun v H1 P1 k1 e => ⟨a, e, q _ _ P1 k1 rfl⟩
theorem ei_add (h1 : Ev Z p dl al H0 σ ta (EI a)) (h2 : Ev Z p dl al H0 σ tb (EI b)) : Ev Z p dl al H0 σ (tOp (rI0 fun i j => .int (i + j)) ta tb) (EI (a + b)) :=
  fun H Q P k q => h1 H _ P k fun x H1 P1 k1 e1 => h2 H1 _ P1 (k.trans k1) fun y H2 P2 k2 e2 => ⟨a, b, e1, e2, q _ _ P2 (k1.trans k2) rfl⟩
theorem ei_mul (hc : CMul a b) (h1 : Ev Z p dl al H0 σ ta (EI a)) (h2 : Ev Z p dl al H0 σ tb (EI b)) : Ev Z p dl al H0 σ (tOp (rI CMul fun i j => .int (i * j)) ta tb) (EI (a * b)) :=
  fun H Q P k q => h1 H _ P k fun x H1 P1 k1 e1 => h2 H1 _ P1 (k.trans k1) fun y H2 P2 k2 e2 => ⟨a, b, e1, e2, hc, q _ _ P2 (k1.trans k2) rfl⟩
theorem ei_pow {i j : Int} (h : CPow i j) : Ev Z p dl al H0 σ (tOp (rI CPow fun i j => .int (i ^ j.toNat)) (tC (.int i)) (tC (.int j))) (EI (i ^ j.toNat)) := fun H Q P k q => ⟨i, j, rfl, rfl, h, q _ _ P (Kp.refl _ _ _) rfl⟩
theorem ei_d (h : Ev Z p dl al H0 σ te (EI a)) (s : Sm n k (.int a)) : Ev Z p dl al H0 σ te (DR K (Sm n k)) := h.imp fun v G e => by rw [e]; exact ⟨_, .int a, s⟩
theorem ei_ir (h : Ev Z p dl al H0 σ te (EI a)) : Ev Z p dl al H0 σ te (IR a a) := h.imp fun v G e => ⟨a, e, Int.le_refl _, Int.le_refl _⟩
end
instance {i j : Int} : Decidable (CPow i j) := by unfold CPow; infer_instance
instance {i j : Int} : Decidable (CMul i j) := by unfold CMul; infer_instance
theorem sm_chk {n k : Nat} {d : PyData} (h : (d.showable && decide (d.depth ≤ k) && decide (d.shown.length ≤ n)) = true) : Sm n k d := by
  simp only [Bool.and_eq_true, decide_eq_true_eq] at h
  exact ⟨h.1.1, h.1.2, h.2⟩
/-! ### a statement and what follows it -/
section
variable {D : Ends} {σ : L2.St} {H : Hp} {te : TE} {ta : TA} {t u v : TS} {c : TT} {i j : Nat}
theorem s_set (h : te σ H fun x H1 => u D (σ.set i (some x)) H1) : tSeq (tAsg te (gName i)) u D σ H := h
theorem s_set1 (h : te σ H fun x H1 => D.nx (σ.set i (some x)) H1) : tAsg te (gName i) D σ H := h
theorem s_par (h : ta σ H fun vs H1 => ∃ v w, vs = [v, w] ∧ u D ((σ.set i (some v)).set j (some w)) H1) : tSeq (tPar i j ta) u D σ H := h
theorem s_expr (h : te σ H fun _ H1 => u D σ H1) : tSeq (tDrop te) u D σ H := h
theorem s_expr1 (h : te σ H fun _ H1 => D.nx σ H1) : tDrop te D σ H := h
theorem s_if (h : c σ H fun b H1 => if b = true then t { D with nx := u D } σ H1 else v { D with nx := u D } σ H1) : tSeq (tIfS c t v) u D σ H := h
theorem s_if1 (h : c σ H fun b H1 => if b = true then t D σ H1 else v D σ H1) : tIfS c t v D σ H := h
theorem s_ret (h : te σ H D.rt) : tRet te D σ H := h
theorem s_next (h : D.nx σ H) : tNext D σ H := h
end
section
variable {K : PySem.W.Frag} {Z : Hp} {p dl al : Addr} {H0 : Hp} {σ : L2.St} {te ta tb : TE} {tl : TA} {R R' R1 R2 : VR} {n k : Nat}
theorem ev_tpD {m c N : Nat} (h : Ev Z p dl al H0 σ te (TpR K m c (DR K (Sm n k)))) (hN : c * (n + 2) + 3 ≤ N) : Ev Z p dl al H0 σ te (DR K (Sm N (k + 1))) := h.imp fun v G r => (r.data fun x z => z).wide hN (Nat.le_refl _)
theorem ev_lsD {m c N : Nat} (h : Ev Z p dl al H0 σ te (LsR m c (DR K (Sm n k)))) (hN : c * (n + 2) + 3 ≤ N) : Ev Z p dl al H0 σ te (DR K (Sm N (k + 1))) := h.imp fun v G r => (r.data fun x z => z).wide hN (Nat.le_refl _)
theorem ev_len {m c : Nat} (h : Ev Z p dl al H0 σ te (TpR K m c R)) : Ev Z p dl al H0 σ (tCB (fun xs H Q => ∃ p ys, xs = [.ref p] ∧ (SqL K H p ys ∨ SqT K H p ys) ∧ Q (.int ys.length) H) (tCons te tNil)) (IR m c) :=
  fun H Q P k q => h H _ P k fun v H1 P1 k1 ⟨a, xs, e, g, h1, h2, _⟩ => ⟨a, xs, by rw [e], .inr (Same.seqT (hid_same _ _ _) g), q _ _ P1 k1 ⟨_, rfl, by omega, by omega⟩⟩
theorem ev_lenL {m c : Nat} (h : Ev Z p dl al H0 σ te (LsR m c R)) : Ev Z p dl al H0 σ (tCB (fun xs H Q => ∃ p ys, xs = [.ref p] ∧ (SqL K H p ys ∨ SqT K H p ys) ∧ Q (.int ys.length) H) (tCons te tNil)) (IR m c) :=
  fun H Q P k q => h H _ P k fun v H1 P1 k1 ⟨a, xs, e, g, h1, h2, _⟩ => ⟨a, xs, by rw [e], .inl (.inl (.inl (hid_same _ _ _ _ _ g))), q _ _ P1 k1 ⟨_, rfl, by omega, by omega⟩⟩
theorem ev_listOf {m c : Nat} (hm : Mo R) (h : Ev Z p dl al H0 σ te (TpR K m c R)) : Ev Z p dl al H0 σ (tCB (fun xs H Q => ∃ p ys, xs = [.ref p] ∧ (SqL K H p ys ∨ SqT K H p ys) ∧ ∀ l, H l = none → Q (.ref l) (upd H l (.lst ys))) (tCons te tNil)) (LsR m c R) :=
  fun H Q P k q => h H _ P k fun v H1 P1 k1 ⟨a, xs, e, g, h1, h2, h3⟩ => ⟨a, xs, by rw [e], .inr (Same.seqT (hid_same _ _ _) g), fun t nt => by
    obtain ⟨P4, k4, e4⟩ := laid (o := .lst xs) P1 nt
    exact q _ _ P4 (k1.trans k4) ⟨t, xs, rfl, e4, h1, h2, fun x hx => hm _ _ _ k4 (h3 x hx)⟩⟩
theorem ev_tupleOf {m c : Nat} (hm : Mo R) (h : Ev Z p dl al H0 σ te (LsR m c R)) : Ev Z p dl al H0 σ (tCB (fun xs H Q => ∃ p ys, xs = [.ref p] ∧ ((SqL K H p ys ∧ ∀ l, H l = none → Q (.ref l) (upd H l (.tup ys))) ∨ (SqT K H p ys ∧ Q (.ref p) H))) (tCons te tNil)) (TpR K m c R) :=
  fun H Q P k q => h H _ P k fun v H1 P1 k1 ⟨a, xs, e, g, h1, h2, h3⟩ => ⟨a, xs, by rw [e], .inl ⟨.inl (.inl (hid_same _ _ _ _ _ g)), fun t nt => by
    obtain ⟨P4, k4, e4⟩ := laid (o := .tup xs) P1 nt
    exact q _ _ P4 (k1.trans k4) ⟨t, xs, rfl, .inl (.inl e4), h1, h2, fun x hx => hm _ _ _ k4 (h3 x hx)⟩⟩⟩
theorem ev_pair (m1 : Mo R1) (m2 : Mo R2) (h1 : Ev Z p dl al H0 σ ta R1) (h2 : Ev Z p dl al H0 σ tb R2) : EvA Z p dl al H0 σ (tCons ta (tCons tb tNil)) (fun vs G => ∃ v w, vs = [v, w] ∧ R1 v G ∧ R2 w G) :=
  (eva_cons m1 h1 (eva_cons m2 h2 eva_nil)).imp fun vs G ⟨v, r, e, r1, w, r', e', r2, e2⟩ => ⟨v, w, by rw [e, e', e2], r1, r2⟩
theorem ev_i1 {v : V} {i : Nat} {lo hi : Int} (e : σ[i]? = some (some v)) (h : IR lo hi v (hid Z p dl H0)) : Ev Z p dl al H0 σ (tVar i) (IR lo hi) := ev_var e IR.mo h
/-- a bent tuple -/
def sp_bent (K : PySem.W.Frag) (c n k N : Nat) : Sp := fun vs H Q _ => ∃ (Z : Hp) (p dl al : Addr) (v : V), vs = [.ref p, v] ∧ PotAt Z H p dl al ∧ TpR K 0 c (DR K (Sm n k)) v (hid Z p dl H) ∧
  ∀ (x : V) (H' : Hp), PotAt Z H' p dl al → Kp Z p dl H H' → DR K (Sm N (k + 1)) x (hid Z p dl H') → Q x H'
theorem ev_bent {i c N : Nat} (e : σ[i]? = some (some (.ref p))) (h : Ev Z p dl al H0 σ te (TpR K 0 c (DR K (Sm n k)))) : Ev Z p dl al H0 σ (tCall (sp_bent K c n k N) [] E0 (tCons (tVar i) (tCons te tNil))) (DR K (Sm N (k + 1))) :=
  fun H Q P k q => ⟨_, e, h H _ P k fun v H1 P1 k1 r1 => ⟨Z, p, dl, al, v, rfl, P1, r1, fun x H' P' k' r => q x H' P' (k1.trans k') r⟩⟩
end
/-! ### isinstance of data -/
def tyN : PyData → String
  | .none => "NoneType"
  | .bool _ => "bool"
  | .int _ => "int"
  | .str _ => "str"
  | .list _ => "list"
  | .tuple _ => "tuple"
  | .dict _ => "dict"
theorem Dq.ty {K : PySem.W.Frag} {H : Hp} {v : V} {d : PyData} (h : Dq K H v d) : TyX K H v (.type (tyN d)) := by
  cases h with
  | non => exact .base .non
  | bl b => exact .base (.bl b)
  | int i => exact .base (.int i)
  | str x => exact .base (.str x)
  | lst hs _ =>
    rcases hs with (h | ⟨o, h⟩) | ⟨o, its, n, hk, hc, _⟩
    · exact .base (.lst h)
    · exact .base (.frz h)
    · exact .kList hk hc
  | tup hs _ =>
    rcases hs with (h | ⟨o, h⟩) | ⟨o, its, n, hk, hc, _⟩
    · exact .base (.tup h)
    · exact .fTuple h
    · exact .kTuple hk hc
  | dct hs _ => exact .base (.dK hs)
def isI : PyData → Bool | .int _ => true | .bool _ => true | _ => false
def isB : PyData → Bool | .bool _ => true | _ => false
def isT : PyData → Bool | .tuple _ => true | _ => false
def isS : PyData → Bool | .str _ => true | _ => false
theorem kit_i (d : PyData) : kitB (tyN d) "int" = some (isI d) := by cases d <;> simp only [tyN, isI] <;> decide +kernel
theorem kit_b (d : PyData) : kitB (tyN d) "bool" = some (isB d) := by cases d <;> simp only [tyN, isB] <;> decide +kernel
theorem kit_t (d : PyData) : kitB (tyN d) "tuple" = some (isT d) := by cases d <;> simp only [tyN, isT] <;> decide +kernel
theorem kit_s (d : PyData) : kitB (tyN d) "str" = some (isS d) := by cases d <;> simp only [tyN, isS] <;> decide +kernel
theorem isi_d {K : PySem.W.Frag} {H : Hp} {v : V} {d : PyData} {Tn : String} {b : Bool} {Q : VK} (h : Dq K H v d) (hb : kitB (tyN d) Tn = some b) (q : Q (.bl b) H) : rIsi K [v, .ty Tn] H Q :=
  ⟨v, .ty Tn, _, _, b, rfl, .ty Tn, h.ty, kit_ty hb, q⟩
/-- an integer that is no bool -/
def wh : PyData → Bool | .int _ => true | _ => false
theorem wh_eq (d : PyData) : wh d = (isI d && !isB d) := by cases d <;> rfl
def sp_is_whole (K : PySem.W.Frag) : Sp := fun vs H Q _ => ∃ v d, vs = [v] ∧ Dq K H v d ∧ Q (.bl (wh d)) H
/-- so many integers -/
def wt (d : PyData) (m : Int) : Bool := match d with | .tuple ds => decide ((ds.length : Int) = m) && ds.all wh | _ => false
def sp_is_whole_tuple (K : PySem.W.Frag) : Sp := fun vs H Q _ => ∃ v d m, vs = [v, .int m] ∧ Dq K H v d ∧ m ≤ 1000 ∧ ∀ H', Same H H' → Q (.bl (wt d m)) H'
def inW (lo hi : Int) : PyData → Bool | .int i => decide (lo ≤ i) && decide (i ≤ hi) | _ => false
def sp_whole (K : PySem.W.Frag) : Sp := fun vs H Q _ => ∃ v d lo hi, vs = [v, .int lo, .int hi] ∧ Dq K H v d ∧ Q (.bl (inW lo hi d)) H
end Lm

namespace Lm
open PySem PySem.Spec PyProof.Rows L2
/-! ### stretches and logs, as functions of data -/
/-- a stretch that a log may have -/
def stOf : PyData → Option (Int × Int)
  | .tuple [.int a, .int b] => if 0 ≤ a ∧ a < b ∧ b ≤ 2000000000 then some (a, b) else none
  | _ => none
def two (d e : PyData) : PyData := .tuple [d, e]
def logGo : List PyData → Nat → Int → PyData
  | [], _, _ => .none
  | d :: r, i, b => match stOf d with
    | none => two (.int i) (.str "stretch")
    | some (on, off) => if on ≤ b then two (.int i) (.str "order") else logGo r (i + 1) off
def logErr : PyData → PyData
  | .tuple ds => if 60 < ds.length then two .none (.str "log") else logGo ds 0 (-1)
  | _ => two .none (.str "log")
theorem logGo_cons {ds : List PyData} {i : Nat} {b : Int} {d : PyData} (h : ds[i]? = some d) : logGo (ds.drop i) i b = logGo (d :: ds.drop (i + 1)) i b := by
  obtain ⟨hi, e⟩ := List.getElem?_eq_some_iff.mp h
  rw [List.drop_eq_getElem_cons hi, e]
theorem stOf_wt {d : PyData} : (stOf d).isSome = true → ∃ a b, d = .tuple [.int a, .int b] ∧ stOf d = some (a, b) ∧ 0 ≤ a ∧ a < b ∧ b ≤ 2000000000 := by
  unfold stOf
  split
  · rename_i a b
    split
    · rename_i h
      exact fun _ => ⟨a, b, rfl, rfl, h.1, h.2.1, h.2.2⟩
    · intro h; cases h
  · intro h; cases h
theorem sz2 {x y : V} : [x, y].length ≤ sizeLine := Nat.le_of_lt (small1000 (Nat.le_add_left 2 998))
def isN : PyData → Bool | .none => true | _ => false
/-- None, or a new pair of flat things -/
def Flat (K : PySem.W.Frag) (H H' : Hp) (r : V) (e : PyData) : Prop := (r = .non ∧ e = .none) ∨ ∃ t x y dx dy, r = .ref t ∧ H t = none ∧ H' t = some (.tup [x, y]) ∧ e = two dx dy ∧ (∀ G, Dq K G x dx) ∧ (∀ G, Dq K G y dy)
theorem Flat.dq {K : PySem.W.Frag} {H H' : Hp} {r : V} {e : PyData} {Z : Hp} {p dl al : Addr} (h : Flat K H H' r e) (P : PotAt Z H p dl al) : Dq K (hid Z p dl H') r e := by
  rcases h with ⟨rfl, rfl⟩ | ⟨t, x, y, dx, dy, rfl, n, g, rfl, hx, hy⟩
  · exact .non
  · have f := P.free n
    exact .tup (.inl (.inl (by rw [hid_at f.1 f.2]; exact g))) (.cons (hx _) (.cons (hy _) .nil))
def sp_err (K : PySem.W.Frag) (F : PyData → PyData) : Sp := fun vs H Q _ => ∃ v d, vs = [v] ∧ Dq K H v d ∧ ∀ r H', Same H H' → Flat K H H' r (F d) → Q r H'
def sp_is_stretch (K : PySem.W.Frag) : Sp := fun vs H Q _ => ∃ v d, vs = [v] ∧ Dq K H v d ∧ ∀ H', Same H H' → Q (.bl (stOf d).isSome) H'
def sp_bool (K : PySem.W.Frag) (F : PyData → Bool) : Sp := fun vs H Q _ => ∃ v d, vs = [v] ∧ Dq K H v d ∧ ∀ H', Same H H' → Q (.bl (F d)) H'
theorem wt2 {d : PyData} (h : wt d 2 = true) : ∃ a b, d = .tuple [.int a, .int b] := by
  unfold wt at h
  split at h
  · rename_i ds
    simp only [Bool.and_eq_true, decide_eq_true_eq] at h
    obtain ⟨h1, h2⟩ := h
    match ds, h1, h2 with
    | [x, y], _, h2 =>
      simp only [List.all_cons, List.all_nil, Bool.and_true, Bool.and_eq_true] at h2
      cases x <;> cases y <;> first | exact ⟨_, _, rfl⟩ | (simp [wh] at h2)
    | [], h1, _ => exact absurd h1 (by simp)
    | [_], h1, _ => exact absurd h1 (by simp)
    | _ :: _ :: _ :: _, h1, _ => exact absurd h1 (by simp only [List.length_cons]; omega)
  · cases h
theorem wt2_no {d : PyData} (h : wt d 2 = false) : stOf d = none := by
  unfold stOf
  split
  · simp [wt, wh] at h
  · rfl
theorem inW_int {lo hi : Int} {d : PyData} (h : inW lo hi d = true) : ∃ a, d = .int a ∧ lo ≤ a ∧ a ≤ hi := by
  unfold inW at h
  split at h
  · simp only [Bool.and_eq_true, decide_eq_true_eq] at h
    exact ⟨_, rfl, h.1, h.2⟩
  · cases h
theorem stOf_len {ds : List PyData} (h : (ds.length : Int) ≠ 2) : stOf (.tuple ds) = none := by
  unfold stOf
  split
  · rename_i e
    cases e
    exact absurd rfl h
  · rfl
theorem stOf_out {ds : List PyData} (h : ds.all (inW 0 2000000000) = false) : stOf (.tuple ds) = none := by
  cases e : stOf (.tuple ds) with
  | none => rfl
  | some ab =>
    obtain ⟨a, b, e1, _, h1, h2, h3⟩ := stOf_wt (d := .tuple ds) (by rw [e]; rfl)
    cases e1
    have g : (List.all [PyData.int a, PyData.int b] (inW 0 2000000000)) = true := by
      simp only [List.all_cons, List.all_nil, Bool.and_true, inW, Bool.and_eq_true, decide_eq_true_eq]
      omega
    rw [g] at h
    cases h
theorem stOf_in {a b : Int} (h1 : 0 ≤ a) (h2 : b ≤ 2000000000) : (stOf (.tuple [.int a, .int b])).isSome = decide (a < b) := by
  show (if 0 ≤ a ∧ a < b ∧ b ≤ 2000000000 then some (a, b) else none).isSome = _
  by_cases h : a < b
  · rw [if_pos ⟨h1, h, h2⟩, decide_eq_true h]
    rfl
  · rw [if_neg fun z => h z.2.1, decide_eq_false h]
    rfl
/-! ### pairs of numbers; a log that grows -/
def PrAt (G : Hp) : V → Int × Int → Prop := fun v q => ∃ t, v = .ref t ∧ G t = some (.tup [.int q.1, .int q.2])
abbrev Prs (G : Hp) : List V → List (Int × Int) → Prop := PySem.Paired (PrAt G)
def TupKeep (G G' : Hp) : Prop := ∀ t ys, G t = some (.tup ys) → G' t = some (.tup ys)
theorem TupKeep.of {G G' : Hp} (s : Same G G') : TupKeep G G' := fun t ys e => s _ _ e
theorem Prs.keep {G G' : Hp} (s : TupKeep G G') {xs : List V} {ps : List (Int × Int)} (h : Prs G xs ps) : Prs G' xs ps := Paired.mapP h fun a b ⟨t, e, g⟩ => ⟨t, e, s _ _ g⟩
theorem Prs.app {G : Hp} : ∀ {xs ys : List V} {ps qs : List (Int × Int)}, Prs G xs ps → Prs G ys qs → Prs G (xs ++ ys) (ps ++ qs)
  | _, _, _, _, .nil, s => s
  | _, _, _, _, .cons r t, s => .cons r (Prs.app t s)
theorem Prs.get {G : Hp} : ∀ {xs : List V} {ps : List (Int × Int)} {i : Nat} {v : V}, Prs G xs ps → xs[i]? = some v → ∃ q, ps[i]? = some q ∧ PrAt G v q
  | _, _, _, _, .nil, e => by simp at e
  | _, _, 0, _, .cons r _, e => by simp at e; subst e; exact ⟨_, rfl, r⟩
  | _, _, i + 1, v, .cons _ t, e => by
    obtain ⟨u, h1, h2⟩ := Prs.get (i := i) (v := v) t (by simpa using e)
    exact ⟨u, by simpa using h1, h2⟩
/-- it grows from b on -/
def LogUp (b : Int) : List (Int × Int) → Prop
  | [] => True
  | q :: r => b < q.1 ∧ q.1 < q.2 ∧ LogUp q.2 r
def fin (b : Int) : List (Int × Int) → Int
  | [] => b
  | q :: r => fin q.2 r
def LogOk (b : Int) (ps : List (Int × Int)) : Prop := LogUp b ps ∧ ∀ q ∈ ps, q.2 ≤ 2000000000
theorem LogUp.app : ∀ {b : Int} {ps : List (Int × Int)} {q : Int × Int}, LogUp b ps → fin b ps < q.1 → q.1 < q.2 → LogUp b (ps ++ [q]) ∧ fin b (ps ++ [q]) = q.2
  | b, [], q, _, h1, h2 => ⟨⟨h1, h2, trivial⟩, rfl⟩
  | b, x :: r, q, h, h1, h2 => by
    obtain ⟨a1, a2, a3⟩ := h
    obtain ⟨c1, c2⟩ := LogUp.app (q := q) a3 h1 h2
    exact ⟨⟨a1, a2, c1⟩, c2⟩
theorem LogUp.less : ∀ {b c : Int} {ps : List (Int × Int)}, c ≤ b → LogUp b ps → LogUp c ps
  | _, _, [], _, _ => trivial
  | b, c, q :: r, h, ⟨a1, a2, a3⟩ => ⟨by omega, a2, a3⟩
theorem LogUp.filt : ∀ {b : Int} {ps : List (Int × Int)}, LogUp b ps → LogUp b (ps.filter fun q => decide (q.2 ≤ 2000000000))
  | _, [], _ => trivial
  | b, q :: r, ⟨a1, a2, a3⟩ => by
    have ih := LogUp.filt a3
    rw [List.filter_cons]
    split
    · exact ⟨a1, a2, ih⟩
    · exact LogUp.less (by omega) ih
theorem LogUp.bound : ∀ {b : Int} {ps : List (Int × Int)}, LogUp b ps → ∀ q ∈ ps, b < q.1 ∧ q.1 < q.2
  | _, [], _, q, h => nomatch h
  | b, x :: r, ⟨a1, a2, a3⟩, q, h => by
    rcases List.mem_cons.mp h with e | e
    · rw [e]; exact ⟨a1, a2⟩
    · have := LogUp.bound a3 q e
      exact ⟨by omega, this.2⟩
/-- a tuple of such pairs -/
def PairsR (K : PySem.W.Frag) (ps : List (Int × Int)) : VR := fun v G => ∃ a xs, v = .ref a ∧ G a = some (.tup xs) ∧ Prs G xs ps
theorem PairsR.mo {K : PySem.W.Frag} {ps : List (Int × Int)} : Mo (PairsR K ps) := fun v G G' s ⟨a, xs, e, g, r⟩ => ⟨a, xs, e, s _ _ g, r.keep (.of s)⟩
def LogR (K : PySem.W.Frag) (n : Nat) : VR := fun v G => ∃ ps, PairsR K ps v G ∧ ps.length ≤ n ∧ LogOk (-1) ps
theorem LogR.mo {K : PySem.W.Frag} {n : Nat} : Mo (LogR K n) := fun v G G' s ⟨ps, h, r⟩ => ⟨ps, PairsR.mo _ _ _ s h, r⟩
def pD (q : Int × Int) : PyData := two (.int q.1) (.int q.2)
theorem Prs.dqs {K : PySem.W.Frag} {G : Hp} : ∀ {xs : List V} {ps : List (Int × Int)}, Prs G xs ps → Dqs K G xs (ps.map pD)
  | _, _, .nil => .nil
  | _, _, .cons ⟨t, e, g⟩ r => by
    subst e
    exact .cons (.tup (.inl (.inl g)) (.cons (.int _) (.cons (.int _) .nil))) (Prs.dqs r)
theorem Prs.dp {K : PySem.W.Frag} {G : Hp} : ∀ {xs : List V} {ps : List (Int × Int)}, Prs G xs ps → DpAll K G xs (ps.map pD)
  | _, _, .nil => .nil
  | _, _, .cons ⟨t, e, g⟩ r => by
    subst e
    exact .cons (.tup (.inl (.inl g)) (.cons (.int _) (.cons (.int _) .nil))) (Prs.dp r)
theorem Prs.len {G : Hp} {xs : List V} {ps : List (Int × Int)} (h : Prs G xs ps) : xs.length = ps.length := Paired.length h
theorem pD_sm {q : Int × Int} (h1 : q.1.natAbs < 10 ^ 12) (h2 : q.2.natAbs < 10 ^ 12) : Sm 33 1 (pD q) := Sm.tuple (c := 2) (n := 13) (k := 0) (ds := [.int q.1, .int q.2]) (fun d hd => by
    rcases List.mem_cons.mp hd with e | e
    · rw [e]; exact Sm.int h1
    · rw [List.mem_singleton.mp e]; exact Sm.int h2) (Nat.le_refl 2)
theorem LogR.tp {K : PySem.W.Frag} {n : Nat} {v : V} {G : Hp} (h : LogR K n v G) : TpR K 0 n (TpR K 0 2 (DR K (Sm 13 0))) v G := by
  obtain ⟨ps, ⟨a, xs, rfl, g, pr⟩, hl, hu, hb⟩ := h
  refine ⟨a, xs, rfl, .inl (.inl g), Nat.zero_le _, by rw [pr.len]; exact hl, fun x hx => ?_⟩
  obtain ⟨i, hi⟩ := List.getElem?_of_mem hx
  obtain ⟨q, hq, t, rfl, gt⟩ := pr.get hi
  have hm := List.mem_of_getElem? hq
  have b1 := hu.bound q hm
  have b2 := hb q hm
  refine ⟨t, _, rfl, .inl (.inl gt), Nat.zero_le _, Nat.le_refl 2, fun y hy => ?_⟩
  rcases List.mem_cons.mp hy with e | e
  · rw [e]; exact ⟨_, .int _, Sm.int (by omega)⟩
  · rw [List.mem_singleton.mp e]; exact ⟨_, .int _, Sm.int (by omega)⟩
theorem LogR.tpD {K : PySem.W.Frag} {n : Nat} {v : V} {G : Hp} (h : LogR K n v G) : TpR K 0 n (DR K (Sm 60 3)) v G := by
  obtain ⟨a, xs, e, g, h1, h2, h3⟩ := h.tp
  exact ⟨a, xs, e, g, h1, h2, fun x hx => ((h3 x hx).data fun y hy => hy).wide (by decide) (by decide)⟩
def sp_log (K : PySem.W.Frag) : Sp := fun vs H Q _ => ∃ (Z : Hp) (p dl al : Addr) (u g : Int), vs = [.ref p, .int u, .int g] ∧ PotAt Z H p dl al ∧ 0 ≤ u ∧ u ≤ 60 ∧ 1 ≤ g ∧ g ≤ 10000000 ∧
  ∀ (x : V) (H' : Hp), PotAt Z H' p dl al → Kp Z p dl H H' → LogR K u.toNat x (hid Z p dl H') → Q x H'
theorem Kp.upd_new {Z : Hp} {p dl f : Addr} {H H1 : Hp} {o : HO} (P : ∀ b, H b ≠ none → b ≠ f) (k : Kp Z p dl H H1) : Kp Z p dl H (upd H1 f o) := fun b u e => by
  have n := hid_some e
  have e1 := k b u e
  rw [hid_at n.1 n.2] at e1 ⊢
  rw [upd_ne]
  · exact e1
  · refine P b ?_
    rw [hid_at n.1 n.2] at e
    rw [e]
    exact fun z => nomatch z
theorem ne_of_new {H : Hp} {f : Addr} (n : H f = none) : ∀ b, H b ≠ none → b ≠ f := fun b h e => h (by rw [e]; exact n)
theorem hid_get {Z : Hp} {p dl b : Addr} {H : Hp} {o : HO} (h1 : b ≠ p) (h2 : b ≠ dl ∧ Z b = none) (h : H b = some o) : hid Z p dl H b = some o := by rw [hid_at h1 h2]; exact h
theorem PotAt.upd {H : Hp} {Z : Hp} {p dl al f : Addr} {o : HO} (h : PotAt Z H p dl al) (h1 : f ≠ p) (h2 : f ≠ dl) (h3 : f ≠ al) (h4 : Z f = none) : PotAt Z (upd H f o) p dl al :=
  ⟨let ⟨t, e⟩ := h.ob; ⟨t, by rw [upd_ne h1.symm]; exact e⟩, let ⟨ns, e, l⟩ := h.de; ⟨ns, by rw [upd_ne h2.symm]; exact e, l⟩, let ⟨ns, e, l⟩ := h.li; ⟨ns, by rw [upd_ne h3.symm]; exact e, l⟩, h.ne, zz_upd h.zz h4, h.zp, h.zd⟩
theorem PotAt.freeA {H : Hp} {Z : Hp} {p dl al q : Addr} (h : PotAt Z H p dl al) (n : H q = none) : q ≠ al := by
  obtain ⟨ns, e2, _⟩ := h.li
  exact (ne_of_none e2 n).symm
end Lm

namespace Lm
open PySem PySem.Spec PyProof.Rows L2
section
variable {K : PySem.W.Frag} {Z : Hp} {p dl al : Addr} {H0 : Hp} {σ : L2.St} {g : Int}
theorem ev_gvar {i : Nat} (e : σ[i]? = some (some (.int g))) (h0 : 1 ≤ g) (h1 : g ≤ 10000000) : Ev Z p dl al H0 σ (tVar i) (IR 1 10000000) := ev_var e IR.mo ⟨g, rfl, h0, h1⟩
theorem ev_size (e0 : σ[0]? = some (some (.ref p))) (e2 : σ[2]? = some (some (.int g))) (h0 : 1 ≤ g) (h1 : g ≤ 10000000) :
    Ev Z p dl al H0 σ (tCall sp_one [] E0 (tCons (tVar 0) (tCons (tLst (tCons (tC (.int 1)) (tCons (tC (.int 2)) (tCons (tOp (rI0 fun i j => .int (i + j)) (tC (.int 1)) (tCall sp_draw [] E0 (tCons (tVar 0) (tCons (tC (.int 20)) tNil))))
      (tCons (tOp (rI0 fun i j => .int (i + j)) (tC (.int 1)) (tCall sp_draw [] E0 (tCons (tVar 0) (tCons (tVar 2) tNil)))) tNil))))) tNil))) (IR 1 10000000) :=
  ev_one (m := 3) (n := 4) e0 (by decide) IR.mo (ev_lst (by decide) IR.mo (eall_cons IR.mo (ev_int.wide (by decide) (by decide)) (eall_cons IR.mo (ev_int.wide (by decide) (by decide))
    (eall_cons IR.mo ((ev_add ev_int (ev_draw (b := 20) e0 (by decide) (ev_int.wide (by decide) (by decide)))).wide (by decide) (by decide))
      (eall_cons IR.mo ((ev_add ev_int (ev_draw (b := 10000000) e0 (by decide) (ev_gvar e2 h0 h1))).wide (by decide) (by decide)) eall_nil)))))
theorem ev_upto {u : Int} (e0 : σ[0]? = some (some (.ref p))) (e1 : σ[1]? = some (some (.int u))) (h0 : 0 ≤ u) (h1 : u ≤ 60) :
    Ev Z p dl al H0 σ (tCall sp_draw [] E0 (tCons (tVar 0) (tCons (tOp (rI0 fun i j => .int (i + j)) (tVar 1) (tC (.int 1))) tNil))) (IR 0 u) :=
  (ev_draw (b := u + 1) e0 (by omega) ((ev_add (ev_var (R := IR 0 u) e1 IR.mo ⟨u, rfl, h0, Int.le_refl _⟩) ev_int).wide (by omega) (by omega))).wide (by omega) (by omega)
theorem ev_start (e0 : σ[0]? = some (some (.ref p))) (e2 : σ[2]? = some (some (.int g))) (h0 : 1 ≤ g) (h1 : g ≤ 10000000) :
    Ev Z p dl al H0 σ (tCall sp_one [] E0 (tCons (tVar 0) (tCons (tLst (tCons (tC (.int 0)) (tCons (tC (.int 1)) (tCons (tCall sp_draw [] E0 (tCons (tVar 0) (tCons (tVar 2) tNil))) tNil)))) tNil))) (IR 0 10000000) :=
  ev_one (m := 2) (n := 3) e0 (by decide) IR.mo (ev_lst (by decide) IR.mo (eall_cons IR.mo (ev_int.wide (by decide) (by decide)) (eall_cons IR.mo (ev_int.wide (by decide) (by decide))
    (eall_cons IR.mo ((ev_draw (b := 10000000) e0 (by decide) (ev_gvar e2 h0 h1)).wide (by decide) (by decide)) eall_nil))))
end
theorem s_ifn {D : Ends} {σ : L2.St} {H : Hp} {c : TT} {t u : TS} (h : c σ H fun b H1 => if b = true then t { D with nx := u D } σ H1 else u D σ H1) : tSeq (tIfS c t tNext) u D σ H := h
theorem s_asg {D : Ends} {σ : L2.St} {H : Hp} {te : TE} {g : TG} {u : TS} (h : te σ H fun x H1 => g x σ H1 (u D)) : tSeq (tAsg te g) u D σ H := h
theorem two_of {xs : List V} (h1 : 2 ≤ xs.length) (h2 : xs.length ≤ 2) : ∃ x y, xs = [x, y] := by
  match xs, h1, h2 with
  | [x, y], _, _ => exact ⟨x, y, rfl⟩
theorem dI {K : PySem.W.Frag} {Z : Hp} {p dl al : Addr} {H0 : Hp} {σ : L2.St} {te : TE} {lo hi : Int} (h : Ev Z p dl al H0 σ te (IR lo hi)) (h1 : -999999999999 ≤ lo) (h2 : hi ≤ 999999999999) : Ev Z p dl al H0 σ te (DR K (Sm 30 1)) :=
  ev_wide (ev_ir h h1 h2) (by decide) (by decide)
theorem ixK {X : Cx} {K : PySem.W.Frag} (h : X.K = K) : IxR X (rIxT K) := h ▸ ix_tup
/-- what a for over range(..) asks -/
def RngGo (g : TG) (tb : TS) (D : Ends) (σ : L2.St) : List V → Hp → Prop := fun vs H1 => ∃ j : Int, vs = [.int j] ∧ -(2 ^ 62) ≤ j ∧ j < 2 ^ 62 ∧ ∃ W : Nat → Nat → L2.St → Hp → Prop, (∃ m, W 0 m σ H1) ∧ ∀ i m σ H, W i m σ H →
  ((Itr 0 j.toNat).stop i H ∧ D.nx σ H) ∨ ((Itr 0 j.toNat).go i H ∧ ∃ N : L2.St → Hp → Prop, (∀ σ' H', N σ' H' → ∃ m', m' < m ∧ W (i + 1) m' σ' H') ∧ ∀ x H', (Itr 0 j.toNat).yld i H x H' → g x σ H' fun σ2 H2 => tb { D with nx := N, ct := N, bk := D.nx } σ2 H2)
theorem s_rng {D : Ends} {σ : L2.St} {H : Hp} {ta : TA} {g : TG} {tb u : TS} (h : ta σ H (RngGo g tb { D with nx := u D } σ)) : tSeq (tFor (iRng1 ta) g tb) u D σ H := h
theorem s_rng1 {D : Ends} {σ : L2.St} {H : Hp} {ta : TA} {g : TG} {tb : TS} (h : ta σ H (RngGo g tb D σ)) : tFor (iRng1 ta) g tb D σ H := h
/-- one more pair at the end of a list that stands apart -/
theorem app_pair {Z : Hp} {p dl al f t : Addr} {H H3 : Hp} {xs : List V} {ps : List (Int × Int)} {a b : Int} (P : PotAt Z H p dl al) (nf : H f = none) (P3 : PotAt Z H3 p dl al) (k3 : Kp Z p dl H H3)
    (hf : H3 f = some (.lst xs)) (hp : Prs (hid Z p dl H3) xs ps) (nt : H3 t = none) :
    let H4 := upd (upd H3 t (.tup [.int a, .int b])) f (.lst (xs ++ [.ref t]))
    PotAt Z H4 p dl al ∧ Kp Z p dl H H4 ∧ H4 f = some (.lst (xs ++ [.ref t])) ∧ Prs (hid Z p dl H4) (xs ++ [.ref t]) (ps ++ [(a, b)]) := by
  intro H4
  have f1 := P.free nf
  have f2 := P.freeA nf
  have t1 := P3.free nt
  have tf : t ≠ f := fun e => by rw [← e, nt] at hf; cases hf
  refine ⟨(P3.new nt).upd f1.1 f1.2.1 f2 f1.2.2, Kp.upd_new (ne_of_new nf) (k3.trans (Kp.new nt)), upd_same, ?_⟩
  have tk : TupKeep (hid Z p dl H3) (hid Z p dl H4) := fun c ys e => by
    have n := hid_some e
    rw [hid_at n.1 n.2] at e ⊢
    have cf : c ≠ f := fun z => by rw [z, hf] at e; cases e
    have ct : c ≠ t := fun z => by rw [z, nt] at e; cases e
    show upd (upd H3 t _) f _ c = _
    rw [upd_ne cf, upd_ne ct]
    exact e
  refine Prs.app (hp.keep tk) (.cons ⟨t, rfl, ?_⟩ .nil)
  rw [hid_at t1.1 t1.2]
  show upd (upd H3 t _) f _ t = _
  rw [upd_ne tf, upd_same]
theorem atI_in {α : Type} {xs : List α} {i : Int} (h1 : -(xs.length : Int) ≤ i) (h2 : i < xs.length) : ∃ v, v ∈ xs ∧ atI xs i = some v := by
  unfold atI ixN
  by_cases h0 : 0 ≤ i
  · rw [if_pos h0, if_pos h2]
    have lt : i.toNat < xs.length := by omega
    exact ⟨xs[i.toNat], List.getElem_mem lt, List.getElem?_eq_getElem lt⟩
  · rw [if_neg h0, if_pos h1]
    have lt : (i + xs.length).toNat < xs.length := by omega
    exact ⟨xs[(i + xs.length).toNat], List.getElem_mem lt, List.getElem?_eq_getElem lt⟩
section
variable {K : PySem.W.Frag} {Z : Hp} {p dl al : Addr} {H0 : Hp} {σ : L2.St} {te ti : TE} {R : VR}
theorem ev_ixT {m c : Nat} {lo up : Int} (hm : Mo R) (h : Ev Z p dl al H0 σ te (TpR K m c R)) (hi : Ev Z p dl al H0 σ ti (IR lo up)) (h1 : -(m : Int) ≤ lo) (h2 : up < (m : Int)) : Ev Z p dl al H0 σ (tOp (rIxT K) te ti) R :=
  fun H Q P k q => h H _ P k fun x H1 P1 k1 r1 => hi H1 _ P1 (k.trans k1) fun y H2 P2 k2 ⟨i, e, i1, i2⟩ => by
    obtain ⟨a, xs, rfl, g, l1, l2, l3⟩ := TpR.mo hm _ _ _ k2 r1
    obtain ⟨v, hv, ev⟩ := atI_in (xs := xs) (i := i) (by omega) (by omega)
    exact ⟨a, xs, i, v, rfl, e, Same.seqT (hid_same _ _ _) g, ev, q _ _ P2 (k1.trans k2) (l3 v hv)⟩
end
theorem PairsR.tpI {K : PySem.W.Frag} {ps : List (Int × Int)} {v : V} {G : Hp} (h : PairsR K ps v G) (o : LogOk (-1) ps) : TpR K ps.length ps.length (TpR K 2 2 (IR 0 2000000000)) v G := by
  obtain ⟨a, xs, rfl, g, pr⟩ := h
  obtain ⟨hu, hb⟩ := o
  refine ⟨a, xs, rfl, .inl (.inl g), by rw [pr.len]; exact Nat.le_refl _, by rw [pr.len]; exact Nat.le_refl _, fun x hx => ?_⟩
  obtain ⟨i, hi⟩ := List.getElem?_of_mem hx
  obtain ⟨q, hq, t, rfl, gt⟩ := pr.get hi
  have hm := List.mem_of_getElem? hq
  have b1 := hu.bound q hm
  have b2 := hb q hm
  refine ⟨t, _, rfl, .inl (.inl gt), Nat.le_refl 2, Nat.le_refl 2, fun y hy => ?_⟩
  rcases List.mem_cons.mp hy with e | e
  · exact ⟨_, e, by omega, by omega⟩
  · exact ⟨_, List.mem_singleton.mp e, by omega, by omega⟩
theorem LogR.tpI {K : PySem.W.Frag} {n : Nat} {v : V} {G : Hp} (h : LogR K n v G) : ∃ L : Nat, L ≤ n ∧ TpR K L L (TpR K 2 2 (IR 0 2000000000)) v G :=
  let ⟨ps, hp, hl, ho⟩ := h
  ⟨ps.length, hl, hp.tpI ho⟩
theorem pair_data {K : PySem.W.Frag} {v : V} {G : Hp} (h : TpR K 2 2 (IR 0 2000000000) v G) : DR K (Sm 33 1) v G := h.data (n := 13) (k := 0) fun x hx => ir_data hx (by decide) (by decide)
theorem TpR.weak {K : PySem.W.Frag} {m c m' c' : Nat} {R R' : VR} {v : V} {G : Hp} (h : TpR K m c R v G) (h1 : m' ≤ m) (h2 : c ≤ c') (i : ∀ x, R x G → R' x G) : TpR K m' c' R' v G := by
  obtain ⟨a, xs, e, g, l1, l2, l3⟩ := h
  exact ⟨a, xs, e, g, Nat.le_trans h1 l1, Nat.le_trans l2 h2, fun x hx => i x (l3 x hx)⟩
theorem pD_lay : ∀ ps : List (Int × Int), PyData.canLayAll0 (ps.map pD) = true
  | [] => by simp [PyData.canLayAll0]
  | q :: r => by
    simp only [List.map_cons, PyData.canLayAll0, pD_lay r, Bool.and_true]
    simp [pD, two, PyData.canLay0, PyData.canLayAll0]
theorem pD_depth : ∀ ps : List (Int × Int), PyData.depthAll (ps.map pD) ≤ 1
  | [] => by simp [PyData.depthAll]
  | q :: r => by
    simp only [List.map_cons, PyData.depthAll]
    refine Nat.max_le.mpr ⟨?_, pD_depth r⟩
    simp [pD, two, PyData.depth, PyData.depthAll]
theorem pD_shaped (ps : List (Int × Int)) : SeqAt.shaped (.tuple (ps.map pD)) = true := by
  unfold SeqAt.shaped
  simp only [PyData.canLay0, pD_lay, PyData.depth, Bool.true_and]
  exact decide_eq_true (Nat.le_trans (Nat.succ_le_succ (pD_depth ps)) (show 2 ≤ 64 by decide))
theorem pD_eqv (ps : List (Int × Int)) : PyData.eqv (.tuple (ps.map pD)) (.tuple []) = ps.isEmpty := by
  cases ps <;> simp [PyData.eqv, PyData.eqvAll]
def sp_spoilt (K : PySem.W.Frag) : Sp := fun vs H Q _ => ∃ (Z : Hp) (p dl al : Addr) (v : V), vs = [.ref p, v] ∧ PotAt Z H p dl al ∧ LogR K 60 v (hid Z p dl H) ∧
  ∀ (x : V) (H' : Hp), PotAt Z H' p dl al → Kp Z p dl H H' → DR K (Sm 53122 5) x (hid Z p dl H') → Q x H'
end Lm

namespace Lm
open PySem PySem.Spec PyProof.Rows L2
/-! ### a list that grows while the pot is used -/
section
variable {Z H H' : Hp} {p dl al D : Addr} {o o' o2 : HO}
theorem PotAt.hide (P : PotAt Z H p dl al) (e : H D = some o) (h1 : D ≠ p) (h2 : D ≠ dl) : PotAt (L2.upd Z D o) H p dl al :=
  ⟨P.ob, P.de, P.li, P.ne, fun b x z => by
    by_cases q : b = D
    · rw [q, upd_same] at z
      rw [q, e]; exact z
    · rw [upd_ne q] at z
      exact P.zz b x z, by rw [upd_ne h1.symm]; exact P.zp, by rw [upd_ne h2.symm]; exact P.zd⟩
theorem PotAt.bare (P : PotAt (L2.upd Z D o) H p dl al) (n : Z D = none) : PotAt Z H p dl al := by
  have hp : D ≠ p := fun e => by have := P.zp; rw [← e, upd_same] at this; cases this
  have hd : D ≠ dl := fun e => by have := P.zd; rw [← e, upd_same] at this; cases this
  refine ⟨P.ob, P.de, P.li, P.ne, fun b x z => ?_, ?_, ?_⟩
  · have q : b ≠ D := ne_of_none z n
    exact P.zz b x (by rw [upd_ne q]; exact z)
  · have := P.zp; rw [upd_ne hp.symm] at this; exact this
  · have := P.zd; rw [upd_ne hd.symm] at this; exact this
theorem hid_hide : Same (hid (upd Z D o) p dl H) (hid Z p dl H) := fun b x e => by
  have n := hid_some e
  rw [hid_at n.1 n.2] at e
  have q : b ≠ D := fun q => by have := n.2.2; rw [q, upd_same] at this; cases this
  have z := n.2.2
  rw [upd_ne q] at z
  rw [hid_at n.1 ⟨n.2.1, z⟩]
  exact e
theorem hid_swap : Same (hid (upd Z D o) p dl H) (hid (upd Z D o') p dl (upd H D o2)) := fun b x e => by
  have n := hid_some e
  rw [hid_at n.1 n.2] at e
  have q : b ≠ D := fun q => by have := n.2.2; rw [q, upd_same] at this; cases this
  have z := n.2.2
  rw [upd_ne q] at z
  rw [hid_at n.1 ⟨n.2.1, by rw [upd_ne q]; exact z⟩, upd_ne q]
  exact e
theorem hid_new2 (n : H D = none) : Same (hid Z p dl H) (hid (upd Z D o) p dl (upd H D o2)) := fun b x e => by
  have m := hid_some e
  rw [hid_at m.1 m.2] at e
  have q : b ≠ D := ne_of_none e n
  rw [hid_at m.1 ⟨m.2.1, by rw [upd_ne q]; exact m.2.2⟩, upd_ne q]
  exact e
end
theorem ev_lcR {Z : Hp} {p dl al : Addr} {H0 : Hp} {σ : L2.St} {te : TE} {R : VR} {v : Nat} {j : Int} (j0 : 0 ≤ j) (j1 : j ≤ 1000) (hm : Mo R)
    (hT : ∀ (Z' H1 : Hp) (x : V), PotAt Z' H1 p dl al → Same (hid Z p dl H0) (hid Z' p dl H1) → Ev Z' p dl al H1 ((wipe σ [v]).set v (some x)) te R) :
    Ev Z p dl al H0 σ (tLc (iRng1 (tCons (tC (.int j)) tNil)) (gName v) tYes te [v]) (LsR j.toNat j.toNat R) := fun H Q P k q => by
  refine ⟨j, rfl, by omega, by omega, fun D nD => ?_⟩
  have f := P.free nD
  have fa := P.freeA nD
  refine lc_range (fun i Hj => ∃ acc, PotAt (upd Z D (.lst acc)) Hj p dl al ∧ acc.length = i ∧ (∀ x ∈ acc, R x (hid (upd Z D (.lst acc)) p dl Hj)) ∧ Same (hid Z p dl H) (hid (upd Z D (.lst acc)) p dl Hj)) ⟨[], (P.new nD).hide upd_same f.1 f.2.1, rfl, (fun x hx => nomatch hx), hid_new2 nD⟩ ?_ ?_
  · rintro i Hj hi ⟨acc, Pj, la, ra, sj⟩
    refine ⟨?_, yes_if ?_⟩
    · simp only [wipe, List.set_set]
    · refine hT _ Hj _ Pj (Same.trans k sj) Hj _ Pj (Kp.refl _ _ _) fun y H4 P4 k4 r4 => ⟨acc, P4.zz _ _ upd_same, small1000 (by omega), acc ++ [y], ?_, by rw [List.length_append, la]; rfl, fun x hx => ?_, (Same.trans sj k4).trans hid_swap⟩
      · exact ((P4.bare f.2.2).upd f.1 f.2.1 fa f.2.2).hide upd_same f.1 f.2.1
      · rcases List.mem_append.mp hx with e | e
        · exact hm _ _ _ (Same.trans k4 hid_swap) (ra x e)
        · rw [List.mem_singleton.mp e]
          exact hm _ _ _ hid_swap r4
  · rintro Hn ⟨acc, Pn, la, ra, sn⟩
    have e := Pn.zz _ _ upd_same
    refine q _ Hn (Pn.bare f.2.2) (sn.trans hid_hide) ⟨D, acc, rfl, by rw [hid_at f.1 f.2]; exact e, by omega, by omega, fun x hx => hm _ _ _ hid_hide (ra x hx)⟩
section
variable {K : PySem.W.Frag} {Z : Hp} {p dl al : Addr} {H0 : Hp} {σ : L2.St} {te : TE}
theorem ev_spoilt {i j : Nat} {v : V} (e : σ[i]? = some (some (.ref p))) (ej : σ[j]? = some (some v)) (hv : LogR K 60 v (hid Z p dl H0)) : Ev Z p dl al H0 σ (tCall (sp_spoilt K) [] E0 (tCons (tVar i) (tCons (tVar j) tNil))) (DR K (Sm 53122 5)) :=
  fun H Q P k q => ⟨_, e, _, ej, Z, p, dl, al, v, rfl, P, LogR.mo _ _ _ k hv, fun x H' P' k' r => q x H' P' k' r⟩
theorem ev_log {i : Nat} {u : Int} (e : σ[i]? = some (some (.ref p))) (h0 : 0 ≤ u) (h1 : u ≤ 60) (h : Ev Z p dl al H0 σ te (IR 1 10000000)) : Ev Z p dl al H0 σ (tCall (sp_log K) [] E0 (tCons (tVar i) (tCons (tC (.int u)) (tCons te tNil)))) (LogR K u.toNat) :=
  fun H Q P k q => ⟨_, e, h H _ P k fun v H1 P1 k1 ⟨g, eg, g0, g1⟩ => ⟨Z, p, dl, al, u, g, by rw [eg]; rfl, P1, h0, h1, g0, g1, fun x H' P' k' r => q x H' P' (k1.trans k') r⟩⟩
end
theorem LogR.tpD1 {K : PySem.W.Frag} {n : Nat} {v : V} {G : Hp} (h : LogR K n v G) : TpR K 0 n (DR K (Sm 33 1)) v G :=
  let ⟨L, hL, t⟩ := h.tpI
  t.weak (Nat.zero_le _) hL fun x hx => pair_data hx
theorem Prs.tpD1 {K : PySem.W.Frag} {n : Nat} {a : Addr} {xs : List V} {ps : List (Int × Int)} {G : Hp} (g : G a = some (.tup xs)) (h : Prs G xs ps) (hl : ps.length ≤ n) (hb : ∀ q ∈ ps, q.1.natAbs < 10 ^ 12 ∧ q.2.natAbs < 10 ^ 12) : TpR K 0 n (DR K (Sm 33 1)) (.ref a) G := by
  refine ⟨a, xs, rfl, .inl (.inl g), Nat.zero_le _, by rw [h.len]; exact hl, fun x hx => ?_⟩
  obtain ⟨i, hi⟩ := List.getElem?_of_mem hx
  obtain ⟨q, hq, t, rfl, gt⟩ := h.get hi
  have b := hb q (List.mem_of_getElem? hq)
  exact ⟨_, .tup (.inl (.inl gt)) (.cons (.int _) (.cons (.int _) .nil)), pD_sm b.1 b.2⟩
/-! ### how long a fault's text is -/
theorem two_sm {i : Nat} (h : i < 1000) (x : Str) (hx : Sm 20 0 (.str x)) : Sm 60 1 (two (.int i) (.str x)) :=
  (Sm.tuple (c := 2) (n := 20) (k := 0) (ds := [.int i, .str x]) (fun d hd => by
    rcases List.mem_cons.mp hd with e | e
    · rw [e]; exact (Sm.int (by omega)).wide (by decide) (by decide)
    · rw [List.mem_singleton.mp e]; exact hx) (Nat.le_refl 2)).wide (by decide) (by decide)
theorem logGo_sm : ∀ (ds : List PyData) (i : Nat) (b : Int), i + ds.length ≤ 60 → Sm 60 1 (logGo ds i b)
  | [], _, _, _ => show Sm 60 1 .none from sm_chk (by decide +kernel)
  | d :: r, i, b, h => by
    simp only [List.length_cons] at h
    simp only [logGo]
    split
    · exact two_sm (by omega) _ (sm_chk (by decide +kernel))
    · split
      · exact two_sm (by omega) _ (sm_chk (by decide +kernel))
      · exact logGo_sm r (i + 1) _ (by omega)
theorem logErr_sm (d : PyData) : Sm 60 1 (logErr d) := by
  have e0 : Sm 60 1 (two .none (.str "log")) := sm_chk (by decide +kernel)
  unfold logErr
  split
  · split
    · exact e0
    · exact logGo_sm _ _ _ (by omega)
  · exact e0
theorem pair_fine {d : PyData} (h : Sm 60 1 d) (b : Bool) : Fine (.list [d, .bool b]) :=
  (Sm.list (c := 2) (n := 60) (k := 1) (ds := [d, .bool b]) (fun e he => by
    rcases List.mem_cons.mp he with z | z
    · rw [z]; exact h
    · rw [List.mem_singleton.mp z]; cases b <;> exact sm_chk (by decide +kernel)) (Nat.le_refl 2)).fine (by decide) (by decide)
theorem Flat.dq0 {K : PySem.W.Frag} {H H' : Hp} {r : V} {e : PyData} (h : Flat K H H' r e) : Dq K H' r e := by
  rcases h with ⟨rfl, rfl⟩ | ⟨t, x, y, dx, dy, rfl, n, g, rfl, hx, hy⟩
  · exact .non
  · exact .tup (.inl (.inl g)) (.cons (hx _) (.cons (hy _) .nil))
theorem Flat.isN {K : PySem.W.Frag} {H H' : Hp} {r : V} {e : PyData} (h : Flat K H H' r e) : decide (r = .non) = Lm.isN e := by
  rcases h with ⟨rfl, rfl⟩ | ⟨t, x, y, dx, dy, rfl, _, _, rfl, _, _⟩ <;> rfl
def sp_law (K : PySem.W.Frag) : Sp := fun vs H Q _ => ∃ (a : Addr) (ns : List Int), vs = [.ref a] ∧ SqL K H a (ns.map V.int) ∧ ns.length ≤ 63 ∧ ∀ H', Q (.bl true) H'
theorem sp_law_ok (K : PySem.W.Frag) (H : Hp) (a : Addr) (ns : List Int) (hl : ns.length ≤ 63) (_ : Only H) (hS : SqL K H a (ns.map V.int)) : sp_law K [.ref a] H (fun v _ => v = .bl true) fun _ _ _ => False :=
  ⟨a, ns, rfl, hS, hl, fun _ => rfl⟩
/-- what a for over a list asks -/
def LstGo (K : PySem.W.Frag) (g : TG) (tb : TS) (D : Ends) (σ : L2.St) : VK := fun x H1 => ∃ a, x = .ref a ∧ (∃ xs, SqL K H1 a xs) ∧ ∃ W : Nat → Nat → L2.St → Hp → Prop, (∃ m, W 0 m σ H1) ∧ ∀ i m σ H, W i m σ H →
  ((Itl K a).stop i H ∧ D.nx σ H) ∨ ((Itl K a).go i H ∧ ∃ N : L2.St → Hp → Prop, (∀ σ' H', N σ' H' → ∃ m', m' < m ∧ W (i + 1) m' σ' H') ∧ ∀ x H', (Itl K a).yld i H x H' → g x σ H' fun σ2 H2 => tb { D with nx := N, ct := N, bk := D.nx } σ2 H2)
theorem s_lst1 {K : PySem.W.Frag} {D : Ends} {σ : L2.St} {H : Hp} {te : TE} {g : TG} {tb : TS} (h : te σ H (LstGo K g tb D σ)) : tFor (iList K te) g tb D σ H := h
end Lm

namespace Lm
open PySem PySem.Spec PyProof.Rows L2
theorem ev_lg {K : PySem.W.Frag} {Z : Hp} {p dl al : Addr} {H0 : Hp} {σ : L2.St} (e1 : σ[1]? = some (some (.ref p))) :
    Ev Z p dl al H0 σ (tCall (sp_log K) [] E0 (tCons (tVar 1) (tCons (tC (.int 60)) (tCons (tCall sp_one [] E0 (tCons (tVar 1) (tCons (tLst (tCons (tC (.int 4)) (tCons (tC (.int 100)) (tCons (tOp (rI CPow fun i j => .int (i ^ j.toNat)) (tC (.int 10)) (tC (.int 7))) tNil)))) tNil))) tNil)))) (LogR K 60) :=
  ev_log (u := 60) e1 (by decide) (by decide) (ev_one (m := 2) (n := 3) e1 (by decide) IR.mo (ev_lst (by decide) IR.mo (eall_cons IR.mo (ev_int.wide (by decide) (by decide)) (eall_cons IR.mo (ev_int.wide (by decide) (by decide)) (eall_cons IR.mo ((ev_pow (by decide)).wide (by decide) (by decide)) eall_nil)))))
theorem s_setL {D : Ends} {σ : L2.St} {H : Hp} {ta : TA} {u : TS} {i : Nat} (h : ta σ H fun vs H1 => vs.length ≤ sizeLine ∧ ∀ t, H1 t = none → u D (σ.set i (some (.ref t))) (upd H1 t (.lst vs))) : tSeq (tAsg (tLst ta) (gName i)) u D σ H := h
theorem app_zero {K : PySem.W.Frag} {φ : PyData → Prop} {Z : Hp} {p dl al L w u : Addr} {H : Hp} {vs : List V} (P : PotAt Z H p dl al) (nL : H L = none) (nw : (upd H L (.lst vs)) w = none) (nu : (upd (upd H L (.lst vs)) w (.tup [.int 0, .int 0])) u = none)
    (hv : ∀ x ∈ vs, DR K φ x (hid Z p dl H)) (h0 : φ (.tuple [.tuple [.int 0, .int 0]])) :
    let H4 := upd (upd (upd (upd H L (.lst vs)) w (.tup [.int 0, .int 0])) u (.tup [.ref w])) L (.lst (vs ++ [.ref u]))
    PotAt Z H4 p dl al ∧ Kp Z p dl H H4 ∧ hid Z p dl H4 L = some (.lst (vs ++ [.ref u])) ∧ ∀ x ∈ vs ++ [.ref u], DR K φ x (hid Z p dl H4) := by
  intro H4
  have P1 := P.new (o := .lst vs) nL
  have P2 := P1.new (o := .tup [.int 0, .int 0]) nw
  have P3 := P2.new (o := .tup [.ref w]) nu
  have fL := P.free nL
  have fA := P.freeA nL
  have fw := P1.free nw
  have fu := P2.free nu
  have wL : w ≠ L := fun e => by rw [e, upd_same] at nw; cases nw
  have uw : u ≠ w := fun e => by rw [e, upd_same] at nu; cases nu
  have uL : u ≠ L := fun e => by rw [e, upd_ne wL.symm, upd_same] at nu; cases nu
  have k4 : Kp Z p dl H H4 := Kp.upd_new (ne_of_new nL) ((Kp.new nL).trans ((Kp.new nw).trans (Kp.new nu)))
  refine ⟨P3.upd fL.1 fL.2.1 fA fL.2.2, k4, hid_upd fL.1 fL.2, fun x hx => ?_⟩
  rcases List.mem_append.mp hx with e | e
  · exact DR.mo _ _ _ k4 (hv x e)
  · rw [List.mem_singleton.mp e]
    have e1 : hid Z p dl H4 u = some (.tup [.ref w]) := by
      rw [hid_at fu.1 fu.2]
      show upd (upd (upd (upd H L _) w _) u _) L _ u = _
      rw [upd_ne uL, upd_same]
    have e2 : hid Z p dl H4 w = some (.tup [.int 0, .int 0]) := by
      rw [hid_at fw.1 fw.2]
      show upd (upd (upd (upd H L _) w _) u _) L _ w = _
      rw [upd_ne wL, upd_ne uw.symm, upd_same]
    exact ⟨_, .tup (.inl (.inl e1)) (.cons (.tup (.inl (.inl e2)) (.cons (.int 0) (.cons (.int 0) .nil))) .nil), h0⟩
end Lm

namespace Lm
open PySem PySem.Spec PyProof.Rows L2 PySem.SeqAt PySem.MeetsSeq
open PySem.AutoSeq1 (wpAny_loadPart')
theorem str_declines_dict (b : Str) (u : Tok) (l : Addr) (c : Value) (es : Array DictEntry) (n : Nat) (dd : Option Addr) (sl : Array (Option Value)) :
    Meets (Builtin.«str.__eq__» ⟨[.str b u, .ref l], []⟩) (fun _ R s => s.heap.get? l = some { cls := c, dict := dd, data := .dict es n, slots := sl } ∧ R (.ok (.ret .notImplemented)) s) :=
  .of_wp fun prog w A R s h => by obtain ⟨hp, g, d, tk, os⟩ := s; obtain ⟨hl, h⟩ := h; wp_walk using wpAny_loadPart' hl, wpAny_load hl; exact ⟨_, rfl, h⟩
section
variable {A : Around} {s : Shared}
theorem rc_str_dict {l : Addr} {dd : Option Addr} {sl : Array (Option Value)} {es : Array DictEntry} {n : Nat} (b : Str) (u : Tok) (ho : s.heap.get? l = some { cls := .type "dict", dict := dd, data := .dict es n, slots := sl }) (hu : A.units < cLine) : RcAt A s (.str b u) (.ref l) false := fun prog w E Q h => by
  have ty : s.TypeIs (.ref l) "dict" := ⟨_, ho, rfl⟩
  refine rc_eq_decline_or (k := false) (typeIs_str s b u) ty (by decide) F.sub_dict_str F.slot_str_eq F.slot_dict_eq_refl
    (fun _ hq => call_meets F.slot_str_eq (typeIs_str s b u) F.entry_str_eq (F.args_str_eq_2 _ _) (str_declines_dict b u l (.type "dict") es n dd sl) ⟨ho, hq⟩)
    (fun _ hq => ?_)
    (fun _ hq => wpAny_of_eq (rfl : isSame (.str b u) (.ref l) = pure false) hq) (.inr hu) h
  refine PySem.wpAny_call_entry PySem.F.slot_dict_eq_refl ty PySem.F.entry_dict_eq ?_ (PySem.F.args_dict_eq_2 _ _)
  show wpAny _ _ (Builtin.Dict.dictSlotArgs "__eq__" ⟨[.ref l, .str b u], []⟩ >>= _) _ _ s
  refine wpAny_bind ?_
  unfold Builtin.Dict.dictSlotArgs
  refine wpAny_bind (wpAny_notOrdered_dict ty ?_)
  show wpAny _ _ (pure (Value.ref l, Value.str b u)) _ _ s
  refine wpAny_pure ?_
  refine wpAny_bind (wpAny_isInstance (T := "str") (typeIs_str s b u) PySem.F.sub_str_dict ?_)
  simp only [Bool.not_false, if_true]
  exact wpAny_bind (wpAny_rule (wpAny_pure ⟨_, rfl, hq⟩))
theorem eq_str_dict {l : Addr} {dd : Option Addr} {sl : Array (Option Value)} {es : Array DictEntry} {n : Nat} (b : Str) (u : Tok) (ho : s.heap.get? l = some { cls := .type "dict", dict := dd, data := .dict es n, slots := sl }) (hu : A.units < cLine) : EqAt A s (.str b u) (.ref l) false := fun prog w E Q h => by
  unfold eqBool
  refine wpAny_holding ?_
  refine wpAny_ite_split (fun hab => absurd (eq_of_beq hab) nofun) (fun _ => ?_)
  exact wpAny_bind (rc_str_dict b u ho hu prog w E _ (wpAny_truthy_bool h))
end
theorem in1_units {A : Around} (h : A.units + 64 < cLine) : A.in1.units < cLine := by
  have : A.in1.units = A.units + 1 := rfl
  omega
def strIs (d : PyData) (z : Str) : Bool := match d with | .str x => z == x | _ => false
def rInStr (K : PySem.W.Frag) : R2 := fun x y H Q => ∃ (d : PyData) (p : Addr) (zs : List Str), Dq K H x d ∧ y = .ref p ∧ (SqL K H p (zs.map V.str) ∨ SqT K H p (zs.map V.str)) ∧ Q (.bl (zs.any (strIs d))) H
section
variable {X : Cx}
def strE (d : PyData) : Value → Bool | .str z _ => strIs d z | _ => false
theorem vals_strs {d : PyData} : ∀ {zs : List Str} {its : List Value}, Vals (zs.map V.str) its → its.any (strE d) = zs.any (strIs d) ∧ ∀ w ∈ its, ∃ z t, w = .str z t
  | [], _, .nil => ⟨rfl, fun w h => nomatch h⟩
  | z :: r, _, .cons ⟨t, e⟩ h => by
    obtain ⟨h1, h2⟩ := vals_strs (d := d) h
    subst e
    refine ⟨by rw [List.any_cons, List.any_cons, h1]; rfl, fun w hw => ?_⟩
    rcases List.mem_cons.mp hw with e | e
    · exact ⟨z, t, e⟩
    · exact h2 w e
theorem eq_str_data {pins : List (Addr × Obj)} {σ : L2.St} {H : Hp} {s : Shared} (I : Inv X pins σ H s) {x : V} {v : Value} {d : PyData} (hd : Dq X.K H x d) (rx : L2.RelV x v) (hu : X.A.in1.units < cLine) (z : Str) (t : Tok) : EqAt X.A.in1 s (.str z t) v (strIs d z) := by
  cases hd with
  | non => cases rx; exact EqAt.str_none z t
  | bl b => cases rx; exact EqAt.str_bool z t b
  | int i => obtain ⟨u, rfl⟩ := rx; exact EqAt.str_int z t i u
  | str y => obtain ⟨u, rfl⟩ := rx; exact EqAt.str_str z t y u
  | lst hs _ =>
    cases rx
    obtain ⟨its, _, pl, _⟩ := I.list hs
    exact EqAt.str_list z t pl.isList hu
  | tup hs _ =>
    cases rx
    obtain ⟨its, _, pl, _⟩ := I.tuple hs
    exact EqAt.str_tuple z t pl hu
  | dct hs _ =>
    cases rx
    obtain ⟨_, _, vs, _, o, es, ep, e, hx, hdt, _⟩ := I.hok _ _ hs
    obtain ⟨cls, dd, data, sl⟩ := o
    have hc := hx.1
    simp only at hdt hc
    subst hdt hc
    exact eq_str_dict z t e hu
theorem op_inStr (hu : X.A.in1.units < cLine) : OpR X (compareOp .In) (rInStr X.K) := by
  intro pins s σ H x y v u Q I rx ry h
  obtain ⟨d, p, zs, hd, rfl, hq, q⟩ := h
  cases ry
  rcases hq with hq | hq
  · obtain ⟨its, r, pl, hz⟩ := I.list hq
    obtain ⟨h1, h2⟩ := vals_strs (d := d) r
    refine SeqAt.in_listAt (strE d) pl.isList (fun w hw => ?_) ⟨.bl _, H, I, rfl, ?_⟩
    · obtain ⟨z, t, rfl⟩ := h2 w (by simpa using hw)
      exact eq_str_data I hd rx hu z t
    · rw [show its.toArray.any (strE d) = its.any (strE d) by simp, h1]
      exact q
  · obtain ⟨its, r, pl, hz⟩ := I.tuple hq
    obtain ⟨h1, h2⟩ := vals_strs (d := d) r
    refine SeqAt.in_tupleAt (strE d) pl (fun w hw => ?_) ⟨.bl _, H, I, rfl, ?_⟩
    · obtain ⟨z, t, rfl⟩ := h2 w (by simpa using hw)
      exact eq_str_data I hd rx hu z t
    · rw [show its.toArray.any (strE d) = its.any (strE d) by simp, h1]
      exact q
end
end Lm

namespace Lm
open PySem PySem.Spec PyProof.Rows L2
/-! ### runs and motions, as functions of data -/
def runOf : PyData → Option (Int × Int)
  | .tuple [.int a, .int s, .int c] => if 0 ≤ a ∧ 1 ≤ s ∧ 1 ≤ c ∧ (c = 1 → s = 1) ∧ a + s * (c - 1) ≤ 1000000000 then some (a, a + s * (c - 1)) else none
  | _ => none
def motGo : List PyData → Nat → Int → PyData
  | [], _, _ => .none
  | d :: r, i, b => match runOf d with
    | none => two (.int i) (.str "run")
    | some (on, off) => if on ≤ b then two (.int i) (.str "order") else motGo r (i + 1) off
def motErr : PyData → PyData
  | .tuple ds => if 360 < ds.length then two .none (.str "motions") else motGo ds 0 (-1)
  | _ => two .none (.str "motions")
theorem motGo_cons {ds : List PyData} {i : Nat} {b : Int} {d : PyData} (h : ds[i]? = some d) : motGo (ds.drop i) i b = motGo (d :: ds.drop (i + 1)) i b := by
  obtain ⟨hi, e⟩ := List.getElem?_eq_some_iff.mp h
  rw [List.drop_eq_getElem_cons hi, e]
theorem run_bounds {a s c : Int} (h0 : 0 ≤ a) (h1 : 1 ≤ s) (h2 : 1 ≤ c) (h3 : c = 1 → s = 1) (h4 : a + s * (c - 1) ≤ 1000000000) : a ≤ 1000000000 ∧ s ≤ 1000000000 ∧ c ≤ 1000000001 := by
  have p0 : 0 ≤ s * (c - 1) := Int.mul_nonneg (by omega) (by omega)
  have p1 : 1 * (c - 1) ≤ s * (c - 1) := Int.mul_le_mul_of_nonneg_right h1 (by omega)
  refine ⟨by omega, ?_, by omega⟩
  by_cases e : c = 1
  · rw [h3 e]; decide
  · have p2 : s * 1 ≤ s * (c - 1) := Int.mul_le_mul_of_nonneg_left (by omega) (by omega)
    omega
theorem runOf_wt {d : PyData} : (runOf d).isSome = true → ∃ a s c, d = .tuple [.int a, .int s, .int c] ∧ runOf d = some (a, a + s * (c - 1)) ∧ 0 ≤ a ∧ a ≤ 1000000000 ∧ 1 ≤ s ∧ s ≤ 1000000000 ∧ 1 ≤ c ∧ c ≤ 1000000001 := by
  unfold runOf
  split
  · rename_i a s c
    split
    · rename_i h
      have b := run_bounds h.1 h.2.1 h.2.2.1 h.2.2.2.1 h.2.2.2.2
      exact fun _ => ⟨a, s, c, rfl, rfl, h.1, b.1, h.2.1, b.2.1, h.2.2.1, b.2.2⟩
    · intro h; cases h
  · intro h; cases h
theorem wt3 {d : PyData} (h : wt d 3 = true) : ∃ a b c, d = .tuple [.int a, .int b, .int c] := by
  unfold wt at h
  split at h
  · rename_i ds
    simp only [Bool.and_eq_true, decide_eq_true_eq] at h
    obtain ⟨h1, h2⟩ := h
    match ds, h1, h2 with
    | [x, y, z], _, h2 =>
      simp only [List.all_cons, List.all_nil, Bool.and_true, Bool.and_eq_true] at h2
      cases x <;> cases y <;> cases z <;> first | exact ⟨_, _, _, rfl⟩ | (simp [wh] at h2)
    | [], h1, _ => exact absurd h1 (by simp)
    | [_], h1, _ => exact absurd h1 (by simp)
    | [_, _], h1, _ => exact absurd h1 (by simp)
    | _ :: _ :: _ :: _ :: _, h1, _ => exact absurd h1 (by simp only [List.length_cons]; omega)
  · cases h
theorem wt3_no {d : PyData} (h : wt d 3 = false) : runOf d = none := by
  unfold runOf
  split
  · simp [wt, wh] at h
  · rfl
theorem runOf_len {ds : List PyData} (h : (ds.length : Int) ≠ 3) : runOf (.tuple ds) = none := by
  unfold runOf
  split
  · rename_i e
    cases e
    exact absurd rfl h
  · rfl
theorem runOf_out {ds : List PyData} (h : ds.all (inW 0 1000000001) = false) : runOf (.tuple ds) = none := by
  cases e : runOf (.tuple ds) with
  | none => rfl
  | some ab =>
    obtain ⟨a, s, c, e1, _, h1, h2, h3, h4, h5, h6⟩ := runOf_wt (d := .tuple ds) (by rw [e]; rfl)
    cases e1
    have g : (List.all [PyData.int a, PyData.int s, PyData.int c] (inW 0 1000000001)) = true := by
      simp only [List.all_cons, List.all_nil, Bool.and_true, inW, Bool.and_eq_true, decide_eq_true_eq]
      omega
    rw [g] at h
    cases h
theorem runOf_eq {a s c : Int} : (runOf (.tuple [.int a, .int s, .int c])).isSome = decide (0 ≤ a ∧ 1 ≤ s ∧ 1 ≤ c ∧ (c = 1 → s = 1) ∧ a + s * (c - 1) ≤ 1000000000) := by
  show (if 0 ≤ a ∧ 1 ≤ s ∧ 1 ≤ c ∧ (c = 1 → s = 1) ∧ a + s * (c - 1) ≤ 1000000000 then some (a, a + s * (c - 1)) else none).isSome = _
  by_cases h : 0 ≤ a ∧ 1 ≤ s ∧ 1 ≤ c ∧ (c = 1 → s = 1) ∧ a + s * (c - 1) ≤ 1000000000
  · rw [if_pos h, decide_eq_true h]; rfl
  · rw [if_neg h, decide_eq_false h]; rfl
theorem log2_sub {c : Int} (h : c.natAbs.log2 < 1920) : (c - 1).natAbs.log2 < 2000 := by
  have h1 : c.natAbs < 2 ^ 1920 := by
    by_cases z : c.natAbs = 0
    · rw [z]; exact Nat.two_pow_pos _
    · exact (Nat.log2_lt z).mp h
  by_cases z : (c - 1).natAbs = 0
  · rw [z]; decide
  · refine (Nat.log2_lt z).mpr ?_
    have h2 : (2 : Nat) ^ 1920 + 1 ≤ 2 ^ 2000 := by
      have : (2 : Nat) ^ 1921 ≤ 2 ^ 2000 := Nat.pow_le_pow_right (by decide) (by decide)
      have e : (2 : Nat) ^ 1921 = 2 ^ 1920 * 2 := Nat.pow_succ ..
      have p : 0 < (2 : Nat) ^ 1920 := Nat.two_pow_pos _
      omega
    omega
theorem run_mulW {a s c : Int} (h : (PyData.tuple [.int a, .int s, .int c]).showable = true) : CMulW s (c - 1) := by
  simp only [PyData.showable, PyData.showableAll, Bool.and_true, Bool.and_eq_true, decide_eq_true_eq] at h
  have := log2_sub h.2.2
  unfold CMulW
  omega
theorem show_get : ∀ {ds : List PyData} {i : Nat} {d : PyData}, PyData.showableAll ds = true → ds[i]? = some d → d.showable = true
  | [], _, _, _, e => by simp at e
  | x :: r, 0, d, h, e => by
    simp only [PyData.showableAll, Bool.and_eq_true] at h
    simp at e; rw [← e]; exact h.1
  | x :: r, i + 1, d, h, e => by
    simp only [PyData.showableAll, Bool.and_eq_true] at h
    exact show_get h.2 (by simpa using e)
def sp_last (K : PySem.W.Frag) : Sp := fun vs H Q _ => ∃ (t : Addr) (a s c : Int), vs = [.ref t] ∧ SqT K H t [.int a, .int s, .int c] ∧ CMulW s (c - 1) ∧ Q (.int (a + s * (c - 1))) H
def sp_boolS (K : PySem.W.Frag) (F : PyData → Bool) : Sp := fun vs H Q _ => ∃ v d, vs = [v] ∧ Dq K H v d ∧ d.showable = true ∧ ∀ H', Same H H' → Q (.bl (F d)) H'
def sp_errS (K : PySem.W.Frag) (F : PyData → PyData) : Sp := fun vs H Q _ => ∃ v d, vs = [v] ∧ Dq K H v d ∧ d.showable = true ∧ ∀ r H', Same H H' → Flat K H H' r (F d) → Q r H'
def lampB (d : PyData) : Bool := match d with | .tuple [k, s] => (["hold", "pulse"] : List Str).any (strIs k) && inW 1 1000000000 s | _ => false
theorem motGo_sm : ∀ (ds : List PyData) (i : Nat) (b : Int), i + ds.length ≤ 360 → Sm 60 1 (motGo ds i b)
  | [], _, _, _ => show Sm 60 1 .none from sm_chk (by decide +kernel)
  | d :: r, i, b, h => by
    simp only [List.length_cons] at h
    simp only [motGo]
    split
    · exact two_sm (by omega) _ (sm_chk (by decide +kernel))
    · split
      · exact two_sm (by omega) _ (sm_chk (by decide +kernel))
      · exact motGo_sm r (i + 1) _ (by omega)
theorem motErr_sm (d : PyData) : Sm 60 1 (motErr d) := by
  have e0 : Sm 60 1 (two .none (.str "motions")) := sm_chk (by decide +kernel)
  unfold motErr
  split
  · split
    · exact e0
    · exact motGo_sm _ _ _ (by omega)
  · exact e0
end Lm

namespace Lm
open PySem PySem.Spec PyProof.Rows L2
def sp_lamp (K : PySem.W.Frag) : Sp := fun vs H Q _ => ∃ (Z : Hp) (p dl al : Addr) (g : Int), vs = [.ref p, .int g] ∧ PotAt Z H p dl al ∧ 1 ≤ g ∧ g ≤ 1000000000 ∧
  ∀ (x : V) (H' : Hp), PotAt Z H' p dl al → Kp Z p dl H H' → TpR K 2 2 (DR K (Sm 30 1)) x (hid Z p dl H') → Q x H'
def sp_far (K : PySem.W.Frag) : Sp := fun vs H Q _ => ∃ (Z : Hp) (p dl al : Addr) (u : Int), vs = [.ref p, .int u] ∧ PotAt Z H p dl al ∧ 0 ≤ u ∧ u ≤ 40 ∧
  ∀ (x : V) (H' : Hp), PotAt Z H' p dl al → Kp Z p dl H H' → TpR K 0 40 (TpR K 3 3 (IR 0 2000000000)) x (hid Z p dl H') → Q x H'
def sp_spoiltR (K : PySem.W.Frag) : Sp := fun vs H Q _ => ∃ (Z : Hp) (p dl al : Addr) (v : V), vs = [.ref p, v] ∧ PotAt Z H p dl al ∧ TpR K 0 40 (TpR K 3 3 (IR 0 2000000000)) v (hid Z p dl H) ∧
  ∀ (x : V) (H' : Hp), PotAt Z H' p dl al → Kp Z p dl H H' → DR K (Sm 53122 5) x (hid Z p dl H') → Q x H'
section
variable {K : PySem.W.Frag} {Z : Hp} {p dl al : Addr} {H0 : Hp} {σ : L2.St} {te : TE} {R : VR}
theorem ev_iw {a b c d : Int} (h : Ev Z p dl al H0 σ te (IR a b)) (h1 : c ≤ a := by decide) (h2 : b ≤ d := by decide) : Ev Z p dl al H0 σ te (IR c d) := h.wide h1 h2
theorem ev_ivar {i : Nat} {g lo hi : Int} (e : σ[i]? = some (some (.int g))) (h0 : lo ≤ g) (h1 : g ≤ hi) : Ev Z p dl al H0 σ (tVar i) (IR lo hi) := ev_var e IR.mo ⟨g, rfl, h0, h1⟩
theorem ev_drawC {i : Nat} {n : Int} (e : σ[i]? = some (some (.ref p))) (h0 : 1 ≤ n := by decide) (h1 : n < 1073741824 := by decide) : Ev Z p dl al H0 σ (tCall sp_draw [] E0 (tCons (tVar i) (tCons (tC (.int n)) tNil))) (IR 0 (n - 1)) :=
  ev_draw (b := n) e h1 (ev_int.wide h0 (Int.le_refl _))
theorem ev_drawP {i : Nat} {a : Int} {j : Int} (c : CPow a j) (e : σ[i]? = some (some (.ref p))) (h0 : 1 ≤ a ^ j.toNat := by decide) (h1 : a ^ j.toNat < 1073741824 := by decide) :
    Ev Z p dl al H0 σ (tCall sp_draw [] E0 (tCons (tVar i) (tCons (tOp (rI CPow fun i j => .int (i ^ j.toNat)) (tC (.int a)) (tC (.int j))) tNil))) (IR 0 (a ^ j.toNat - 1)) :=
  ev_draw (b := a ^ j.toNat) e h1 ((ev_pow c).wide h0 (Int.le_refl _))
theorem ei_cons {lo hi : Int} {tl : TA} {a b : Nat} {c d : Int} (h1 : Ev Z p dl al H0 σ te (IR c d)) (h2 : EvA Z p dl al H0 σ tl (AllR a b (IR lo hi))) (h3 : lo ≤ c := by decide) (h4 : d ≤ hi := by decide) : EvA Z p dl al H0 σ (tCons te tl) (AllR (a + 1) (b + 1) (IR lo hi)) :=
  eall_cons IR.mo (h1.wide h3 h4) h2
end
/-- one more thing at the end of a list that stands apart -/
theorem app_any {K : PySem.W.Frag} {Z : Hp} {p dl al f : Addr} {H H3 : Hp} {xs : List V} {v : V} {m n : Nat} {R : VR} (hR2 : ∀ v G G', R v G → R v G') (P : PotAt Z H p dl al) (nf : H f = none) (P3 : PotAt Z H3 p dl al) (k3 : Kp Z p dl H H3)
    (hf : H3 f = some (.lst xs)) (hx : ∀ x ∈ xs, TpR K m n R x (hid Z p dl H3)) (hv : TpR K m n R v (hid Z p dl H3)) :
    let H4 := upd H3 f (.lst (xs ++ [v]))
    PotAt Z H4 p dl al ∧ Kp Z p dl H H4 ∧ H4 f = some (.lst (xs ++ [v])) ∧ ∀ x ∈ xs ++ [v], TpR K m n R x (hid Z p dl H4) := by
  intro H4
  have f1 := P.free nf
  have f2 := P.freeA nf
  refine ⟨P3.upd f1.1 f1.2.1 f2 f1.2.2, Kp.upd_new (ne_of_new nf) k3, upd_same, ?_⟩
  have tk : ∀ b o, hid Z p dl H3 b = some o → (∀ l, o ≠ .lst l) → hid Z p dl H4 b = some o := fun b o e no => by
    have n := hid_some e
    rw [hid_at n.1 n.2] at e ⊢
    have cf : b ≠ f := fun z => by rw [z, hf] at e; cases e; exact no _ rfl
    show upd H3 f _ b = _
    rw [upd_ne cf]
    exact e
  have one : ∀ x, TpR K m n R x (hid Z p dl H3) → TpR K m n R x (hid Z p dl H4) := fun x ⟨a, ys, e, g, l1, l2, l3⟩ => by
    refine ⟨a, ys, e, ?_, l1, l2, fun y hy => hR2 _ _ _ (l3 y hy)⟩
    rcases g with (g | ⟨o, g⟩) | g
    · exact .inl (.inl (tk _ _ g fun l z => nomatch z))
    · exact .inl (.inr ⟨o, tk _ _ g fun l z => nomatch z⟩)
    · exact .inr g
  intro x hx'
  rcases List.mem_append.mp hx' with e | e
  · exact one x (hx x e)
  · rw [List.mem_singleton.mp e]; exact one v hv
theorem far_step {m st x : Int} (h0 : 0 ≤ m) (h1 : 1 ≤ st) (h2 : 0 ≤ x) : 0 ≤ (if x < m.fdiv st then x else m.fdiv st) ∧ (if x < m.fdiv st then x else m.fdiv st) ≤ m ∧ 0 ≤ st * (if x < m.fdiv st then x else m.fdiv st) ∧ st * (if x < m.fdiv st then x else m.fdiv st) ≤ m := by
  have e : m.fdiv st = m / st := Int.fdiv_eq_ediv_of_nonneg _ (by omega)
  rw [e]
  have q0 : 0 ≤ m / st := Int.ediv_nonneg h0 (by omega)
  have q1 : st * (m / st) ≤ m := Int.mul_ediv_self_le (by omega)
  generalize m / st = q at q0 q1
  have k : ∀ y : Int, 0 ≤ y → y ≤ q → 0 ≤ y ∧ y ≤ m ∧ 0 ≤ st * y ∧ st * y ≤ m := fun y y0 y1 => by
    have a1 : st * y ≤ st * q := Int.mul_le_mul_of_nonneg_left y1 (by omega)
    have a2 : 1 * y ≤ st * y := Int.mul_le_mul_of_nonneg_right h1 y0
    have a3 : 0 ≤ st * y := Int.mul_nonneg (by omega) y0
    omega
  by_cases g : x < q
  · rw [if_pos g]; exact k x h2 (by omega)
  · rw [if_neg g]; exact k q q0 (Int.le_refl _)
theorem s_par3 {D : Ends} {σ : L2.St} {H : Hp} {ta : TA} {t : TS} {i j l : Nat} (h : ta σ H fun vs H1 => ∃ u v w, vs = [u, v, w] ∧ t D (((σ.set i (some u)).set j (some v)).set l (some w)) H1) : tSeq (tPar3 i j l ta) t D σ H := h
theorem ev_ifGt {Z : Hp} {p dl al : Addr} {H0 : Hp} {σ : L2.St} {ta tb : TE} {R : VR} {i : Nat} {c : Int} (e : σ[i]? = some (some (.int c))) (h1 : Ev Z p dl al H0 σ ta R) (h2 : Ev Z p dl al H0 σ tb R) :
    Ev Z p dl al H0 σ (tIf (tTest (tOp (rI0 fun i j => .bl (decide (j < i))) (tVar i) (tC (.int 1)))) ta tb) R :=
  fun H Q P k q => ⟨_, e, c, 1, rfl, rfl, _, rfl, ite2 (fun _ => h1 H Q P k q) (fun _ => h2 H Q P k q)⟩
theorem tri_data {K : PySem.W.Frag} {v : V} {G : Hp} (h : TpR K 3 3 (IR 0 2000000000) v G) : DR K (Sm 48 1) v G := h.data (n := 13) (k := 0) fun x hx => ir_data hx (by decide) (by decide)
theorem three_of {xs : List V} (h1 : 3 ≤ xs.length) (h2 : xs.length ≤ 3) : ∃ x y z, xs = [x, y, z] := by
  match xs, h1, h2 with
  | [x, y, z], _, _ => exact ⟨x, y, z, rfl⟩
def tD (q : Int × Int × Int) : PyData := .tuple [.int q.1, .int q.2.1, .int q.2.2]
theorem runs_dp {K : PySem.W.Frag} {G : Hp} {lo hi : Int} : ∀ {xs : List V}, (∀ x ∈ xs, TpR K 3 3 (IR lo hi) x G) → ∃ ts : List (Int × Int × Int), DpAll K G xs (ts.map tD) ∧ ts.length = xs.length
  | [], _ => ⟨[], .nil, rfl⟩
  | x :: r, h => by
    obtain ⟨ts, h1, h2⟩ := runs_dp (xs := r) fun y hy => h y (List.mem_cons_of_mem _ hy)
    obtain ⟨a, ys, rfl, g, l1, l2, l3⟩ := h x List.mem_cons_self
    obtain ⟨y0, y1, y2, rfl⟩ := three_of l1 l2
    obtain ⟨i, rfl, _⟩ := l3 y0 (by simp)
    obtain ⟨j, rfl, _⟩ := l3 y1 (by simp)
    obtain ⟨k, rfl, _⟩ := l3 y2 (by simp)
    exact ⟨(i, j, k) :: ts, .cons (.tup g (.cons (.int i) (.cons (.int j) (.cons (.int k) .nil)))) h1, by rw [List.length_cons, List.length_cons, h2]⟩
theorem tD_lay : ∀ ps : List (Int × Int × Int), PyData.canLayAll0 (ps.map tD) = true
  | [] => by simp [PyData.canLayAll0]
  | q :: r => by
    simp only [List.map_cons, PyData.canLayAll0, tD_lay r, Bool.and_true]
    simp [tD, PyData.canLay0, PyData.canLayAll0]
theorem tD_depth : ∀ ps : List (Int × Int × Int), PyData.depthAll (ps.map tD) ≤ 1
  | [] => by simp [PyData.depthAll]
  | q :: r => by
    simp only [List.map_cons, PyData.depthAll]
    refine Nat.max_le.mpr ⟨?_, tD_depth r⟩
    simp [tD, PyData.depth, PyData.depthAll]
theorem tD_shaped (ps : List (Int × Int × Int)) : SeqAt.shaped (.tuple (ps.map tD)) = true := by
  unfold SeqAt.shaped
  simp only [PyData.canLay0, tD_lay, PyData.depth, Bool.true_and]
  exact decide_eq_true (Nat.le_trans (Nat.succ_le_succ (tD_depth ps)) (show 2 ≤ 64 by decide))
theorem tD_eqv (ps : List (Int × Int × Int)) : PyData.eqv (.tuple (ps.map tD)) (.tuple []) = ps.isEmpty := by
  cases ps <;> simp [PyData.eqv, PyData.eqvAll]
end Lm

namespace Lm
open PySem PySem.Spec PyProof.Rows L2
theorem s_lst {K : PySem.W.Frag} {D : Ends} {σ : L2.St} {H : Hp} {te : TE} {g : TG} {tb u : TS} (h : te σ H (LstGo K g tb { D with nx := u D } σ)) : tSeq (tFor (iList K te) g tb) u D σ H := h
theorem app_three {K : PySem.W.Frag} {φ : PyData → Prop} {Z : Hp} {p dl al L w u : Addr} {H : Hp} {vs : List V} {i j k : Int} (P : PotAt Z H p dl al) (nL : H L = none) (nw : (upd H L (.lst vs)) w = none) (nu : (upd (upd H L (.lst vs)) w (.tup [.int i, .int j, .int k])) u = none)
    (hv : ∀ x ∈ vs, DR K φ x (hid Z p dl H)) (h0 : φ (.tuple [.tuple [.int i, .int j, .int k]])) :
    let H4 := upd (upd (upd (upd H L (.lst vs)) w (.tup [.int i, .int j, .int k])) u (.tup [.ref w])) L (.lst (vs ++ [.ref u]))
    PotAt Z H4 p dl al ∧ Kp Z p dl H H4 ∧ hid Z p dl H4 L = some (.lst (vs ++ [.ref u])) ∧ ∀ x ∈ vs ++ [.ref u], DR K φ x (hid Z p dl H4) := by
  intro H4
  have P1 := P.new (o := .lst vs) nL
  have P2 := P1.new (o := .tup [.int i, .int j, .int k]) nw
  have P3 := P2.new (o := .tup [.ref w]) nu
  have fL := P.free nL
  have fA := P.freeA nL
  have fw := P1.free nw
  have fu := P2.free nu
  have wL : w ≠ L := fun e => by rw [e, upd_same] at nw; cases nw
  have uw : u ≠ w := fun e => by rw [e, upd_same] at nu; cases nu
  have uL : u ≠ L := fun e => by rw [e, upd_ne wL.symm, upd_same] at nu; cases nu
  have k4 : Kp Z p dl H H4 := Kp.upd_new (ne_of_new nL) ((Kp.new nL).trans ((Kp.new nw).trans (Kp.new nu)))
  refine ⟨P3.upd fL.1 fL.2.1 fA fL.2.2, k4, hid_upd fL.1 fL.2, fun x hx => ?_⟩
  rcases List.mem_append.mp hx with e | e
  · exact DR.mo _ _ _ k4 (hv x e)
  · rw [List.mem_singleton.mp e]
    have e1 : hid Z p dl H4 u = some (.tup [.ref w]) := by
      rw [hid_at fu.1 fu.2]
      show upd (upd (upd (upd H L _) w _) u _) L _ u = _
      rw [upd_ne uL, upd_same]
    have e2 : hid Z p dl H4 w = some (.tup [.int i, .int j, .int k]) := by
      rw [hid_at fw.1 fw.2]
      show upd (upd (upd (upd H L _) w _) u _) L _ w = _
      rw [upd_ne wL, upd_ne uw.symm, upd_same]
    exact ⟨_, .tup (.inl (.inl e1)) (.cons (.tup (.inl (.inl e2)) (.cons (.int i) (.cons (.int j) (.cons (.int k) .nil)))) .nil), h0⟩
theorem tri_at {K : PySem.W.Frag} {Z : Hp} {p dl t : Addr} {H : Hp} {i j k : Int} (e : hid Z p dl H t = some (.tup [.int i, .int j, .int k])) (h : (0 ≤ i ∧ i ≤ 2000000000) ∧ (0 ≤ j ∧ j ≤ 2000000000) ∧ (0 ≤ k ∧ k ≤ 2000000000)) : TpR K 3 3 (IR 0 2000000000) (.ref t) (hid Z p dl H) := by
  refine ⟨t, _, rfl, .inl (.inl e), Nat.le_refl 3, Nat.le_refl 3, fun x hx => ?_⟩
  simp only [List.mem_cons, List.not_mem_nil, or_false] at hx
  rcases hx with e | e | e
  · exact ⟨_, e, h.1⟩
  · exact ⟨_, e, h.2.1⟩
  · exact ⟨_, e, h.2.2⟩
theorem ev_spoiltR {K : PySem.W.Frag} {Z : Hp} {p dl al : Addr} {H0 : Hp} {σ : L2.St} {i j : Nat} {v : V} (e : σ[i]? = some (some (.ref p))) (ej : σ[j]? = some (some v)) (hv : TpR K 0 40 (TpR K 3 3 (IR 0 2000000000)) v (hid Z p dl H0)) : Ev Z p dl al H0 σ (tCall (sp_spoiltR K) [] E0 (tCons (tVar i) (tCons (tVar j) tNil))) (DR K (Sm 53122 5)) :=
  fun H Q P k q => ⟨_, e, _, ej, Z, p, dl, al, v, rfl, P, TpR.mo (TpR.mo IR.mo) _ _ _ k hv, fun x H' P' k' r => q x H' P' k' r⟩
theorem s_nxe {D : Ends} {t u : TS} {σ : L2.St} {H : Hp} {i : Nat} {v : V} {a b c} (h : tSeq t u D (σ.set i (some v)) H) : gName i v σ H (Ends.nx { nx := tSeq t u D, rt := a, bk := b, ct := c }) := h
theorem bool_fine (b : Bool) : Fine (.bool b) := by cases b <;> exact (sm_chk (n := 5) (k := 0) (by decide +kernel)).fine (by decide) (by decide)
end Lm

namespace Lg
open PySem PySem.Spec PyProof.Rows L2 Lm
/-! ### a source of numbers: what must stand while b more draws are left; whose addresses -/
structure Src where
  at_ : Nat → Hp → Prop
  own : Addr → Prop
  frame : ∀ {b : Nat} {H H' : Hp}, (∀ a, own a → H' a = H a) → at_ b H → at_ b H'
  less : ∀ {b c : Nat} {H : Hp}, c ≤ b → at_ b H → at_ c H
  full : ∀ {b : Nat} {H : Hp} {q : Addr}, at_ b H → own q → H q ≠ none
open Classical in
noncomputable def cut (N : Addr → Prop) (H : Hp) : Hp := fun a => if N a then none else H a
def Occ (N : Addr → Prop) (H : Hp) : Prop := ∀ a, N a → H a ≠ none
abbrev NZ (S : Src) (Z : Hp) : Addr → Prop := fun a => S.own a ∨ Z a ≠ none
noncomputable abbrev hid (S : Src) (Z H : Hp) : Hp := cut (NZ S Z) H
section
variable {N N' : Addr → Prop} {H H' : Hp} {a q f : Addr} {o : HO}
theorem cut_at (h : ¬ N a) : cut N H a = H a := if_neg h
theorem cut_some (e : cut N H a = some o) : ¬ N a ∧ H a = some o := by
  unfold cut at e
  split at e
  · cases e
  · rename_i z
    exact ⟨z, e⟩
theorem cut_same : Same (cut N H) H := fun b o e => (cut_some e).2
theorem cut_mono (s : Same H H') : Same (cut N H) (cut N H') := fun b o e => by
  have n := cut_some e
  rw [cut_at n.1]
  exact s _ _ n.2
theorem cut_le (h : ∀ a, N a → N' a) : Same (cut N' H) (cut N H) := fun b o e => by
  have n := cut_some e
  rw [cut_at fun z => n.1 (h _ z)]
  exact n.2
theorem cut_upd (h : N f) : cut N (upd H f o) = cut N H := by
  funext b
  by_cases z : N b
  · unfold cut; rw [if_pos z, if_pos z]
  · rw [cut_at z, cut_at z, upd_ne (show b ≠ f from fun e => z (by rw [e]; exact h))]
theorem cut_new (O : Occ N H) (n : H q = none) : cut N (upd H q o) q = some o := by rw [cut_at fun z => O q z n, upd_same]
theorem Occ.keep (O : Occ N H) (s : Same H H') : Occ N H' := fun a h => by
  cases e : H a with
  | none => exact absurd e (O a h)
  | some o => rw [s _ _ e]; exact fun z => nomatch z
theorem Occ.more (O : Occ N H) (e : H f ≠ none) : Occ (fun a => N a ∨ a = f) H := fun a h => h.elim (O a) fun z => z ▸ e
theorem Occ.upd (O : Occ N H) : Occ N (upd H f o) := fun a h => by
  by_cases e : a = f
  · rw [e, upd_same]; exact fun z => nomatch z
  · rw [upd_ne e]; exact O a h
theorem occ_none : Occ (fun _ => False) H := fun a h => h.elim
theorem cut_none : cut (fun _ => False) H = H := by funext b; exact if_neg fun z => z
end
structure Iv (S : Src) (Z : Hp) (b : Nat) (H : Hp) : Prop where
  src : S.at_ b H
  zz : Same Z H
  zo : ∀ a, S.own a → Z a = none
def Off (S : Src) (Z : Hp) (a : Addr) : Prop := ¬ S.own a ∧ Z a = none
def Kp (S : Src) (Z H H' : Hp) : Prop := Same (hid S Z H) (hid S Z H')
section
variable {S : Src} {Z H H' H1 H2 : Hp} {b c : Nat} {q D a : Addr} {o o' o2 : HO}
theorem hid_at (h : Off S Z a) : hid S Z H a = H a := if_neg (fun z => z.elim h.1 (fun z => z h.2))
theorem hid_same : Same (hid S Z H) H := cut_same
theorem hid_some (e : hid S Z H a = some o) : Off S Z a := ⟨fun q => (cut_some e).1 (.inl q), Classical.byContradiction fun q => (cut_some e).1 (.inr q)⟩
theorem Iv.occ (P : Iv S Z b H) : Occ (NZ S Z) H := fun a h => h.elim (S.full P.src) fun z => by
  cases e : Z a with
  | none => exact absurd e z
  | some o => rw [P.zz _ _ e]; exact fun z => nomatch z
theorem Kp.refl : Kp S Z H H := Same.refl _
theorem Kp.trans (a : Kp S Z H H1) (b : Kp S Z H1 H2) : Kp S Z H H2 := Same.trans a b
theorem Kp.of (s : Same H H') : Kp S Z H H' := by
  intro b o e
  have n := hid_some e
  rw [hid_at n] at e ⊢
  exact s b o e
theorem same_new (h : H q = none) : Same H (upd H q o) := fun b x e => by
  rw [upd_ne (ne_of_none e h)]
  exact e
theorem Kp.new (h : H q = none) : Kp S Z H (upd H q o) := Kp.of (same_new h)
theorem Src.keep {b : Nat} (S : Src) (s : Same H H') (h : S.at_ b H) : S.at_ b H' := S.frame (fun a ha => by
  cases e : H a with
  | none => exact absurd e (S.full h ha)
  | some o => exact s _ _ e) h
theorem Iv.keep (P : Iv S Z b H) (s : Same H H') : Iv S Z b H' := ⟨S.keep s P.src, P.zz.trans s, P.zo⟩
theorem Iv.less (P : Iv S Z b H) (h : c ≤ b) : Iv S Z c H := ⟨S.less h P.src, P.zz, P.zo⟩
theorem Iv.new (P : Iv S Z b H) (n : H q = none) : Iv S Z b (upd H q o) := P.keep (same_new n)
theorem Iv.free (P : Iv S Z b H) (n : H q = none) : Off S Z q := ⟨fun z => S.full P.src z n, by
  cases e : Z q with
  | none => rfl
  | some o => rw [P.zz _ _ e] at n; cases n⟩
theorem zz_upd (h : Same Z H) (n : Z q = none) : Same Z (upd H q o) := fun b x e => by
  rw [upd_ne (ne_of_none e n)]
  exact h b x e
theorem Iv.upd (P : Iv S Z b H) (h : Off S Z q) : Iv S Z b (L2.upd H q o) := ⟨S.frame (fun a ha => upd_ne fun e => h.1 (e ▸ ha)) P.src, zz_upd P.zz h.2, P.zo⟩
theorem Iv.hide (P : Iv S Z b H) (e : H D = some o) (h : ¬ S.own D) : Iv S (L2.upd Z D o) b H := ⟨P.src, fun b x z => by
    by_cases q : b = D
    · rw [q, upd_same] at z
      rw [q, e]; exact z
    · rw [upd_ne q] at z
      exact P.zz b x z, fun a ha => by rw [upd_ne (show a ≠ D from fun e => h (by rw [← e]; exact ha))]; exact P.zo a ha⟩
theorem Iv.bare (P : Iv S (L2.upd Z D o) b H) (n : Z D = none) : Iv S Z b H := ⟨P.src, fun b x z => P.zz b x (by rw [upd_ne (ne_of_none z n)]; exact z), fun a ha => by
  have := P.zo a ha
  by_cases e : a = D
  · rw [e, upd_same] at this; cases this
  · rw [upd_ne e] at this; exact this⟩
theorem hid_new (P : Iv S Z b H) (n : H q = none) : hid S Z (L2.upd H q o) q = some o := by rw [hid_at (P.free n), upd_same]
theorem hid_upd (h : Off S Z q) : hid S Z (L2.upd H q o) q = some o := by rw [hid_at h, upd_same]
theorem hid_get (h : Off S Z a) (e : H a = some o) : hid S Z H a = some o := by rw [hid_at h]; exact e
theorem laid (P : Iv S Z b H) (n : H q = none) : Iv S Z b (L2.upd H q o) ∧ Kp S Z H (L2.upd H q o) ∧ hid S Z (L2.upd H q o) q = some o := ⟨P.new n, Kp.new n, hid_new P n⟩
theorem off_hide (h : Off S (L2.upd Z D o) a) : a ≠ D ∧ Off S Z a := by
  have q : a ≠ D := fun q => by have := h.2; rw [q, upd_same] at this; cases this
  exact ⟨q, h.1, by have := h.2; rw [upd_ne q] at this; exact this⟩
theorem hid_hide : Same (hid S (L2.upd Z D o) H) (hid S Z H) := fun b x e => by
  have n := hid_some e
  rw [hid_at n] at e
  rw [hid_at (off_hide n).2]
  exact e
theorem hid_swap : Same (hid S (L2.upd Z D o) H) (hid S (L2.upd Z D o') (L2.upd H D o2)) := fun b x e => by
  have n := hid_some e
  rw [hid_at n] at e
  have m := off_hide n
  rw [hid_at ⟨n.1, by rw [upd_ne m.1]; exact m.2.2⟩, upd_ne m.1]
  exact e
theorem hid_new2 (n : H D = none) : Same (hid S Z H) (hid S (L2.upd Z D o) (L2.upd H D o2)) := fun b x e => by
  have m := hid_some e
  rw [hid_at m] at e
  have q : b ≠ D := ne_of_none e n
  rw [hid_at ⟨m.1, by rw [upd_ne q]; exact m.2⟩, upd_ne q]
  exact e
theorem ne_of_new (n : H q = none) : ∀ b, H b ≠ none → b ≠ q := fun b h e => h (by rw [e]; exact n)
theorem Kp.upd_new (P : ∀ b, H b ≠ none → b ≠ q) (k : Kp S Z H H1) : Kp S Z H (L2.upd H1 q o) := fun b u e => by
  have n := hid_some e
  have e1 := k b u e
  rw [hid_at n] at e1 ⊢
  rw [upd_ne]
  · exact e1
  · refine P b ?_
    rw [hid_at n] at e
    rw [e]
    exact fun z => nomatch z
end
/-- a def without draws: what it gives is a function of the data that it gets -/
def sp_fn (K : PySem.W.Frag) (P : List PyData → Prop) (F : List PyData → PyData) : Sp := fun vs H Q _ => ∃ (N : Addr → Prop) (ds : List PyData), Occ N H ∧ Dqs K (cut N H) vs ds ∧ P ds ∧ ∀ r H', Same H H' → Dq K (cut N H') r (F ds) → Q r H'
/-! ### what an expression gives -/
def Ev (S : Src) (Z : Hp) (n : Nat) (H0 : Hp) (σ : L2.St) (te : TE) (R : VR) : Prop :=
  ∀ (H : Hp) (b : Nat) (Q : VK), Iv S Z (n + b) H → Kp S Z H0 H → (∀ v H', Iv S Z b H' → Kp S Z H H' → R v (hid S Z H') → Q v H') → te σ H Q
def EvA (S : Src) (Z : Hp) (n : Nat) (H0 : Hp) (σ : L2.St) (ta : TA) (R : LR) : Prop :=
  ∀ (H : Hp) (b : Nat) (Q : List V → Hp → Prop), Iv S Z (n + b) H → Kp S Z H0 H → (∀ v H', Iv S Z b H' → Kp S Z H H' → R v (hid S Z H') → Q v H') → ta σ H Q
section
variable {K : PySem.W.Frag} {S : Src} {Z : Hp} {H0 : Hp} {σ : L2.St} {te ta tb ti : TE} {tl : TA} {R R' R1 R2 : VR} {Rs Rt : LR} {n m n1 n2 : Nat}
theorem Ev.run (h : Ev S Z n H0 σ te R) {B b : Nat} {Q : VK} (P : Iv S Z B H0) (hb : n + b ≤ B) (q : ∀ v H', Iv S Z b H' → Kp S Z H0 H' → R v (hid S Z H') → Q v H') : te σ H0 Q := h H0 b Q (P.less hb) Kp.refl q
theorem EvA.run (h : EvA S Z n H0 σ tl Rs) {B b : Nat} {Q : List V → Hp → Prop} (P : Iv S Z B H0) (hb : n + b ≤ B) (q : ∀ v H', Iv S Z b H' → Kp S Z H0 H' → Rs v (hid S Z H') → Q v H') : tl σ H0 Q := h H0 b Q (P.less hb) Kp.refl q
theorem Ev.imp (h : Ev S Z n H0 σ te R) (i : ∀ v G, R v G → R' v G) : Ev S Z n H0 σ te R' := fun H b Q P k q => h H b Q P k fun v H' P' k' r => q v H' P' k' (i _ _ r)
theorem EvA.imp (h : EvA S Z n H0 σ tl Rs) (i : ∀ v G, Rs v G → Rt v G) : EvA S Z n H0 σ tl Rt := fun H b Q P k q => h H b Q P k fun v H' P' k' r => q v H' P' k' (i _ _ r)
theorem Ev.cost (h : Ev S Z n H0 σ te R) (i : n ≤ m) : Ev S Z m H0 σ te R := fun H b Q P k q => h H b Q (P.less (by omega)) k q
theorem ev_c {v : V} : Ev S Z 0 H0 σ (tC v) (fun u _ => u = v) := fun H b Q P k q => q v H (P.less (by omega)) Kp.refl rfl
theorem ev_var {i : Nat} {v : V} (e : σ[i]? = some (some v)) (m : Mo R) (h : R v (hid S Z H0)) : Ev S Z 0 H0 σ (tVar i) R := fun H b Q P k q => ⟨v, e, q v H (P.less (by omega)) Kp.refl (m _ _ _ k h)⟩
theorem eva_nil : EvA S Z 0 H0 σ tNil (fun vs _ => vs = []) := fun H b Q P k q => q [] H (P.less (by omega)) Kp.refl rfl
theorem eva_cons (mo : Mo R) (h1 : Ev S Z n1 H0 σ te R) (h2 : EvA S Z n2 H0 σ tl Rs) : EvA S Z (n1 + n2) H0 σ (tCons te tl) (fun vs G => ∃ v r, vs = v :: r ∧ R v G ∧ Rs r G) :=
  fun H b Q P k q => h1 H (n2 + b) _ (P.less (by omega)) k fun v H1 P1 k1 r1 => h2 H1 b _ P1 (k.trans k1) fun vs H2 P2 k2 r2 => q _ H2 P2 (k1.trans k2) ⟨v, vs, rfl, mo _ _ _ k2 r1, r2⟩
theorem eva_pair (m1 : Mo R1) (m2 : Mo R2) (h1 : Ev S Z n1 H0 σ ta R1) (h2 : Ev S Z n2 H0 σ tb R2) : EvA S Z (n1 + (n2 + 0)) H0 σ (tCons ta (tCons tb tNil)) (fun vs G => ∃ v w, vs = [v, w] ∧ R1 v G ∧ R2 w G) :=
  (eva_cons m1 h1 (eva_cons m2 h2 eva_nil)).imp fun vs G ⟨v, r, e, r1, w, r', e', r2, e2⟩ => ⟨v, w, by rw [e, e', e2], r1, r2⟩
theorem eall_nil : EvA S Z 0 H0 σ tNil (AllR 0 0 R) := fun H b Q P k q => q [] H (P.less (by omega)) Kp.refl ⟨Nat.le_refl _, Nat.le_refl _, fun v h => nomatch h⟩
theorem eall_cons {a b : Nat} (m : Mo R) (h1 : Ev S Z n1 H0 σ te R) (h2 : EvA S Z n2 H0 σ tl (AllR a b R)) : EvA S Z (n1 + n2) H0 σ (tCons te tl) (AllR (a + 1) (b + 1) R) :=
  (eva_cons m h1 h2).imp fun vs G h => by
    obtain ⟨v, r, rfl, hv, h1, h2, h3⟩ := h
    refine ⟨Nat.succ_le_succ h1, Nat.succ_le_succ h2, fun x hx => ?_⟩
    rcases List.mem_cons.mp hx with e | e
    · rw [e]; exact hv
    · exact h3 x e
theorem ev_tup (h : EvA S Z n H0 σ tl Rs) (hl : ∀ vs G, Rs vs G → vs.length ≤ sizeLine) (m : MoL Rs) : Ev S Z n H0 σ (tTup tl) (fun v G => ∃ a xs, v = .ref a ∧ G a = some (.tup xs) ∧ Rs xs G) :=
  fun H b Q P k q => h H b _ P k fun vs H1 P1 k1 r1 => ⟨hl _ _ r1, fun t nt => by
    obtain ⟨P2, k2, e2⟩ := laid (o := .tup vs) P1 nt
    exact q _ _ P2 (k1.trans k2) ⟨t, vs, rfl, e2, m _ _ _ k2 r1⟩⟩
theorem ev_lst {m n' : Nat} (hn : n' ≤ 1000) (hm : Mo R) (h : EvA S Z n H0 σ tl (AllR m n' R)) : Ev S Z n H0 σ (tLst tl) (LsR m n' R) :=
  fun H b Q P k q => h H b _ P k fun vs H1 P1 k1 r1 => ⟨Nat.le_of_lt (small1000 (Nat.le_trans r1.2.1 hn)), fun t nt => by
    obtain ⟨P2, k2, e2⟩ := laid (o := .lst vs) P1 nt
    exact q _ _ P2 (k1.trans k2) ⟨t, vs, rfl, e2, AllR.mo hm _ _ _ k2 r1⟩⟩
theorem ev_tupR {m n' : Nat} (hn : n' ≤ 1000) (hm : Mo R) (h : EvA S Z n H0 σ tl (AllR m n' R)) : Ev S Z n H0 σ (tTup tl) (TpR K m n' R) :=
  (ev_tup h (fun vs G r => Nat.le_of_lt (small1000 (Nat.le_trans r.2.1 hn))) (AllR.mo hm)).imp fun v G ⟨a, xs, e, g, r⟩ => ⟨a, xs, e, .inl (.inl g), r⟩
theorem ev_cat {a b c d : Nat} (hn : b + d ≤ 1000) (hm : Mo R) (h1 : Ev S Z n1 H0 σ ta (LsR a b R)) (h2 : Ev S Z n2 H0 σ tb (LsR c d R)) : Ev S Z (n1 + n2) H0 σ (tOp rCat ta tb) (LsR (a + c) (b + d) R) :=
  fun H bb Q P k q => h1 H (n2 + bb) _ (P.less (by omega)) k fun x H1 P1 k1 r1 => h2 H1 bb _ P1 (k.trans k1) fun y H2 P2 k2 r2 => by
    obtain ⟨l, xs, rfl, g1, a1, a2, a3⟩ := LsR.mo hm _ _ _ k2 r1
    obtain ⟨l2, ys, rfl, g2, b1, b2, b3⟩ := r2
    refine ⟨l, l2, xs, ys, rfl, rfl, hid_same _ _ g1, hid_same _ _ g2, Nat.le_of_lt (small1000 (by omega)), fun t nt => ?_⟩
    obtain ⟨P3, k3, e3⟩ := laid (o := .lst (xs ++ ys)) P2 nt
    refine q _ _ P3 ((k1.trans k2).trans k3) ⟨t, _, rfl, e3, by rw [List.length_append]; omega, by rw [List.length_append]; omega, fun v hv => ?_⟩
    rcases List.mem_append.mp hv with e | e
    · exact hm _ _ _ k3 (a3 v e)
    · exact hm _ _ _ k3 (b3 v e)
theorem ev_catA {a b c d : Nat} (hn : b + d ≤ 1000) (hm : Mo R) (h1 : Ev S Z n1 H0 σ ta (TpR K a b R)) (h2 : Ev S Z n2 H0 σ tb (TpR K c d R)) : Ev S Z (n1 + n2) H0 σ (tOp (rCatA K) ta tb) (TpR K (a + c) (b + d) R) :=
  fun H bb Q P k q => h1 H (n2 + bb) _ (P.less (by omega)) k fun x H1 P1 k1 r1 => h2 H1 bb _ P1 (k.trans k1) fun y H2 P2 k2 r2 => by
    have r1' := TpR.mo hm _ _ _ k2 r1
    obtain ⟨l, xs, rfl, g1, a1, a2, a3⟩ := r1'
    obtain ⟨l2, ys, rfl, g2, b1, b2, b3⟩ := id r2
    refine ⟨l, l2, xs, ys, rfl, rfl, Same.seqT hid_same g1, Same.seqT hid_same g2, Nat.le_of_lt (small1000 (by omega)), fun z => ?_, fun z1 z2 => ?_, fun z1 z2 t nt => ?_⟩
    · subst z
      refine q _ _ P2 (k1.trans k2) ⟨l2, ys, rfl, g2, ?_, by omega, b3⟩
      simp only [List.length_nil] at a1; omega
    · subst z2
      refine q _ _ P2 (k1.trans k2) ⟨l, xs, rfl, g1, ?_, by omega, a3⟩
      simp only [List.length_nil] at b1; omega
    · obtain ⟨P3, k3, e3⟩ := laid (o := .tup (xs ++ ys)) P2 nt
      refine q _ _ P3 ((k1.trans k2).trans k3) ⟨t, _, rfl, .inl (.inl e3), by rw [List.length_append]; omega, by rw [List.length_append]; omega, fun v hv => ?_⟩
      rcases List.mem_append.mp hv with e | e
      · exact hm _ _ _ k3 (a3 v e)
      · exact hm _ _ _ k3 (b3 v e)
theorem ev_int {i : Int} : Ev S Z 0 H0 σ (tC (.int i)) (IR i i) := ev_c.imp fun v G e => ⟨i, e, Int.le_refl _, Int.le_refl _⟩
theorem ev_neg {i j : Int} (h : Ev S Z n H0 σ te (IR i j)) : Ev S Z n H0 σ (tUn (rU fun i => .int (-i)) te) (IR (-j) (-i)) :=
  fun H b Q P k q => h H b _ P k fun v H1 P1 k1 ⟨x, e, h1, h2⟩ => ⟨x, e, q _ _ P1 k1 ⟨-x, rfl, by omega, by omega⟩⟩
theorem ev_add {a b c d : Int} (h1 : Ev S Z n1 H0 σ ta (IR a b)) (h2 : Ev S Z n2 H0 σ tb (IR c d)) : Ev S Z (n1 + n2) H0 σ (tOp (rI0 fun i j => .int (i + j)) ta tb) (IR (a + c) (b + d)) :=
  fun H bb Q P k q => h1 H (n2 + bb) _ (P.less (by omega)) k fun x H1 P1 k1 ⟨i, e1, i1, i2⟩ => h2 H1 bb _ P1 (k.trans k1) fun y H2 P2 k2 ⟨j, e2, j1, j2⟩ => ⟨i, j, e1, e2, q _ _ P2 (k1.trans k2) ⟨i + j, rfl, by omega, by omega⟩⟩
theorem ev_sub {a b c d : Int} (h1 : Ev S Z n1 H0 σ ta (IR a b)) (h2 : Ev S Z n2 H0 σ tb (IR c d)) : Ev S Z (n1 + n2) H0 σ (tOp (rI0 fun i j => .int (i - j)) ta tb) (IR (a - d) (b - c)) :=
  fun H bb Q P k q => h1 H (n2 + bb) _ (P.less (by omega)) k fun x H1 P1 k1 ⟨i, e1, i1, i2⟩ => h2 H1 bb _ P1 (k.trans k1) fun y H2 P2 k2 ⟨j, e2, j1, j2⟩ => ⟨i, j, e1, e2, q _ _ P2 (k1.trans k2) ⟨i - j, rfl, by omega, by omega⟩⟩
theorem ev_mul {a b c d : Int} (ha : 0 ≤ a) (hb : b < 2 ^ 64) (hc : 0 ≤ c) (h1 : Ev S Z n1 H0 σ ta (IR a b)) (h2 : Ev S Z n2 H0 σ tb (IR c d)) : Ev S Z (n1 + n2) H0 σ (tOp (rI CMul fun i j => .int (i * j)) ta tb) (IR (a * c) (b * d)) :=
  fun H bb Q P k q => h1 H (n2 + bb) _ (P.less (by omega)) k fun x H1 P1 k1 ⟨i, e1, i1, i2⟩ => h2 H1 bb _ P1 (k.trans k1) fun y H2 P2 k2 ⟨j, e2, j1, j2⟩ => by
    refine ⟨i, j, e1, e2, .inl ⟨by omega, by omega⟩, q _ _ P2 (k1.trans k2) ⟨i * j, rfl, ?_, ?_⟩⟩
    · exact Int.mul_le_mul i1 j1 hc (Int.le_trans ha i1)
    · exact Int.mul_le_mul i2 j2 (Int.le_trans hc j1) (Int.le_trans ha (Int.le_trans i1 i2))
theorem ev_pow {i j : Int} (h : CPow i j) : Ev S Z 0 H0 σ (tOp (rI CPow fun i j => .int (i ^ j.toNat)) (tC (.int i)) (tC (.int j))) (IR (i ^ j.toNat) (i ^ j.toNat)) :=
  fun H b Q P k q => ⟨i, j, rfl, rfl, h, q _ _ (P.less (by omega)) Kp.refl ⟨_, rfl, Int.le_refl _, Int.le_refl _⟩⟩
theorem Ev.wide {a b c d : Int} (h : Ev S Z n H0 σ te (IR a b)) (h1 : c ≤ a := by decide) (h2 : b ≤ d := by decide) : Ev S Z n H0 σ te (IR c d) := h.imp fun v G ⟨i, e, i1, i2⟩ => ⟨i, e, by omega, by omega⟩
theorem Ev.isInt {a b : Int} (h : Ev S Z n H0 σ te (IR a b)) : Ev S Z n H0 σ te (fun v _ => ∃ i, v = .int i) := h.imp fun v G ⟨i, e, _⟩ => ⟨i, e⟩
theorem ev_ivar {i : Nat} {g lo hi : Int} (e : σ[i]? = some (some (.int g))) (h0 : lo ≤ g) (h1 : g ≤ hi) : Ev S Z 0 H0 σ (tVar i) (IR lo hi) := ev_var e IR.mo ⟨g, rfl, h0, h1⟩
theorem ev_ixT {m c : Nat} {lo up : Int} (hm : Mo R) (h : Ev S Z n1 H0 σ te (TpR K m c R)) (hi : Ev S Z n2 H0 σ ti (IR lo up)) (h1 : -(m : Int) ≤ lo) (h2 : up < (m : Int)) : Ev S Z (n1 + n2) H0 σ (tOp (rIxT K) te ti) R :=
  fun H b Q P k q => h H (n2 + b) _ (P.less (by omega)) k fun x H1 P1 k1 r1 => hi H1 b _ P1 (k.trans k1) fun y H2 P2 k2 ⟨i, e, i1, i2⟩ => by
    obtain ⟨a, xs, rfl, g, l1, l2, l3⟩ := TpR.mo hm _ _ _ k2 r1
    obtain ⟨v, hv, ev⟩ := atI_in (xs := xs) (i := i) (by omega) (by omega)
    exact ⟨a, xs, i, v, rfl, e, Same.seqT hid_same g, ev, q _ _ P2 (k1.trans k2) (l3 v hv)⟩
theorem ev_ixL {m c : Nat} {lo up : Int} (hm : Mo R) (h : Ev S Z n1 H0 σ te (LsR m c R)) (hi : Ev S Z n2 H0 σ ti (IR lo up)) (h1 : -(m : Int) ≤ lo := by decide) (h2 : up < (m : Int) := by decide) : Ev S Z (n1 + n2) H0 σ (tOp (rIxL K) te ti) R :=
  fun H b Q P k q => h H (n2 + b) _ (P.less (by omega)) k fun x H1 P1 k1 r1 => hi H1 b _ P1 (k.trans k1) fun y H2 P2 k2 ⟨i, e, i1, i2⟩ => by
    obtain ⟨a, xs, rfl, g, l1, l2, l3⟩ := LsR.mo hm _ _ _ k2 r1
    obtain ⟨v, hv, ev⟩ := atI_in (xs := xs) (i := i) (by omega) (by omega)
    exact ⟨a, xs, i, v, rfl, e, .inl (.inl (hid_same _ _ g)), ev, q _ _ P2 (k1.trans k2) (l3 v hv)⟩
theorem ev_len {m c : Nat} (h : Ev S Z n H0 σ te (TpR K m c R)) : Ev S Z n H0 σ (tCB (fun xs H Q => ∃ p ys, xs = [.ref p] ∧ (SqL K H p ys ∨ SqT K H p ys) ∧ Q (.int ys.length) H) (tCons te tNil)) (IR m c) :=
  fun H b Q P k q => h H b _ P k fun v H1 P1 k1 ⟨a, xs, e, g, h1, h2, _⟩ => ⟨a, xs, by rw [e], .inr (Same.seqT hid_same g), q _ _ P1 k1 ⟨_, rfl, by omega, by omega⟩⟩
theorem ev_lenL {m c : Nat} (h : Ev S Z n H0 σ te (LsR m c R)) : Ev S Z n H0 σ (tCB (fun xs H Q => ∃ p ys, xs = [.ref p] ∧ (SqL K H p ys ∨ SqT K H p ys) ∧ Q (.int ys.length) H) (tCons te tNil)) (IR m c) :=
  fun H b Q P k q => h H b _ P k fun v H1 P1 k1 ⟨a, xs, e, g, h1, h2, _⟩ => ⟨a, xs, by rw [e], .inl (.inl (.inl (hid_same _ _ g))), q _ _ P1 k1 ⟨_, rfl, by omega, by omega⟩⟩
theorem ev_listOf {m c : Nat} (hm : Mo R) (h : Ev S Z n H0 σ te (TpR K m c R)) : Ev S Z n H0 σ (tCB (fun xs H Q => ∃ p ys, xs = [.ref p] ∧ (SqL K H p ys ∨ SqT K H p ys) ∧ ∀ l, H l = none → Q (.ref l) (upd H l (.lst ys))) (tCons te tNil)) (LsR m c R) :=
  fun H b Q P k q => h H b _ P k fun v H1 P1 k1 ⟨a, xs, e, g, h1, h2, h3⟩ => ⟨a, xs, by rw [e], .inr (Same.seqT hid_same g), fun t nt => by
    obtain ⟨P4, k4, e4⟩ := laid (o := .lst xs) P1 nt
    exact q _ _ P4 (k1.trans k4) ⟨t, xs, rfl, e4, h1, h2, fun x hx => hm _ _ _ k4 (h3 x hx)⟩⟩
theorem ev_tupleOf {m c : Nat} (hm : Mo R) (h : Ev S Z n H0 σ te (LsR m c R)) : Ev S Z n H0 σ (tCB (fun xs H Q => ∃ p ys, xs = [.ref p] ∧ ((SqL K H p ys ∧ ∀ l, H l = none → Q (.ref l) (upd H l (.tup ys))) ∨ (SqT K H p ys ∧ Q (.ref p) H))) (tCons te tNil)) (TpR K m c R) :=
  fun H b Q P k q => h H b _ P k fun v H1 P1 k1 ⟨a, xs, e, g, h1, h2, h3⟩ => ⟨a, xs, by rw [e], .inl ⟨.inl (.inl (hid_same _ _ g)), fun t nt => by
    obtain ⟨P4, k4, e4⟩ := laid (o := .tup xs) P1 nt
    exact q _ _ P4 (k1.trans k4) ⟨t, xs, rfl, .inl (.inl e4), h1, h2, fun x hx => hm _ _ _ k4 (h3 x hx)⟩⟩⟩
/-! ### a def without draws: data to data -/
theorem ev_fn {P : List PyData → Prop} {F : List PyData → PyData} {R : PyData → Prop} {Rs : List PyData → Prop} (h : EvA S Z n H0 σ tl (fun vs G => ∃ ds, Dqs K G vs ds ∧ Rs ds)) (hP : ∀ ds, Rs ds → P ds) (hR : ∀ ds, Rs ds → R (F ds)) : Ev S Z n H0 σ (tCall (sp_fn K P F) [] E0 tl) (DR K R) :=
  fun H b Q Pi k q => h H b _ Pi k fun vs H1 P1 k1 ⟨ds, hd, hr⟩ => ⟨NZ S Z, ds, P1.occ, by rw [List.append_nil]; exact hd, hP _ hr, fun r H' s hf => q _ _ (P1.keep s) (k1.trans (Kp.of s)) ⟨_, hf, hR _ hr⟩⟩
end
/-! ### lists that a comprehension makes grow -/
theorem ev_lcR {S : Src} {Z : Hp} {H0 : Hp} {σ : L2.St} {te : TE} {R : VR} {v n : Nat} {j : Int} (j0 : 0 ≤ j) (j1 : j ≤ 1000) (hm : Mo R)
    (hT : ∀ (Z' H1 : Hp) (x : V) (b : Nat), Iv S Z' b H1 → Same (hid S Z H0) (hid S Z' H1) → Ev S Z' n H1 ((wipe σ [v]).set v (some x)) te R) :
    Ev S Z (n * j.toNat) H0 σ (tLc (iRng1 (tCons (tC (.int j)) tNil)) (gName v) tYes te [v]) (LsR j.toNat j.toNat R) := fun H b Q P k q => by
  refine ⟨j, rfl, by omega, by omega, fun D nD => ?_⟩
  have f := P.free nD
  refine lc_range (fun i Hj => ∃ acc, Iv S (upd Z D (.lst acc)) (n * (j.toNat - i) + b) Hj ∧ acc.length = i ∧ (∀ x ∈ acc, R x (hid S (upd Z D (.lst acc)) Hj)) ∧ Same (hid S Z H) (hid S (upd Z D (.lst acc)) Hj)) ⟨[], (P.new nD).hide upd_same f.1, rfl, (fun x hx => nomatch hx), hid_new2 nD⟩ ?_ ?_
  · rintro i Hj hi ⟨acc, Pj, la, ra, sj⟩
    refine ⟨?_, yes_if ?_⟩
    · simp only [wipe, List.set_set]
    · have e1 : n * (j.toNat - i) = n + n * (j.toNat - (i + 1)) := by
        rw [show j.toNat - i = (j.toNat - (i + 1)) + 1 by omega, Nat.mul_add, Nat.mul_one, Nat.add_comm]
      rw [e1, Nat.add_assoc] at Pj
      refine hT _ Hj _ _ Pj (Same.trans k sj) Hj _ _ Pj Kp.refl fun y H4 P4 k4 r4 => ⟨acc, P4.zz _ _ upd_same, small1000 (by omega), acc ++ [y], ?_, by rw [List.length_append, la]; rfl, fun x hx => ?_, (Same.trans sj k4).trans hid_swap⟩
      · exact ((P4.bare f.2).upd f).hide upd_same f.1
      · rcases List.mem_append.mp hx with e | e
        · exact hm _ _ _ (Same.trans k4 hid_swap) (ra x e)
        · rw [List.mem_singleton.mp e]
          exact hm _ _ _ hid_swap r4
  · rintro Hn ⟨acc, Pn, la, ra, sn⟩
    have e := Pn.zz _ _ upd_same
    exact q _ Hn ((Pn.bare f.2).less (by omega)) (sn.trans hid_hide) ⟨D, acc, rfl, by rw [hid_at f]; exact e, by omega, by omega, fun x hx => hm _ _ _ hid_hide (ra x hx)⟩
end Lg

namespace Lg
open PySem PySem.Spec PyProof.Rows L2 Lm
/-! ### the reel -/
def rlAt (r c : Addr) (b : Nat) (H : Hp) : Prop := ∃ (t : Nat) (ns : List Int), H r = some (.lst [.ref c, .int (t : Int)]) ∧ H c = some (.lst (ns.map V.int)) ∧ ns ≠ [] ∧ ns.length ≤ 64 ∧ t + b ≤ 1000000000000
def reel (r c : Addr) : Src where
  at_ := rlAt r c
  own := fun a => a = r ∨ a = c
  frame := fun h ⟨t, ns, h1, h2, h3⟩ => ⟨t, ns, by rw [h r (.inl rfl)]; exact h1, by rw [h c (.inr rfl)]; exact h2, h3⟩
  less := fun hc ⟨t, ns, h1, h2, h3, h4, h5⟩ => ⟨t, ns, h1, h2, h3, h4, by omega⟩
  full := fun ⟨t, ns, h1, h2, _⟩ h => by
    rcases h with rfl | rfl
    · rw [h1]; exact fun z => nomatch z
    · rw [h2]; exact fun z => nomatch z
theorem reel_ne {r c : Addr} {b : Nat} {H : Hp} (h : rlAt r c b H) : r ≠ c := by
  obtain ⟨t, ns, h1, h2, h3, _⟩ := h
  rintro rfl
  rw [h1] at h2
  cases ns with
  | nil => exact h3 rfl
  | cons n ns =>
    have q : [V.ref r, V.int (t : Int)] = (n :: ns).map V.int := HO.lst.inj (Option.some.inj h2)
    simp at q
def sp_spin : Sp := fun vs H Q _ => ∃ (Z : Hp) (r c : Addr) (b : Nat) (n : Int), vs = [.ref r, .int n] ∧ Iv (reel r c) Z (1 + b) H ∧ 1 ≤ n ∧ n < 1073741824 ∧
  ∀ (v : Int) (H' : Hp), Iv (reel r c) Z b H' → Kp (reel r c) Z H H' → 0 ≤ v → v < n → Q (.int v) H'
def sp_reel (K : PySem.W.Frag) : Sp := fun vs H Q _ => ∃ (a : Addr) (ns : List Int), vs = [.ref a] ∧ SqL K H a (ns.map V.int) ∧ ns.length ≤ 63 ∧ ∀ (r c : Addr) (H' : Hp), Iv (reel r c) (fun _ => none) 1000000000000 H' → Same H H' → Q (.ref r) H'
section
variable {K : PySem.W.Frag} {r c : Addr} {Z : Hp} {H0 : Hp} {σ : L2.St} {te ta tb : TE} {tl : TA} {R : VR} {n : Nat}
theorem ev_spin {i : Nat} {b : Int} (e : σ[i]? = some (some (.ref r))) (hb : b < 1073741824) (h : Ev (reel r c) Z n H0 σ te (IR 1 b)) : Ev (reel r c) Z (n + 1) H0 σ (tCall sp_spin [] E0 (tCons (tVar i) (tCons te tNil))) (IR 0 (b - 1)) :=
  fun H bb Q P k q => ⟨_, e, h H (1 + bb) _ (P.less (by omega)) k fun v H1 P1 k1 ⟨m, em, n1, n2⟩ => ⟨Z, r, c, bb, m, by rw [em]; rfl, P1, by omega, by omega, fun x H2 P2 k2 r1 r2 => q _ _ P2 (k1.trans k2) ⟨x, rfl, r1, by omega⟩⟩⟩
theorem ev_spinC {i : Nat} {m : Int} (e : σ[i]? = some (some (.ref r)) := by rfl) (h0 : 1 ≤ m := by decide) (h1 : m < 1073741824 := by decide) : Ev (reel r c) Z (0 + 1) H0 σ (tCall sp_spin [] E0 (tCons (tVar i) (tCons (tC (.int m)) tNil))) (IR 0 (m - 1)) :=
  ev_spin (b := m) e h1 (ev_int.wide h0 (Int.le_refl _))
end
/-! ### lamps, stretches, logs, minutes -/
def kindS (h : Bool) : Str := if h then "hold" else "pulse"
abbrev Lamp := Bool × Int
abbrev Stt := Int × Int
def lampD (l : Lamp) : PyData := .tuple [.str (kindS l.1), .int l.2]
def logD (ps : List Stt) : PyData := .tuple (ps.map pD)
def lampsD (ls : List Lamp) : PyData := .tuple (ls.map lampD)
def minsD (ms : List Int) : PyData := .list (ms.map .int)
/-- strictly rising, from above b -/
def Asc : Int → List Int → Prop
  | _, [] => True
  | b, m :: r => b < m ∧ Asc m r
def stepL (h : Bool) (s : Int) : List Stt → Int → List Stt
  | [], m => [(m, m + s)]
  | q :: r, m => if q.2 < m then (m, m + s) :: q :: r else if h || decide (m = q.2) then (q.1, m + s) :: r else q :: r
def logF (l : Lamp) (ms : List Int) : List Stt := (ms.foldl (stepL l.1 l.2) []).reverse
/-- a log in order, all of it up to B -/
structure LgOk (n : Nat) (B : Int) (ps : List Stt) : Prop where
  up : LogUp (-1) ps
  len : ps.length ≤ n
  top : ∀ q ∈ ps, q.2 ≤ B
/-- the same from its end -/
def DownOk (B : Int) : List Stt → Prop
  | [] => True
  | q :: r => 0 ≤ q.1 ∧ q.1 < q.2 ∧ q.2 ≤ B ∧ DownOk B r ∧ (match r with | [] => True | p :: _ => p.2 < q.1)
theorem LogUp.snoc {b : Int} : ∀ {ps : List Stt} {q : Stt}, LogUp b ps → (∀ p, ps.getLast? = some p → p.2 < q.1) → b < q.1 → q.1 < q.2 → LogUp b (ps ++ [q])
  | [], q, _, _, h, h2 => ⟨h, h2, trivial⟩
  | p :: r, q, ⟨a1, a2, a3⟩, hl, h, h2 => by
    refine ⟨a1, a2, LogUp.snoc a3 (fun x hx => ?_) ?_ h2⟩
    · cases r with
      | nil => simp at hx
      | cons y ys => exact hl x (by rw [List.getLast?_cons_cons]; exact hx)
    · cases r with
      | nil => exact hl p rfl
      | cons y ys =>
        obtain ⟨b1, b2, b3⟩ := a3
        have := hl ((y :: ys).getLast (by simp)) (by rw [List.getLast?_cons_cons, List.getLast?_eq_getLast (by simp)])
        have m : (y :: ys).getLast (by simp) ∈ (y :: ys) := List.getLast_mem _
        have bb := LogUp.bound (b := p.2) (ps := y :: ys) ⟨b1, b2, b3⟩ _ m
        omega
theorem DownOk.rev {B : Int} : ∀ {qs : List Stt}, DownOk B qs → LogUp (-1) qs.reverse ∧ ∀ q ∈ qs, 0 ≤ q.1 ∧ q.1 < q.2 ∧ q.2 ≤ B
  | [], _ => ⟨trivial, fun q h => nomatch h⟩
  | q :: r, ⟨h0, h1, h2, h3, h4⟩ => by
    obtain ⟨i1, i2⟩ := DownOk.rev h3
    rw [List.reverse_cons]
    refine ⟨LogUp.snoc i1 (fun p hp => ?_) (by omega) h1, fun x hx => ?_⟩
    · rw [List.getLast?_reverse] at hp
      cases r with
      | nil => simp at hp
      | cons y ys => simp at hp; rw [← hp]; exact h4
    · rcases List.mem_cons.mp hx with e | e
      · rw [e]; exact ⟨h0, h1, h2⟩
      · exact i2 x e
theorem DownOk.ok {B : Int} {n : Nat} {qs : List Stt} (h : DownOk B qs) (hl : qs.length ≤ n) : LgOk n B qs.reverse :=
  ⟨h.rev.1, by rw [List.length_reverse]; exact hl, fun q hq => (h.rev.2 q (List.mem_reverse.mp hq)).2.2⟩
theorem stepL_down {h : Bool} {s B C m : Int} {qs : List Stt} (hs : 1 ≤ s) (hd : DownOk C qs) (h0 : 0 ≤ m) (hb : m + s ≤ B) (hc : C ≤ B) (hm : ∀ q, qs.head? = some q → q.1 < m) : DownOk B (stepL h s qs m) := by
  have w : ∀ {rs : List Stt}, DownOk C rs → DownOk B rs := fun {rs} => by
    intro hr
    induction rs with
    | nil => trivial
    | cons q r ih => obtain ⟨a1, a2, a3, a4, a5⟩ := hr; exact ⟨a1, a2, Int.le_trans a3 hc, ih a4, a5⟩
  cases qs with
  | nil => exact ⟨h0, by show m < m + s; omega, hb, trivial, trivial⟩
  | cons q r =>
    have hq := hm q rfl
    obtain ⟨a1, a2, a3, a4, a5⟩ := hd
    simp only [stepL]
    split
    · exact ⟨h0, by show m < m + s; omega, hb, w ⟨a1, a2, a3, a4, a5⟩, by assumption⟩
    · split
      · exact ⟨a1, by show q.1 < m + s; omega, hb, w a4, a5⟩
      · exact w ⟨a1, a2, a3, a4, a5⟩
theorem stepL_head {h : Bool} {s m : Int} {qs : List Stt} (hm : ∀ q, qs.head? = some q → q.1 < m) : ∀ q, (stepL h s qs m).head? = some q → q.1 ≤ m := by
  intro x
  cases qs with
  | nil => intro e; cases e; exact Int.le_refl _
  | cons q r =>
    have hq := hm q rfl
    simp only [stepL]
    split
    · intro e; cases e; exact Int.le_refl _
    · split
      · intro e; cases e; show q.1 ≤ m; omega
      · intro e; cases e; omega
theorem stepL_len {h : Bool} {s m : Int} {qs : List Stt} : (stepL h s qs m).length ≤ qs.length + 1 := by
  cases qs with
  | nil => exact Nat.le_refl _
  | cons q r =>
    simp only [stepL]
    split
    · simp
    · split <;> simp
theorem foldL_down {h : Bool} {s B : Int} (hs : 1 ≤ s) : ∀ {ms : List Int} {b : Int} {qs : List Stt}, Asc b ms → (∀ m ∈ ms, 0 ≤ m ∧ m + s ≤ B) → DownOk B qs → (∀ q, qs.head? = some q → q.1 ≤ b) → DownOk B (ms.foldl (stepL h s) qs) ∧ (ms.foldl (stepL h s) qs).length ≤ qs.length + ms.length
  | [], b, qs, _, _, hd, _ => ⟨hd, Nat.le_refl _⟩
  | m :: r, b, qs, ⟨a1, a2⟩, hm, hd, hh => by
    have m0 := hm m List.mem_cons_self
    have hh' : ∀ q, qs.head? = some q → q.1 < m := fun q e => by have := hh q e; omega
    obtain ⟨i1, i2⟩ := foldL_down (h := h) hs a2 (fun x hx => hm x (List.mem_cons_of_mem _ hx)) (stepL_down (h := h) hs hd m0.1 m0.2 (Int.le_refl _) hh') (stepL_head hh')
    have l := stepL_len (h := h) (s := s) (m := m) (qs := qs)
    refine ⟨i1, ?_⟩
    rw [List.foldl_cons, List.length_cons]
    omega
theorem logF_ok {l : Lamp} {ms : List Int} {b B : Int} {n : Nat} (hs : 1 ≤ l.2) (ha : Asc b ms) (hm : ∀ m ∈ ms, 0 ≤ m ∧ m + l.2 ≤ B) (hl : ms.length ≤ n) : LgOk n B (logF l ms) := by
  obtain ⟨h1, h2⟩ := foldL_down (h := l.1) (qs := []) hs ha hm trivial (fun q e => nomatch e)
  exact h1.ok (by simp at h2; omega)
/-! ### what such data is in the heap -/
theorem dqs_nil {K : PySem.W.Frag} {G : Hp} {vs : List V} (h : Dqs K G vs []) : vs = [] := by cases h; rfl
theorem dqs_cons {K : PySem.W.Frag} {G : Hp} {vs : List V} {d : PyData} {ds : List PyData} (h : Dqs K G vs (d :: ds)) : ∃ v r, vs = v :: r ∧ Dq K G v d ∧ Dqs K G r ds := by cases h; exact ⟨_, _, rfl, by assumption, by assumption⟩
theorem dq_int {K : PySem.W.Frag} {G : Hp} {v : V} {i : Int} (h : Dq K G v (.int i)) : v = .int i := by cases h; rfl
theorem dq_str {K : PySem.W.Frag} {G : Hp} {v : V} {x : Str} (h : Dq K G v (.str x)) : v = .str x := by cases h; rfl
theorem dq_bool {K : PySem.W.Frag} {G : Hp} {v : V} {x : Bool} (h : Dq K G v (.bool x)) : v = .bl x := by cases h; rfl
theorem dq_none {K : PySem.W.Frag} {G : Hp} {v : V} (h : Dq K G v .none) : v = .non := by cases h; rfl
theorem dq_tup {K : PySem.W.Frag} {G : Hp} {v : V} {ds : List PyData} (h : Dq K G v (.tuple ds)) : ∃ a xs, v = .ref a ∧ SqT K G a xs ∧ Dqs K G xs ds := by cases h; exact ⟨_, _, rfl, by assumption, by assumption⟩
theorem dq_lst {K : PySem.W.Frag} {G : Hp} {v : V} {ds : List PyData} (h : Dq K G v (.list ds)) : ∃ a xs, v = .ref a ∧ SqL K G a xs ∧ Dqs K G xs ds := by cases h; exact ⟨_, _, rfl, by assumption, by assumption⟩
theorem dq_lamp {K : PySem.W.Frag} {G : Hp} {v : V} {l : Lamp} (h : Dq K G v (lampD l)) : ∃ a, v = .ref a ∧ SqT K G a [.str (kindS l.1), .int l.2] := by
  obtain ⟨a, xs, rfl, h1, h2⟩ := dq_tup h
  obtain ⟨x, r, rfl, h3, h4⟩ := dqs_cons h2
  obtain ⟨y, r, rfl, h5, h6⟩ := dqs_cons h4
  rw [dqs_nil h6, dq_str h3, dq_int h5] at h1
  exact ⟨a, rfl, h1⟩
theorem dq_pair {K : PySem.W.Frag} {G : Hp} {v : V} {q : Stt} (h : Dq K G v (pD q)) : ∃ a, v = .ref a ∧ SqT K G a [.int q.1, .int q.2] := by
  obtain ⟨a, xs, rfl, h1, h2⟩ := dq_tup h
  obtain ⟨x, r, rfl, h3, h4⟩ := dqs_cons h2
  obtain ⟨y, r, rfl, h5, h6⟩ := dqs_cons h4
  rw [dqs_nil h6, dq_int h3, dq_int h5] at h1
  exact ⟨a, rfl, h1⟩
theorem dq_lampT {K : PySem.W.Frag} {G : Hp} {a : Addr} {l : Lamp} (h : SqT K G a [.str (kindS l.1), .int l.2]) : Dq K G (.ref a) (lampD l) := .tup h (.cons (.str _) (.cons (.int _) .nil))
theorem dq_pairT {K : PySem.W.Frag} {G : Hp} {a : Addr} {q : Stt} (h : SqT K G a [.int q.1, .int q.2]) : Dq K G (.ref a) (pD q) := .tup h (.cons (.int _) (.cons (.int _) .nil))
theorem dqs_ints {K : PySem.W.Frag} {G : Hp} : ∀ {vs : List V} {ms : List Int}, Dqs K G vs (ms.map .int) → vs = ms.map V.int
  | _, [], h => dqs_nil h
  | _, m :: r, h => by
    obtain ⟨v, t, rfl, h1, h2⟩ := dqs_cons h
    rw [dq_int h1, dqs_ints h2]; rfl
theorem ints_dqs {K : PySem.W.Frag} {G : Hp} : ∀ {ms : List Int}, Dqs K G (ms.map V.int) (ms.map .int)
  | [] => .nil
  | m :: r => .cons (.int m) ints_dqs
theorem kindS_hold (h : Bool) : decide (V.str (kindS h) = V.str "hold") = h := by
  cases h with
  | true => exact decide_eq_true rfl
  | false => exact decide_eq_false (fun e => absurd (V.str.inj e) (by decide))
theorem kindS_pulse (h : Bool) : decide (V.str (kindS h) = V.str "pulse") = !h := by
  cases h with
  | true => exact decide_eq_false (fun e => absurd (V.str.inj e) (by decide))
  | false => exact decide_eq_true rfl
theorem cut_ints (ns : List Int) (lo hi : Option Int) : ∃ ks : List Int, cutV (ns.map V.int) lo hi = ks.map V.int ∧ ks.length ≤ ns.length := by
  refine ⟨(ns.drop (HT.sIx (ns.map V.int).length 0 lo)).take (HT.sIx (ns.map V.int).length (ns.map V.int).length hi - HT.sIx (ns.map V.int).length 0 lo), ?_, ?_⟩
  · unfold cutV
    rw [List.map_take, List.map_drop]
  · rw [List.length_take, List.length_drop]
    omega
/-! ### promises -/
def sp_f (K : PySem.W.Frag) {α : Type} (A : α → List PyData) (P : α → Prop) (F : α → PyData) : Sp := fun vs H Q _ => ∃ (N : Addr → Prop) (x : α), Occ N H ∧ Dqs K (cut N H) vs (A x) ∧ P x ∧ ∀ r H', Same H H' → Dq K (cut N H') r (F x) → Q r H'
def fitB (l : Lamp) (q : Stt) : Bool := decide (q.2 - l.2 ≤ 1000000000) && (if l.1 then decide (l.2 ≤ q.2 - q.1) else decide ((q.2 - q.1).fmod l.2 = 0))
/-- the numbers of those that do not pass, from i on -/
def wrongs (p : Stt → Bool) : Nat → List Stt → List Int
  | _, [] => []
  | i, q :: r => if p q then wrongs p (i + 1) r else (i : Int) :: wrongs p (i + 1) r
theorem wrongs_snoc (p : Stt → Bool) : ∀ (i : Nat) (ps : List Stt) (q : Stt), wrongs p i (ps ++ [q]) = wrongs p i ps ++ (if p q then [] else [((i + ps.length : Nat) : Int)])
  | i, [], q => by simp only [List.nil_append, wrongs, List.length_nil, Nat.add_zero]
  | i, x :: r, q => by
    simp only [List.cons_append, wrongs, wrongs_snoc p (i + 1) r q, List.length_cons]
    rw [show i + 1 + r.length = i + (r.length + 1) by omega]
    split <;> simp
theorem wrongs_len (p : Stt → Bool) : ∀ (i : Nat) (ps : List Stt), (wrongs p i ps).length ≤ ps.length
  | _, [] => Nat.le_refl _
  | i, q :: r => by
    simp only [wrongs]
    have := wrongs_len p (i + 1) r
    split <;> simp only [List.length_cons] <;> omega
theorem wrongs_lt (p : Stt → Bool) : ∀ (i : Nat) (ps : List Stt), ∀ x ∈ wrongs p i ps, (i : Int) ≤ x ∧ x < i + ps.length
  | _, [], x, h => nomatch h
  | i, q :: r, x, h => by
    have ih := wrongs_lt p (i + 1) r
    simp only [wrongs] at h
    simp only [List.length_cons]
    split at h
    · have := ih x h; omega
    · rcases List.mem_cons.mp h with e | e
      · omega
      · have := ih x e; omega
def sp_lamps (K : PySem.W.Frag) : Sp := fun vs H Q _ => ∃ (Z : Hp) (r c : Addr) (b : Nat) (m T : Int), vs = [.ref r, .int m, .int T] ∧ Iv (reel r c) Z (25 + b) H ∧ 1 ≤ m ∧ m ≤ 6 ∧ 1 ≤ T ∧ T ≤ 10000 ∧
  ∀ (x : V) (H' : Hp) (ls : List Lamp), Iv (reel r c) Z b H' → Kp (reel r c) Z H H' → Dq K (hid (reel r c) Z H') x (lampsD ls) → 1 ≤ ls.length → (ls.length : Int) ≤ m → (∀ l ∈ ls, 1 ≤ l.2 ∧ l.2 ≤ T) → Q x H'
/-- minutes: rising, not negative, of at most 10 ** 7, so many at most -/
def MinsOk (n : Int) (ms : List Int) : Prop := Asc (-1) ms ∧ (ms.length : Int) ≤ n ∧ ∀ m ∈ ms, 0 ≤ m ∧ m ≤ 10000000
def sp_minutes (K : PySem.W.Frag) : Sp := fun vs H Q _ => ∃ (Z : Hp) (r c : Addr) (b : Nat) (m g : Int), vs = [.ref r, .int m, .int g] ∧ Iv (reel r c) Z (205 + b) H ∧ 0 ≤ m ∧ m ≤ 50 ∧ 1 ≤ g ∧ g ≤ 20000 ∧
  ∀ (x : V) (H' : Hp) (ms : List Int), Iv (reel r c) Z b H' → Kp (reel r c) Z H H' → Dq K (hid (reel r c) Z H') x (minsD ms) → MinsOk m ms → Q x H'
def sp_bent (K : PySem.W.Frag) : Sp := fun vs H Q _ => ∃ (Z : Hp) (r c : Addr) (b : Nat) (x : V) (ps : List Stt) (B : Int), vs = [.ref r, x] ∧ Iv (reel r c) Z (3 + b) H ∧ Dq K (hid (reel r c) Z H) x (logD ps) ∧ LgOk 60 B ps ∧ 0 ≤ B ∧ B ≤ 100000000 ∧
  ∀ (y : V) (H' : Hp) (qs : List Stt), Iv (reel r c) Z b H' → Kp (reel r c) Z H H' → Dq K (hid (reel r c) Z H') y (logD qs) → LgOk 60 (B + 8) qs → Q y H'
def sp_scene (K : PySem.W.Frag) : Sp := fun vs H Q _ => ∃ (Z : Hp) (r c : Addr) (b : Nat) (m T n : Int), vs = [.ref r, .int m, .int T, .int n] ∧ Iv (reel r c) Z (700 + b) H ∧ 1 ≤ m ∧ m ≤ 6 ∧ 1 ≤ T ∧ T ≤ 10000 ∧ 0 ≤ n ∧ n ≤ 50 ∧
  ∀ (p : Addr) (x y : V) (H' : Hp) (ls : List Lamp) (gs : List (List Stt)), Iv (reel r c) Z b H' → Kp (reel r c) Z H H' → H' p = some (.lst [x, y]) → ¬ (reel r c).own p → Z p = none → H p = none →
    Dq K (hid (reel r c) Z H') x (lampsD ls) → Dq K (hid (reel r c) Z H') y (.tuple (gs.map logD)) → 1 ≤ ls.length → (ls.length : Int) ≤ m → (∀ l ∈ ls, 1 ≤ l.2 ∧ l.2 ≤ T) → gs.length = ls.length → (∀ g ∈ gs, LgOk 60 20000000 g) → Q (.ref p) H'
end Lg

namespace Lg
open PySem PySem.Spec PyProof.Rows L2 Lm
/-! ### a list of one's own -/
noncomputable abbrev cut1 (f : Addr) (G : Hp) : Hp := cut (fun a => a = f) G
theorem cut1_at {f b : Addr} {G : Hp} (h : b ≠ f) : cut1 f G b = G b := if_neg h
section
variable {N : Addr → Prop} {H H3 : Hp} {f t : Addr} {o o' : HO} {vs : List V}
theorem app_cut (O : Occ N H3) (hf : H3 f = some o) (nt : H3 t = none) : Same (cut1 f (cut N H3)) (cut1 f (cut N (upd (upd H3 t (.tup vs)) f o'))) ∧ cut1 f (cut N (upd (upd H3 t (.tup vs)) f o')) t = some (.tup vs) := by
  have tf : t ≠ f := fun e => by rw [e, hf] at nt; cases nt
  have tN : ¬ N t := fun z => O t z nt
  constructor
  · intro b u e
    have n1 := cut_some e
    have n2 := cut_some n1.2
    have bt : b ≠ t := fun e => by rw [e, nt] at n2; cases n2.2
    rw [cut1_at n1.1, cut_at n2.1, upd_ne n1.1, upd_ne bt]
    exact n2.2
  · rw [cut1_at tf, cut_at tN, upd_ne tf, upd_same]
theorem set_cut : cut1 f (cut N (upd H3 f o)) = cut1 f (cut N H3) := by
  funext b
  by_cases e : b = f
  · unfold cut1 cut; rw [if_pos e, if_pos e]
  · rw [cut1_at e, cut1_at e]
    by_cases n : N b
    · unfold cut; rw [if_pos n, if_pos n]
    · rw [cut_at n, cut_at n, upd_ne e]
theorem new_cut (O : Occ N H3) (nt : H3 t = none) : Same (cut N H3) (cut N (upd H3 t o)) := cut_mono (same_new nt)
end
section
variable {S : Src} {Z H H3 : Hp} {b c : Nat} {f t : Addr} {o : HO} {vs : List V}
theorem app_iv (P : Iv S Z c H) (nf : H f = none) (P3 : Iv S Z b H3) (k3 : Kp S Z H H3) (nt : H3 t = none) : Iv S Z b (upd (upd H3 t (.tup vs)) f o) ∧ Kp S Z H (upd (upd H3 t (.tup vs)) f o) :=
  ⟨(P3.new nt).upd (P.free nf), Kp.upd_new (ne_of_new nf) (k3.trans (Kp.new nt))⟩
theorem set_iv (P : Iv S Z c H) (nf : H f = none) (P3 : Iv S Z b H3) (k3 : Kp S Z H H3) : Iv S Z b (upd H3 f o) ∧ Kp S Z H (upd H3 f o) :=
  ⟨P3.upd (P.free nf), Kp.upd_new (ne_of_new nf) k3⟩
/-- what is visible is so behind a call -/
theorem Kp.at_ (k : Kp S Z H H3) (h : Off S Z f) (e : H f = some o) : H3 f = some o := cut_same _ _ (k _ _ (hid_get h e))
end
section
variable {σ : L2.St} {H : Hp} {te : TE} {tl : TA} {Q : VK} {QL : List V → Hp → Prop} {K : PySem.W.Frag}
theorem r_tup (h : tl σ H fun vs H1 => vs.length ≤ sizeLine ∧ ∀ t, H1 t = none → Q (.ref t) (upd H1 t (.tup vs))) : tTup tl σ H Q := h
theorem r_lst (h : tl σ H fun vs H1 => vs.length ≤ sizeLine ∧ ∀ t, H1 t = none → Q (.ref t) (upd H1 t (.lst vs))) : tLst tl σ H Q := h
theorem r_cons (h : te σ H fun v H1 => tl σ H1 fun vs H2 => QL (v :: vs) H2) : tCons te tl σ H QL := h
theorem dqs_snoc {G : Hp} {xs : List V} {ds : List PyData} {v : V} {d : PyData} (h : Dqs K G xs ds) (hv : Dq K G v d) : Dqs K G (xs ++ [v]) (ds ++ [d]) := Dqs.app h (.cons hv .nil)
end
def KS (v : V) (_ : Hp) : Prop := ∃ h, v = .str (kindS h)
theorem KS.mo : Mo KS := fun v G G' s h => h
section
variable {K : PySem.W.Frag} {S : Src} {Z : Hp} {H0 : Hp} {σ : L2.St} {ta tb : TE} {n1 n2 : Nat}
theorem ev_min2 {a b c d : Int} (h1 : Ev S Z n1 H0 σ ta (IR a b)) (h2 : Ev S Z n2 H0 σ tb (IR c d)) : Ev S Z (n1 + n2) H0 σ (tCB (fun xs H Q => ∃ i j, xs = [.int i, .int j] ∧ Q (.int (if j < i then j else i)) H) (tCons ta (tCons tb tNil))) (IR (if c < a then c else a) b) :=
  fun H bb Q P k q => h1 H (n2 + bb) _ (P.less (by omega)) k fun x H1 P1 k1 ⟨i, e1, i1, i2⟩ => h2 H1 bb _ P1 (k.trans k1) fun y H2 P2 k2 ⟨j, e2, j1, j2⟩ => ⟨i, j, by rw [e1, e2], q _ _ P2 (k1.trans k2) ⟨_, rfl, by repeat (first | omega | split), by repeat (first | omega | split)⟩⟩
theorem EI_mo {i : Int} : Mo (EI i) := fun _ _ _ _ h => h
theorem ev_iv {i : Nat} {g : Int} (e : σ[i]? = some (some (.int g))) : Ev S Z 0 H0 σ (tVar i) (EI g) := ev_var e EI_mo rfl
theorem ev_kinds : Ev S Z 0 H0 σ (tLst (tCons (tC (.str "hold")) (tCons (tC (.str "pulse")) tNil))) (LsR 2 2 KS) :=
  ev_lst (by decide) KS.mo (eall_cons KS.mo (ev_c.imp fun v G e => ⟨true, e⟩) (eall_cons KS.mo (ev_c.imp fun v G e => ⟨false, e⟩) eall_nil))
end
theorem Asc.snoc : ∀ {b : Int} {ms : List Int} {m : Int}, Asc b ms → b < m → (∀ x ∈ ms, x < m) → Asc b (ms ++ [m])
  | _, [], _, _, h, _ => ⟨h, trivial⟩
  | b, x :: r, m, ⟨a1, a2⟩, h, hx => ⟨a1, Asc.snoc a2 (hx x List.mem_cons_self) fun y hy => hx y (List.mem_cons_of_mem _ hy)⟩
end Lg

namespace Lg
open PySem PySem.Spec PyProof.Rows L2 Lm
theorem dqs_snoc_inv {K : PySem.W.Frag} {G : Hp} : ∀ {xs : List V} {ds : List PyData} {d : PyData}, Dqs K G xs (ds ++ [d]) → ∃ ys v, xs = ys ++ [v] ∧ Dqs K G ys ds ∧ Dq K G v d
  | _, [], d, h => by
    obtain ⟨v, r, rfl, h1, h2⟩ := dqs_cons h
    rw [dqs_nil h2]
    exact ⟨[], v, rfl, .nil, h1⟩
  | _, e :: r, d, h => by
    obtain ⟨v, t, rfl, h1, h2⟩ := dqs_cons h
    obtain ⟨ys, u, rfl, h3, h4⟩ := dqs_snoc_inv h2
    exact ⟨v :: ys, u, rfl, .cons h1 h3, h4⟩
theorem ixN_last {xs : List V} {v : V} : ixN (xs ++ [v]).length (-1) = some xs.length := by
  unfold ixN
  rw [if_neg (by decide), if_pos (by simp; omega)]
  congr 1
  simp
  omega
theorem set_last {xs : List V} {v u : V} : (xs ++ [v]).set xs.length u = xs ++ [u] := by
  rw [List.set_append_right _ _ (Nat.le_refl _), Nat.sub_self]
  rfl
/-- the numbers that two sure facts about decide give -/
theorem Same.seqL {K : PySem.W.Frag} {H H' : Hp} {a : Addr} {xs : List V} (e : Same H H') (h : SqL K H a xs) : SqL K H' a xs := e.seq h
theorem get_ints {ms : List Int} {i : Nat} {x : V} (h : (ms.map V.int)[i]? = some x) : ∃ m, ms[i]? = some m ∧ x = .int m := by
  rw [List.getElem?_map] at h
  cases e : ms[i]? with
  | none => rw [e] at h; cases h
  | some n => rw [e] at h; exact ⟨n, rfl, (Option.some.inj h).symm⟩
theorem same_upd {H H3 : Hp} {f : Addr} {o : HO} (s : Same H H3) (n : H f = none) : Same H (upd H3 f o) := same_upd2 s n
theorem logF_len (h : Bool) (s : Int) : ∀ (ms : List Int) (qs : List Stt), (ms.foldl (stepL h s) qs).length ≤ qs.length + ms.length
  | [], _ => Nat.le_refl _
  | m :: r, qs => by
    have a := logF_len h s r (stepL h s qs m)
    have b := stepL_len (h := h) (s := s) (m := m) (qs := qs)
    rw [List.foldl_cons, List.length_cons]
    omega
theorem foldl_take {α β : Type} (g : β → α → β) (b : β) (xs : List α) {i : Nat} {x : α} (h : xs[i]? = some x) : (xs.take (i + 1)).foldl g b = g ((xs.take i).foldl g b) x := by
  rw [List.take_add_one, h, List.foldl_append]
  rfl
def sp_l_log (K : PySem.W.Frag) : Sp := sp_f K (fun x : Lamp × List Int => [lampD x.1, minsD x.2]) (fun x => x.2.length ≤ 900) (fun x => logD (logF x.1 x.2))
def sp_l_logs (K : PySem.W.Frag) : Sp := sp_f K (fun x : List Lamp × List Int => [lampsD x.1, minsD x.2]) (fun x => x.1.length ≤ 900 ∧ x.2.length ≤ 900) (fun x => .tuple (x.1.map fun l => logD (logF l x.2)))
def sp_fits (K : PySem.W.Frag) : Sp := sp_f K (fun x : Lamp × Stt => [lampD x.1, pD x.2]) (fun x => 1 ≤ x.1.2 ∧ x.2.1 < x.2.2) (fun x => .bool (fitB x.1 x.2))
def sp_wrong (K : PySem.W.Frag) : Sp := sp_f K (fun x : Lamp × List Stt => [lampD x.1, logD x.2]) (fun x => 1 ≤ x.1.2 ∧ (∀ q ∈ x.2, q.1 < q.2) ∧ x.2.length ≤ 900) (fun x => .tuple ((wrongs (fitB x.1) 0 x.2).map .int))
theorem dqs_get {K : PySem.W.Frag} {G : Hp} {α : Type} {D : α → PyData} {xs : List V} {ps : List α} {i : Nat} {v : V} (h : Dqs K G xs (ps.map D)) (e : xs[i]? = some v) : ∃ q, ps[i]? = some q ∧ Dq K G v (D q) := by
  obtain ⟨d, hd, hq⟩ := h.get e
  rw [List.getElem?_map] at hd
  cases e2 : ps[i]? with
  | none => rw [e2] at hd; cases hd
  | some q => rw [e2] at hd; cases (Option.some.inj hd); exact ⟨q, rfl, hq⟩
/-- a list of pairs that grows while nothing else changes: σ is what the names hold but for y -/
def GrowAt (K : PySem.W.Frag) (N : Addr → Prop) (H : Hp) (f : Addr) (ps : List Stt) (Hi : Hp) : Prop := ∃ xs, Same H Hi ∧ Hi f = some (.lst xs) ∧ Dqs K (cut1 f (cut N Hi)) xs (ps.map pD)
theorem GrowAt.start {K : PySem.W.Frag} {N : Addr → Prop} {H : Hp} {f : Addr} (nf : H f = none) : GrowAt K N H f [] (upd H f (.lst [])) := ⟨[], same_new nf, upd_same, .nil⟩
theorem GrowAt.put {K : PySem.W.Frag} {N : Addr → Prop} {H Hi G : Hp} {f t : Addr} {zs : List V} {o : HO} {ps : List Stt} {q : Stt} (nf : H f = none) (O : Occ N H) (si : Same H Hi) (sG : Same Hi G) (eG : G f = some o) (hz : Dqs K (cut1 f (cut N Hi)) zs (ps.map pD)) (nt : G t = none) :
    GrowAt K N H f (ps ++ [q]) (upd (upd G t (.tup [.int q.1, .int q.2])) f (.lst (zs ++ [.ref t]))) := by
  obtain ⟨s5, e5⟩ := app_cut (vs := [.int q.1, .int q.2]) (o' := .lst (zs ++ [.ref t])) ((O.keep si).keep sG) eG nt
  refine ⟨_, same_upd ((si.trans sG).trans (same_new nt)) nf, upd_same, ?_⟩
  rw [List.map_append]
  exact dqs_snoc (hz.mono ((cut_mono (cut_mono sG)).trans s5)) (dq_pairT (.inl (.inl e5)))
theorem GrowAt.keep {K : PySem.W.Frag} {N : Addr → Prop} {H Hi G : Hp} {f : Addr} {ps : List Stt} (h : GrowAt K N H f ps Hi) (s : Same Hi G) : GrowAt K N H f ps G :=
  let ⟨xs, s1, e, d⟩ := h; ⟨xs, s1.trans s, s _ _ e, d.mono (cut_mono (cut_mono s))⟩
theorem GrowAt.tup {K : PySem.W.Frag} {N : Addr → Prop} {H Hi : Hp} {f t : Addr} {xs : List V} {ds : List PyData} (O : Occ N H) (s : Same H Hi) (d : Dqs K (cut1 f (cut N Hi)) xs ds) (nt : Hi t = none) : Dq K (cut N (upd Hi t (.tup xs))) (.ref t) (.tuple ds) :=
  .tup (.inl (.inl (cut_new (O.keep s) nt))) (d.mono (cut_same.trans (cut_mono (same_new nt))))
theorem iteF_e {b : Bool} {P R : Prop} (h : b = false) (q : R) : if b = true then P else R := by rw [h]; exact q
theorem iteT_e {b : Bool} {P R : Prop} (h : b = true) (q : P) : if b = true then P else R := by rw [h]; exact q
theorem ite_b {b : Bool} {P R : Prop} (h1 : b = true → P) (h2 : b = false → R) : if b = true then P else R := by
  cases b with
  | true => exact h1 rfl
  | false => exact h2 rfl
end Lg

namespace Lg
open PySem PySem.Spec PyProof.Rows L2 Lm
theorem pg_tupK {X : Cx} {K : PySem.W.Frag} {es : List Expr} {k : Nat} {t : TGs} {n : Nat} {pos : Pos} (hK : X.K = K) (hc : X.calm = true) (h : PGs X es t) (hn : (assignEach es X.env).length = n := by rfl) (hst : (assignEach es X.env).findIdx? (·.1) = none := by rfl) : PG X (.Tuple es k pos) (gTup K n t) := by
  rw [← hK]
  exact pg_tup hc h hn hst
/-! ### comprehensions whose items are made by defs without draws -/
abbrev NP (N : Addr → Prop) (D : Addr) : Addr → Prop := fun a => N a ∨ a = D
theorem np_new {N : Addr → Prop} {H H' : Hp} {D : Addr} (n : H D = none) (s : Same H H') : Same (cut N H) (cut (NP N D) H') := fun b o e => by
  have m := cut_some e
  rw [cut_at (fun z => z.elim m.1 fun q => by rw [← q, m.2] at n; cases n)]
  exact s _ _ m.2
theorem np_le {N : Addr → Prop} {H : Hp} {D : Addr} : Same (cut (NP N D) H) (cut N H) := cut_le fun a h => .inl h
theorem np_occ {N : Addr → Prop} {H : Hp} {D : Addr} {o : HO} (O : Occ N H) (e : H D = some o) : Occ (NP N D) H := O.more (by rw [e]; exact fun z => nomatch z)
theorem map_take_snoc {α β : Type} (F : α → β) {as : List α} {i : Nat} {y : α} (h : as[i]? = some y) : (as.take (i + 1)).map F = (as.take i).map F ++ [F y] := by
  rw [List.take_add_one, h, List.map_append]
  rfl
theorem lc_map {J : It} {Gd : Hp → Prop} {K : PySem.W.Frag} {N : Addr → Prop} {xs : List V} {te : TE} {v : Nat} {σ : L2.St} {H1 : Hp} {Dl : Addr} {Qd : Hp → Prop} {α : Type} {D F : α → PyData} {as : List α}
    (w : Walk J xs.length Gd (YAt xs)) (hG : ∀ H', Same H1 H' → Gd H') (nD : H1 Dl = none) (O : Occ N H1) (hd : Dqs K (cut N H1) xs (as.map D)) (hl : as.length ≤ 900)
    (hT : ∀ (G : Hp) (x : V) (y : α) (Q : VK), y ∈ as → Occ (NP N Dl) G → Same (cut N H1) (cut (NP N Dl) G) → Same H1 G → Dq K (cut (NP N Dl) G) x (D y) → (∀ r G', Same G G' → Dq K (cut (NP N Dl) G') r (F y) → Q r G') → te ((wipe σ [v]).set v (some x)) G Q)
    (hq : ∀ H' acc, Same H1 H' → H' Dl = some (.lst acc) → Occ (NP N Dl) H' → Dqs K (cut (NP N Dl) H') acc (as.map F) → Qd H') :
    ∃ W : Nat → Nat → Hp → Prop, (∃ m, W 0 m (upd H1 Dl (.lst []))) ∧ ∀ i m H, W i m H →
      (J.stop i H ∧ Qd H) ∨ (J.go i H ∧ ∃ Nx : Hp → Prop, (∀ H', Nx H' → ∃ m', m' < m ∧ W (i + 1) m' H') ∧ ∀ x H', J.yld i H x H' → gName v x (wipe σ [v]) H' fun σ2 H2 => wipe σ2 [v] = wipe σ [v] ∧ tYes σ2 H2 fun b H3 =>
        if b = true then te σ2 H3 fun y H4 => ∃ acc, H4 Dl = some (.lst acc) ∧ acc.length < sizeLine ∧ Nx (upd H4 Dl (.lst (acc ++ [y]))) else Nx H3) := by
  have len := hd.len
  rw [List.length_map] at len
  refine lc_it w (fun i Hj => ∃ acc, Same H1 Hj ∧ Hj Dl = some (.lst acc) ∧ Dqs K (cut (NP N Dl) Hj) acc ((as.take i).map F)) ⟨[], same_new nD, upd_same, .nil⟩ (fun i H _ ⟨_, s, _⟩ => hG H s) ?_ ?_
  · rintro i x Hj H' hi ⟨acc, sj, ej, dj⟩ ⟨rfl, hx⟩
    obtain ⟨y, hy, qy⟩ := dqs_get hd hx
    have la := dj.len
    rw [List.length_map, List.length_take] at la
    refine ⟨?_, yes_if ?_⟩
    · simp only [wipe, List.set_set]
    · refine hT _ x y _ (List.mem_of_getElem? hy) (np_occ (O.keep sj) ej) (np_new nD sj) sj (qy.mono (np_new nD sj)) fun r G' sG hr => ⟨acc, sG _ _ ej, small1000 (by omega), acc ++ [r], same_upd (sj.trans sG) nD, upd_same, ?_⟩
      rw [map_take_snoc F hy, cut_upd (.inr rfl)]
      exact dqs_snoc (dj.mono (cut_mono sG)) hr
  · rintro Hn ⟨acc, sn, en, dn⟩
    rw [len, List.take_length] at dn
    exact hq Hn acc sn en (np_occ (O.keep sn) en) dn
/-- the numbers of those that do not pass, over numbers -/
theorem wrongs_take (p : Stt → Bool) {ps : List Stt} {i : Nat} {q : Stt} (h : ps[i]? = some q) : (wrongs p 0 (ps.take (i + 1))).map V.int = (wrongs p 0 (ps.take i)).map V.int ++ (if p q then [] else [V.int (i : Int)]) := by
  have hi : i < ps.length := (List.getElem?_eq_some_iff.mp h).1
  rw [List.take_add_one, h]
  show (wrongs p 0 (ps.take i ++ [q])).map V.int = _
  rw [wrongs_snoc, List.map_append, List.length_take]
  congr 1
  split
  · rfl
  · rw [show min i ps.length = i by omega]; simp
end Lg

namespace Lg
open PySem PySem.Spec PyProof.Rows L2 Lm
/-! ### exact numbers -/
section
variable {K : PySem.W.Frag} {S : Src} {Z : Hp} {H0 : Hp} {σ : L2.St} {te ta tb : TE} {tl : TA} {n n1 n2 : Nat} {a b : Int} {R : VR}
theorem ei_c {i : Int} : Ev S Z 0 H0 σ (tC (.int i)) (EI i) := ev_c
theorem ei_neg (h : Ev S Z n H0 σ te (EI a)) : Ev S Z n H0 σ (tUn (rU fun i => .int (-i)) te) (EI (-a)) := fun H b Q P k q => h H b _ P k fun v H1 P1 k1 e => ⟨a, e, q _ _ P1 k1 rfl⟩
theorem ei_add (h1 : Ev S Z n1 H0 σ ta (EI a)) (h2 : Ev S Z n2 H0 σ tb (EI b)) : Ev S Z (n1 + n2) H0 σ (tOp (rI0 fun i j => .int (i + j)) ta tb) (EI (a + b)) :=
  fun H bb Q P k q => h1 H (n2 + bb) _ (P.less (by omega)) k fun x H1 P1 k1 e1 => h2 H1 bb _ P1 (k.trans k1) fun y H2 P2 k2 e2 => ⟨a, b, e1, e2, q _ _ P2 (k1.trans k2) rfl⟩
theorem ei_sub (h1 : Ev S Z n1 H0 σ ta (EI a)) (h2 : Ev S Z n2 H0 σ tb (EI b)) : Ev S Z (n1 + n2) H0 σ (tOp (rI0 fun i j => .int (i - j)) ta tb) (EI (a - b)) :=
  fun H bb Q P k q => h1 H (n2 + bb) _ (P.less (by omega)) k fun x H1 P1 k1 e1 => h2 H1 bb _ P1 (k.trans k1) fun y H2 P2 k2 e2 => ⟨a, b, e1, e2, q _ _ P2 (k1.trans k2) rfl⟩
theorem ei_mul (hc : CMul a b) (h1 : Ev S Z n1 H0 σ ta (EI a)) (h2 : Ev S Z n2 H0 σ tb (EI b)) : Ev S Z (n1 + n2) H0 σ (tOp (rI CMul fun i j => .int (i * j)) ta tb) (EI (a * b)) :=
  fun H bb Q P k q => h1 H (n2 + bb) _ (P.less (by omega)) k fun x H1 P1 k1 e1 => h2 H1 bb _ P1 (k.trans k1) fun y H2 P2 k2 e2 => ⟨a, b, e1, e2, hc, q _ _ P2 (k1.trans k2) rfl⟩
theorem ei_fdivN (hc : b ≠ 0 ∧ b.natAbs < 1073741824) (h1 : Ev S Z n1 H0 σ ta (EI a)) (h2 : Ev S Z n2 H0 σ tb (EI b)) : Ev S Z (n1 + n2) H0 σ (tOp (rI CDivN fun i j => .int (i.fdiv j)) ta tb) (EI (a.fdiv b)) :=
  fun H bb Q P k q => h1 H (n2 + bb) _ (P.less (by omega)) k fun x H1 P1 k1 e1 => h2 H1 bb _ P1 (k.trans k1) fun y H2 P2 k2 e2 => ⟨a, b, e1, e2, hc, q _ _ P2 (k1.trans k2) rfl⟩
theorem ei_modN (hc : b ≠ 0) (h1 : Ev S Z n1 H0 σ ta (EI a)) (h2 : Ev S Z n2 H0 σ tb (EI b)) : Ev S Z (n1 + n2) H0 σ (tOp (rI (fun _ j => j ≠ 0) fun i j => .int (i.fmod j)) ta tb) (EI (a.fmod b)) :=
  fun H bb Q P k q => h1 H (n2 + bb) _ (P.less (by omega)) k fun x H1 P1 k1 e1 => h2 H1 bb _ P1 (k.trans k1) fun y H2 P2 k2 e2 => ⟨a, b, e1, e2, hc, q _ _ P2 (k1.trans k2) rfl⟩
theorem ei_pow {i j : Int} (h : CPow i j) : Ev S Z 0 H0 σ (tOp (rI CPow fun i j => .int (i ^ j.toNat)) (tC (.int i)) (tC (.int j))) (EI (i ^ j.toNat)) := fun H b Q P k q => ⟨i, j, rfl, rfl, h, q _ _ (P.less (by omega)) Kp.refl rfl⟩
theorem ei_max2 (h1 : Ev S Z n1 H0 σ ta (EI a)) (h2 : Ev S Z n2 H0 σ tb (EI b)) : Ev S Z (n1 + n2) H0 σ (tCB (fun xs H Q => ∃ i j, xs = [.int i, .int j] ∧ Q (.int (if j > i then j else i)) H) (tCons ta (tCons tb tNil))) (EI (if b > a then b else a)) :=
  fun H bb Q P k q => h1 H (n2 + bb) _ (P.less (by omega)) k fun x H1 P1 k1 e1 => h2 H1 bb _ P1 (k.trans k1) fun y H2 P2 k2 e2 => ⟨a, b, by rw [e1, e2], q _ _ P2 (k1.trans k2) rfl⟩
theorem ei_ir {lo hi : Int} (h : Ev S Z n H0 σ te (EI a)) (h1 : lo ≤ a := by decide) (h2 : a ≤ hi := by decide) : Ev S Z n H0 σ te (IR lo hi) := h.imp fun v G e => ⟨a, e, h1, h2⟩
/-- a stretch that ends by B -/
def PR (K : PySem.W.Frag) (B : Int) : VR := fun v G => ∃ q : Stt, Dq K G v (pD q) ∧ 0 ≤ q.1 ∧ q.1 < q.2 ∧ q.2 ≤ B
theorem PR.mo {B : Int} : Mo (PR K B) := fun v G G' s ⟨q, h, r⟩ => ⟨q, h.mono s, r⟩
theorem PR.wide {B C : Int} {v : V} {G : Hp} (h : PR K B v G) (hc : B ≤ C) : PR K C v G := let ⟨q, d, h0, h1, h2⟩ := h; ⟨q, d, h0, h1, Int.le_trans h2 hc⟩
theorem ev_pr {B : Int} (h : 0 ≤ a ∧ a < b ∧ b ≤ B) (h1 : Ev S Z n1 H0 σ ta (EI a)) (h2 : Ev S Z n2 H0 σ tb (EI b)) : Ev S Z (n1 + (n2 + 0)) H0 σ (tTup (tCons ta (tCons tb tNil))) (PR K B) :=
  fun H bb Q P k q => (eva_pair EI_mo EI_mo h1 h2) H bb _ P k fun vs H1 P1 k1 ⟨v, w, e, e1, e2⟩ => by
    subst e; cases e1; cases e2
    refine ⟨sz2, fun t nt => ?_⟩
    obtain ⟨P2, k2, g2⟩ := laid (o := .tup [.int a, .int b]) P1 nt
    exact q _ _ P2 (k1.trans k2) ⟨(a, b), dq_pairT (.inl (.inl g2)), h⟩
theorem ev_lsW {m c m' c' : Nat} {R' : VR} (h : Ev S Z n H0 σ te (LsR m c R)) (h1 : m' ≤ m) (h2 : c ≤ c') (i : ∀ x G, R x G → R' x G) : Ev S Z n H0 σ te (LsR m' c' R') :=
  h.imp fun v G ⟨a, xs, e, g, l1, l2, l3⟩ => ⟨a, xs, e, g, Nat.le_trans h1 l1, Nat.le_trans l2 h2, fun x hx => i x G (l3 x hx)⟩
theorem ev_ifLt {i : Nat} {c d : Int} (e : σ[i]? = some (some (.int c))) (h1 : c < d → Ev S Z n H0 σ ta R) (h2 : Ev S Z n H0 σ tb R) :
    Ev S Z n H0 σ (tIf (tTest (tOp (rI0 fun i j => .bl (decide (i < j))) (tVar i) (tC (.int d)))) ta tb) R :=
  fun H b Q P k q => ⟨_, e, c, d, rfl, rfl, _, rfl, ite2 (fun g => h1 (of_decide_eq_true g) H b Q P k q) (fun _ => h2 H b Q P k q)⟩
def AnyO (S : Src) (Z : Hp) (H0 : Hp) (σ : L2.St) (to : TO) : Prop := ∀ (H : Hp) (b : Nat) (Q : Option Int → Hp → Prop), Iv S Z b H → Kp S Z H0 H → (∀ o H', Iv S Z b H' → Kp S Z H H' → Q o H') → to σ H Q
theorem any_none : AnyO S Z H0 σ tNoPart := fun H b Q P k q => q none H P Kp.refl
theorem any_some {t : TE} (h : Ev S Z 0 H0 σ t (fun v _ => ∃ i, v = .int i)) : AnyO S Z H0 σ (tPart t) := fun H b Q P k q => h H b _ (P.less (by omega)) k fun v H1 P1 k1 ⟨i, e⟩ => ⟨i, e, q _ _ P1 k1⟩
theorem ev_slA {a b : Nat} {t1 t2 : TO} (hm : Mo R) (h : Ev S Z n H0 σ te (TpR K a b R)) (h1 : AnyO S Z H0 σ t1) (h2 : AnyO S Z H0 σ t2) : Ev S Z n H0 σ (tSl (rSlA K) te t1 t2) (TpR K 0 b R) :=
  fun H bb Q P k q => h H bb _ P k fun x H1 P1 k1 r1 => h1 H1 bb _ P1 (k.trans k1) fun lo H2 P2 k2 => h2 H2 bb _ P2 ((k.trans k1).trans k2) fun hi H3 P3 k3 => by
    obtain ⟨l, xs, rfl, g, a1, a2, a3⟩ := TpR.mo hm _ _ _ (Kp.trans k2 k3) r1
    refine ⟨l, xs, rfl, Same.seqT hid_same g, fun _ => ?_, fun _ t nt => ?_⟩
    · exact q _ _ P3 (k1.trans (k2.trans k3)) ⟨l, xs, rfl, g, Nat.zero_le _, a2, a3⟩
    · obtain ⟨P4, k4, e4⟩ := laid (o := .tup (cutV xs lo hi)) P3 nt
      exact q _ _ P4 (k1.trans ((k2.trans k3).trans k4)) ⟨t, _, rfl, .inl (.inl e4), Nat.zero_le _, Nat.le_trans (cutV_length _ _ _) a2, fun v hv => hm _ _ _ k4 (a3 v (mem_cutV hv))⟩
end
theorem ev_lsW_v {m c m' c' : Nat} {R : VR} {v : V} {G : Hp} (h : LsR m c R v G) (h1 : m' ≤ m) (h2 : c ≤ c') : LsR m' c' R v G := let ⟨a, xs, e, g, l1, l2, l3⟩ := h; ⟨a, xs, e, g, Nat.le_trans h1 l1, Nat.le_trans l2 h2, l3⟩
theorem s_ifn' {D : Ends} {σ : L2.St} {H : Hp} {c : TT} {t u : TS} (P : L2.St → Hp → Prop) (rest : ∀ σ' H', P σ' H' → u D σ' H') (h : ∀ X : L2.St → Hp → Prop, (∀ σ' H', P σ' H' → X σ' H') → c σ H fun b H1 => if b = true then t { D with nx := X } σ H1 else X σ H1) : tSeq (tIfS c t tNext) u D σ H := h _ rest
theorem Dqs.pr {K : PySem.W.Frag} {G : Hp} {B : Int} : ∀ {xs : List V} {ps : List Stt}, Dqs K G xs (ps.map pD) → (∀ q ∈ ps, 0 ≤ q.1 ∧ q.1 < q.2 ∧ q.2 ≤ B) → ∀ x ∈ xs, PR K B x G
  | _, [], h, _, x, hx => by rw [dqs_nil h] at hx; cases hx
  | _, q :: r, h, hb, x, hx => by
    obtain ⟨v, t, rfl, h1, h2⟩ := dqs_cons h
    rcases List.mem_cons.mp hx with e | e
    · rw [e]; exact ⟨q, h1, hb q List.mem_cons_self⟩
    · exact Dqs.pr h2 (fun p hp => hb p (List.mem_cons_of_mem _ hp)) x e
theorem LgOk.all {n : Nat} {B : Int} {ps : List Stt} (h : LgOk n B ps) : ∀ q ∈ ps, 0 ≤ q.1 ∧ q.1 < q.2 ∧ q.2 ≤ B := fun q hq => by
  have := h.up.bound q hq
  have := h.top q hq
  omega
theorem prs_dp {K : PySem.W.Frag} {G : Hp} : ∀ {xs : List V} {ps : List Stt}, Dqs K G xs (ps.map pD) → DpAll K G xs (ps.map pD)
  | _, [], h => by rw [dqs_nil h]; exact .nil
  | _, q :: r, h => by
    obtain ⟨v, t, rfl, h1, h2⟩ := dqs_cons h
    obtain ⟨a, rfl, g⟩ := dq_pair h1
    exact .cons (.tup g (.cons (.int _) (.cons (.int _) .nil))) (prs_dp h2)
theorem log_dp {K : PySem.W.Frag} {G : Hp} {v : V} {ps : List Stt} (h : Dq K G v (logD ps)) : Dp K G v (logD ps) := by
  obtain ⟨a, xs, rfl, g, hx⟩ := dq_tup h
  exact .tup g (prs_dp hx)
theorem LogUp.take : ∀ {b : Int} {ps : List Stt} (n : Nat), LogUp b ps → LogUp b (ps.take n)
  | _, [], _, _ => by simp [LogUp]
  | _, _, 0, _ => trivial
  | _, q :: r, n + 1, ⟨a1, a2, a3⟩ => ⟨a1, a2, LogUp.take n a3⟩
theorem cutV_take (xs : List V) (n : Nat) : cutV xs none (some (n : Int)) = xs.take n := by
  unfold cutV
  rw [HT.sIx_none, HT.sIx_nat, List.drop_zero, Nat.sub_zero]
  by_cases h : n ≤ xs.length
  · rw [Nat.min_eq_left h]
  · rw [Nat.min_eq_right (by omega), List.take_length, List.take_of_length_le (by omega)]
theorem DownOk.push {B : Int} {qs : List Stt} {q : Stt} (h : DownOk B qs) (h0 : 0 ≤ q.1) (h1 : q.1 < q.2) (h2 : q.2 ≤ B) (hl : ∀ p, qs.head? = some p → p.2 < q.1) : DownOk B (q :: qs) :=
  ⟨h0, h1, h2, h, by cases qs with | nil => trivial | cons p r => exact hl p rfl⟩
end Lg

namespace Lg
open PySem PySem.Spec PyProof.Rows L2 Lm
/-! ### all but the list at f is as it was -/
def AB (f : Addr) (H H' : Hp) : Prop := Same (cut1 f H) (cut1 f H')
section
variable {K : PySem.W.Frag} {S : Src} {N : Addr → Prop} {Z H H1 H2 Hi G : Hp} {f t a : Addr} {b : Nat} {o : HO}
theorem AB.refl : AB f H H := Same.refl _
theorem AB.trans (h : AB f H H1) (k : AB f H1 H2) : AB f H H2 := Same.trans h k
theorem AB.of (s : Same H H1) : AB f H H1 := cut_mono s
theorem AB.set : AB f H (upd H f o) := fun b u e => by
  have n := cut_some e
  rw [cut1_at n.1, upd_ne n.1]
  exact n.2
theorem AB.at_ (h : AB f H H1) (ne : a ≠ f) (e : H a = some o) : H1 a = some o := (cut_some (h a o (by rw [cut1_at ne]; exact e))).2
theorem AB.cut (h : AB f H H1) : Same (cut1 f (Lg.cut N H)) (cut1 f (Lg.cut N H1)) := fun b u e => by
  have n := cut_some e
  have m := cut_some n.2
  rw [cut1_at n.1, cut_at m.1]
  exact h.at_ n.1 m.2
theorem AB.kp {H8 : Hp} (h : AB f H H1) (nf : H8 f = none) (k : Kp S Z H8 H) : Kp S Z H8 H1 := fun b u e => by
  have m := cut_some e
  have n := cut_some (k b u e)
  show Lg.cut (NZ S Z) H1 b = _
  rw [cut_at m.1]
  exact h.at_ (ne_of_none m.2 nf) n.2
theorem AB.iv (h : AB f H H1) (P : Iv S Z b H) (hf : Off S Z f) : Iv S Z b H1 :=
  ⟨S.frame (fun a ha => by
    have ne : a ≠ f := fun e => hf.1 (by rw [← e]; exact ha)
    cases e : H a with
    | none => exact absurd e (S.full P.src ha)
    | some o => exact h.at_ ne e) P.src, fun a u e => h.at_ (ne_of_none e hf.2) (P.zz a u e), P.zo⟩
def GrowB (K : PySem.W.Frag) (N : Addr → Prop) (H : Hp) (f : Addr) (ps : List Stt) (Hi : Hp) : Prop := ∃ xs, AB f H Hi ∧ Hi f = some (.lst xs) ∧ Dqs K (cut1 f (Lg.cut N Hi)) xs (ps.map pD)
theorem GrowB.put {zs : List V} {ps : List Stt} {q : Stt} (O : Occ N Hi) (si : AB f H Hi) (sG : Same Hi G) (eG : G f = some o) (hz : Dqs K (cut1 f (Lg.cut N Hi)) zs (ps.map pD)) (nt : G t = none) :
    GrowB K N H f (ps ++ [q]) (upd (upd G t (.tup [.int q.1, .int q.2])) f (.lst (zs ++ [.ref t]))) := by
  obtain ⟨s5, e5⟩ := app_cut (vs := [.int q.1, .int q.2]) (o' := .lst (zs ++ [.ref t])) (O.keep sG) eG nt
  refine ⟨_, (si.trans (AB.of (sG.trans (same_new nt)))).trans AB.set, upd_same, ?_⟩
  rw [List.map_append]
  exact dqs_snoc (hz.mono ((cut_mono (cut_mono sG)).trans s5)) (dq_pairT (.inl (.inl e5)))
theorem hid_cut1 : Same (hid S (L2.upd Z f o) H) (cut1 f (hid S Z H)) := fun b u e => by
  have n := off_hide (hid_some e)
  rw [cut1_at n.1, hid_at n.2]
  exact hid_same _ _ e
theorem sqt_ne {xs ys : List V} {a : Addr} (h : SqT K G a xs) (e : G f = some (.lst ys)) : SqT K (cut1 f G) a xs := by
  rcases h with (h | ⟨o, h⟩) | h
  · exact .inl (.inl (by rw [cut1_at (ne_of h e (by intro z; cases z))]; exact h))
  · exact .inl (.inr ⟨o, by rw [cut1_at (ne_of h e (by intro z; cases z))]; exact h⟩)
  · exact .inr h
theorem pr_cut1 {B : Int} {x : V} {ys : List V} (h : PR K B x G) (e : G f = some (.lst ys)) : PR K B x (cut1 f G) := by
  obtain ⟨q, hd, r⟩ := h
  obtain ⟨a, rfl, g⟩ := dq_pair hd
  exact ⟨q, dq_pairT (sqt_ne g e), r⟩
end
end Lg
namespace Lg
open PySem PySem.Spec PyProof.Rows L2 Lm
theorem dqs_set {K : PySem.W.Frag} {G : Hp} {v : V} {d : PyData} : ∀ {xs : List V} {ds : List PyData} (j : Nat), Dqs K G xs ds → Dq K G v d → Dqs K G (xs.set j v) (ds.set j d)
  | _, _, _, .nil, _ => .nil
  | _, _, 0, .cons _ t, h => .cons h t
  | _, _, j + 1, .cons r t, h => .cons r (dqs_set j t h)
theorem LgOk.wide {n m : Nat} {B C : Int} {ps : List Stt} (h : LgOk n B ps) (h1 : n ≤ m) (h2 : B ≤ C) : LgOk m C ps := ⟨h.up, Nat.le_trans h.len h1, fun q hq => Int.le_trans (h.top q hq) h2⟩
theorem ixN_in {n : Nat} {i : Int} (h0 : 0 ≤ i) (h1 : i < n) : ixN n i = some i.toNat := by
  unfold ixN
  rw [if_pos h0, if_pos h1]
theorem atI_get {α : Type} {xs : List α} {i : Int} {v : α} (h0 : 0 ≤ i) (h : xs[i.toNat]? = some v) : atI xs i = some v := by
  have lt : i.toNat < xs.length := (List.getElem?_eq_some_iff.mp h).1
  unfold atI
  rw [ixN_in h0 (by omega)]
  exact h
end Lg
namespace Lg
open PySem PySem.Spec PyProof.Rows L2 Lm
theorem kp_none {S : Src} {Z H H8 : Hp} {p : Addr} (O : Occ (NZ S Z) H8) (k : Kp S Z H H8) (n : H8 p = none) : H p = none := by
  cases e : H p with
  | none => rfl
  | some o =>
    by_cases z : NZ S Z p
    · exact absurd n (O p z)
    · have h := k p o (by rw [show hid S Z H p = H p from cut_at z]; exact e)
      have := (cut_some h).2
      rw [n] at this
      cases this
end Lg

namespace Lg
open PySem PySem.Spec PyProof.Rows L2 Lm
/-- a log of at most n stretches, none of them empty, all of them up to B -/
def StOk (n : Nat) (B : Int) (ps : List Stt) : Prop := ps.length ≤ n ∧ ∀ q ∈ ps, 0 ≤ q.1 ∧ q.1 < q.2 ∧ q.2 ≤ B
def LgR (K : PySem.W.Frag) (n : Nat) (B : Int) : VR := fun v G => ∃ ps, Dq K G v (logD ps) ∧ StOk n B ps
theorem LgR.mo {K : PySem.W.Frag} {n : Nat} {B : Int} : Mo (LgR K n B) := fun v G G' s ⟨ps, h, r⟩ => ⟨ps, h.mono s, r⟩
theorem prs_dqs {K : PySem.W.Frag} {G : Hp} {B : Int} : ∀ {xs : List V}, (∀ x ∈ xs, PR K B x G) → ∃ ps : List Stt, Dqs K G xs (ps.map pD) ∧ ∀ q ∈ ps, 0 ≤ q.1 ∧ q.1 < q.2 ∧ q.2 ≤ B
  | [], _ => ⟨[], .nil, fun q h => nomatch h⟩
  | x :: r, h => by
    obtain ⟨q, hd, hq⟩ := h x List.mem_cons_self
    obtain ⟨ps, h1, h2⟩ := prs_dqs (xs := r) fun y hy => h y (List.mem_cons_of_mem _ hy)
    refine ⟨q :: ps, .cons hd h1, fun p hp => ?_⟩
    rcases List.mem_cons.mp hp with e | e
    · rw [e]; exact hq
    · exact h2 p e
theorem TpR.lg {K : PySem.W.Frag} {m n : Nat} {B : Int} {v : V} {G : Hp} (h : TpR K m n (PR K B) v G) : LgR K n B v G := by
  obtain ⟨a, xs, rfl, g, l1, l2, hx⟩ := h
  obtain ⟨ps, h1, h2⟩ := prs_dqs hx
  have := h1.len
  rw [List.length_map] at this
  exact ⟨ps, .tup g h1, by omega, h2⟩
theorem LgOk.st {n : Nat} {B : Int} {ps : List Stt} (h : LgOk n B ps) : StOk n B ps := ⟨h.len, h.all⟩
theorem StOk.wide {n m : Nat} {B C : Int} {ps : List Stt} (h : StOk n B ps) (h1 : n ≤ m) (h2 : B ≤ C) : StOk m C ps := ⟨Nat.le_trans h.1 h1, fun q hq => by have := h.2 q hq; omega⟩
theorem log_sm {ps : List Stt} {n : Nat} {B : Int} (h : StOk n B ps) (hB : B ≤ 10000000000) : Sm (n * 35 + 3) 2 (logD ps) :=
  Sm.tuple (n := 33) (k := 1) (fun d hd => by
    obtain ⟨q, hq, rfl⟩ := List.mem_map.mp hd
    have := h.2 q hq
    exact pD_sm (by omega) (by omega)) (by rw [List.length_map]; exact h.1)
theorem kind_sm (h : Bool) : Sm 13 0 (.str (kindS h)) := by cases h <;> exact sm_chk (by decide +kernel)
theorem lamp_sm {l : Lamp} (h0 : 0 ≤ l.2) (h1 : l.2 ≤ 10000000000) : Sm 33 1 (lampD l) :=
  Sm.tuple (c := 2) (n := 13) (k := 0) (ds := [.str (kindS l.1), .int l.2]) (fun d hd => by
    rcases List.mem_cons.mp hd with e | e
    · rw [e]; exact kind_sm _
    · rw [List.mem_singleton.mp e]; exact Sm.int (by omega)) (Nat.le_refl 2)
theorem two_sm' {d e : PyData} {n k : Nat} (h1 : Sm n k d) (h2 : Sm n k e) : Sm (2 * (n + 2) + 3) (k + 1) (.list [d, e]) :=
  Sm.list (c := 2) (ds := [d, e]) (fun x hx => by
    rcases List.mem_cons.mp hx with z | z
    · rw [z]; exact h1
    · rw [List.mem_singleton.mp z]; exact h2) (Nat.le_refl 2)
theorem ints_sm {xs : List Int} {n : Nat} (hl : xs.length ≤ n) (h : ∀ x ∈ xs, x.natAbs < 10 ^ 12) : Sm (n * 15 + 3) 1 (.tuple (xs.map .int)) :=
  Sm.tuple (n := 13) (k := 0) (fun d hd => by
    obtain ⟨x, hx, rfl⟩ := List.mem_map.mp hd
    exact Sm.int (h x hx)) (by rw [List.length_map]; exact hl)
section
variable {K : PySem.W.Frag} {S : Src} {Z : Hp} {H0 : Hp} {σ : L2.St} {te ta tb : TE} {tl : TA} {n n1 n2 : Nat} {a b lo hi : Int} {R : VR}
theorem ev_prR {B : Int} (h0 : 0 ≤ a) (h1 : a < lo) (h2 : hi ≤ B) (e1 : Ev S Z n1 H0 σ ta (EI a)) (e2 : Ev S Z n2 H0 σ tb (IR lo hi)) : Ev S Z (n1 + (n2 + 0)) H0 σ (tTup (tCons ta (tCons tb tNil))) (PR K B) :=
  fun H bb Q P k q => (eva_pair EI_mo IR.mo e1 e2) H bb _ P k fun vs H1 P1 k1 ⟨v, w, e, e1, ⟨b, e2, b0, b1⟩⟩ => by
    subst e; cases e1; cases e2
    refine ⟨sz2, fun t nt => ?_⟩
    obtain ⟨P2, k2, g2⟩ := laid (o := .tup [.int a, .int b]) P1 nt
    exact q _ _ P2 (k1.trans k2) ⟨(a, b), dq_pairT (.inl (.inl g2)), h0, by show a < b; omega, by show b ≤ B; omega⟩
theorem ev_modC {m : Int} (hm : 0 < m) (h : Ev S Z n H0 σ te (IR lo hi)) : Ev S Z n H0 σ (tOp (rI (fun _ j => j ≠ 0) fun i j => .int (i.fmod j)) te (tC (.int m))) (IR 0 (m - 1)) :=
  fun H b Q P k q => h H b _ P k fun v H1 P1 k1 ⟨i, e, _⟩ => ⟨i, m, e, rfl, by omega, q _ _ P1 k1 ⟨_, rfl, (fmodB hm).1, by have := (fmodB (a := i) hm).2; omega⟩⟩
/-- lamps[0][1] -/
theorem ei_stay0 {x : V} {i : Nat} {l : Lamp} {r : List Lamp} (e : σ[i]? = some (some x)) (h : Dq K (hid S Z H0) x (lampsD (l :: r))) : Ev S Z 0 H0 σ (tOp (rIxT K) (tOp (rIxT K) (tVar i) (tC (.int 0))) (tC (.int 1))) (EI l.2) :=
  fun H b Q P k q => by
    obtain ⟨a, xs, rfl, g, hd⟩ := dq_tup (h.mono k)
    obtain ⟨v, t, rfl, h1, h2⟩ := dqs_cons hd
    obtain ⟨al, rfl, gl⟩ := dq_lamp h1
    exact ⟨_, e, a, _, 0, .ref al, rfl, rfl, Same.seqT hid_same g, atI_nat (j := 0) rfl, al, _, 1, .int l.2, rfl, rfl, Same.seqT hid_same gl, atI_nat (j := 1) rfl, q _ _ (P.less (by omega)) Kp.refl rfl⟩
/-- lamp[1] -/
theorem ei_stay {x : V} {i : Nat} {l : Lamp} (e : σ[i]? = some (some x)) (h : Dq K (hid S Z H0) x (lampD l)) : Ev S Z 0 H0 σ (tOp (rIxT K) (tVar i) (tC (.int 1))) (EI l.2) :=
  fun H b Q P k q => by
    obtain ⟨al, rfl, gl⟩ := dq_lamp (h.mono k)
    exact ⟨_, e, al, _, 1, .int l.2, rfl, rfl, Same.seqT hid_same gl, atI_nat (j := 1) rfl, q _ _ (P.less (by omega)) Kp.refl rfl⟩
theorem ev_lg {m : Nat} {B : Int} (hn : n1 ≤ 1000) (h : EvA S Z n H0 σ tl (AllR m n1 (PR K B))) : Ev S Z n H0 σ (tTup tl) (LgR K n1 B) := (ev_tupR hn PR.mo h).imp fun v G r => TpR.lg r
end
theorem ne_self {z : Str} : V.bl (!decide (V.str z = V.str z)) = V.bl false := by rw [decide_eq_true rfl]; rfl
theorem dqs_lg {K : PySem.W.Frag} {G : Hp} {n : Nat} {B : Int} : ∀ {xs : List V} {gs : List (List Stt)}, Dqs K G xs (gs.map logD) → (∀ g ∈ gs, LgOk n B g) → ∀ x ∈ xs, LgR K n B x G
  | _, [], h, _, x, hx => by rw [dqs_nil h] at hx; cases hx
  | _, q :: r, h, hb, x, hx => by
    obtain ⟨v, t, rfl, h1, h2⟩ := dqs_cons h
    rcases List.mem_cons.mp hx with e | e
    · rw [e]; exact ⟨q, h1, (hb q List.mem_cons_self).st⟩
    · exact dqs_lg h2 (fun p hp => hb p (List.mem_cons_of_mem _ hp)) x e
end Lg

namespace Lg
open PySem PySem.Spec PyProof.Rows L2 Lm
def topS (i : Nat) : Stmt := PySem.Challenge.pw_lampstays_k11_stretches_that_do_not_fit.main.body.getD i (.Pass ⟨0, 0, 0, 0⟩)
abbrev s_stretch_fits : Stmt := topS 2
abbrev n_stretch_fits : List Str := ["lamp", "stretch", "kind", "stay", "on", "off"]
theorem sc_stretch_fits : FnScope n_stretch_fits ["lamp", "stretch"] (defScope s_stretch_fits) := ⟨rfl, rfl, rfl, by decide +kernel, rfl, by decide +kernel, by decide +kernel⟩
abbrev s_wrong_stretches : Stmt := topS 3
abbrev n_wrong_stretches : List Str := ["lamp", "log", "index", "stretch"]
theorem sc_wrong_stretches : FnScope n_wrong_stretches ["lamp", "log"] (defScope s_wrong_stretches) := ⟨rfl, rfl, rfl, by decide +kernel, rfl, by decide +kernel, by decide +kernel⟩
abbrev s_l_reel : Stmt := topS 5
abbrev n_l_reel : List Str := ["script", "cell", "cells"]
theorem sc_l_reel : FnScope n_l_reel ["script"] (defScope s_l_reel) := ⟨rfl, rfl, rfl, by decide +kernel, rfl, by decide +kernel, by decide +kernel⟩
abbrev s_l_spin : Stmt := topS 6
abbrev n_l_spin : List Str := ["reel", "many", "cells", "turn", "seat", "cell", "mixed"]
theorem sc_l_spin : FnScope n_l_spin ["reel", "many"] (defScope s_l_spin) := ⟨rfl, rfl, rfl, by decide +kernel, rfl, by decide +kernel, by decide +kernel⟩
abbrev s_l_lamps : Stmt := topS 7
abbrev n_l_lamps : List Str := ["reel", "many", "top", "found", "k", "stay"]
theorem sc_l_lamps : FnScope n_l_lamps ["reel", "many", "top"] (defScope s_l_lamps) := ⟨rfl, rfl, rfl, by decide +kernel, rfl, by decide +kernel, by decide +kernel⟩
abbrev s_l_minutes : Stmt := topS 8
abbrev n_l_minutes : List Str := ["reel", "many", "gap", "here", "found", "way", "step", "k"]
theorem sc_l_minutes : FnScope n_l_minutes ["reel", "many", "gap"] (defScope s_l_minutes) := ⟨rfl, rfl, rfl, by decide +kernel, rfl, by decide +kernel, by decide +kernel⟩
abbrev s_l_log : Stmt := topS 9
abbrev n_l_log : List Str := ["lamp", "minutes", "kind", "stay", "found", "minute"]
theorem sc_l_log : FnScope n_l_log ["lamp", "minutes"] (defScope s_l_log) := ⟨rfl, rfl, rfl, by decide +kernel, rfl, by decide +kernel, by decide +kernel⟩
abbrev s_l_logs : Stmt := topS 10
abbrev n_l_logs : List Str := ["lamps", "minutes", "lamp"]
theorem sc_l_logs : FnScope n_l_logs ["lamps", "minutes"] (defScope s_l_logs) := ⟨rfl, rfl, rfl, by decide +kernel, rfl, by decide +kernel, by decide +kernel⟩
abbrev s_l_bent : Stmt := topS 11
abbrev n_l_bent : List Str := ["reel", "log", "at", "by", "on", "off", "some", "way", "parts", "found", "begin", "end"]
theorem sc_l_bent : FnScope n_l_bent ["reel", "log"] (defScope s_l_bent) := ⟨rfl, rfl, rfl, by decide +kernel, rfl, by decide +kernel, by decide +kernel⟩
abbrev s_l_scene : Stmt := topS 12
abbrev n_l_scene : List Str := ["reel", "many", "top", "motions", "lamps", "logs", "k", "at"]
theorem sc_l_scene : FnScope n_l_scene ["reel", "many", "top", "motions"] (defScope s_l_scene) := ⟨rfl, rfl, rfl, by decide +kernel, rfl, by decide +kernel, by decide +kernel⟩
abbrev s_l_fits : Stmt := topS 13
abbrev n_l_fits : List Str := ["lamp", "stretch", "kind", "stay", "on", "off"]
theorem sc_l_fits : FnScope n_l_fits ["lamp", "stretch"] (defScope s_l_fits) := ⟨rfl, rfl, rfl, by decide +kernel, rfl, by decide +kernel, by decide +kernel⟩
abbrev s_law : Stmt := topS 14
abbrev n_law : List Str := ["script", "reel", "turn", "lamps", "logs", "far", "ends", "late", "lamp", "log", "k", "shown", "due"]
theorem sc_law : FnScope n_law ["script"] (defScope s_law) := ⟨rfl, rfl, rfl, by decide +kernel, rfl, by decide +kernel, by decide +kernel⟩
structure All (K : PySem.W.Frag) (mg : Str → Option Value) where
  f_stretch_fits : Addr
  fd_stretch_fits : FuncData
  D_stretch_fits : Def K mg "stretch_fits" s_stretch_fits ["lamp", "stretch"] f_stretch_fits fd_stretch_fits
  f_wrong_stretches : Addr
  fd_wrong_stretches : FuncData
  D_wrong_stretches : Def K mg "wrong_stretches" s_wrong_stretches ["lamp", "log"] f_wrong_stretches fd_wrong_stretches
  f_l_reel : Addr
  fd_l_reel : FuncData
  D_l_reel : Def K mg "_law_reel" s_l_reel ["script"] f_l_reel fd_l_reel
  f_l_spin : Addr
  fd_l_spin : FuncData
  D_l_spin : Def K mg "_law_spin" s_l_spin ["reel", "many"] f_l_spin fd_l_spin
  f_l_lamps : Addr
  fd_l_lamps : FuncData
  D_l_lamps : Def K mg "_law_lamps" s_l_lamps ["reel", "many", "top"] f_l_lamps fd_l_lamps
  f_l_minutes : Addr
  fd_l_minutes : FuncData
  D_l_minutes : Def K mg "_law_minutes" s_l_minutes ["reel", "many", "gap"] f_l_minutes fd_l_minutes
  f_l_log : Addr
  fd_l_log : FuncData
  D_l_log : Def K mg "_law_log" s_l_log ["lamp", "minutes"] f_l_log fd_l_log
  f_l_logs : Addr
  fd_l_logs : FuncData
  D_l_logs : Def K mg "_law_logs" s_l_logs ["lamps", "minutes"] f_l_logs fd_l_logs
  f_l_bent : Addr
  fd_l_bent : FuncData
  D_l_bent : Def K mg "_law_bent" s_l_bent ["reel", "log"] f_l_bent fd_l_bent
  f_l_scene : Addr
  fd_l_scene : FuncData
  D_l_scene : Def K mg "_law_scene" s_l_scene ["reel", "many", "top", "motions"] f_l_scene fd_l_scene
  f_l_fits : Addr
  fd_l_fits : FuncData
  D_l_fits : Def K mg "_law_fits" s_l_fits ["lamp", "stretch"] f_l_fits fd_l_fits
  f_law : Addr
  fd_law : FuncData
  D_law : Def K mg "law" s_law ["script"] f_law fd_law
  z_abs : mg "abs" = none
  z_enumerate : mg "enumerate" = none
  z_int : mg "int" = none
  z_len : mg "len" = none
  z_list : mg "list" = none
  z_max : mg "max" = none
  z_min : mg "min" = none
  z_range : mg "range" = none
  z_repr : mg "repr" = none
  z_tuple : mg "tuple" = none
  t_MAX_MINUTE : Tok
  c_MAX_MINUTE : mg "MAX_MINUTE" = some (.int 1000000000 t_MAX_MINUTE)
section
variable {P : Program} {w : World} {K : PySem.W.Frag} {mg : Str → Option Value} {base : Heap}
theorem ok_stretch_fits (T : All K mg) : FnOk P w K mg base CX0 1 T.f_stretch_fits T.fd_stretch_fits ["lamp", "stretch"] (sp_fits K) := by
  have nd := sc_stretch_fits.nd
  refine T.D_stretch_fits.F.ok sc_stretch_fits (fun vs H Q E h => ?_) (fun cdv A outer s H vs Q E hr h => ?_)
  · obtain ⟨N, x, _, hd, _⟩ := h
    exact hd.len
  · obtain ⟨N, ⟨⟨kd, st⟩, ⟨a, b⟩⟩, O, hd, ⟨hs, hab⟩, qq⟩ := h
    have hs : 1 ≤ st := hs
    have hab : a < b := hab
    obtain ⟨v1, _, rfl, hd1, hd⟩ := dqs_cons hd
    obtain ⟨v2, _, rfl, hd2, hd⟩ := dqs_cons hd
    obtain rfl := dqs_nil hd
    obtain ⟨a1, rfl, g1⟩ := dq_lamp hd1
    obtain ⟨a2, rfl, g2⟩ := dq_pair hd2
    have fin : ∀ z : Bool, z = fitB (kd, st) (a, b) → Q (.bl z) H := fun z e => qq _ _ (Same.refl _) (by rw [e]; exact .bl _)
    refine ⟨_, (pss_cons (ps_asg (pv 0) (pg_tup rfl (pgs_cons (pg_name (i := 2) nd rfl (by first | exact Or.inl rfl | exact Or.inr rfl)) (pgs_cons (pg_name (i := 3) nd rfl (by first | exact Or.inl rfl | exact Or.inr rfl)) pgs_nil))))
  (pss_cons (ps_asg (pv 1) (pg_tup rfl (pgs_cons (pg_name (i := 4) nd rfl (by first | exact Or.inl rfl | exact Or.inr rfl)) (pgs_cons (pg_name (i := 5) nd rfl (by first | exact Or.inl rfl | exact Or.inr rfl)) pgs_nil))))
  (pss_cons (ps_if (pt_cmpR op_gt (pe_op op_sub (pv 5) (pv 3)) (pe_glob (v := .int 1000000000) (by rfl) T.c_MAX_MINUTE ⟨_, rfl⟩) (nomark _))
    (pss_one (ps_ret pe_bl))
    pss_nil)
  (pss_cons (ps_if (pt_cmpR op_eq (pv 2) pe_str (nomark _))
    (pss_one (ps_ret (pe_cmpR op_ge (pe_op op_sub (pv 5) (pv 4)) (pv 3) (nomark _))))
    pss_nil)
  (pss_one (ps_ret (pe_cmpR op_eq (pe_op op_modN (pe_op op_sub (pv 5) (pv 4)) (pv 3)) pe_int (nomark _)))))))), ?_⟩
    refine ⟨.ref a1, rfl, a1, _, rfl, Same.seqT cut_same g1, rfl, _, _, rfl, _, _, rfl, rfl, .ref a2, rfl, a2, _, rfl, Same.seqT cut_same g2, rfl, _, _, rfl, _, _, rfl, rfl, ?_⟩
    refine ⟨.int b, rfl, .int st, rfl, b, st, rfl, rfl, _, _, rfl, rfl, _, rfl, ite2 (fun h1 => ?_) (fun h1 => ?_)⟩
    · have h1' : (1000000000 : Int) < b - st := of_decide_eq_true h1
      exact fin false (by simp only [fitB]; rw [decide_eq_false (by omega)]; rfl)
    · have h1' : ¬ (1000000000 : Int) < b - st := fun z => h1 (decide_eq_true z)
      have e1 : decide (b - st ≤ 1000000000) = true := decide_eq_true (by omega)
      refine ⟨.str (kindS kd), rfl, rfl, _, rfl, ite_b (fun hk => ?_) (fun hk => ?_)⟩
      · rw [kindS_hold] at hk
        refine ⟨.int b, rfl, .int a, rfl, b, a, rfl, rfl, .int st, rfl, _, _, rfl, rfl, fin _ ?_⟩
        simp only [fitB]
        rw [e1, hk]
        rfl
      · rw [kindS_hold] at hk
        refine ⟨.int b, rfl, .int a, rfl, b, a, rfl, rfl, .int st, rfl, _, _, rfl, rfl, by omega, rfl, fin _ ?_⟩
        simp only [fitB]
        rw [e1, hk]
        simp
theorem ok_wrong_stretches (T : All K mg) : FnOk P w K mg base CX0 2 T.f_wrong_stretches T.fd_wrong_stretches ["lamp", "log"] (sp_wrong K) := by
  have nd := sc_wrong_stretches.nd
  refine T.D_wrong_stretches.F.ok sc_wrong_stretches (fun vs H Q E h => ?_) (fun cdv A outer s H vs Q E hr h => ?_)
  · obtain ⟨N, x, _, hd, _⟩ := h
    exact hd.len
  · obtain ⟨N, ⟨l, ps⟩, O, hd, ⟨hs, hb, hl⟩, qq⟩ := h
    obtain ⟨v1, _, rfl, hd1, hd⟩ := dqs_cons hd
    obtain ⟨v2, _, rfl, hd2, hd⟩ := dqs_cons hd
    obtain rfl := dqs_nil hd
    obtain ⟨a2, ys, rfl, g2, hy⟩ := dq_tup hd2
    have hl : ps.length ≤ 900 := hl
    have len := hy.len
    rw [List.length_map] at len
    refine ⟨_, (pss_one (ps_ret (pe_callTy call_tuple_of (by rfl) T.z_tuple (by decide +kernel) (pa_cons (pe_lc (own := [("index", 2), ("stretch", 3)]) rfl nd (pi_enumT (by rfl) T.z_enumerate (pa_cons (pv 1) pa_nil)) (blkOk_by (own := [("index", 2), ("stretch", 3)]) (N := n_wrong_stretches) (sc := defScope s_wrong_stretches) (by decide +kernel)) (fun _ _ _ _ _ => (pg_tupK (K := K) (n := 2) rfl rfl (pgs_cons (pg_name (i := 2) nd rfl (by first | exact Or.inl rfl | exact Or.inr rfl)) (pgs_cons (pg_name (i := 3) nd rfl (by first | exact Or.inl rfl | exact Or.inr rfl)) pgs_nil)))) (fun _ _ _ _ _ => (pts_one (pt_not (pt_val (pe_call (ok_stretch_fits T) (hr.mono (by decide)) (by rfl) T.D_stretch_fits.g T.D_stretch_fits.F.kp T.D_stretch_fits.b .nil pass0 (pa_cons (pv 0) (pa_cons (pv 3) pa_nil))))))) (fun _ _ _ _ _ => (pv 2))) pa_nil)))), ?_⟩
    refine ⟨.ref a2, rfl, a2, _, rfl, Same.seqT cut_same g2, fun D nD => ?_⟩
    refine lc_it (walk_enumT (K := K) (a := a2) (xs := ys)) (fun i Hj => Same H Hj ∧ Hj D = some (.lst ((wrongs (fitB l) 0 (ps.take i)).map V.int))) ⟨same_new nD, upd_same⟩ (fun i H1 _ h => Same.seqT (cut_same.trans h.1) g2) ?_ ?_
    · rintro i x Hj H' hi ⟨sj, ej⟩ ⟨t, z, rfl, nt, rfl, hz⟩
      obtain ⟨q, hq, hv⟩ := dqs_get hy hz
      have s2 := same_new (o := .tup [.int (i : Nat), z]) nt
      refine ⟨t, _, rfl, .inl (.inl upd_same), rfl, _, _, rfl, _, _, rfl, rfl, rfl, ?_⟩
      refine ⟨v1, rfl, z, rfl, N, (l, q), O.keep (sj.trans s2), .cons (hd1.mono (cut_mono (sj.trans s2))) (.cons (hv.mono (cut_mono (sj.trans s2))) .nil), ⟨hs, hb q (List.mem_of_getElem? hq)⟩, fun r G sG hr => ?_⟩
      obtain rfl := dq_bool hr
      have eG := sG _ _ (s2 _ _ ej)
      have sa := sj.trans (s2.trans sG)
      have ll := wrongs_len (fitB l) 0 (ps.take i)
      rw [List.length_take] at ll
      refine ⟨_, rfl, ?_⟩
      have wt := wrongs_take (fitB l) hq
      cases hf : fitB l q with
      | true =>
        rw [hf] at wt
        refine iteF_e (by simp [hf]) ⟨sa, ?_⟩
        rw [wt]
        simpa using eG
      | false =>
        rw [hf] at wt
        refine iteT_e (by simp [hf]) ⟨.int (i : Nat), rfl, _, eG, small1000 (by rw [List.length_map]; omega), same_upd sa nD, ?_⟩
        rw [wt, upd_same]
        rfl
    · rintro Hn ⟨sn, en⟩
      rw [len, List.take_length] at en
      refine ⟨D, _, rfl, .inl ⟨.inl (.inl en), fun t nt => ?_⟩⟩
      exact qq _ _ (sn.trans (same_new nt)) (.tup (.inl (.inl (cut_new (O.keep sn) nt))) ints_dqs)
theorem ok_l_reel (T : All K mg) : FnOk P w K mg base CX0 1 T.f_l_reel T.fd_l_reel ["script"] (sp_reel K) := by
  have nd := sc_l_reel.nd
  refine T.D_l_reel.F.ok sc_l_reel (fun vs H Q E h => ?_) (fun cdv A outer s H vs Q E hr h => ?_)
  · obtain ⟨a, ns, rfl, _⟩ := h
    rfl
  · obtain ⟨a, ns, rfl, hS, hl, q⟩ := h
    refine ⟨_, (pss_cons (ps_setLc (i := 2) (own := [("cell", 1)]) rfl nd rfl rfl (sw_true rfl rfl rfl (by decide +kernel)) (pi_list (pe_slice sl_list (pv 0) po_none (po_some pe_int))) (blkOk_by (own := [("cell", 1)]) (N := n_l_reel) (sc := defScope s_l_reel) (by decide +kernel)) (fun _ _ _ _ _ => (pg_name (i := 1) nd rfl (by first | exact Or.inl rfl | exact Or.inr rfl))) (fun _ _ _ _ _ => pts_nil) (fun _ _ _ _ _ => (pe_callB call_abs (by rfl) T.z_abs (by decide +kernel) (pa_cons (pv 1) pa_nil))))
  (pss_one (ps_ret (pe_lst (pa_cons (pe_op op_cat (pv 2) (pe_op op_rep (pe_lst (pa_cons pe_int pa_nil)) (pe_callTy call_int1 (by rfl) T.z_int (by decide +kernel) (pa_cons (pe_cmpR (op_eqE hr.units0) (pv 2) (pe_lst pa_nil) (nomark _)) pa_nil)))) (pa_cons pe_int pa_nil)))))), ?_⟩
    -- cells
    refine ⟨.ref a, rfl, 59, rfl, a, _, rfl, hS, fun c nc => ⟨c, rfl, ⟨_, .inl (.inl upd_same)⟩, fun D nD => ?_⟩⟩
    obtain ⟨ks, hks, hk⟩ : ∃ ks : List Int, cutV (ns.map V.int) none (some 59) = ks.map V.int ∧ ks.length ≤ 63 := by
      obtain ⟨ks, h1, h2⟩ := cut_ints ns none (some 59)
      exact ⟨ks, h1, by omega⟩
    rw [hks] at nD ⊢
    have nDc : D ≠ c := (ne_of_none upd_same nD).symm
    have nD0 : H D = none := (same_new (o := .lst (ks.map V.int)) nc).free nD
    refine lc_list (K := K) (a := c) (xs := ks.map V.int) (fun i H1 => H1 D = some (.lst ((ks.take i).map fun n => V.int (if n < 0 then -n else n))) ∧ H1 c = some (.lst (ks.map V.int)) ∧ Same H H1)
      ⟨upd_same, by rw [upd_ne nDc.symm]; exact upd_same, same_upd2 (same_new nc) nD0⟩ (fun i H1 _ h => .inl (.inl h.2.1)) ?_ ?_
    · rintro i x H1 hx ⟨eD, ec, s1⟩
      obtain ⟨n, hn, rfl⟩ : ∃ n, ks[i]? = some n ∧ x = V.int n := by
        rw [List.getElem?_map] at hx
        cases e : ks[i]? with
        | none => rw [e] at hx; cases hx
        | some n => rw [e] at hx; exact ⟨n, rfl, (Option.some.inj hx).symm⟩
      have hi : i < ks.length := (List.getElem?_eq_some_iff.mp hn).1
      refine ⟨rfl, yes_if ?_⟩
      refine ⟨.int n, rfl, n, rfl, _, eD, small1000 (by simp; omega), ?_, ?_, same_upd2 s1 nD0⟩
      · rw [upd_same, List.take_add_one, hn, List.map_append]
        rfl
      · rw [upd_ne nDc.symm]
        exact ec
    · rintro H2 ⟨eD, ec, s2⟩
      rw [List.length_map, List.take_length] at eD
      generalize hcs : (ks.map fun n => if n < 0 then -n else n) = cs
      have eD2 : H2 D = some (.lst (cs.map V.int)) := by
        rw [eD, ← hcs, List.map_map]
        rfl
      have lcs : cs.length ≤ 63 := by rw [← hcs, List.length_map]; exact hk
      -- [cells + [37] * int(cells == []), 0]
      refine ⟨.ref D, rfl, Nat.le_of_lt (small1000 (by decide)), fun f nf => ⟨.ref D, rfl, Nat.zero_le _, fun g ng => ?_⟩⟩
      have s3 : Same H2 (upd H2 f (.lst [V.int 37])) := same_new nf
      have s4 : Same (upd H2 f (.lst [V.int 37])) (upd (upd H2 f (.lst [V.int 37])) g (.lst [])) := same_new ng
      have ef : (upd (upd H2 f (.lst [V.int 37])) g (.lst [])) f = some (.lst [V.int 37]) := s4 _ _ upd_same
      have eD4 : (upd (upd H2 f (.lst [V.int 37])) g (.lst [])) D = some (.lst (cs.map V.int)) := s4 _ _ (s3 _ _ eD2)
      refine ⟨D, g, _, rfl, rfl, .inl (.inl eD4), .inl (.inl upd_same), .inr ⟨_, rfl, f, _, [V.int 37], rfl, rfl, ef, ?_, ?_, ?_, fun r nr => ?_⟩⟩
      · split <;> decide
      · split <;> decide
      · split <;> exact Nat.le_of_lt (small1000 (by decide))
      have s5 := same_new (o := .lst (List.replicate (if (cs.map V.int).isEmpty = true then (1 : Int) else 0).toNat [V.int 37]).flatten) nr
      refine ⟨D, r, _, _, rfl, rfl, s5 _ _ eD4, upd_same, Nat.le_of_lt (small1000 ?_), fun al na => ?_⟩
      · cases cs with
        | nil => decide
        | cons x xs => simp at lcs ⊢; omega
      have s6 := same_new (o := .lst (cs.map V.int ++ (List.replicate (if (cs.map V.int).isEmpty = true then (1 : Int) else 0).toNat [V.int 37]).flatten)) na
      have s7 : Same H2 _ := ((s3.trans s4).trans s5).trans s6
      refine ⟨sz2, fun rr nrr => ?_⟩
      have nal : al ≠ rr := (ne_of_none upd_same nrr)
      refine q rr al _ ⟨⟨0, (if cs = [] then [37] else cs), upd_same, ?_, ?_, ?_, by decide⟩, fun b x e => (nomatch e), fun _ _ => rfl⟩ (s2.trans (s7.trans (same_new nrr)))
      · rw [upd_ne nal, upd_same]
        cases cs <;> simp
      · cases cs <;> simp
      · cases cs with
        | nil => decide
        | cons x xs => simp at lcs ⊢; omega
theorem ok_l_spin (T : All K mg) : FnOk P w K mg base CX0 1 T.f_l_spin T.fd_l_spin ["reel", "many"] sp_spin := by
  have nd := sc_l_spin.nd
  refine T.D_l_spin.F.ok sc_l_spin (fun vs H Q E h => ?_) (fun cdv A outer s H vs Q E hr h => ?_)
  · obtain ⟨Z, r, c, b, n, rfl, _⟩ := h
    rfl
  · obtain ⟨Z, r, c, b, n, rfl, hP, n0, n1, q⟩ := h
    refine ⟨_, (pss_cons (ps_asg (pv 0) (pg_lst rfl (pgs_cons (pg_name (i := 2) nd rfl (by first | exact Or.inl rfl | exact Or.inr rfl)) (pgs_cons (pg_name (i := 3) nd rfl (by first | exact Or.inl rfl | exact Or.inr rfl)) pgs_nil))))
  (pss_cons (ps_asg (pe_op op_add (pv 3) pe_int) (pg_sub (pv 0) pe_int set_list))
  (pss_cons (ps_set (i := 4) nd rfl (by first | exact Or.inl rfl | exact Or.inr rfl) (pe_op op_modN (pv 3) (pe_callB call_len_seq (by rfl) T.z_len (by decide +kernel) (pa_cons (pv 2) pa_nil))))
  (pss_cons (ps_set (i := 5) nd rfl (by first | exact Or.inl rfl | exact Or.inr rfl) (pe_ix ix_list (pv 2) (pv 4) (fun _ _ => rfl)))
  (pss_cons (ps_if (pt_cmpR op_ge (pv 5) (pe_op op_pow pe_int pe_int) (nomark _))
    (pss_cons (ps_asg (pe_op op_fdivN (pv 5) (pv 1)) (pg_sub (pv 2) (pv 4) set_list))
  (pss_one (ps_ret (pe_op op_modN (pv 5) (pv 1)))))
    pss_nil)
  (pss_cons (ps_set (i := 6) nd rfl (by first | exact Or.inl rfl | exact Or.inr rfl) (pe_op op_add (pe_op op_mul (pe_op op_modN (pv 5) pe_int) pe_int) (pe_op op_mul (pe_op op_mul (pv 3) (pv 3)) pe_int)))
  (pss_cons (ps_set (i := 6) nd rfl (by first | exact Or.inl rfl | exact Or.inr rfl) (pe_op op_modN (pe_op op_add (pe_op op_add (pv 6) (pe_op op_mul pe_int (pv 3))) pe_int) pe_int))
  (pss_cons (ps_set (i := 6) nd rfl (by first | exact Or.inl rfl | exact Or.inr rfl) (pe_op op_modN (pe_op op_mul (pe_op op_modN (pe_op op_mul (pv 6) (pv 6)) pe_int) pe_int) pe_int))
  (pss_one (ps_ret (pe_op op_modN (pe_op op_fdivN (pe_op op_modN (pe_op op_mul (pv 6) (pe_op op_add (pe_op op_add (pv 6) (pe_op op_mul pe_int (pv 3))) pe_int)) pe_int) pe_int) (pv 1)))))))))))), ?_⟩
    obtain ⟨t, ns, hR, hC, hne, hlen, hb⟩ := hP.src
    have hrc := reel_ne hP.src
    refine ⟨.ref r, rfl, r, _, rfl, .inl (.inl hR), rfl, _, _, rfl, _, _, rfl, rfl, ?_⟩
    refine ⟨.int t, rfl, t, 1, rfl, rfl, .ref r, rfl, r, _, 1, 1, rfl, rfl, hR, rfl, ?_⟩
    generalize hH1 : upd H r _ = H1
    have hR1 : H1 r = some (.lst [.ref c, .int ((t + 1 : Nat) : Int)]) := by rw [← hH1, upd_same]; rfl
    have hC1 : H1 c = some (.lst (ns.map V.int)) := by rw [← hH1, upd_ne hrc.symm]; exact hC
    have k1 : Kp (reel r c) Z H H1 := fun b u e => by
      have nn := hid_some e
      rw [hid_at nn] at e ⊢
      rw [← hH1, upd_ne (show b ≠ r from fun z => nn.1 (.inl z))]
      exact e
    have P1 : Iv (reel r c) Z b H1 := ⟨⟨t + 1, ns, hR1, hC1, hne, hlen, by omega⟩, by rw [← hH1]; exact zz_upd hP.zz (hP.zo r (.inl rfl)), hP.zo⟩
    have lpos : (0 : Int) < ((ns.map V.int).length : Int) := by
      cases ns with
      | nil => exact absurd rfl hne
      | cons c r => simp
    have bx := fmodB (a := (t : Int)) lpos
    obtain ⟨x, hx⟩ : ∃ x, ns[((t : Int).fmod ((ns.map V.int).length : Int)).toNat]? = some x := by
      have hb : ((t : Int).fmod ((ns.map V.int).length : Int)).toNat < ns.length := by
        rw [List.length_map] at bx ⊢
        omega
      exact ⟨_, List.getElem?_eq_getElem hb⟩
    refine ⟨.int t, rfl, .ref c, rfl, c, _, rfl, .inl (.inl (.inl hC1)), t, _, rfl, rfl, by omega, ?_⟩
    refine ⟨.ref c, rfl, _, rfl, c, _, _, .int x, rfl, rfl, .inl (.inl hC1), at_of (j := ((t : Int).fmod ((ns.map V.int).length : Int)).toNat) (by omega) (by rw [List.getElem?_map, hx]; rfl), ?_⟩
    refine ⟨.int x, rfl, 10, 18, rfl, rfl, ⟨by decide, by decide, by decide⟩, x, _, rfl, rfl, _, rfl, ite2 (fun g => ?_) (fun g => ?_)⟩
    · refine ⟨.int x, rfl, .int n, rfl, x, n, rfl, rfl, ⟨by omega, by omega⟩, .ref c, rfl, _, rfl, c, _, _, ((t : Int).fmod ((ns.map V.int).length : Int)).toNat, rfl, rfl, hC1, ?_, ?_⟩
      · unfold ixN
        rw [if_pos bx.1, if_pos bx.2]
      · refine ⟨.int x, rfl, .int n, rfl, x, n, rfl, rfl, by omega, ?_⟩
        refine q _ _ ?_ ?_ (fmodB (by omega)).1 (fmodB (by omega)).2
        · refine ⟨⟨t + 1, ns.set ((t : Int).fmod ((ns.map V.int).length : Int)).toNat (x.fdiv n), by rw [upd_ne hrc]; exact hR1, by rw [upd_same, List.map_set], ?_, by rw [List.length_set]; exact hlen, by omega⟩, zz_upd P1.zz (hP.zo c (.inr rfl)), hP.zo⟩
          intro e
          have := congrArg List.length e
          rw [List.length_set] at this
          cases ns with
          | nil => exact hne rfl
          | cons a b => simp at this
        · refine k1.trans fun b u e => ?_
          have nn := hid_some e
          rw [hid_at nn] at e ⊢
          rw [upd_ne (show b ≠ c from fun z => nn.1 (.inr z))]
          exact e
    · have w1 : (998244353 : Int) ≠ 0 := by decide
      have ht : (t : Int) < 2 ^ 64 ∧ -(2 ^ 64) < (t : Int) := by omega
      refine ⟨.int x, rfl, x, _, rfl, rfl, w1, _, _, rfl, rfl, .inr ⟨by decide, by decide⟩, .int t, rfl, .int t, rfl, t, t, rfl, rfl, .inl ⟨ht.2, ht.1⟩, _, _, rfl, rfl, .inr ⟨by decide, by decide⟩, _, _, rfl, rfl, ?_⟩
      dsimp only [gName, List.set]
      generalize hz : (x.fmod 998244353 * 30011 + ↑t * ↑t * 92821 : Int) = z
      refine ⟨.int z, rfl, .int t, rfl, _, _, rfl, rfl, .inl ⟨by decide, by decide⟩, _, _, rfl, rfl, _, _, rfl, rfl, _, _, rfl, rfl, (show (2147483587 : Int) ≠ 0 by decide), ?_⟩
      dsimp only [gName, List.set]
      generalize hy : (z + 514229 * ↑t + 433494437 : Int).fmod 2147483587 = y
      have by1 : 0 ≤ y ∧ y < 2147483587 := by rw [← hy]; exact fmodB (by decide)
      refine ⟨.int y, rfl, .int y, rfl, y, y, rfl, rfl, .inl ⟨by omega, by omega⟩, _, _, rfl, rfl, (show (2147483629 : Int) ≠ 0 by decide), _, _, rfl, rfl, .inr ⟨by decide, by decide⟩, _, _, rfl, rfl, (show (2147483563 : Int) ≠ 0 by decide), ?_⟩
      dsimp only [gName, List.set]
      generalize hu : ((y * y).fmod 2147483629 * 39916801 : Int).fmod 2147483563 = u
      have bu : 0 ≤ u ∧ u < 2147483563 := by rw [← hu]; exact fmodB (by decide)
      refine ⟨.int u, rfl, .int u, rfl, .int t, rfl, _, _, rfl, rfl, .inl ⟨by decide, by decide⟩, _, _, rfl, rfl, _, _, rfl, rfl, u, _, rfl, rfl, .inl ⟨by omega, by omega⟩, _, _, rfl, rfl, (show (2147483587 : Int) ≠ 0 by decide), _, _, rfl, rfl, ⟨by decide, by decide⟩, .int n, rfl, _, _, rfl, rfl, by omega, ?_⟩
      exact q _ _ P1 k1 (fmodB (by omega)).1 (fmodB (by omega)).2
theorem ok_l_lamps (T : All K mg) : FnOk P w K mg base CX0 2 T.f_l_lamps T.fd_l_lamps ["reel", "many", "top"] (sp_lamps K) := by
  have nd := sc_l_lamps.nd
  refine T.D_l_lamps.F.ok sc_l_lamps (fun vs H Q E h => ?_) (fun cdv A outer s H vs Q E hr h => ?_)
  · obtain ⟨Z, r, c, b, m, tp, rfl, _⟩ := h
    rfl
  · obtain ⟨Z, r, c, b, m, tp, rfl, hP, m0, m1, t0, t1, q⟩ := h
    refine ⟨_, (pss_cons (ps_set (i := 3) nd rfl (by first | exact Or.inl rfl | exact Or.inr rfl) (pe_lst pa_nil))
  (pss_cons (ps_for PassesOwn.never rfl (pi_range1 (by rfl) T.z_range (pa_cons (pe_op op_add pe_int (pe_call (ok_l_spin T) (hr.mono (by decide)) (by rfl) T.D_l_spin.g T.D_l_spin.F.kp T.D_l_spin.b .nil pass0 (pa_cons (pv 0) (pa_cons (pv 1) pa_nil)))) pa_nil)) (pg_name (i := 4) nd rfl (by first | exact Or.inl rfl | exact Or.inr rfl))
    (pss_cons (ps_set (i := 5) nd rfl (by first | exact Or.inl rfl | exact Or.inr rfl) (pe_ix ix_list (pe_lst (pa_cons (pe_op op_add pe_int (pe_call (ok_l_spin T) (hr.mono (by decide)) (by rfl) T.D_l_spin.g T.D_l_spin.F.kp T.D_l_spin.b .nil pass0 (pa_cons (pv 0) (pa_cons (pv 2) pa_nil)))) (pa_cons (pe_op op_add pe_int (pe_call (ok_l_spin T) (hr.mono (by decide)) (by rfl) T.D_l_spin.g T.D_l_spin.F.kp T.D_l_spin.b .nil pass0 (pa_cons (pv 0) (pa_cons (pe_callB (call_min2 rfl) (by rfl) T.z_min (by decide +kernel) (pa_cons (pv 2) (pa_cons pe_int pa_nil))) pa_nil)))) pa_nil))) (pe_call (ok_l_spin T) (hr.mono (by decide)) (by rfl) T.D_l_spin.g T.D_l_spin.F.kp T.D_l_spin.b .nil pass0 (pa_cons (pv 0) (pa_cons pe_int pa_nil))) (fun _ _ => rfl)))
  (pss_one (ps_expr (pe_bm PySem.F.plainAttrs_list PySem.F.slot_list_append PySem.F.type_list_append mt_append (pv 3) (pa_cons (pe_tup (pa_cons (pe_ix ix_list (pe_lst (pa_cons pe_str (pa_cons pe_str pa_nil))) (pe_call (ok_l_spin T) (hr.mono (by decide)) (by rfl) T.D_l_spin.g T.D_l_spin.F.kp T.D_l_spin.b .nil pass0 (pa_cons (pv 0) (pa_cons pe_int pa_nil))) (fun _ _ => rfl)) (pa_cons (pv 5) pa_nil))) pa_nil))))))
  (pss_one (ps_ret (pe_callTy call_tuple_of (by rfl) T.z_tuple (by decide +kernel) (pa_cons (pv 3) pa_nil)))))), ?_⟩
    refine s_set ⟨Nat.zero_le _, fun f nf => ?_⟩
    obtain ⟨P1, k1, e1⟩ := laid (o := .lst []) hP nf
    have ff := hP.free nf
    refine s_rng ?_
    refine (eva_cons IR.mo (ev_add (a := 1) (b := 1) ev_int (ev_spin (b := m) (by rfl) (by omega) (ev_ivar (by rfl) m0 (Int.le_refl _)))) eva_nil).run P1 (b := 24 + b) (by omega) fun vs H2 P2 k2 r2 => ?_
    obtain ⟨_, _, rfl, ⟨n, rfl, n0, n1⟩, rfl⟩ := r2
    refine ⟨n, rfl, by omega, by omega, for_it walk_range (fun i σ Hi => ∃ ls xs y4 y5, σ = [some (.ref r), some (.int m), some (.int tp), some (.ref f), y4, y5] ∧ Iv (reel r c) Z (4 * (6 - i) + b) Hi ∧ Kp (reel r c) Z H Hi ∧ Hi f = some (.lst xs) ∧
      Dqs K (cut1 f (hid (reel r c) Z Hi)) xs (ls.map lampD) ∧ ls.length = i ∧ ∀ l ∈ ls, 1 ≤ l.2 ∧ l.2 ≤ tp) ⟨[], [], _, _, rfl, P2, k1.trans k2, k2.at_ ff upd_same, .nil, rfl, fun l hl => nomatch hl⟩ (fun i σ H1 _ h => trivial) ?_ ?_⟩
    · rintro i x σ Hi H' hi ⟨ls, xs, y4, y5, rfl, Pi, ki, ei, hd, hl, hb⟩ ⟨rfl, rfl⟩
      refine s_set ?_
      refine (ev_ixL (m := 2) (c := 2) (R := IR 1 tp) IR.mo (ev_lst (by decide) IR.mo (eall_cons IR.mo ((ev_add (a := 1) (b := 1) ev_int (ev_spin (b := tp) (by rfl) (by omega) (ev_ivar (by rfl) t0 (Int.le_refl _)))).wide (by omega) (by omega))
        (eall_cons IR.mo ((ev_add (a := 1) (b := 1) ev_int (ev_spin (b := tp) (by rfl) (by omega) ((ev_min2 (ev_ivar (lo := 1) (hi := tp) (by rfl) t0 (Int.le_refl _)) (ev_int (i := 3))).wide (by decide) (Int.le_refl _)))).wide (by omega) (by omega)) eall_nil)))
        (ev_spinC (m := 2))).run Pi (b := 1 + (4 * (6 - (i + 1)) + b)) (by omega) fun v H3 P3 k3 r3 => ?_
      obtain ⟨st, rfl, s0, s1⟩ := r3
      have f3 := k3.at_ ff ei
      refine s_expr1 ⟨.ref f, rfl, .inl ⟨rfl, _, .inl (.inl f3)⟩, ?_⟩
      refine r_cons (r_tup ?_)
      refine (eva_pair KS.mo EI_mo (ev_ixL (m := 2) (c := 2) KS.mo ev_kinds (ev_spinC (m := 2))) (ev_iv (g := st) (by rfl))).run P3 (b := 4 * (6 - (i + 1)) + b) (by omega) fun vs H4 P4 k4 r4 => ?_
      obtain ⟨_, _, rfl, ⟨kd, rfl⟩, rfl⟩ := r4
      refine ⟨sz2, fun t nt => ?_⟩
      have f4 := k4.at_ ff f3
      have tf : f ≠ t := fun e => by rw [← e, f4] at nt; cases nt
      have ll := hd.len
      rw [List.length_map] at ll
      refine ⟨f, xs, _, rfl, rfl, by rw [upd_ne tf]; exact f4, small1000 (by omega), ?_⟩
      obtain ⟨P5, k5⟩ := app_iv (vs := [.str (kindS kd), .int st]) (o := .lst (xs ++ [.ref t])) hP nf P4 ((ki.trans k3).trans k4) nt
      obtain ⟨s5, e5⟩ := app_cut (vs := [.str (kindS kd), .int st]) (o' := .lst (xs ++ [.ref t])) P4.occ f4 nt
      refine ⟨ls ++ [(kd, st)], _, _, _, rfl, P5, k5, upd_same, ?_, by rw [List.length_append, hl]; rfl, fun l hl => ?_⟩
      · rw [List.map_append]
        exact dqs_snoc (Dqs.mono ((cut_mono (Kp.trans k3 k4)).trans s5) hd) (dq_lampT (.inl (.inl e5)))
      · rcases List.mem_append.mp hl with e | e
        · exact hb l e
        · rw [List.mem_singleton.mp e]; exact ⟨s0, s1⟩
    · rintro σ Hi ⟨ls, xs, y4, y5, rfl, Pi, ki, ei, hd, hl, hb⟩
      refine ⟨.ref f, rfl, f, xs, rfl, .inl ⟨.inl (.inl ei), fun t nt => ?_⟩⟩
      obtain ⟨P6, k6, e6⟩ := laid (o := .tup xs) Pi nt
      exact q _ _ ls (P6.less (by omega)) (ki.trans k6) (.tup (.inl (.inl e6)) (hd.mono (cut_same.trans k6))) (by omega) (by omega) hb
theorem ok_l_minutes (T : All K mg) : FnOk P w K mg base CX0 2 T.f_l_minutes T.fd_l_minutes ["reel", "many", "gap"] (sp_minutes K) := by
  have nd := sc_l_minutes.nd
  refine T.D_l_minutes.F.ok sc_l_minutes (fun vs H Q E h => ?_) (fun cdv A outer s H vs Q E hr h => ?_)
  · obtain ⟨Z, r, c, b, m, g, rfl, _⟩ := h
    rfl
  · obtain ⟨Z, r, c, b, m, g, rfl, hP, m0, m1, g0, g1, q⟩ := h
    refine ⟨_, (pss_cons (ps_par3 (i := 3) (j := 4) (l := 5) (by rfl) nd rfl rfl rfl (by decide) (by decide) (by decide) rfl rfl rfl (pa_cons (pe_call (ok_l_spin T) (hr.mono (by decide)) (by rfl) T.D_l_spin.g T.D_l_spin.F.kp T.D_l_spin.b .nil pass0 (pa_cons (pv 0) (pa_cons (pe_ix ix_list (pe_lst (pa_cons pe_int (pa_cons (pe_op op_pow pe_int pe_int) pa_nil))) (pe_call (ok_l_spin T) (hr.mono (by decide)) (by rfl) T.D_l_spin.g T.D_l_spin.F.kp T.D_l_spin.b .nil pass0 (pa_cons (pv 0) (pa_cons pe_int pa_nil))) (fun _ _ => rfl)) pa_nil))) (pa_cons (pe_lst pa_nil) (pa_cons (pe_call (ok_l_spin T) (hr.mono (by decide)) (by rfl) T.D_l_spin.g T.D_l_spin.F.kp T.D_l_spin.b .nil pass0 (pa_cons (pv 0) (pa_cons pe_int pa_nil))) pa_nil))) (by rfl))
  (pss_cons (ps_set (i := 6) nd rfl (by first | exact Or.inl rfl | exact Or.inr rfl) (pe_op op_add pe_int (pe_call (ok_l_spin T) (hr.mono (by decide)) (by rfl) T.D_l_spin.g T.D_l_spin.F.kp T.D_l_spin.b .nil pass0 (pa_cons (pv 0) (pa_cons (pv 2) pa_nil)))))
  (pss_cons (ps_for PassesOwn.never rfl (pi_range1 (by rfl) T.z_range (pa_cons (pe_call (ok_l_spin T) (hr.mono (by decide)) (by rfl) T.D_l_spin.g T.D_l_spin.F.kp T.D_l_spin.b .nil pass0 (pa_cons (pv 0) (pa_cons (pe_op op_add (pv 1) pe_int) pa_nil))) pa_nil)) (pg_name (i := 7) nd rfl (by first | exact Or.inl rfl | exact Or.inr rfl))
    (pss_cons (ps_expr (pe_bm PySem.F.plainAttrs_list PySem.F.slot_list_append PySem.F.type_list_append mt_append (pv 4) (pa_cons (pv 3) pa_nil)))
  (pss_cons (ps_set (i := 3) nd rfl (by first | exact Or.inl rfl | exact Or.inr rfl) (pe_op op_add (pv 3) (pe_ix ix_list (pe_lst (pa_cons (pe_op op_add pe_int (pe_call (ok_l_spin T) (hr.mono (by decide)) (by rfl) T.D_l_spin.g T.D_l_spin.F.kp T.D_l_spin.b .nil pass0 (pa_cons (pv 0) (pa_cons (pv 2) pa_nil)))) (pa_cons (pv 6) (pa_cons pe_int (pa_cons (pe_op op_add pe_int (pe_call (ok_l_spin T) (hr.mono (by decide)) (by rfl) T.D_l_spin.g T.D_l_spin.F.kp T.D_l_spin.b .nil pass0 (pa_cons (pv 0) (pa_cons (pe_op op_mul pe_int (pv 2)) pa_nil)))) pa_nil))))) (pv 5) (fun _ _ => rfl))))
  (pss_one (ps_if (pt_cmpR op_eq (pe_call (ok_l_spin T) (hr.mono (by decide)) (by rfl) T.D_l_spin.g T.D_l_spin.F.kp T.D_l_spin.b .nil pass0 (pa_cons (pv 0) (pa_cons pe_int pa_nil))) pe_int (nomark _))
    (pss_one (ps_set (i := 3) nd rfl (by first | exact Or.inl rfl | exact Or.inr rfl) (pe_op op_add (pv 3) (pe_ix ix_list (pe_lst (pa_cons (pv 2) (pa_cons (pe_op op_pow pe_int pe_int) pa_nil))) (pe_call (ok_l_spin T) (hr.mono (by decide)) (by rfl) T.D_l_spin.g T.D_l_spin.F.kp T.D_l_spin.b .nil pass0 (pa_cons (pv 0) (pa_cons pe_int pa_nil))) (fun _ _ => rfl)))))
    pss_nil)))))
  (pss_one (ps_ret (pv 4)))))), ?_⟩
    have big : CPow 10 6 := by decide
    refine s_par3 (r_cons ?_)
    refine (ev_spin (b := 1000000) (by rfl) (by decide) (ev_ixL (m := 2) (c := 2) (R := IR 1 1000000) IR.mo (ev_lst (by decide) IR.mo (eall_cons IR.mo (ev_int.wide (by decide) (by decide)) (eall_cons IR.mo ((ev_pow big).wide (by decide) (by decide)) eall_nil))) (ev_spinC (m := 2)))).run hP (b := 203 + b) (by omega) fun v H1 P1 k1 r1 => ?_
    obtain ⟨h, rfl, h0, h1⟩ := r1
    refine ⟨Nat.zero_le _, fun f nf => ?_⟩
    obtain ⟨P2, k2, e2⟩ := laid (o := .lst []) P1 nf
    have ff := P1.free nf
    refine r_cons ?_
    refine (ev_spinC (m := 4)).run P2 (b := 202 + b) (by omega) fun v H3 P3 k3 r3 => ?_
    obtain ⟨wy, rfl, w0, w1⟩ := r3
    refine ⟨_, _, _, rfl, ?_⟩
    refine s_set ?_
    refine (ev_add (a := 1) (b := 1) ev_int (ev_spin (b := g) (by rfl) (by omega) (ev_ivar (by rfl) g0 (Int.le_refl _)))).run P3 (b := 201 + b) (by omega) fun v H4 P4 k4 r4 => ?_
    obtain ⟨st, rfl, s0, s1⟩ := r4
    refine s_rng ?_
    refine (eva_cons IR.mo (ev_spin (b := m + 1) (by rfl) (by omega) ((ev_add (ev_ivar (lo := m) (hi := m) (by rfl) (Int.le_refl _) (Int.le_refl _)) (ev_int (i := 1))).wide (by omega) (by omega))) eva_nil).run P4 (b := 200 + b) (by omega) fun vs H5 P5 k5 r5 => ?_
    obtain ⟨_, _, rfl, ⟨n, rfl, n0, n1⟩, rfl⟩ := r5
    have kf := (k3.trans k4).trans k5
    refine ⟨n, rfl, by omega, by omega, for_it walk_range (fun i σ Hi => ∃ ms x y7, σ = [some (.ref r), some (.int m), some (.int g), some (.int x), some (.ref f), some (.int wy), some (.int st), y7] ∧ Iv (reel r c) Z (4 * (50 - i) + b) Hi ∧ Kp (reel r c) Z H1 Hi ∧ Hi f = some (.lst (ms.map V.int)) ∧
      ms.length = i ∧ Asc (-1) ms ∧ (∀ y ∈ ms, 0 ≤ y ∧ y < x) ∧ 0 ≤ x ∧ x ≤ 1000000 + (i : Int) * 160000) ⟨[], h, _, rfl, P5, k2.trans kf, kf.at_ ff upd_same, rfl, trivial, (fun y hy => nomatch hy), h0, by omega⟩ (fun i σ H1 _ h => trivial) ?_ ?_⟩
    · rintro i x σ Hi H' hi ⟨ms, x, y7, rfl, Pi, ki, ei, hl, ha, hb, x0, x1⟩ ⟨rfl, rfl⟩
      refine s_expr ⟨.ref f, rfl, .inl ⟨rfl, _, .inl (.inl ei)⟩, .int x, rfl, f, _, _, rfl, rfl, ei, small1000 (by rw [List.length_map]; omega), ?_⟩
      obtain ⟨P6, k6⟩ := set_iv (o := .lst (ms.map V.int ++ [.int x])) P1 nf Pi ki
      refine s_set ?_
      refine (ev_add (ev_ivar (lo := x) (hi := x) (by rfl) (Int.le_refl _) (Int.le_refl _)) (ev_ixL (m := 4) (c := 4) (lo := 0) (up := 3) (R := IR 1 60000) IR.mo (ev_lst (by decide) IR.mo
        (eall_cons IR.mo ((ev_add (a := 1) (b := 1) ev_int (ev_spin (b := g) (by rfl) (by omega) (ev_ivar (by rfl) g0 (Int.le_refl _)))).wide (by omega) (by omega))
        (eall_cons IR.mo (ev_ivar (by rfl) (by omega) (by omega))
        (eall_cons IR.mo (ev_int.wide (by decide) (by decide))
        (eall_cons IR.mo ((ev_add (a := 1) (b := 1) ev_int (ev_spin (b := 60000) (by rfl) (by omega) ((ev_mul (a := 3) (b := 3) (c := 1) (d := 20000) (by decide) (by decide) (by decide) ev_int (ev_ivar (by rfl) g0 g1)).wide (by decide) (by decide)))).wide (by omega) (by omega)) eall_nil)))))
        (ev_ivar (by rfl) w0 (by omega)))).run P6 (b := 2 + (4 * (50 - (i + 1)) + b)) (by omega) fun v H7 P7 k7 r7 => ?_
      obtain ⟨x2, rfl, x20, x21⟩ := r7
      refine s_if1 ?_
      refine (ev_spinC (m := 9)).run P7 (b := 1 + (4 * (50 - (i + 1)) + b)) (by omega) fun v H8 P8 k8 r8 => ?_
      obtain ⟨w9, rfl, _, _⟩ := r8
      have f7 := k7.at_ ff upd_same
      have e8 : ∀ {Hk : Hp}, Kp (reel r c) Z H8 Hk → Hk f = some (.lst ((ms ++ [x]).map V.int)) := fun k => by
        rw [List.map_append]
        exact k.at_ ff (k8.at_ ff f7)
      have k8' := (k6.trans k7).trans k8
      have fin : ∀ (z : Int) (Hk : Hp), x < z → z ≤ x + 160000 → Iv (reel r c) Z (4 * (50 - (i + 1)) + b) Hk → Kp (reel r c) Z H8 Hk → _ := fun z Hk z0 z1 Pk kk =>
        (⟨ms ++ [x], z, _, rfl, Pk, k8'.trans kk, e8 kk, by rw [List.length_append, hl]; rfl, Asc.snoc ha (by omega) fun y hy => (hb y hy).2, fun y hy => by
          rcases List.mem_append.mp hy with e | e
          · have := hb y e; omega
          · rw [List.mem_singleton.mp e]; omega, by omega, by omega⟩ : ∃ ms x y7, ([some (.ref r), some (.int m), some (.int g), some (.int z), some (.ref f), some (.int wy), some (.int st), some (.int (0 + (i : Int)))] : L2.St) = [some (.ref r), some (.int m), some (.int g), some (.int x), some (.ref f), some (.int wy), some (.int st), y7] ∧ Iv (reel r c) Z (4 * (50 - (i + 1)) + b) Hk ∧ Kp (reel r c) Z H1 Hk ∧ Hk f = some (.lst (ms.map V.int)) ∧
      ms.length = i + 1 ∧ Asc (-1) ms ∧ (∀ y ∈ ms, 0 ≤ y ∧ y < x) ∧ 0 ≤ x ∧ x ≤ 1000000 + ((i + 1 : Nat) : Int) * 160000)
      refine ⟨rfl, _, rfl, ite2 (fun _ => ?_) (fun _ => ?_)⟩
      · refine s_set1 ?_
        refine (ev_add (ev_ivar (lo := x2) (hi := x2) (by rfl) (Int.le_refl _) (Int.le_refl _)) (ev_ixL (m := 2) (c := 2) (R := IR 1 100000) IR.mo (ev_lst (by decide) IR.mo (eall_cons IR.mo (ev_ivar (by rfl) g0 (by omega)) (eall_cons IR.mo ((ev_pow (by decide)).wide (by decide) (by decide)) eall_nil))) (ev_spinC (m := 2)))).run P8 (b := 4 * (50 - (i + 1)) + b) (by omega) fun v H9 P9 k9 r9 => ?_
        obtain ⟨x3, rfl, x30, x31⟩ := r9
        exact fin x3 H9 (by omega) (by omega) P9 k9
      · exact fin x2 H8 (by omega) (by omega) (P8.less (by omega)) Kp.refl
    · rintro σ Hi ⟨ms, x, y7, rfl, Pi, ki, ei, hl, ha, hb, x0, x1⟩
      refine ⟨.ref f, rfl, q _ _ ms (Pi.less (by omega)) (k1.trans ki) ?_ ⟨ha, by omega, fun y hy => ?_⟩⟩
      · exact .lst (.inl (.inl (hid_get ff ei))) ints_dqs
      · have := hb y hy; omega
theorem ok_l_log (T : All K mg) : FnOk P w K mg base CX0 1 T.f_l_log T.fd_l_log ["lamp", "minutes"] (sp_l_log K) := by
  have nd := sc_l_log.nd
  refine T.D_l_log.F.ok sc_l_log (fun vs H Q E h => ?_) (fun cdv A outer s H vs Q E hr h => ?_)
  · obtain ⟨N, x, _, hd, _⟩ := h
    exact hd.len
  · obtain ⟨N, ⟨⟨kd, st⟩, ms⟩, O, hd, hl, qq⟩ := h
    have hl : ms.length ≤ 900 := hl
    obtain ⟨v1, _, rfl, hd1, hd⟩ := dqs_cons hd
    obtain ⟨v2, _, rfl, hd2, hd⟩ := dqs_cons hd
    obtain rfl := dqs_nil hd
    obtain ⟨a1, rfl, g1⟩ := dq_lamp hd1
    obtain ⟨a2, ys, rfl, g2, hy⟩ := dq_lst hd2
    obtain rfl := dqs_ints hy
    refine ⟨_, (pss_cons (ps_asg (pv 0) (pg_tup rfl (pgs_cons (pg_name (i := 2) nd rfl (by first | exact Or.inl rfl | exact Or.inr rfl)) (pgs_cons (pg_name (i := 3) nd rfl (by first | exact Or.inl rfl | exact Or.inr rfl)) pgs_nil))))
  (pss_cons (ps_set (i := 4) nd rfl (by first | exact Or.inl rfl | exact Or.inr rfl) (pe_lst pa_nil))
  (pss_cons (ps_for PassesOwn.never rfl (pi_list (pv 1)) (pg_name (i := 5) nd rfl (by first | exact Or.inl rfl | exact Or.inr rfl))
    (pss_one (ps_if (PW.pt (pw_or (pt_cmpR (op_eqE hr.units0) (pv 4) (pe_lst pa_nil) (nomark _)) (pw_or1 (pt_cmpR op_gt (pv 5) (pe_ix ix_tup (pe_ix ix_list (pv 4) (pe_un un_neg pe_int) (fun _ _ => rfl)) pe_int (fun _ _ => rfl)) (nomark _)))))
    (pss_one (ps_expr (pe_bm PySem.F.plainAttrs_list PySem.F.slot_list_append PySem.F.type_list_append mt_append (pv 4) (pa_cons (pe_tup (pa_cons (pv 5) (pa_cons (pe_op op_add (pv 5) (pv 3)) pa_nil))) pa_nil))))
    (pss_one (ps_if (PW.pt (pw_or (pt_cmpR op_eq (pv 2) pe_str (nomark _)) (pw_or1 (pt_cmpR op_eq (pv 5) (pe_ix ix_tup (pe_ix ix_list (pv 4) (pe_un un_neg pe_int) (fun _ _ => rfl)) pe_int (fun _ _ => rfl)) (nomark _)))))
    (pss_one (ps_asg (pe_tup (pa_cons (pe_ix ix_tup (pe_ix ix_list (pv 4) (pe_un un_neg pe_int) (fun _ _ => rfl)) pe_int (fun _ _ => rfl)) (pa_cons (pe_op op_add (pv 5) (pv 3)) pa_nil))) (pg_sub (pv 4) (pe_un un_neg pe_int) set_list)))
    pss_nil)))))
  (pss_one (ps_ret (pe_callTy call_tuple_of (by rfl) T.z_tuple (by decide +kernel) (pa_cons (pv 4) pa_nil))))))), ?_⟩
    refine ⟨.ref a1, rfl, a1, _, rfl, Same.seqT cut_same g1, rfl, _, _, rfl, _, _, rfl, rfl, ?_⟩
    refine ⟨Nat.zero_le _, fun f nf => ?_⟩
    refine ⟨.ref a2, rfl, a2, rfl, ⟨_, Same.seqL (cut_same.trans (same_new nf)) g2⟩, for_it walk_list (fun i σ Hi => (∃ y5, σ = [some (.ref a1), some (.ref a2), some (.str (kindS kd)), some (.int st), some (.ref f), y5]) ∧ GrowAt K N H f ((ms.take i).foldl (stepL kd st) []).reverse Hi) ⟨⟨_, rfl⟩, .start nf⟩ (fun i σ H1 _ h => by
        obtain ⟨_, xs, s1, _⟩ := h
        exact Same.seqL (cut_same.trans s1) g2) ?_ ?_⟩
    · rintro i x σ Hi H' hi ⟨⟨y5, rfl⟩, xs, si, ei, hx⟩ ⟨rfl, hxi⟩
      obtain ⟨m, hm, rfl⟩ := get_ints hxi
      have lm : i < ms.length := (List.getElem?_eq_some_iff.mp hm).1
      have nx := foldl_take (stepL kd st) [] ms hm
      have lq := logF_len kd st (ms.take i) []
      rw [List.length_take] at lq
      have lx := hx.len
      rw [List.length_map, List.length_reverse] at lx
      generalize (ms.take i).foldl (stepL kd st) [] = qs at hx nx lq lx
      refine s_if1 ⟨.ref f, rfl, Nat.zero_le _, fun ga ng => ?_⟩
      have sg : Same H' (upd H' ga (.lst [])) := same_new ng
      have eg := sg _ _ ei
      have tf : ∀ t, (upd H' ga (.lst [])) t = none → f ≠ t := fun t nt e => by rw [← e, eg] at nt; cases nt
      refine ⟨f, ga, _, rfl, rfl, .inl (.inl eg), .inl (.inl upd_same), _, rfl, ?_⟩
      cases qs with
      | nil =>
        obtain rfl := dqs_nil hx
        refine iteT ?_
        refine ⟨.ref f, rfl, .inl ⟨rfl, _, .inl (.inl eg)⟩, .int m, rfl, .int m, rfl, .int st, rfl, m, st, rfl, rfl, sz2, fun t nt => ?_⟩
        refine ⟨f, [], _, rfl, rfl, by rw [upd_ne (tf t nt)]; exact eg, small1000 (Nat.zero_le _), ⟨_, rfl⟩, ?_⟩
        rw [nx]
        exact GrowAt.put (q := (m, m + st)) nf O si sg eg hx nt
      | cons q r =>
        rw [List.reverse_cons, List.map_append] at hx
        have hx0 := hx
        obtain ⟨zs, v, rfl, hz, hv⟩ := dqs_snoc_inv hx
        obtain ⟨tq, rfl, gq⟩ := dq_pair hv
        have gq' := Same.seqT (cut_same.trans (cut_same.trans sg)) gq
        refine iteF_e (by simp) ?_
        refine ⟨.int m, rfl, .ref f, rfl, 1, rfl, f, _, -1, .ref tq, rfl, rfl, .inl (.inl eg), atI_last _ _, tq, _, 1, .int q.2, rfl, rfl, gq', atI_nat (j := 1) rfl, m, q.2, rfl, rfl, _, rfl, ite2 (fun g => ?_) (fun g => ?_)⟩
        · have g' : q.2 < m := of_decide_eq_true g
          refine ⟨.ref f, rfl, .inl ⟨rfl, _, .inl (.inl eg)⟩, .int m, rfl, .int m, rfl, .int st, rfl, m, st, rfl, rfl, sz2, fun t nt => ?_⟩
          refine ⟨f, _, _, rfl, rfl, by rw [upd_ne (tf t nt)]; exact eg, small1000 (by rw [lx]; simp at lq ⊢; omega), ⟨_, rfl⟩, ?_⟩
          rw [nx]
          simp only [stepL, if_pos g']
          rw [List.reverse_cons, List.reverse_cons]
          exact GrowAt.put (q := (m, m + st)) nf O si sg eg (by rw [List.map_append]; exact hx0) nt
        · have g' : ¬ q.2 < m := fun z => g (decide_eq_true z)
          have put : (kd || decide (m = q.2)) = true → ∀ t, (upd H' ga (.lst [])) t = none → GrowAt K N H f ((ms.take (i + 1)).foldl (stepL kd st) []).reverse (upd (upd (upd H' ga (.lst [])) t (.tup [.int q.1, .int (m + st)])) f (.lst ((zs ++ [V.ref tq]).set zs.length (V.ref t)))) := fun hh t nt => by
            rw [nx]
            simp only [stepL, if_neg g', if_pos hh]
            rw [List.reverse_cons, set_last]
            exact GrowAt.put (q := (q.1, m + st)) nf O si sg eg hz nt
          refine ⟨.str (kindS kd), rfl, rfl, _, rfl, ite_b (fun hk => ?_) (fun hk => ?_)⟩
          · rw [kindS_hold] at hk
            exact ⟨.ref f, rfl, 1, rfl, f, _, -1, .ref tq, rfl, rfl, .inl (.inl eg), atI_last _ _, tq, _, 0, .int q.1, rfl, rfl, gq', atI_nat (j := 0) rfl, .int m, rfl, .int st, rfl, m, st, rfl, rfl, sz2, fun t nt =>
              ⟨.ref f, rfl, 1, rfl, f, _, -1, zs.length, rfl, rfl, by rw [upd_ne (tf t nt)]; exact eg, ixN_last, ⟨_, rfl⟩, put (by rw [hk]; rfl) t nt⟩⟩
          · refine ⟨.int m, rfl, .ref f, rfl, 1, rfl, f, _, -1, .ref tq, rfl, rfl, .inl (.inl eg), atI_last _ _, tq, _, 1, .int q.2, rfl, rfl, gq', atI_nat (j := 1) rfl, rfl, _, rfl, ite2 (fun g2 => ?_) (fun g2 => ?_)⟩
            · have e2 : m = q.2 := V.int.inj (of_decide_eq_true g2)
              exact ⟨.ref f, rfl, 1, rfl, f, _, -1, .ref tq, rfl, rfl, .inl (.inl eg), atI_last _ _, tq, _, 0, .int q.1, rfl, rfl, gq', atI_nat (j := 0) rfl, .int m, rfl, .int st, rfl, m, st, rfl, rfl, sz2, fun t nt =>
              ⟨.ref f, rfl, 1, rfl, f, _, -1, zs.length, rfl, rfl, by rw [upd_ne (tf t nt)]; exact eg, ixN_last, ⟨_, rfl⟩, put (by rw [decide_eq_true e2, Bool.or_true]) t nt⟩⟩
            · have e2 : ¬ m = q.2 := fun z => g2 (decide_eq_true (by rw [z]))
              rw [kindS_hold] at hk
              refine ⟨⟨_, rfl⟩, ?_⟩
              rw [nx]
              simp only [stepL, if_neg g']
              rw [if_neg (by rw [hk, decide_eq_false e2]; exact fun z => nomatch z)]
              exact ⟨_, si.trans sg, eg, by rw [List.reverse_cons, List.map_append]; exact hx0.mono (cut_mono (cut_mono sg))⟩
    · rintro σ Hi ⟨⟨y5, rfl⟩, xs, si, ei, hx⟩
      rw [List.length_map, List.take_length] at hx
      refine ⟨.ref f, rfl, f, xs, rfl, .inl ⟨.inl (.inl ei), fun t nt => ?_⟩⟩
      exact qq _ _ (si.trans (same_new nt)) (GrowAt.tup O si hx nt)
theorem ok_l_logs (T : All K mg) : FnOk P w K mg base CX0 2 T.f_l_logs T.fd_l_logs ["lamps", "minutes"] (sp_l_logs K) := by
  have nd := sc_l_logs.nd
  refine T.D_l_logs.F.ok sc_l_logs (fun vs H Q E h => ?_) (fun cdv A outer s H vs Q E hr h => ?_)
  · obtain ⟨N, x, _, hd, _⟩ := h
    exact hd.len
  · obtain ⟨N, ⟨ls, ms⟩, O, hd, ⟨hl, hm⟩, qq⟩ := h
    obtain ⟨v1, _, rfl, hd1, hd⟩ := dqs_cons hd
    obtain ⟨v2, _, rfl, hd2, hd⟩ := dqs_cons hd
    obtain rfl := dqs_nil hd
    obtain ⟨a1, ys, rfl, g1, hy⟩ := dq_tup hd1
    refine ⟨_, (pss_one (ps_ret (pe_callTy call_tuple_of (by rfl) T.z_tuple (by decide +kernel) (pa_cons (pe_lc (own := [("lamp", 2)]) rfl nd (pi_tup (pv 0)) (blkOk_by (own := [("lamp", 2)]) (N := n_l_logs) (sc := defScope s_l_logs) (by decide +kernel)) (fun _ _ _ _ _ => (pg_name (i := 2) nd rfl (by first | exact Or.inl rfl | exact Or.inr rfl))) (fun _ _ _ _ _ => pts_nil) (fun _ _ _ _ _ => (pe_call (ok_l_log T) (hr.mono (by decide)) (by rfl) T.D_l_log.g T.D_l_log.F.kp T.D_l_log.b .nil pass0 (pa_cons (pv 2) (pa_cons (pv 1) pa_nil))))) pa_nil)))), ?_⟩
    refine ⟨.ref a1, rfl, a1, rfl, ⟨_, Same.seqT cut_same g1⟩, fun D nD => ?_⟩
    refine lc_map (K := K) (D := lampD) (F := fun l => logD (logF l ms)) (walk_tup (K := K) (a := a1) (xs := ys)) (fun H' s => Same.seqT (cut_same.trans s) g1) nD O hy hl ?_ ?_
    · intro G x y Q' _ OG sG _ hx q'
      exact ⟨x, rfl, v2, rfl, NP N D, (y, ms), OG, .cons hx (.cons (hd2.mono sG) .nil), hm, q'⟩
    · intro H' acc s e OH' hacc
      refine ⟨D, acc, rfl, .inl ⟨.inl (.inl e), fun t nt => ?_⟩⟩
      exact qq _ _ (s.trans (same_new nt)) (.tup (.inl (.inl (cut_new (O.keep s) nt))) (hacc.mono (np_le.trans (cut_mono (same_new nt)))))
theorem ok_l_bent (T : All K mg) : FnOk P w K mg base CX0 2 T.f_l_bent T.fd_l_bent ["reel", "log"] (sp_bent K) := by
  have nd := sc_l_bent.nd
  refine T.D_l_bent.F.ok sc_l_bent (fun vs H Q E h => ?_) (fun cdv A outer s H vs Q E hr h => ?_)
  · obtain ⟨Z, r, c, b, x, ps, B, rfl, _⟩ := h
    rfl
  · obtain ⟨Z, r, c, b, x, ps, B, rfl, hP, hx, hok, B0, B1, q⟩ := h
    refine ⟨_, (pss_cons (ps_if (pt_cmpR (op_eqD hr.units) (pv 1) (pe_tup pa_nil) (nomark _))
    (pss_one (ps_ret (pe_tup (pa_cons (pe_tup (pa_cons pe_int (pa_cons (pe_op op_add pe_int (pe_call (ok_l_spin T) (hr.mono (by decide)) (by rfl) T.D_l_spin.g T.D_l_spin.F.kp T.D_l_spin.b .nil pass0 (pa_cons (pv 0) (pa_cons pe_int pa_nil)))) pa_nil))) pa_nil))))
    pss_nil)
  (pss_cons (ps_par (i := 2) (j := 3) (by rfl) nd rfl rfl (by decide) rfl rfl (pa_cons (pe_call (ok_l_spin T) (hr.mono (by decide)) (by rfl) T.D_l_spin.g T.D_l_spin.F.kp T.D_l_spin.b .nil pass0 (pa_cons (pv 0) (pa_cons (pe_callB call_len_seq (by rfl) T.z_len (by decide +kernel) (pa_cons (pv 1) pa_nil)) pa_nil))) (pa_cons (pe_op op_add pe_int (pe_call (ok_l_spin T) (hr.mono (by decide)) (by rfl) T.D_l_spin.g T.D_l_spin.F.kp T.D_l_spin.b .nil pass0 (pa_cons (pv 0) (pa_cons pe_int pa_nil)))) pa_nil)) (by rfl))
  (pss_cons (ps_asg (pe_ix ix_tup (pv 1) (pv 2) (fun _ _ => rfl)) (pg_tup rfl (pgs_cons (pg_name (i := 4) nd rfl (by first | exact Or.inl rfl | exact Or.inr rfl)) (pgs_cons (pg_name (i := 5) nd rfl (by first | exact Or.inl rfl | exact Or.inr rfl)) pgs_nil))))
  (pss_cons (ps_set (i := 6) nd rfl (by first | exact Or.inl rfl | exact Or.inr rfl) (pe_lst (pa_cons (pe_tup (pa_cons (pv 4) (pa_cons (pe_op op_add (pv 5) (pv 3)) pa_nil))) (pa_cons (pe_tup (pa_cons (pv 4) (pa_cons (pe_callB (call_max2 rfl) (by rfl) T.z_max (by decide +kernel) (pa_cons (pe_op op_add (pv 4) pe_int) (pa_cons (pe_op op_sub (pv 5) (pv 3)) pa_nil))) pa_nil))) (pa_cons (pe_tup (pa_cons (pe_op op_add (pv 4) (pv 3)) (pa_cons (pe_op op_add (pv 5) (pv 3)) pa_nil))) (pa_cons (pe_tup (pa_cons (pe_callB (call_max2 rfl) (by rfl) T.z_max (by decide +kernel) (pa_cons pe_int (pa_cons (pe_op op_sub (pv 4) (pv 3)) pa_nil))) (pa_cons (pv 5) pa_nil))) pa_nil))))))
  (pss_cons (ps_set (i := 7) nd rfl (by first | exact Or.inl rfl | exact Or.inr rfl) (pe_call (ok_l_spin T) (hr.mono (by decide)) (by rfl) T.D_l_spin.g T.D_l_spin.F.kp T.D_l_spin.b .nil pass0 (pa_cons (pv 0) (pa_cons pe_int pa_nil))))
  (pss_cons (ps_set (i := 8) nd rfl (by first | exact Or.inl rfl | exact Or.inr rfl) (pe_ifExp (pt_cmpR op_lt (pv 7) pe_int (nomark _)) (pe_lst (pa_cons (pe_ix ix_list (pv 6) (pv 7) (fun _ _ => rfl)) pa_nil)) (pe_lst pa_nil)))
  (pss_cons (ps_if (PW.pt (pw_and (pt_cmpR op_eq (pv 7) pe_int (nomark _)) (pw_and1 (pt_cmpR op_gt (pe_op op_sub (pv 5) (pv 4)) pe_int (nomark _)))))
    (pss_one (ps_set (i := 8) nd rfl (by first | exact Or.inl rfl | exact Or.inr rfl) (pe_lst (pa_cons (pe_tup (pa_cons (pv 4) (pa_cons (pe_op op_add (pv 4) (pe_op op_fdivN (pe_op op_sub (pv 5) (pv 4)) pe_int)) pa_nil))) (pa_cons (pe_tup (pa_cons (pe_op op_add (pe_op op_add (pv 4) (pe_op op_fdivN (pe_op op_sub (pv 5) (pv 4)) pe_int)) pe_int) (pa_cons (pv 5) pa_nil))) pa_nil)))))
    pss_nil)
  (pss_cons (ps_if (pt_cmpR op_eq (pv 7) pe_int (nomark _))
    (pss_one (ps_set (i := 8) nd rfl (by first | exact Or.inl rfl | exact Or.inr rfl) (pe_lst (pa_cons (pe_tup (pa_cons (pv 4) (pa_cons (pv 5) pa_nil))) (pa_cons (pe_tup (pa_cons (pe_op op_add (pv 5) (pv 3)) (pa_cons (pe_op op_add (pv 5) (pe_op op_mul pe_int (pv 3))) pa_nil))) pa_nil)))))
    pss_nil)
  (pss_cons (ps_set (i := 9) nd rfl (by first | exact Or.inl rfl | exact Or.inr rfl) (pe_lst pa_nil))
  (pss_cons (ps_for PassesOwn.never rfl (pi_list (pe_op op_cat (pe_op op_cat (pe_callTy call_list_of (by rfl) T.z_list (by decide +kernel) (pa_cons (pe_slice sl_tupA (pv 1) po_none (po_some (pv 2))) pa_nil)) (pv 8)) (pe_callTy call_list_of (by rfl) T.z_list (by decide +kernel) (pa_cons (pe_slice sl_tupA (pv 1) (po_some (pe_op op_add (pv 2) pe_int)) po_none) pa_nil)))) (pg_tup rfl (pgs_cons (pg_name (i := 10) nd rfl (by first | exact Or.inl rfl | exact Or.inr rfl)) (pgs_cons (pg_name (i := 11) nd rfl (by first | exact Or.inl rfl | exact Or.inr rfl)) pgs_nil)))
    (pss_one (ps_if (PW.pt (pw_or (pt_cmpR (op_eqE hr.units0) (pv 9) (pe_lst pa_nil) (nomark _)) (pw_or1 (pt_cmpR op_gt (pv 10) (pe_ix ix_tup (pe_ix ix_list (pv 9) (pe_un un_neg pe_int) (fun _ _ => rfl)) pe_int (fun _ _ => rfl)) (nomark _)))))
    (pss_one (ps_expr (pe_bm PySem.F.plainAttrs_list PySem.F.slot_list_append PySem.F.type_list_append mt_append (pv 9) (pa_cons (pe_tup (pa_cons (pv 10) (pa_cons (pv 11) pa_nil))) pa_nil))))
    pss_nil)))
  (pss_one (ps_ret (pe_callTy call_tuple_of (by rfl) T.z_tuple (by decide +kernel) (pa_cons (pe_slice sl_list (pv 9) po_none (po_some pe_int)) pa_nil)))))))))))))), ?_⟩
    have hx0 := hx
    obtain ⟨a, xs, rfl, g, hd⟩ := dq_tup hx
    refine s_ifn ⟨.ref a, rfl, Nat.zero_le _, fun t nt => ?_⟩
    obtain ⟨P1, k1, e1⟩ := laid (o := .tup []) hP nt
    refine ⟨logD ps, .tuple [], log_dp (hx0.mono (hid_same.trans (same_new nt))), .tup (.inl (.inl upd_same)) .nil, pD_shaped ps, pD_shaped [], _, rfl, ?_⟩
    rw [show PyData.eqv (logD ps) (.tuple []) = ps.isEmpty from pD_eqv ps]
    have len := hd.len
    rw [List.length_map] at len
    cases ps with
    | nil =>
      refine iteT (s_ret (r_tup (r_cons (r_tup ?_))))
      refine (eva_pair EI_mo IR.mo (ei_c (i := 3)) (ev_add (a := 4) (b := 4) ev_int (ev_spinC (m := 5)))).run P1 (b := 2 + b) (by omega) fun vs H2 P2 k2 r2 => ?_
      obtain ⟨_, _, rfl, rfl, ⟨y, rfl, y0, y1⟩⟩ := r2
      refine ⟨sz2, fun t2 nt2 => ⟨Nat.le_of_lt (small1000 (Nat.le_add_left 1 999)), fun t3 nt3 => ?_⟩⟩
      obtain ⟨P3, k3, e3⟩ := laid (o := .tup [.int 3, .int y]) P2 nt2
      obtain ⟨P4, k4, e4⟩ := laid (o := .tup [.ref t2]) P3 nt3
      refine q _ _ [(3, y)] (P4.less (by omega)) (k1.trans (k2.trans (k3.trans k4))) (.tup (.inl (.inl e4)) (.cons (dq_pairT (q := (3, y)) (.inl (.inl (k4 _ _ e3)))) .nil)) ⟨⟨(show (-1 : Int) < 3 by decide), by show (3 : Int) < y; omega, trivial⟩, (show 1 ≤ 60 by decide), fun q hq => ?_⟩
      rw [List.mem_singleton.mp hq]
      show y ≤ B + 8
      omega
    | cons q0 qs =>
      refine iteF ?_
      have hall := hok.all
      have l60 := hok.len
      generalize hps : q0 :: qs = ps at *
      have l1 : 1 ≤ xs.length := by rw [len, ← hps]; simp
      have l2 : xs.length ≤ 60 := by omega
      have MP : Mo (PR K B) := PR.mo
      have MP8 : Mo (PR K (B + 8)) := PR.mo
      have hI : TpR K xs.length xs.length (PR K B) (.ref a) (hid (reel r c) Z (upd H t (.tup []))) := TpR.mo MP _ _ _ k1 ⟨a, xs, rfl, g, Nat.le_refl _, Nat.le_refl _, Dqs.pr hd hall⟩
      generalize xs.length = L at hI l1 l2
      -- at, by
      refine s_par ?_
      refine (eva_pair IR.mo IR.mo (ev_spin (b := (L : Int)) (by rfl) (by omega) ((ev_len (ev_var (v := .ref a) (by rfl) (TpR.mo MP) hI)).wide (by omega) (by omega))) (ev_add (a := 1) (b := 1) ev_int (ev_spinC (m := 4)))).run P1 (b := 1 + b) (by omega) fun vs H2 P2 k2 r2 => ?_
      obtain ⟨_, _, rfl, ⟨at_, rfl, at0, at1⟩, ⟨by_, rfl, by0, by1⟩⟩ := r2
      refine ⟨_, _, rfl, ?_⟩
      have hI2 := TpR.mo MP _ _ _ k2 hI
      -- on, off
      refine s_asg ?_
      refine (ev_ixT (R := PR K B) (lo := at_) (up := at_) MP (ev_var (v := .ref a) (by rfl) (TpR.mo MP) hI2) (ev_ivar (by rfl) (Int.le_refl _) (Int.le_refl _)) (by omega) (by omega)).run P2 (b := 1 + b) (by omega) fun v H3 P3 k3 r3 => ?_
      obtain ⟨⟨on, off⟩, hq3, hon, hlt, hoff⟩ := r3
      have hon : 0 ≤ on := hon
      have hlt : on < off := hlt
      have hoff : off ≤ B := hoff
      obtain ⟨aq, rfl, gq⟩ := dq_pair hq3
      have hI3 := TpR.mo MP _ _ _ k3 hI2
      refine ⟨aq, _, rfl, Same.seqT hid_same gq, rfl, _, _, rfl, _, _, rfl, rfl, ?_⟩
      generalize hσ : (List.set _ 5 (some (V.int off)) : L2.St) = σ
      have z : σ = [some (.ref r), some (.ref a), some (.int at_), some (.int by_), some (.int on), some (.int off), none, none, none, none, none, none] := by rw [← hσ]; rfl
      subst z
      clear hσ
      have en : ∀ {Hx : Hp} {τ : L2.St}, τ[4]? = some (some (.int on)) → Ev (reel r c) Z 0 Hx τ (tVar 4) (EI on) := fun e => ev_iv e
      have ef : ∀ {Hx : Hp} {τ : L2.St}, τ[5]? = some (some (.int off)) → Ev (reel r c) Z 0 Hx τ (tVar 5) (EI off) := fun e => ev_iv e
      have eb : ∀ {Hx : Hp} {τ : L2.St}, τ[3]? = some (some (.int by_)) → Ev (reel r c) Z 0 Hx τ (tVar 3) (EI by_) := fun e => ev_iv e
      -- some
      refine s_set ?_
      refine (ev_lst (m := 4) (n' := 4) (R := PR K (B + 8)) (by decide) MP8
        (eall_cons MP8 (ev_pr (a := on) (b := off + by_) (by omega) (en (by rfl)) (ei_add (ef (by rfl)) (eb (by rfl))))
        (eall_cons MP8 (ev_pr (a := on) (b := if off - by_ > on + 1 then off - by_ else on + 1) (by repeat (first | omega | split)) (en (by rfl)) (ei_max2 (ei_add (en (by rfl)) ei_c) (ei_sub (ef (by rfl)) (eb (by rfl)))))
        (eall_cons MP8 (ev_pr (a := on + by_) (b := off + by_) (by omega) (ei_add (en (by rfl)) (eb (by rfl))) (ei_add (ef (by rfl)) (eb (by rfl))))
        (eall_cons MP8 (ev_pr (a := if on - by_ > 0 then on - by_ else 0) (b := off) (by repeat (first | omega | split)) (ei_max2 ei_c (ei_sub (en (by rfl)) (eb (by rfl)))) (ef (by rfl))) eall_nil))))).run P3 (b := 1 + b) (by omega) fun v6 H4 P4 k4 r4 => ?_
      have hI4 := TpR.mo MP _ _ _ k4 hI3
      -- way
      refine s_set ?_
      refine (ev_spinC (m := 7)).run P4 (b := b) (by omega) fun v7 H5 P5 k5 r5 => ?_
      obtain ⟨wy, rfl, w0, w1⟩ := r5
      have r4' := LsR.mo MP8 _ _ _ k5 r4
      have hI5 := TpR.mo MP _ _ _ k5 hI4
      -- parts
      refine s_set ?_
      refine (ev_ifLt (R := LsR 0 2 (PR K (B + 8))) (n := 0) (c := wy) (d := 4) (by rfl)
        (fun hw => ev_lsW (ev_lst (m := 1) (n' := 1) (by decide) MP8 (eall_cons MP8 (ev_ixL (K := K) (m := 4) (c := 4) (lo := 0) (up := 3) MP8 (ev_var (v := v6) (by rfl) (LsR.mo MP8) r4') (ev_ivar (by rfl) w0 (by omega))) eall_nil)) (by decide) (by decide) (fun _ _ h => h))
        (ev_lsW (ev_lst (m := 0) (n' := 0) (by decide) MP8 eall_nil) (by decide) (by decide) (fun _ _ h => h))).run P5 (b := b) (by omega) fun v8 H6 P6 k6 r6 => ?_
      have hI6 := TpR.mo MP _ _ _ k6 hI5
      have kall := k1.trans (k2.trans (k3.trans (k4.trans (k5.trans k6))))
      -- the two ifs
      have st : ∀ {σ' : L2.St}, σ' = σ' := rfl
      refine s_ifn' (fun σ' H' => ∃ v, σ' = [some (.ref r), some (.ref a), some (.int at_), some (.int by_), some (.int on), some (.int off), some v6, some (.int wy), some v, none, none, none] ∧ Iv (reel r c) Z b H' ∧ Kp (reel r c) Z H6 H' ∧ LsR 0 2 (PR K (B + 8)) v (hid (reel r c) Z H')) ?rest ?one
      case one =>
        intro X hX
        refine ⟨.int wy, rfl, rfl, _, rfl, ite2 (fun g1 => ?_) (fun g1 => ?_)⟩
        · refine ⟨.int off, rfl, .int on, rfl, off, on, rfl, rfl, _, 2, rfl, rfl, _, rfl, ite2 (fun g2 => ?_) (fun g2 => ?_)⟩
          · have g2' : (2 : Int) < off - on := of_decide_eq_true g2
            have fd : (off - on).fdiv 2 = (off - on) / 2 := Int.fdiv_eq_ediv_of_nonneg _ (by decide)
            refine s_set1 ?_
            refine (ev_lst (m := 2) (n' := 2) (R := PR K (B + 8)) (by decide) MP8
              (eall_cons MP8 (ev_pr (a := on) (b := on + (off - on).fdiv 2) (by rw [fd]; omega) (en (by rfl)) (ei_add (en (by rfl)) (ei_fdivN (by decide) (ei_sub (ef (by rfl)) (en (by rfl))) ei_c)))
              (eall_cons MP8 (ev_pr (a := on + (off - on).fdiv 2 + 1) (b := off) (by rw [fd]; omega) (ei_add (ei_add (en (by rfl)) (ei_fdivN (by decide) (ei_sub (ef (by rfl)) (en (by rfl))) ei_c)) ei_c) (ef (by rfl))) eall_nil))).run P6 (b := b) (by omega) fun v Hk Pk kk rk => ?_
            exact hX _ _ ⟨v, rfl, Pk, kk, ev_lsW_v rk (by decide) (by decide)⟩
          · exact hX _ _ ⟨v8, rfl, P6, Kp.refl, r6⟩
        · exact hX _ _ ⟨v8, rfl, P6, Kp.refl, r6⟩
      rintro _ H7 ⟨v, rfl, P7, k7, r7⟩
      refine s_ifn' (fun σ' H' => ∃ v, σ' = [some (.ref r), some (.ref a), some (.int at_), some (.int by_), some (.int on), some (.int off), some v6, some (.int wy), some v, none, none, none] ∧ Iv (reel r c) Z b H' ∧ Kp (reel r c) Z H7 H' ∧ LsR 0 2 (PR K (B + 8)) v (hid (reel r c) Z H')) ?rest2 ?two
      case two =>
        intro X hX
        refine ⟨.int wy, rfl, rfl, _, rfl, ite2 (fun g1 => ?_) (fun g1 => ?_)⟩
        · refine s_set1 ?_
          refine (ev_lst (m := 2) (n' := 2) (R := PR K (B + 8)) (by decide) MP8
            (eall_cons MP8 (ev_pr (a := on) (b := off) (by omega) (en (by rfl)) (ef (by rfl)))
            (eall_cons MP8 (ev_pr (a := off + by_) (b := off + 2 * by_) (by omega) (ei_add (ef (by rfl)) (eb (by rfl))) (ei_add (ef (by rfl)) (ei_mul (.inl ⟨by decide, by decide⟩) ei_c (eb (by rfl))))) eall_nil))).run P7 (b := b) (by omega) fun v Hk Pk kk rk => ?_
          exact hX _ _ ⟨v, rfl, Pk, kk, ev_lsW_v rk (by decide) (by decide)⟩
        · exact hX _ _ ⟨v, rfl, P7, Kp.refl, r7⟩
      rintro _ H8 ⟨v9, rfl, P8, k8, r8⟩
      have hI8 := TpR.mo MP _ _ _ (Kp.trans k7 k8) hI6
      -- found
      refine s_set ⟨Nat.zero_le _, fun f nf => ?_⟩
      have of := P8.free nf
      have P9 := (P8.new (o := .lst []) nf).hide (o := .lst []) upd_same of.1
      have k9 : Same (hid (reel r c) Z H8) (hid (reel r c) (upd Z f (.lst [])) (upd H8 f (.lst []))) := hid_new2 nf
      have hI9 := TpR.mo MP _ _ _ k9 hI8
      have r9 := LsR.mo MP8 _ _ _ k9 r8
      refine s_lst ?_
      refine (ev_cat (R := PR K (B + 8)) (b := 62) (d := 60) (by decide) MP8 (ev_cat (R := PR K (B + 8)) (b := 60) (d := 2) (by decide) MP8 (ev_lsW (ev_listOf MP (ev_slA MP (ev_var (v := .ref a) (by rfl) (TpR.mo MP) hI9) any_none (any_some (ev_ivar (lo := at_) (hi := at_) (by rfl) (Int.le_refl _) (Int.le_refl _)).isInt))) (Nat.le_refl _) l2 (fun _ _ h => h.wide (by omega))) (ev_var (v := v9) (by rfl) (LsR.mo MP8) r9))
        (ev_lsW (ev_listOf MP (ev_slA MP (ev_var (v := .ref a) (by rfl) (TpR.mo MP) hI9) (any_some (ev_add (ev_ivar (lo := at_) (hi := at_) (by rfl) (Int.le_refl _) (Int.le_refl _)) (ev_int (i := 1))).isInt) any_none)) (Nat.le_refl _) l2 (fun _ _ h => h.wide (by omega)))).run P9 (b := b) (by omega) fun vl H10 P10 k10 r10 => ?_
      obtain ⟨la, xl, rfl, gl, ll1, ll2, hxl⟩ := r10
      have f10 := P10.zz _ _ (upd_same (a := f) (o := .lst []))
      have gl0 : H10 la = some (.lst xl) := hid_same _ _ gl
      have laf : la ≠ f := (off_hide (hid_some gl)).1
      have k10' : Kp (reel r c) Z H8 H10 := (Same.trans k9 k10).trans hid_hide
      have hxl' : ∀ x ∈ xl, PR K (B + 8) x (cut1 f (hid (reel r c) Z H10)) := fun x hx => MP8 _ _ _ hid_cut1 (hxl x hx)
      replace P10 := P10.bare of.2
      refine ⟨la, rfl, ⟨xl, .inl (.inl gl0)⟩, for_it walk_list (fun i σ Hi => ∃ ps, (∃ y10 y11, σ = [some (.ref r), some (.ref a), some (.int at_), some (.int by_), some (.int on), some (.int off), some v6, some (.int wy), some v9, some (.ref f), y10, y11]) ∧ GrowB K (NZ (reel r c) Z) H10 f ps Hi ∧ DownOk (B + 8) ps.reverse ∧ ps.length ≤ i) ⟨[], ⟨_, _, rfl⟩, ⟨[], AB.refl, f10, .nil⟩, trivial, Nat.zero_le _⟩ (fun i σ H1 _ h => by
        obtain ⟨_, _, ⟨_, sb, _, _⟩, _⟩ := h
        exact .inl (.inl (sb.at_ laf gl0))) ?_ ?_⟩
      · rintro i x σ Hi H' hi ⟨ps, ⟨y10, y11, rfl⟩, ⟨xs, sb, ef', hd'⟩, hdn, hlen⟩ ⟨rfl, hxi⟩
        have P' := sb.iv P10 of
        obtain ⟨⟨be, en'⟩, hdx, x0, x1, x2⟩ := hxl' x (List.mem_of_getElem? hxi)
        obtain ⟨ax, rfl, gx⟩ := dq_pair (hdx.mono sb.cut)
        refine ⟨ax, _, rfl, Same.seqT (cut_same.trans cut_same) gx, rfl, _, _, rfl, _, _, rfl, rfl, ?_⟩
        have fin : ∀ G, GrowB K (NZ (reel r c) Z) H10 f ps G → ∃ ps, (∃ y10 y11, ([some (.ref r), some (.ref a), some (.int at_), some (.int by_), some (.int on), some (.int off), some v6, some (.int wy), some v9, some (.ref f), some (.int be), some (.int en')] : L2.St) = [some (.ref r), some (.ref a), some (.int at_), some (.int by_), some (.int on), some (.int off), some v6, some (.int wy), some v9, some (.ref f), y10, y11]) ∧ GrowB K (NZ (reel r c) Z) H10 f ps G ∧ DownOk (B + 8) ps.reverse ∧ ps.length ≤ i + 1 := fun G hG => ⟨ps, ⟨_, _, rfl⟩, hG, hdn, by omega⟩
        have push : ∀ G, (∀ p, ps.getLast? = some p → p.2 < be) → GrowB K (NZ (reel r c) Z) H10 f (ps ++ [(be, en')]) G → ∃ ps, (∃ y10 y11, ([some (.ref r), some (.ref a), some (.int at_), some (.int by_), some (.int on), some (.int off), some v6, some (.int wy), some v9, some (.ref f), some (.int be), some (.int en')] : L2.St) = [some (.ref r), some (.ref a), some (.int at_), some (.int by_), some (.int on), some (.int off), some v6, some (.int wy), some v9, some (.ref f), y10, y11]) ∧ GrowB K (NZ (reel r c) Z) H10 f ps G ∧ DownOk (B + 8) ps.reverse ∧ ps.length ≤ i + 1 := fun G hl hG => ⟨ps ++ [(be, en')], ⟨_, _, rfl⟩, hG, by
            rw [List.reverse_append]
            exact hdn.push x0 x1 x2 fun p hp => hl p (by rw [List.head?_reverse] at hp; exact hp), by rw [List.length_append]; simp; omega⟩
        have lx := hd'.len
        rw [List.length_map] at lx
        refine s_if1 ⟨.ref f, rfl, Nat.zero_le _, fun ga ng => ?_⟩
        have sg : Same H' (upd H' ga (.lst [])) := same_new ng
        have eg := sg _ _ ef'
        have tf : ∀ t, (upd H' ga (.lst [])) t = none → f ≠ t := fun t nt e => by rw [← e, eg] at nt; cases nt
        refine ⟨f, ga, _, rfl, rfl, .inl (.inl eg), .inl (.inl upd_same), _, rfl, ?_⟩
        rcases List.eq_nil_or_concat ps with hps' | ⟨rs, p, hps'⟩
        · subst hps'
          obtain rfl := dqs_nil hd'
          refine iteT ?_
          refine ⟨.ref f, rfl, .inl ⟨rfl, _, .inl (.inl eg)⟩, .int be, rfl, .int en', rfl, sz2, fun t nt => ?_⟩
          refine ⟨f, [], _, rfl, rfl, by rw [upd_ne (tf t nt)]; exact eg, small1000 (Nat.zero_le _), push _ (fun p hp => by simp at hp) ?_⟩
          exact GrowB.put (q := (be, en')) P'.occ sb sg eg hd' nt
        · subst hps'
          rw [List.concat_eq_append, List.map_append] at hd'
          have hx0 := hd'
          obtain ⟨zs, v, rfl, hz, hv⟩ := dqs_snoc_inv hd'
          obtain ⟨tq, rfl, gq'⟩ := dq_pair hv
          have gq2 := Same.seqT (cut_same.trans (cut_same.trans sg)) gq'
          refine iteF_e (by simp) ?_
          refine ⟨.int be, rfl, .ref f, rfl, 1, rfl, f, _, -1, .ref tq, rfl, rfl, .inl (.inl eg), atI_last _ _, tq, _, 1, .int p.2, rfl, rfl, gq2, atI_nat (j := 1) rfl, be, p.2, rfl, rfl, _, rfl, ite2 (fun g3 => ?_) (fun g3 => ?_)⟩
          · have g3' : p.2 < be := of_decide_eq_true g3
            refine ⟨.ref f, rfl, .inl ⟨rfl, _, .inl (.inl eg)⟩, .int be, rfl, .int en', rfl, sz2, fun t nt => ?_⟩
            refine ⟨f, _, _, rfl, rfl, by rw [upd_ne (tf t nt)]; exact eg, small1000 (by rw [lx]; omega), push _ (fun p' hp => ?_) ?_⟩
            · rw [List.concat_eq_append, List.getLast?_concat] at hp
              rw [← Option.some.inj hp]; exact g3'
            · exact GrowB.put (q := (be, en')) P'.occ sb sg eg (by rw [List.concat_eq_append, List.map_append]; exact hx0) nt
          · exact fin _ ⟨_, sb.trans (AB.of sg), eg, by rw [List.concat_eq_append, List.map_append]; exact hx0.mono (cut_mono (cut_mono sg))⟩
      · rintro σ Hi ⟨ps, ⟨y10, y11, rfl⟩, ⟨xs, sb, ef', hd'⟩, hdn, hlen⟩
        have P' := sb.iv P10 of
        have k' := sb.kp nf k10'
        refine ⟨.ref f, rfl, 60, rfl, f, _, rfl, .inl (.inl ef'), fun c2 nc => ⟨c2, _, rfl, .inl ⟨.inl (.inl upd_same), fun t nt => ?_⟩⟩⟩
        obtain ⟨P11, k11, e11⟩ := laid (o := .lst (cutV xs none (some 60))) P' nc
        obtain ⟨P12, k12, e12⟩ := laid (o := .tup (cutV xs none (some 60))) P11 nt
        have up := hdn.rev.1
        rw [List.reverse_reverse] at up
        have e60 : cutV xs none (some 60) = xs.take 60 := cutV_take xs 60
        refine q _ _ (ps.take 60) P12 (kall.trans (k7.trans (k8.trans (k'.trans (k11.trans k12))))) (.tup (.inl (.inl e12)) ?_) ⟨LogUp.take 60 up, by rw [List.length_take]; omega, fun p hp => ((hdn.rev.2 p (List.mem_reverse.mpr (List.mem_of_mem_take hp))).2.2)⟩
        have dd := (Dqs.take 60 hd').mono (cut_same.trans (Kp.trans k11 k12))
        rw [← e60, ← List.map_take] at dd
        exact dd
theorem ok_l_scene (T : All K mg) : FnOk P w K mg base CX0 3 T.f_l_scene T.fd_l_scene ["reel", "many", "top", "motions"] (sp_scene K) := by
  have nd := sc_l_scene.nd
  refine T.D_l_scene.F.ok sc_l_scene (fun vs H Q E h => ?_) (fun cdv A outer s H vs Q E hr h => ?_)
  · obtain ⟨Z, r, c, b, m, tp, n, rfl, _⟩ := h
    rfl
  · obtain ⟨Z, r, c, b, m, tp, n, rfl, hP, m0, m1, t0, t1, n0, n1, q⟩ := h
    refine ⟨_, (pss_cons (ps_set (i := 4) nd rfl (by first | exact Or.inl rfl | exact Or.inr rfl) (pe_call (ok_l_lamps T) (hr.mono (by decide)) (by rfl) T.D_l_lamps.g T.D_l_lamps.F.kp T.D_l_lamps.b .nil pass0 (pa_cons (pv 0) (pa_cons (pv 1) (pa_cons (pv 2) pa_nil)))))
  (pss_cons (ps_set (i := 5) nd rfl (by first | exact Or.inl rfl | exact Or.inr rfl) (pe_callTy call_list_of (by rfl) T.z_list (by decide +kernel) (pa_cons (pe_call (ok_l_logs T) (hr.mono (by decide)) (by rfl) T.D_l_logs.g T.D_l_logs.F.kp T.D_l_logs.b .nil pass0 (pa_cons (pv 4) (pa_cons (pe_call (ok_l_minutes T) (hr.mono (by decide)) (by rfl) T.D_l_minutes.g T.D_l_minutes.F.kp T.D_l_minutes.b .nil pass0 (pa_cons (pv 0) (pa_cons (pv 3) (pa_cons (pe_op op_mul pe_int (pv 2)) pa_nil)))) pa_nil))) pa_nil)))
  (pss_cons (ps_for PassesOwn.never rfl (pi_range1 (by rfl) T.z_range (pa_cons (pe_ix ix_list (pe_lst (pa_cons pe_int (pa_cons pe_int (pa_cons pe_int (pa_cons pe_int pa_nil))))) (pe_call (ok_l_spin T) (hr.mono (by decide)) (by rfl) T.D_l_spin.g T.D_l_spin.F.kp T.D_l_spin.b .nil pass0 (pa_cons (pv 0) (pa_cons pe_int pa_nil))) (fun _ _ => rfl)) pa_nil)) (pg_name (i := 6) nd rfl (by first | exact Or.inl rfl | exact Or.inr rfl))
    (pss_cons (ps_set (i := 7) nd rfl (by first | exact Or.inl rfl | exact Or.inr rfl) (pe_call (ok_l_spin T) (hr.mono (by decide)) (by rfl) T.D_l_spin.g T.D_l_spin.F.kp T.D_l_spin.b .nil pass0 (pa_cons (pv 0) (pa_cons (pe_callB call_len_seq (by rfl) T.z_len (by decide +kernel) (pa_cons (pv 5) pa_nil)) pa_nil))))
  (pss_one (ps_if (pt_cmpR op_eq (pe_call (ok_l_spin T) (hr.mono (by decide)) (by rfl) T.D_l_spin.g T.D_l_spin.F.kp T.D_l_spin.b .nil pass0 (pa_cons (pv 0) (pa_cons pe_int pa_nil))) pe_int (nomark _))
    (pss_one (ps_asg (pe_call (ok_l_log T) (hr.mono (by decide)) (by rfl) T.D_l_log.g T.D_l_log.F.kp T.D_l_log.b .nil pass0 (pa_cons (pe_ix ix_tup (pv 4) (pv 7) (fun _ _ => rfl)) (pa_cons (pe_call (ok_l_minutes T) (hr.mono (by decide)) (by rfl) T.D_l_minutes.g T.D_l_minutes.F.kp T.D_l_minutes.b .nil pass0 (pa_cons (pv 0) (pa_cons (pv 3) (pa_cons (pe_op op_mul pe_int (pv 2)) pa_nil)))) pa_nil))) (pg_sub (pv 5) (pv 7) set_list)))
    (pss_one (ps_asg (pe_call (ok_l_bent T) (hr.mono (by decide)) (by rfl) T.D_l_bent.g T.D_l_bent.F.kp T.D_l_bent.b .nil pass0 (pa_cons (pv 0) (pa_cons (pe_ix ix_list (pv 5) (pv 7) (fun _ _ => rfl)) pa_nil))) (pg_sub (pv 5) (pv 7) set_list)))))))
  (pss_one (ps_ret (pe_lst (pa_cons (pv 4) (pa_cons (pe_callTy call_tuple_of (by rfl) T.z_tuple (by decide +kernel) (pa_cons (pv 5) pa_nil)) pa_nil)))))))), ?_⟩
    -- lamps
    refine s_set ⟨_, rfl, _, rfl, _, rfl, Z, r, c, 620 + b, m, tp, rfl, hP.less (by omega), m0, m1, t0, t1, fun x H1 ls P1 k1 d1 l1 l2 l3 => ?_⟩
    -- logs
    have ll6 : ls.length ≤ 6 := by omega
    refine s_set ⟨x, rfl, _, rfl, _, rfl, _, rfl, 2, tp, rfl, rfl, .inl ⟨by decide, by decide⟩, Z, r, c, 415 + b, n, 2 * tp, rfl, P1.less (by omega), n0, n1, by omega, by omega, fun y H2 ms P2 k2 d2 o2 => ⟨NZ (reel r c) Z, (ls, ms), P2.occ, .cons (d1.mono k2) (.cons d2 .nil), ⟨by show ls.length ≤ 900; omega, by have := o2.2.1; show ms.length ≤ 900; omega⟩, fun g H3 s3 d3 => ?_⟩⟩
    obtain ⟨ag, xs, rfl, gg, dg⟩ := dq_tup d3
    refine ⟨ag, xs, rfl, .inr (Same.seqT hid_same gg), fun L nL => ?_⟩
    have P3 := P2.keep s3
    have k3 : Kp (reel r c) Z H H3 := k1.trans (k2.trans (Kp.of s3))
    have oL := P3.free nL
    have mok : ∀ l ∈ ls, ∀ ns, MinsOk n ns → LgOk 60 10010000 (logF l ns) := fun l hl ns hn => by
      have hl' := l3 l hl
      exact (logF_ok (B := 10010000) (n := 60) hl'.1 hn.1 (fun z hz => by have := hn.2.2 z hz; omega) (by have := hn.2.1; omega))
    have hgs : ∃ gs : List (List Stt), (ls.map fun l => logD (logF l ms)) = gs.map logD ∧ gs.length = ls.length ∧ ∀ g ∈ gs, LgOk 60 10010000 g :=
      ⟨ls.map fun l => logF l ms, by rw [List.map_map]; rfl, by rw [List.length_map], fun g hg => by
        obtain ⟨l, hl, rfl⟩ := List.mem_map.mp hg
        exact mok l hl ms o2⟩
    obtain ⟨gs, eg, lgs, hgs⟩ := hgs
    have dg : Dqs K (hid (reel r c) Z H3) xs (gs.map logD) := by rw [← eg]; exact dg
    have d1' : Dq K (hid (reel r c) Z H3) x (lampsD ls) := d1.mono (Kp.trans k2 (Kp.of s3))
    obtain ⟨al, ys, rfl, ga, da⟩ := dq_tup d1'
    have P4 := (P3.new (o := .lst xs) nL).hide (o := .lst xs) upd_same oL.1
    refine s_rng ?_
    refine (eva_cons IR.mo (ev_ixL (K := K) (m := 4) (c := 4) (lo := 0) (up := 3) (R := IR 0 2) IR.mo (ev_lst (by decide) IR.mo (eall_cons IR.mo (ev_int.wide (by decide) (by decide)) (eall_cons IR.mo (ev_int.wide (by decide) (by decide)) (eall_cons IR.mo (ev_int.wide (by decide) (by decide)) (eall_cons IR.mo (ev_int.wide (by decide) (by decide)) eall_nil))))) (ev_spinC (m := 4))) eva_nil).run P4 (b := 414 + b) (by omega) fun vs H5 P5 k5 r5 => ?_
    obtain ⟨_, _, rfl, ⟨nn, rfl, nn0, nn1⟩, rfl⟩ := r5
    have k35 : Same (hid (reel r c) Z H3) (hid (reel r c) (upd Z L (.lst xs)) H5) := (hid_new2 nL).trans k5
    refine ⟨nn, rfl, by omega, by omega, for_it walk_range (fun i σ Hi => ∃ gs xs y6 y7, σ = [some (.ref r), some (.int m), some (.int tp), some (.int n), some (.ref al), some (.ref L), y6, y7] ∧ Iv (reel r c) (upd Z L (.lst xs)) (207 * (2 - i) + b) Hi ∧ Same (hid (reel r c) Z H3) (hid (reel r c) (upd Z L (.lst xs)) Hi) ∧
      Dqs K (hid (reel r c) (upd Z L (.lst xs)) Hi) xs (gs.map logD) ∧ gs.length = ls.length ∧ ∀ g ∈ gs, LgOk 60 (10010000 + 8 * (i : Int)) g) ⟨gs, xs, _, _, rfl, P5, k35, dg.mono k35, lgs, fun g hg => (hgs g hg).wide (Nat.le_refl _) (by omega)⟩ (fun i σ H1 _ h => trivial) ?_ ?_⟩
    · rintro i _ σ _ Hi hi ⟨gs, xs, y6, y7, rfl, Pi, ki, di, lg, hg⟩ ⟨rfl, rfl⟩
      have lx := di.len
      rw [List.length_map] at lx
      have eL := Pi.zz _ _ (upd_same (a := L) (o := .lst xs))
      refine s_set ⟨_, rfl, .ref L, rfl, L, xs, rfl, .inl (.inl (.inl eL)), upd Z L (.lst xs), r, c, 206 + (207 * (2 - (i + 1)) + b), (xs.length : Int), rfl, Pi.less (by omega), by omega, by omega, fun at_ H6 P6 k6 a0 a1 => ?_⟩
      refine s_if1 ?_
      refine (ev_spinC (m := 4)).run P6 (b := 205 + (207 * (2 - (i + 1)) + b)) (by omega) fun v H7 P7 k7 r7 => ?_
      obtain ⟨w4, rfl, _, _⟩ := r7
      have k67 := Same.trans k6 k7
      have put : ∀ (Hk : Hp) (v : V) (g : List Stt), Iv (reel r c) (upd Z L (.lst xs)) (207 * (2 - (i + 1)) + b) Hk → Kp (reel r c) (upd Z L (.lst xs)) Hi Hk → Dq K (hid (reel r c) (upd Z L (.lst xs)) Hk) v (logD g) → LgOk 60 (10010000 + 8 * ((i + 1 : Nat) : Int)) g →
          ∃ (gs' : List (List Stt)) (xs' : List V) (y6 y7 : Option V), ([some (.ref r), some (.int m), some (.int tp), some (.int n), some (.ref al), some (.ref L), some (.int (0 + (i : Int))), some (.int at_)] : L2.St) = [some (.ref r), some (.int m), some (.int tp), some (.int n), some (.ref al), some (.ref L), y6, y7] ∧ Iv (reel r c) (upd Z L (.lst xs')) (207 * (2 - (i + 1)) + b) (upd Hk L (.lst (xs.set at_.toNat v))) ∧ Same (hid (reel r c) Z H3) (hid (reel r c) (upd Z L (.lst xs')) (upd Hk L (.lst (xs.set at_.toNat v)))) ∧
      Dqs K (hid (reel r c) (upd Z L (.lst xs')) (upd Hk L (.lst (xs.set at_.toNat v)))) xs' (gs'.map logD) ∧ gs'.length = ls.length ∧ ∀ g ∈ gs', LgOk 60 (10010000 + 8 * ((i + 1 : Nat) : Int)) g := fun Hk v g Pk kk dv hv => by
        have sw : Same (hid (reel r c) (upd Z L (.lst xs)) Hk) (hid (reel r c) (upd Z L (.lst (xs.set at_.toNat v))) (upd Hk L (.lst (xs.set at_.toNat v)))) := hid_swap
        refine ⟨gs.set at_.toNat g, xs.set at_.toNat v, _, _, rfl, ((Pk.bare oL.2).upd oL).hide upd_same oL.1, (ki.trans kk).trans sw, ?_, by rw [List.length_set]; exact lg, fun z hz => ?_⟩
        · rw [List.map_set]
          exact dqs_set _ ((di.mono kk).mono sw) (dv.mono sw)
        · rcases List.mem_or_eq_of_mem_set hz with e | e
          · exact (hg z e).wide (Nat.le_refl _) (by omega)
          · rw [e]; exact hv
      have eLk : ∀ {Hk : Hp} {bb : Nat}, Iv (reel r c) (upd Z L (.lst xs)) bb Hk → Hk L = some (.lst xs) := fun Pk => Pk.zz _ _ upd_same
      have k37 := ki.trans k67
      refine ⟨rfl, _, rfl, ite2 (fun _ => ?_) (fun _ => ?_)⟩
      · have hlt : at_.toNat < ys.length := by
          have := da.len
          rw [List.length_map] at this
          omega
        obtain ⟨l, hl, dl⟩ := dqs_get da (List.getElem?_eq_getElem hlt)
        refine ⟨.ref al, rfl, .int at_, rfl, al, ys, at_, ys[at_.toNat], rfl, rfl, Same.seqT (k37.trans hid_same) ga, atI_get a0 (List.getElem?_eq_getElem hlt), _, rfl, _, rfl, _, rfl, 2, tp, rfl, rfl, .inl ⟨by decide, by decide⟩, upd Z L (.lst xs), r, c, 207 * (2 - (i + 1)) + b, n, 2 * tp, rfl, P7.less (by omega), n0, n1, by omega, by omega, fun y H8 ns P8 k8 d8 o8 =>
          ⟨NZ (reel r c) (upd Z L (.lst xs)), (l, ns), P8.occ, .cons (dl.mono (k37.trans k8)) (.cons d8 .nil), by have := o8.2.1; show ns.length ≤ 900; omega, fun g H9 s9 d9 => ?_⟩⟩
        have P9 := P8.keep s9
        refine ⟨.ref L, rfl, .int at_, rfl, L, xs, at_, at_.toNat, rfl, rfl, eLk P9, ixN_in a0 a1, ?_⟩
        exact put H9 g _ P9 (Kp.trans k67 (Kp.trans k8 (Kp.of s9))) d9 ((mok l (List.mem_of_getElem? hl) ns o8).wide (Nat.le_refl _) (by omega))
      · have hlt : at_.toNat < xs.length := by omega
        obtain ⟨g, hgg, dl⟩ := dqs_get di (List.getElem?_eq_getElem hlt)
        refine ⟨_, rfl, .ref L, rfl, .int at_, rfl, L, xs, at_, xs[at_.toNat], rfl, rfl, .inl (.inl (eLk P7)), atI_get a0 (List.getElem?_eq_getElem hlt), upd Z L (.lst xs), r, c, 207 * (2 - (i + 1)) + b, xs[at_.toNat], g, 10010000 + 8 * (i : Int), rfl, P7.less (by omega), dl.mono k67, hg g (List.mem_of_getElem? hgg), by omega, by omega, fun y H8 qs P8 k8 d8 o8 => ?_⟩
        refine ⟨.ref L, rfl, .int at_, rfl, L, xs, at_, at_.toNat, rfl, rfl, eLk P8, ixN_in a0 a1, ?_⟩
        exact put H8 y qs P8 (Kp.trans k67 k8) d8 (o8.wide (Nat.le_refl _) (by omega))
    · rintro σ Hi ⟨gs, xs, y6, y7, rfl, Pi, ki, di, lg, hg⟩
      have eL := Pi.zz _ _ (upd_same (a := L) (o := .lst xs))
      refine ⟨.ref al, rfl, .ref L, rfl, L, xs, rfl, .inl ⟨.inl (.inl eL), fun t nt => ⟨sz2, fun p np => ?_⟩⟩⟩
      have Pb := Pi.bare oL.2
      obtain ⟨P8, k8, e8⟩ := laid (o := .tup xs) Pb nt
      obtain ⟨P9, k9, e9⟩ := laid (o := .lst [.ref al, .ref t]) P8 np
      have kb : Same (hid (reel r c) Z H3) (hid (reel r c) Z Hi) := ki.trans hid_hide
      have k39 := kb.trans (Kp.trans k8 k9)
      have op := P8.free np
      refine q p (.ref al) (.ref t) _ ls gs (P9.less (by omega)) (k3.trans k39) upd_same op.1 op.2 (kp_none P8.occ (k3.trans (kb.trans k8)) np) (.tup (Same.seqT k39 ga) (da.mono k39)) (.tup (.inl (.inl (k9 _ _ e8))) ((di.mono hid_hide).mono (Kp.trans k8 k9))) l1 l2 l3 lg (fun g hg' => (hg g hg').wide (Nat.le_refl _) (by omega))
theorem ok_l_fits (T : All K mg) : FnOk P w K mg base CX0 1 T.f_l_fits T.fd_l_fits ["lamp", "stretch"] (sp_fits K) := by
  have nd := sc_l_fits.nd
  refine T.D_l_fits.F.ok sc_l_fits (fun vs H Q E h => ?_) (fun cdv A outer s H vs Q E hr h => ?_)
  · obtain ⟨N, x, _, hd, _⟩ := h
    exact hd.len
  · obtain ⟨N, ⟨⟨kd, st⟩, ⟨a, b⟩⟩, O, hd, ⟨hs, hab⟩, qq⟩ := h
    have hs : 1 ≤ st := hs
    have hab : a < b := hab
    obtain ⟨v1, _, rfl, hd1, hd⟩ := dqs_cons hd
    obtain ⟨v2, _, rfl, hd2, hd⟩ := dqs_cons hd
    obtain rfl := dqs_nil hd
    obtain ⟨a1, rfl, g1⟩ := dq_lamp hd1
    obtain ⟨a2, rfl, g2⟩ := dq_pair hd2
    have fin : ∀ z : Bool, z = fitB (kd, st) (a, b) → Q (.bl z) H := fun z e => qq _ _ (Same.refl _) (by rw [e]; exact .bl _)
    refine ⟨_, (pss_cons (ps_asg (pv 0) (pg_tup rfl (pgs_cons (pg_name (i := 2) nd rfl (by first | exact Or.inl rfl | exact Or.inr rfl)) (pgs_cons (pg_name (i := 3) nd rfl (by first | exact Or.inl rfl | exact Or.inr rfl)) pgs_nil))))
  (pss_cons (ps_asg (pv 1) (pg_tup rfl (pgs_cons (pg_name (i := 4) nd rfl (by first | exact Or.inl rfl | exact Or.inr rfl)) (pgs_cons (pg_name (i := 5) nd rfl (by first | exact Or.inl rfl | exact Or.inr rfl)) pgs_nil))))
  (pss_cons (ps_if (PW.pt (pw_or (pt_cmpR op_gt (pe_op op_sub (pv 5) (pv 3)) (pe_op op_pow pe_int pe_int) (nomark _)) (pw_or1 (pt_cmpR op_lt (pe_op op_sub (pv 5) (pv 4)) (pv 3) (nomark _)))))
    (pss_one (ps_ret pe_bl))
    pss_nil)
  (pss_one (ps_ret (pe_or (pe_cmpR op_eq (pv 2) pe_str (nomark _)) (pe_one (pe_cmpR op_eq (pe_op op_modN (pe_op op_sub (pv 5) (pv 4)) (pv 3)) pe_int (nomark _))))))))), ?_⟩
    refine ⟨.ref a1, rfl, a1, _, rfl, Same.seqT cut_same g1, rfl, _, _, rfl, _, _, rfl, rfl, .ref a2, rfl, a2, _, rfl, Same.seqT cut_same g2, rfl, _, _, rfl, _, _, rfl, rfl, ?_⟩
    refine ⟨.int b, rfl, .int st, rfl, b, st, rfl, rfl, 10, 9, rfl, rfl, ⟨by decide, by decide, by decide⟩, _, _, rfl, rfl, _, rfl, ite2 (fun h1 => ?_) (fun h1 => ?_)⟩
    · have h1' : (1000000000 : Int) < b - st := of_decide_eq_true h1
      exact fin false (by simp only [fitB]; rw [decide_eq_false (by omega)]; rfl)
    · have h1' : ¬ (1000000000 : Int) < b - st := fun z => h1 (decide_eq_true z)
      refine ⟨.int b, rfl, .int a, rfl, b, a, rfl, rfl, .int st, rfl, _, _, rfl, rfl, _, rfl, ite2 (fun h2 => ?_) (fun h2 => ?_)⟩
      · have h2' : b - a < st := of_decide_eq_true h2
        refine fin false ?_
        simp only [fitB]
        rw [decide_eq_false (show ¬ st ≤ b - a by omega)]
        cases kd with
        | true => simp
        | false =>
          have e : (b - a).fmod st = b - a := Int.fmod_eq_of_lt (by omega) h2'
          rw [e, decide_eq_false (show ¬ b - a = 0 by omega)]
          simp
      · have h2' : ¬ b - a < st := fun z => h2 (decide_eq_true z)
        have e1 : decide (b - st ≤ 1000000000) = true := decide_eq_true (by omega)
        refine ⟨.str (kindS kd), rfl, rfl, _, rfl, ite_b (fun hk => ?_) (fun hk => ?_)⟩
        · rw [kindS_hold] at hk
          exact fin true (by simp only [fitB]; rw [e1, hk, decide_eq_true (show st ≤ b - a by omega)]; rfl)
        · rw [kindS_hold] at hk
          refine ⟨.int b, rfl, .int a, rfl, b, a, rfl, rfl, .int st, rfl, _, _, rfl, rfl, by omega, rfl, fin _ ?_⟩
          simp only [fitB]
          rw [e1, hk]
          simp
theorem ok_law (T : All K mg) : FnG P w K mg base CX0 4 T.f_law T.fd_law ["script"] (sp_law K) := by
  have nd := sc_law.nd
  refine Lm.Fun.okG T.D_law.F sc_law (fun vs H Q E h => ?_) (fun cdv A outer s H vs Q E hgd hr h => ?_)
  · obtain ⟨a, ns, rfl, _⟩ := h
    rfl
  · obtain ⟨a, ns, rfl, hS, hl, q⟩ := h
    refine ⟨_, (pss_cons (ps_set (i := 1) nd rfl (by first | exact Or.inl rfl | exact Or.inr rfl) (pe_call (ok_l_reel T) (hr.mono (by decide)) (by rfl) T.D_l_reel.g T.D_l_reel.F.kp T.D_l_reel.b .nil pass0 (pa_cons (pv 0) pa_nil)))
  (pss_cons (ps_for PassesOwn.never rfl (pi_range1 (by rfl) T.z_range (pa_cons pe_int pa_nil)) (pg_name (i := 2) nd rfl (by first | exact Or.inl rfl | exact Or.inr rfl))
    (pss_cons (ps_asg (pe_call (ok_l_scene T) (hr.mono (by decide)) (by rfl) T.D_l_scene.g T.D_l_scene.F.kp T.D_l_scene.b .nil pass0 (pa_cons (pv 1) (pa_cons pe_int (pa_cons (pe_ix ix_list (pe_lst (pa_cons pe_int (pa_cons pe_int (pa_cons (pe_op op_pow pe_int pe_int) pa_nil)))) (pe_op op_modN (pv 2) pe_int) (fun _ _ => rfl)) (pa_cons pe_int pa_nil))))) (pg_lst rfl (pgs_cons (pg_name (i := 3) nd rfl (by first | exact Or.inl rfl | exact Or.inr rfl)) (pgs_cons (pg_name (i := 4) nd rfl (by first | exact Or.inl rfl | exact Or.inr rfl)) pgs_nil))))
  (pss_cons (ps_set (i := 5) nd rfl (by first | exact Or.inl rfl | exact Or.inr rfl) (pe_op op_sub (pe_op op_pow pe_int pe_int) (pe_call (ok_l_spin T) (hr.mono (by decide)) (by rfl) T.D_l_spin.g T.D_l_spin.F.kp T.D_l_spin.b .nil pass0 (pa_cons (pv 1) (pa_cons pe_int pa_nil)))))
  (pss_cons (ps_set (i := 6) nd rfl (by first | exact Or.inl rfl | exact Or.inr rfl) (pe_tup (pa_cons (pe_tup (pa_cons (pv 5) (pa_cons (pe_op op_add (pe_op op_add (pv 5) (pe_ix ix_tup (pe_ix ix_tup (pv 3) pe_int (fun _ _ => rfl)) pe_int (fun _ _ => rfl))) (pe_call (ok_l_spin T) (hr.mono (by decide)) (by rfl) T.D_l_spin.g T.D_l_spin.F.kp T.D_l_spin.b .nil pass0 (pa_cons (pv 1) (pa_cons pe_int pa_nil)))) pa_nil))) pa_nil)))
  (pss_cons (ps_set (i := 7) nd rfl (by first | exact Or.inl rfl | exact Or.inr rfl) (pe_tup (pa_cons (pe_tup (pa_cons (pe_op op_sub (pe_op op_pow pe_int pe_int) pe_int) (pa_cons (pe_op op_sub (pe_op op_pow pe_int pe_int) pe_int) pa_nil))) (pa_cons (pe_tup (pa_cons (pe_op op_pow pe_int pe_int) (pa_cons (pe_op op_add (pe_op op_pow pe_int pe_int) (pe_ix ix_tup (pe_ix ix_tup (pv 3) pe_int (fun _ _ => rfl)) pe_int (fun _ _ => rfl))) pa_nil))) (pa_cons (pe_tup (pa_cons (pe_op op_sub (pe_op op_mul pe_int (pe_op op_pow pe_int pe_int)) pe_int) (pa_cons (pe_op op_mul pe_int (pe_op op_pow pe_int pe_int)) pa_nil))) pa_nil)))))
  (pss_one (ps_for PassesOwn.never rfl (pi_tup (pv 3)) (pg_name (i := 8) nd rfl (by first | exact Or.inl rfl | exact Or.inr rfl))
    (pss_one (ps_for PassesOwn.never rfl (pi_tup (pe_op op_catA (pv 4) (pe_tup (pa_cons (pv 6) (pa_cons (pv 7) (pa_cons (pe_tup (pa_cons (pe_tup (pa_cons pe_int (pa_cons (pe_op op_add pe_int (pe_ix ix_tup (pv 8) pe_int (fun _ _ => rfl))) pa_nil))) (pa_cons (pe_tup (pa_cons (pe_op op_pow pe_int pe_int) (pa_cons (pe_op op_sub (pe_op op_add (pe_op op_pow pe_int pe_int) (pe_op op_mul pe_int (pe_ix ix_tup (pv 8) pe_int (fun _ _ => rfl)))) pe_int) pa_nil))) pa_nil))) (pa_cons (pe_tup pa_nil) pa_nil))))))) (pg_name (i := 9) nd rfl (by first | exact Or.inl rfl | exact Or.inr rfl))
    (pss_cons (ps_par (i := 11) (j := 12) (by rfl) nd rfl rfl (by decide) rfl rfl (pa_cons (pe_callB (call_reprD hgd hr) (by rfl) T.z_repr (by decide +kernel) (pa_cons (pe_lst (pa_cons (pv 8) (pa_cons (pv 9) pa_nil))) pa_nil)) (pa_cons (pe_callTy call_tuple_of (by rfl) T.z_tuple (by decide +kernel) (pa_cons (pe_lc (own := [("k", 10)]) rfl nd (pi_range1 (by rfl) T.z_range (pa_cons (pe_callB call_len_seq (by rfl) T.z_len (by decide +kernel) (pa_cons (pv 9) pa_nil)) pa_nil)) (blkOk_by (own := [("k", 10)]) (N := n_law) (sc := defScope s_law) (by decide +kernel)) (fun _ _ _ _ _ => (pg_name (i := 10) nd rfl (by first | exact Or.inl rfl | exact Or.inr rfl))) (fun _ _ _ _ _ => (pts_one (pt_not (pt_val (pe_call (ok_l_fits T) (hr.mono (by decide)) (by rfl) T.D_l_fits.g T.D_l_fits.F.kp T.D_l_fits.b .nil pass0 (pa_cons (pv 8) (pa_cons (pe_ix (ixK (K := K) rfl) (pv 9) (pv 10) (fun _ _ => rfl)) pa_nil))))))) (fun _ _ _ _ _ => (pv 10))) pa_nil)) pa_nil)) (by rfl))
  (pss_cons (ps_if (pt_cmpR op_ne (pe_callB (call_reprD hgd hr) (by rfl) T.z_repr (by decide +kernel) (pa_cons (pe_lst (pa_cons (pe_call (ok_wrong_stretches T) (hr.mono (by decide)) (by rfl) T.D_wrong_stretches.g T.D_wrong_stretches.F.kp T.D_wrong_stretches.b .nil pass0 (pa_cons (pv 8) (pa_cons (pv 9) pa_nil))) (pa_cons (pe_call (ok_wrong_stretches T) (hr.mono (by decide)) (by rfl) T.D_wrong_stretches.g T.D_wrong_stretches.F.kp T.D_wrong_stretches.b .nil pass0 (pa_cons (pv 8) (pa_cons (pv 9) pa_nil))) pa_nil))) pa_nil)) (pe_callB (call_reprD hgd hr) (by rfl) T.z_repr (by decide +kernel) (pa_cons (pe_lst (pa_cons (pv 12) (pa_cons (pv 12) pa_nil))) pa_nil)) (nomark _))
    (pss_one (ps_ret pe_bl))
    pss_nil)
  (pss_one (ps_if (pt_cmpR op_ne (pe_callB (call_reprD hgd hr) (by rfl) T.z_repr (by decide +kernel) (pa_cons (pe_lst (pa_cons (pv 8) (pa_cons (pv 9) pa_nil))) pa_nil)) (pv 11) (nomark _))
    (pss_one (ps_ret pe_bl))
    pss_nil)))))))))))))
  (pss_one (ps_ret pe_bl)))), ?_⟩
    refine s_set ⟨.ref a, rfl, a, ns, rfl, hS, hl, fun r c H1 P1 s1 => ?_⟩
    generalize hZ : (fun _ => none : Hp) = Z at P1
    refine s_rng ⟨8, rfl, by omega, by omega, for_it walk_range (fun i σ Hi => ∃ y2 y3 y4 y5 y6 y7 y8 y9 y10 y11 y12, σ = [some (.ref a), some (.ref r), y2, y3, y4, y5, y6, y7, y8, y9, y10, y11, y12] ∧ Iv (reel r c) Z (702 * (8 - i)) Hi) ⟨_, _, _, _, _, _, _, _, _, _, _, rfl, P1.less (by omega)⟩ (fun _ _ _ _ _ => trivial) ?_ ?_⟩
    · rintro i _ σ _ Hi hi ⟨y2, y3, y4, y5, y6, y7, y8, y9, y10, y11, y12, rfl, Pi⟩ ⟨rfl, rfl⟩
      -- lamps, logs
      refine s_asg ?_
      refine (eva_cons (R := fun v _ => v = .ref r) (fun _ _ _ _ h => h) (ev_var (by rfl) (fun _ _ _ _ h => h) rfl) (eva_cons EI_mo ei_c (eva_cons IR.mo (ev_ixL (K := K) (m := 3) (c := 3) (lo := 0) (up := 2) (R := IR 3 10000) IR.mo (ev_lst (by decide) IR.mo (eall_cons IR.mo (ev_int.wide (by decide) (by decide)) (eall_cons IR.mo (ev_int.wide (by decide) (by decide)) (eall_cons IR.mo ((ev_pow (by decide)).wide (by decide) (by decide)) eall_nil))))
        (ev_modC (m := 3) (by decide) (ev_ivar (lo := 0 + (i : Int)) (hi := 0 + (i : Int)) (by rfl) (Int.le_refl _) (Int.le_refl _)))) (eva_cons EI_mo ei_c eva_nil)))).run Pi (b := 702 + 702 * (8 - (i + 1))) (by omega) fun vs H2 P2 k2 r2 => ?_
      obtain ⟨_, _, rfl, rfl, _, _, rfl, rfl, _, _, rfl, ⟨tp, rfl, t0, t1⟩, _, _, rfl, rfl, rfl⟩ := r2
      refine ⟨Z, r, c, 2 + 702 * (8 - (i + 1)), 3, tp, 30, rfl, P2.less (by omega), by decide, by decide, by omega, by omega, by decide, by decide, fun p x y H3 ls gs P3 k3 ep nop zp hp dx dy l1 l2 l3 lg hg => ?_⟩
      refine ⟨p, _, rfl, .inl (.inl ep), rfl, _, _, rfl, _, _, rfl, rfl, ?_⟩
      obtain ⟨l0, lr, rfl⟩ : ∃ l0 lr, ls = l0 :: lr := by
        cases ls with
        | nil => simp at l1
        | cons a b => exact ⟨a, b, rfl⟩
      have h0 := l3 l0 List.mem_cons_self
      have MP : Mo (PR K 10000000000) := PR.mo
      have ML : Mo (LgR K 60 10000000000) := LgR.mo
      -- far
      refine s_set ?_
      refine (ev_sub (ev_pow (i := 10) (j := 9) (by decide)) (ev_spinC (m := 3))).run P3 (b := 1 + 702 * (8 - (i + 1))) (by omega) fun v H4 P4 k4 r4 => ?_
      obtain ⟨far, rfl, f0, f1⟩ := r4
      have f0 : (999999998 : Int) ≤ far := f0
      have f1 : far ≤ (1000000000 : Int) := f1
      have dx4 := dx.mono k4
      -- ends
      refine s_set ?_
      refine (ev_lg (K := K) (B := 10000000000) (m := 1) (n1 := 1) (by decide) (eall_cons MP (ev_prR (a := far) (lo := far + l0.2 + 0) (hi := far + l0.2 + 2) (by omega) (by omega) (by omega) (ev_iv (by rfl)) (ev_add (ei_ir (ei_add (ev_iv (by rfl)) (ei_stay0 (by rfl) dx4)) (Int.le_refl _) (Int.le_refl _)) (ev_spinC (m := 3)))) eall_nil)).run P4 (b := 702 * (8 - (i + 1))) (by omega) fun v6 H5 P5 k5 r5 => ?_
      have dx5 := dx4.mono k5
      -- late
      refine s_set ?_
      refine (ev_lg (K := K) (B := 10000000000) (m := 3) (n1 := 3) (by decide)
        (eall_cons MP (ev_pr (a := 10 ^ (9 : Int).toNat - 2) (b := 10 ^ (9 : Int).toNat - 1) (by decide) (ei_sub (ei_pow (by decide)) ei_c) (ei_sub (ei_pow (by decide)) ei_c))
        (eall_cons MP (ev_pr (a := 10 ^ (9 : Int).toNat) (b := 10 ^ (9 : Int).toNat + l0.2) (by show (0 : Int) ≤ 1000000000 ∧ (1000000000 : Int) < 1000000000 + l0.2 ∧ (1000000000 : Int) + l0.2 ≤ 10000000000; omega) (ei_pow (by decide)) (ei_add (ei_pow (by decide)) (ei_stay0 (by rfl) dx5)))
        (eall_cons MP (ev_pr (a := 2 * 10 ^ (9 : Int).toNat - 1) (b := 2 * 10 ^ (9 : Int).toNat) (by decide) (ei_sub (ei_mul (by decide) ei_c (ei_pow (by decide))) ei_c) (ei_mul (by decide) ei_c (ei_pow (by decide)))) eall_nil)))).run P5 (b := 702 * (8 - (i + 1))) (by omega) fun v7 H6 P6 k6 r6 => ?_
      have dx6 := dx5.mono k6
      have r5' := LgR.mo _ _ _ k6 r5
      have dy6 := ((dy.mono k4).mono k5).mono k6
      clear dx dx4 dx5 dy P2 P3 P4 P5 k2 k3 k4 k5 k6 r5 ep nop zp hp
      -- for lamp in lamps
      obtain ⟨al, ys, rfl, ga, da⟩ := dq_tup dx6
      obtain ⟨ag, zs, rfl, gg, dg⟩ := dq_tup dy6
      refine ⟨.ref al, rfl, al, rfl, ⟨_, Same.seqT hid_same ga⟩, for_it (walk_tup (K := K) (a := al) (xs := ys)) (fun j σ Hj => ∃ y8 y9 y10 y11 y12, σ = [some (.ref a), some (.ref r), some (.int (0 + (i : Int))), some (.ref al), some (.ref ag), some (.int far), some v6, some v7, y8, y9, y10, y11, y12] ∧ Iv (reel r c) Z (702 * (8 - (i + 1))) Hj ∧ Kp (reel r c) Z H6 Hj) ⟨_, _, _, _, _, rfl, P6, Kp.refl⟩ (fun j σ Hj _ h => by
        obtain ⟨_, _, _, _, _, _, _, k⟩ := h
        exact Same.seqT (Same.trans k hid_same) ga) ?_ ?_⟩
      · rintro j x8 σ _ Hj hj ⟨y8, y9, y10, y11, y12, rfl, Pj, kj⟩ ⟨rfl, hx8⟩
        obtain ⟨l, hl8, d8⟩ := dqs_get da hx8
        have hs := l3 l (List.mem_of_getElem? hl8)
        have d8j := d8.mono kj
        have lzs := dg.len
        rw [List.length_map] at lzs
        refine (ev_catA (K := K) (R := LgR K 60 10000000000) (a := zs.length) (b := 6) (c := 4) (d := 4) (by decide) ML (ev_var (v := .ref ag) (by rfl) (TpR.mo ML) (TpR.mo ML _ _ _ kj ⟨ag, zs, rfl, gg, Nat.le_refl _, by simp only [List.length_cons] at lg l2; omega, fun z hz => let ⟨ps, d, o⟩ := dqs_lg dg hg z hz; ⟨ps, d, o.wide (Nat.le_refl _) (by decide)⟩⟩))
          (ev_tupR (by decide) ML (eall_cons ML ((ev_var (v := v6) (by rfl) LgR.mo (LgR.mo _ _ _ kj r5')).imp fun v G ⟨ps, d, o⟩ => ⟨ps, d, o.wide (by decide) (by decide)⟩)
            (eall_cons ML ((ev_var (v := v7) (by rfl) LgR.mo (LgR.mo _ _ _ kj r6)).imp fun v G ⟨ps, d, o⟩ => ⟨ps, d, o.wide (by decide) (by decide)⟩)
            (eall_cons ML ((ev_lg (K := K) (B := 10000000000) (m := 2) (n1 := 2) (by decide)
                (eall_cons MP (ev_pr (a := 5) (b := 5 + l.2) (by omega) ei_c (ei_add ei_c (ei_stay (by rfl) d8j)))
                (eall_cons MP (ev_pr (a := 10 ^ (7 : Int).toNat) (b := 10 ^ (7 : Int).toNat + 2 * l.2 - 1) (by show (0 : Int) ≤ 10000000 ∧ (10000000 : Int) < 10000000 + 2 * l.2 - 1 ∧ (10000000 : Int) + 2 * l.2 - 1 ≤ 10000000000; omega) (ei_pow (by decide)) (ei_sub (ei_add (ei_pow (by decide)) (ei_mul (.inl ⟨by decide, by decide⟩) ei_c (ei_stay (by rfl) d8j))) ei_c)) eall_nil))).imp fun v G ⟨ps, d, o⟩ => ⟨ps, d, o.wide (by decide) (by decide)⟩)
            (eall_cons ML ((ev_lg (K := K) (B := 10000000000) (m := 0) (n1 := 0) (by decide) eall_nil).imp fun v G ⟨ps, d, o⟩ => ⟨ps, d, o.wide (by decide) (by decide)⟩) eall_nil)))))).run Pj (b := 702 * (8 - (i + 1))) (by omega) fun vL H7 P7 k7 r7 => ?_
        obtain ⟨B, xs, rfl, eB, _, _, hx⟩ := r7
        have d87 := d8j.mono k7
        refine ⟨B, rfl, ⟨xs, Same.seqT hid_same eB⟩, for_it (walk_tup (K := K) (a := B) (xs := xs)) (fun m σ Hm => ∃ y9 y10 y11 y12, σ = [some (.ref a), some (.ref r), some (.int (0 + (i : Int))), some (.ref al), some (.ref ag), some (.int far), some v6, some v7, some x8, y9, y10, y11, y12] ∧ Iv (reel r c) Z (702 * (8 - (i + 1))) Hm ∧ Kp (reel r c) Z H7 Hm) ⟨_, _, _, _, rfl, P7, Kp.refl⟩ (fun m σ Hm _ h => by
          obtain ⟨_, _, _, _, _, _, k⟩ := h
          exact Same.seqT (Same.trans k hid_same) eB) ?_ ?_⟩
        · rintro m x9 σ _ Hm hm ⟨y9, y10, y11, y12, rfl, Pm, km⟩ ⟨rfl, hx9⟩
          obtain ⟨ps, d9, o9⟩ := LgR.mo _ _ _ km (hx x9 (List.mem_of_getElem? hx9))
          have d8 := d87.mono km
          have dq8 := d8.mono hid_same
          have dq9 := d9.mono hid_same
          have fine : Fine (.list [lampD l, logD ps]) := (two_sm' ((lamp_sm (by omega) (by omega)).wide (n' := 2103) (k' := 2) (by decide) (by decide)) (log_sm o9 (by decide))).fine (by decide) (by decide)
          have hst : ∀ q ∈ ps, q.1 < q.2 := fun q hq => (o9.2 q hq).2.1
          have l60 : ps.length ≤ 60 := o9.1
          -- shown, due
          refine s_par ⟨x8, rfl, x9, rfl, sz2, fun t0 nt0 => ?_⟩
          have s0 : Same Hm (upd Hm t0 (.lst [x8, x9])) := same_new nt0
          refine ⟨.ref t0, .list [lampD l, logD ps], rfl, .lst (.inl (.inl upd_same)) (.cons (dq8.mono s0) (.cons (dq9.mono s0) .nil)), fine, ?_⟩
          generalize upd Hm t0 (.lst [x8, x9]) = Ha at s0
          obtain ⟨a9, qs, rfl, g9, dd9⟩ := dq_tup d9
          have lq := dd9.len
          rw [List.length_map] at lq
          have Oa : Occ (NZ (reel r c) Z) Ha := Pm.occ.keep s0
          refine ⟨.ref a9, rfl, a9, qs, rfl, .inr (Same.seqT (hid_same.trans s0) g9), _, rfl, by omega, by omega, fun D nD => ?_⟩
          refine lc_range (fun k Hk => Same Ha Hk ∧ Hk D = some (.lst ((wrongs (fitB l) 0 (ps.take k)).map V.int))) ⟨same_new nD, upd_same⟩ ?_ ?_
          · rintro k Hk hk ⟨sk, ek⟩
            have hk' : k < qs.length := by omega
            have e9 := List.getElem?_eq_getElem hk'
            obtain ⟨st, hst9, dst⟩ := dqs_get dd9 e9
            have s1 := s0.trans sk
            refine ⟨by first | rfl | simp only [wipe, List.set_set], ?_⟩
            refine ⟨x8, rfl, .ref a9, rfl, _, rfl, a9, qs, 0 + (k : Int), qs[k], rfl, rfl, Same.seqT (hid_same.trans s1) g9, at_of (j := k) (by omega) e9, NZ (reel r c) Z, (l, st), Oa.keep sk, .cons (d8.mono (cut_mono s1)) (.cons (dst.mono (cut_mono s1)) .nil), ⟨hs.1, hst st (List.mem_of_getElem? hst9)⟩, fun rr G sG hr => ?_⟩
            obtain rfl := dq_bool hr
            have eG := sG _ _ ek
            have sa := sk.trans sG
            have ll := wrongs_len (fitB l) 0 (ps.take k)
            rw [List.length_take] at ll
            refine ⟨_, rfl, ?_⟩
            have wt := wrongs_take (fitB l) hst9
            cases hf : fitB l st with
            | true =>
              rw [hf] at wt
              refine iteF_e (by simp [hf]) ⟨sa, ?_⟩
              rw [wt]
              simpa using eG
            | false =>
              rw [hf] at wt
              refine iteT_e (by simp [hf]) ⟨_, rfl, _, eG, small1000 (by rw [List.length_map]; omega), same_upd sa nD, ?_⟩
              rw [wt, upd_same, Int.zero_add]
              rfl
          rintro Hn ⟨sn, en⟩
          rw [show ((qs.length : Int)).toNat = ps.length by omega, List.take_length] at en
          refine ⟨D, _, rfl, .inl ⟨.inl (.inl en), fun t1 nt1 => ?_⟩⟩
          refine ⟨_, _, rfl, ?_⟩
          have sb := sn.trans (same_new (o := .tup ((wrongs (fitB l) 0 ps).map V.int)) nt1)
          have ddue : Dq K (upd Hn t1 (.tup ((wrongs (fitB l) 0 ps).map V.int))) (.ref t1) (.tuple ((wrongs (fitB l) 0 ps).map .int)) := .tup (.inl (.inl upd_same)) ints_dqs
          generalize upd Hn t1 (.tup ((wrongs (fitB l) 0 ps).map V.int)) = Hb at sb ddue
          have s2 := s0.trans sb
          have wl := wrongs_len (fitB l) 0 ps
          have wf : Sm 903 1 (.tuple ((wrongs (fitB l) 0 ps).map PyData.int)) := ints_sm (n := 60) (by omega) fun z hz => by
            have := wrongs_lt (fitB l) 0 ps z hz
            omega
          have finW : Fine (.list [.tuple ((wrongs (fitB l) 0 ps).map PyData.int), .tuple ((wrongs (fitB l) 0 ps).map PyData.int)]) := (two_sm' wf wf).fine (by decide) (by decide)
          -- the two answers
          have call : ∀ {Hx : Hp} {Q' : VK}, Same Hm Hx → (∀ v Hy, Same Hx Hy → Dq K (hid (reel r c) Z Hy) v (.tuple ((wrongs (fitB l) 0 ps).map .int)) → Q' v Hy) → sp_wrong K [x8, .ref a9] Hx Q' E0 := fun sx q' =>
            ⟨NZ (reel r c) Z, (l, ps), Pm.occ.keep sx, .cons (d8.mono (cut_mono sx)) (.cons (.tup (Same.seqT (cut_mono sx) g9) (dd9.mono (cut_mono sx))) .nil), ⟨hs.1, hst, by show ps.length ≤ 900; omega⟩, fun v Hy sy dv => q' v Hy sy dv⟩
          refine s_ifn ⟨x8, rfl, .ref a9, rfl, call s2 fun v1 H11 s11 dv1 => ⟨x8, rfl, .ref a9, rfl, call (s2.trans s11) fun v2 H12 s12 dv2 => ⟨sz2, fun t2 nt2 => ?_⟩⟩⟩
          have s13 : Same H12 (upd H12 t2 (.lst [v1, v2])) := same_new nt2
          refine ⟨.ref t2, .list [.tuple ((wrongs (fitB l) 0 ps).map PyData.int), .tuple ((wrongs (fitB l) 0 ps).map PyData.int)], rfl, .lst (.inl (.inl upd_same)) (.cons (((dv1.mono hid_same).mono s12).mono s13) (.cons ((dv2.mono hid_same).mono s13) .nil)), finW, ?_⟩
          have s14 := s11.trans (s12.trans s13)
          refine ⟨.ref t1, rfl, .ref t1, rfl, sz2, fun t3 nt3 => ?_⟩
          have s15 := s14.trans (same_new (o := .lst [.ref t1, .ref t1]) nt3)
          refine ⟨.ref t3, .list [.tuple ((wrongs (fitB l) 0 ps).map PyData.int), .tuple ((wrongs (fitB l) 0 ps).map PyData.int)], rfl, .lst (.inl (.inl upd_same)) (.cons (ddue.mono s15) (.cons (ddue.mono s15) .nil)), finW, ?_⟩
          have s16 := s2.trans s15
          refine ⟨rfl, false, ne_self, iteF ?_⟩
          refine ⟨x8, rfl, .ref a9, rfl, sz2, fun t4 nt4 => ?_⟩
          have s17 := s16.trans (same_new (o := .lst [x8, .ref a9]) nt4)
          refine ⟨.ref t4, .list [lampD l, logD ps], rfl, .lst (.inl (.inl upd_same)) (.cons (dq8.mono s17) (.cons (dq9.mono s17) .nil)), fine, ?_⟩
          refine ⟨_, rfl, rfl, false, ne_self, iteF ?_⟩
          exact ⟨_, _, _, _, rfl, Pm.keep s17, km.trans (Kp.of s17)⟩
        · rintro σ Hm ⟨y9, y10, y11, y12, rfl, Pm, km⟩
          exact ⟨_, _, _, _, _, rfl, Pm, (kj.trans k7).trans km⟩
      · rintro σ Hj ⟨y8, y9, y10, y11, y12, rfl, Pj, kj⟩
        exact ⟨_, _, _, _, _, _, _, _, _, _, _, rfl, Pj⟩
    · rintro σ Hi ⟨y2, y3, y4, y5, y6, y7, y8, y9, y10, y11, y12, rfl, Pi⟩
      exact q Hi
end
theorem all_mk {K : PySem.W.Frag} {h : Heap} {mg : Str → Option Value} (X : K.In h) (G : h.Ns mainGlobals mg)
  {f0 : Addr} {od0 an0 : Option Addr} {sl0 : Array (Option Value)} {oc0 kV0 dc0 pm0 cd0 ct0 : Value}
  (a0 : PySem.W.nsIn K mainGlobals "stretch_fits" = some (some (.ref f0))) (l0 : K.lookup f0 = some ⟨oc0, od0, .func (PySem.W.fnOf "stretch_fits" "stretch_fits" (defArgs s_stretch_fits) (defBody s_stretch_fits) (defScope s_stretch_fits) .none kV0 dc0 pm0 an0 cd0 ct0), sl0⟩) (c0 : PySem.W.codeIn K cd0 "stretch_fits" = true) (k0 : PySem.W.keepIn K (.ref f0) = true)
  {f1 : Addr} {od1 an1 : Option Addr} {sl1 : Array (Option Value)} {oc1 kV1 dc1 pm1 cd1 ct1 : Value}
  (a1 : PySem.W.nsIn K mainGlobals "wrong_stretches" = some (some (.ref f1))) (l1 : K.lookup f1 = some ⟨oc1, od1, .func (PySem.W.fnOf "wrong_stretches" "wrong_stretches" (defArgs s_wrong_stretches) (defBody s_wrong_stretches) (defScope s_wrong_stretches) .none kV1 dc1 pm1 an1 cd1 ct1), sl1⟩) (c1 : PySem.W.codeIn K cd1 "wrong_stretches" = true) (k1 : PySem.W.keepIn K (.ref f1) = true)
  {f2 : Addr} {od2 an2 : Option Addr} {sl2 : Array (Option Value)} {oc2 kV2 dc2 pm2 cd2 ct2 : Value}
  (a2 : PySem.W.nsIn K mainGlobals "_law_reel" = some (some (.ref f2))) (l2 : K.lookup f2 = some ⟨oc2, od2, .func (PySem.W.fnOf "_law_reel" "_law_reel" (defArgs s_l_reel) (defBody s_l_reel) (defScope s_l_reel) .none kV2 dc2 pm2 an2 cd2 ct2), sl2⟩) (c2 : PySem.W.codeIn K cd2 "_law_reel" = true) (k2 : PySem.W.keepIn K (.ref f2) = true)
  {f3 : Addr} {od3 an3 : Option Addr} {sl3 : Array (Option Value)} {oc3 kV3 dc3 pm3 cd3 ct3 : Value}
  (a3 : PySem.W.nsIn K mainGlobals "_law_spin" = some (some (.ref f3))) (l3 : K.lookup f3 = some ⟨oc3, od3, .func (PySem.W.fnOf "_law_spin" "_law_spin" (defArgs s_l_spin) (defBody s_l_spin) (defScope s_l_spin) .none kV3 dc3 pm3 an3 cd3 ct3), sl3⟩) (c3 : PySem.W.codeIn K cd3 "_law_spin" = true) (k3 : PySem.W.keepIn K (.ref f3) = true)
  {f4 : Addr} {od4 an4 : Option Addr} {sl4 : Array (Option Value)} {oc4 kV4 dc4 pm4 cd4 ct4 : Value}
  (a4 : PySem.W.nsIn K mainGlobals "_law_lamps" = some (some (.ref f4))) (l4 : K.lookup f4 = some ⟨oc4, od4, .func (PySem.W.fnOf "_law_lamps" "_law_lamps" (defArgs s_l_lamps) (defBody s_l_lamps) (defScope s_l_lamps) .none kV4 dc4 pm4 an4 cd4 ct4), sl4⟩) (c4 : PySem.W.codeIn K cd4 "_law_lamps" = true) (k4 : PySem.W.keepIn K (.ref f4) = true)
  {f5 : Addr} {od5 an5 : Option Addr} {sl5 : Array (Option Value)} {oc5 kV5 dc5 pm5 cd5 ct5 : Value}
  (a5 : PySem.W.nsIn K mainGlobals "_law_minutes" = some (some (.ref f5))) (l5 : K.lookup f5 = some ⟨oc5, od5, .func (PySem.W.fnOf "_law_minutes" "_law_minutes" (defArgs s_l_minutes) (defBody s_l_minutes) (defScope s_l_minutes) .none kV5 dc5 pm5 an5 cd5 ct5), sl5⟩) (c5 : PySem.W.codeIn K cd5 "_law_minutes" = true) (k5 : PySem.W.keepIn K (.ref f5) = true)
  {f6 : Addr} {od6 an6 : Option Addr} {sl6 : Array (Option Value)} {oc6 kV6 dc6 pm6 cd6 ct6 : Value}
  (a6 : PySem.W.nsIn K mainGlobals "_law_log" = some (some (.ref f6))) (l6 : K.lookup f6 = some ⟨oc6, od6, .func (PySem.W.fnOf "_law_log" "_law_log" (defArgs s_l_log) (defBody s_l_log) (defScope s_l_log) .none kV6 dc6 pm6 an6 cd6 ct6), sl6⟩) (c6 : PySem.W.codeIn K cd6 "_law_log" = true) (k6 : PySem.W.keepIn K (.ref f6) = true)
  {f7 : Addr} {od7 an7 : Option Addr} {sl7 : Array (Option Value)} {oc7 kV7 dc7 pm7 cd7 ct7 : Value}
  (a7 : PySem.W.nsIn K mainGlobals "_law_logs" = some (some (.ref f7))) (l7 : K.lookup f7 = some ⟨oc7, od7, .func (PySem.W.fnOf "_law_logs" "_law_logs" (defArgs s_l_logs) (defBody s_l_logs) (defScope s_l_logs) .none kV7 dc7 pm7 an7 cd7 ct7), sl7⟩) (c7 : PySem.W.codeIn K cd7 "_law_logs" = true) (k7 : PySem.W.keepIn K (.ref f7) = true)
  {f8 : Addr} {od8 an8 : Option Addr} {sl8 : Array (Option Value)} {oc8 kV8 dc8 pm8 cd8 ct8 : Value}
  (a8 : PySem.W.nsIn K mainGlobals "_law_bent" = some (some (.ref f8))) (l8 : K.lookup f8 = some ⟨oc8, od8, .func (PySem.W.fnOf "_law_bent" "_law_bent" (defArgs s_l_bent) (defBody s_l_bent) (defScope s_l_bent) .none kV8 dc8 pm8 an8 cd8 ct8), sl8⟩) (c8 : PySem.W.codeIn K cd8 "_law_bent" = true) (k8 : PySem.W.keepIn K (.ref f8) = true)
  {f9 : Addr} {od9 an9 : Option Addr} {sl9 : Array (Option Value)} {oc9 kV9 dc9 pm9 cd9 ct9 : Value}
  (a9 : PySem.W.nsIn K mainGlobals "_law_scene" = some (some (.ref f9))) (l9 : K.lookup f9 = some ⟨oc9, od9, .func (PySem.W.fnOf "_law_scene" "_law_scene" (defArgs s_l_scene) (defBody s_l_scene) (defScope s_l_scene) .none kV9 dc9 pm9 an9 cd9 ct9), sl9⟩) (c9 : PySem.W.codeIn K cd9 "_law_scene" = true) (k9 : PySem.W.keepIn K (.ref f9) = true)
  {f10 : Addr} {od10 an10 : Option Addr} {sl10 : Array (Option Value)} {oc10 kV10 dc10 pm10 cd10 ct10 : Value}
  (a10 : PySem.W.nsIn K mainGlobals "_law_fits" = some (some (.ref f10))) (l10 : K.lookup f10 = some ⟨oc10, od10, .func (PySem.W.fnOf "_law_fits" "_law_fits" (defArgs s_l_fits) (defBody s_l_fits) (defScope s_l_fits) .none kV10 dc10 pm10 an10 cd10 ct10), sl10⟩) (c10 : PySem.W.codeIn K cd10 "_law_fits" = true) (k10 : PySem.W.keepIn K (.ref f10) = true)
  {f11 : Addr} {od11 an11 : Option Addr} {sl11 : Array (Option Value)} {oc11 kV11 dc11 pm11 cd11 ct11 : Value}
  (a11 : PySem.W.nsIn K mainGlobals "law" = some (some (.ref f11))) (l11 : K.lookup f11 = some ⟨oc11, od11, .func (PySem.W.fnOf "law" "law" (defArgs s_law) (defBody s_law) (defScope s_law) .none kV11 dc11 pm11 an11 cd11 ct11), sl11⟩) (c11 : PySem.W.codeIn K cd11 "law" = true) (k11 : PySem.W.keepIn K (.ref f11) = true)
  (z_abs : PySem.W.nsIn K mainGlobals "abs" = some none)
  (z_enumerate : PySem.W.nsIn K mainGlobals "enumerate" = some none)
  (z_int : PySem.W.nsIn K mainGlobals "int" = some none)
  (z_len : PySem.W.nsIn K mainGlobals "len" = some none)
  (z_list : PySem.W.nsIn K mainGlobals "list" = some none)
  (z_max : PySem.W.nsIn K mainGlobals "max" = some none)
  (z_min : PySem.W.nsIn K mainGlobals "min" = some none)
  (z_range : PySem.W.nsIn K mainGlobals "range" = some none)
  (z_repr : PySem.W.nsIn K mainGlobals "repr" = some none)
  (z_tuple : PySem.W.nsIn K mainGlobals "tuple" = some none)
  {t_MAX_MINUTE : Tok} (c_MAX_MINUTE : PySem.W.nsIn K mainGlobals "MAX_MINUTE" = some (some (.int 1000000000 t_MAX_MINUTE)))
  : ∃ (T : All K mg) (kV dc pm : Value) (an : Option Addr) (cd ct : Value), T.fd_law = PySem.W.fnOf "law" "law" (defArgs s_law) (defBody s_law) (defScope s_law) .none kV dc pm an cd ct :=
  ⟨{ f_stretch_fits := f0, fd_stretch_fits := _, D_stretch_fits := ⟨fun_mk (st := s_stretch_fits) l0 c0 k0, PySem.W.mg_of X G a0, (fun_mk (st := s_stretch_fits) l0 c0 k0).binds (ps := ["lamp", "stretch"]) fun _ _ _ _ _ _ us hl => match us, hl with | [_, _], _ => rfl⟩,
     f_wrong_stretches := f1, fd_wrong_stretches := _, D_wrong_stretches := ⟨fun_mk (st := s_wrong_stretches) l1 c1 k1, PySem.W.mg_of X G a1, (fun_mk (st := s_wrong_stretches) l1 c1 k1).binds (ps := ["lamp", "log"]) fun _ _ _ _ _ _ us hl => match us, hl with | [_, _], _ => rfl⟩,
     f_l_reel := f2, fd_l_reel := _, D_l_reel := ⟨fun_mk (st := s_l_reel) l2 c2 k2, PySem.W.mg_of X G a2, (fun_mk (st := s_l_reel) l2 c2 k2).binds (ps := ["script"]) fun _ _ _ _ _ _ us hl => match us, hl with | [_], _ => rfl⟩,
     f_l_spin := f3, fd_l_spin := _, D_l_spin := ⟨fun_mk (st := s_l_spin) l3 c3 k3, PySem.W.mg_of X G a3, (fun_mk (st := s_l_spin) l3 c3 k3).binds (ps := ["reel", "many"]) fun _ _ _ _ _ _ us hl => match us, hl with | [_, _], _ => rfl⟩,
     f_l_lamps := f4, fd_l_lamps := _, D_l_lamps := ⟨fun_mk (st := s_l_lamps) l4 c4 k4, PySem.W.mg_of X G a4, (fun_mk (st := s_l_lamps) l4 c4 k4).binds (ps := ["reel", "many", "top"]) fun _ _ _ _ _ _ us hl => match us, hl with | [_, _, _], _ => rfl⟩,
     f_l_minutes := f5, fd_l_minutes := _, D_l_minutes := ⟨fun_mk (st := s_l_minutes) l5 c5 k5, PySem.W.mg_of X G a5, (fun_mk (st := s_l_minutes) l5 c5 k5).binds (ps := ["reel", "many", "gap"]) fun _ _ _ _ _ _ us hl => match us, hl with | [_, _, _], _ => rfl⟩,
     f_l_log := f6, fd_l_log := _, D_l_log := ⟨fun_mk (st := s_l_log) l6 c6 k6, PySem.W.mg_of X G a6, (fun_mk (st := s_l_log) l6 c6 k6).binds (ps := ["lamp", "minutes"]) fun _ _ _ _ _ _ us hl => match us, hl with | [_, _], _ => rfl⟩,
     f_l_logs := f7, fd_l_logs := _, D_l_logs := ⟨fun_mk (st := s_l_logs) l7 c7 k7, PySem.W.mg_of X G a7, (fun_mk (st := s_l_logs) l7 c7 k7).binds (ps := ["lamps", "minutes"]) fun _ _ _ _ _ _ us hl => match us, hl with | [_, _], _ => rfl⟩,
     f_l_bent := f8, fd_l_bent := _, D_l_bent := ⟨fun_mk (st := s_l_bent) l8 c8 k8, PySem.W.mg_of X G a8, (fun_mk (st := s_l_bent) l8 c8 k8).binds (ps := ["reel", "log"]) fun _ _ _ _ _ _ us hl => match us, hl with | [_, _], _ => rfl⟩,
     f_l_scene := f9, fd_l_scene := _, D_l_scene := ⟨fun_mk (st := s_l_scene) l9 c9 k9, PySem.W.mg_of X G a9, (fun_mk (st := s_l_scene) l9 c9 k9).binds (ps := ["reel", "many", "top", "motions"]) fun _ _ _ _ _ _ us hl => match us, hl with | [_, _, _, _], _ => rfl⟩,
     f_l_fits := f10, fd_l_fits := _, D_l_fits := ⟨fun_mk (st := s_l_fits) l10 c10 k10, PySem.W.mg_of X G a10, (fun_mk (st := s_l_fits) l10 c10 k10).binds (ps := ["lamp", "stretch"]) fun _ _ _ _ _ _ us hl => match us, hl with | [_, _], _ => rfl⟩,
     f_law := f11, fd_law := _, D_law := ⟨fun_mk (st := s_law) l11 c11 k11, PySem.W.mg_of X G a11, (fun_mk (st := s_law) l11 c11 k11).binds (ps := ["script"]) fun _ _ _ _ _ _ us hl => match us, hl with | [_], _ => rfl⟩,
     z_abs := PySem.W.mg_none_of X G z_abs,
     z_enumerate := PySem.W.mg_none_of X G z_enumerate,
     z_int := PySem.W.mg_none_of X G z_int,
     z_len := PySem.W.mg_none_of X G z_len,
     z_list := PySem.W.mg_none_of X G z_list,
     z_max := PySem.W.mg_none_of X G z_max,
     z_min := PySem.W.mg_none_of X G z_min,
     z_range := PySem.W.mg_none_of X G z_range,
     z_repr := PySem.W.mg_none_of X G z_repr,
     z_tuple := PySem.W.mg_none_of X G z_tuple,
     t_MAX_MINUTE := t_MAX_MINUTE, c_MAX_MINUTE := PySem.W.mg_of X G c_MAX_MINUTE }, _, _, _, _, _, _, rfl⟩
theorem law_end {l : PySem.W.OpenLaw} {w : World} {K : PySem.W.Frag} {mg : Str → Option Value} {fa : Addr} (hmg : mg "law" = some (.ref fa))
    (M : ∃ (T : All K mg) (kV dc pm : Value) (an : Option Addr) (cd ct : Value), T.fd_law = PySem.W.fnOf "law" "law" (defArgs s_law) (defBody s_law) (defScope s_law) .none kV dc pm an cd ct) :
    ∃ fd : FuncData, (∀ (s : Shared) (u : Value), BindsTo s fd ⟨[u], []⟩ [("script", u)]) ∧ ∀ base : Heap, K.In base → base.Ns mainGlobals mg → FnG l.prog w K mg base CX0 4 fa fd ["script"] (sp_law K) := by
  obtain ⟨T, kV, dc, pm, an, cd, ct, hfd⟩ := M
  have e : T.f_law = fa := by
    have h := T.D_law.g
    rw [hmg] at h
    exact (Value.ref.inj (Option.some.inj h)).symm
  refine ⟨T.fd_law, fun s u => ?_, fun base _ _ => ?_⟩
  · rw [hfd]
    exact BindsTo.of_eq rfl
  · rw [← e]
    exact ok_law T
end Lg
open PySem PySem.W PyProof.Rows
set_option maxRecDepth 100000 in
set_option maxHeartbeats 0 in
theorem PySem.Challenge.cw_lampstays_k11_stretches_that_do_not_fit_holds : PySem.Challenge.rw_lampstays_k11_stretches_that_do_not_fit.Holds := by
  w_on; o_law; k_head; (case hw => w_witness2)
  k_fill
  refine Lm.walkG (l := PySem.Challenge.rw_lampstays_k11_stretches_that_do_not_fit) (n := 63) (k := 4) (sp := Lm.sp_law) (x := "script") rfl (by decide) rfl ⟨rfl, by decide, by decide⟩ (fun w h Y => PySem.W.kIn_of Y) ?F Lm.sp_law_ok
  case F =>
    intro w mg fa h KX G hmg
    refine Lg.law_end (l := PySem.Challenge.rw_lampstays_k11_stretches_that_do_not_fit) hmg ?lmT
    case lmT =>
      refine' Lg.all_mk KX G ?a0 ?l0 ?c0 ?k0 ?a1 ?l1 ?c1 ?k1 ?a2 ?l2 ?c2 ?k2 ?a3 ?l3 ?c3 ?k3 ?a4 ?l4 ?c4 ?k4 ?a5 ?l5 ?c5 ?k5 ?a6 ?l6 ?c6 ?k6 ?a7 ?l7 ?c7 ?k7 ?a8 ?l8 ?c8 ?k8 ?a9 ?l9 ?c9 ?k9 ?a10 ?l10 ?c10 ?k10 ?a11 ?l11 ?c11 ?k11 ?z_abs ?z_enumerate ?z_int ?z_len ?z_list ?z_max ?z_min ?z_range ?z_repr ?z_tuple ?c_MAX_MINUTE
      (case a0 => k_is)
      (case l0 => k_is)
      (case c0 => k_is)
      (case k0 => k_is)
      (case a1 => k_is)
      (case l1 => k_is)
      (case c1 => k_is)
      (case k1 => k_is)
      (case a2 => k_is)
      (case l2 => k_is)
      (case c2 => k_is)
      (case k2 => k_is)
      (case a3 => k_is)
      (case l3 => k_is)
      (case c3 => k_is)
      (case k3 => k_is)
      (case a4 => k_is)
      (case l4 => k_is)
      (case c4 => k_is)
      (case k4 => k_is)
      (case a5 => k_is)
      (case l5 => k_is)
      (case c5 => k_is)
      (case k5 => k_is)
      (case a6 => k_is)
      (case l6 => k_is)
      (case c6 => k_is)
      (case k6 => k_is)
      (case a7 => k_is)
      (case l7 => k_is)
      (case c7 => k_is)
      (case k7 => k_is)
      (case a8 => k_is)
      (case l8 => k_is)
      (case c8 => k_is)
      (case k8 => k_is)
      (case a9 => k_is)
      (case l9 => k_is)
      (case c9 => k_is)
      (case k9 => k_is)
      (case a10 => k_is)
      (case l10 => k_is)
      (case c10 => k_is)
      (case k10 => k_is)
      (case a11 => k_is)
      (case l11 => k_is)
      (case c11 => k_is)
      (case k11 => k_is)
      (case z_abs => k_is)
      (case z_enumerate => k_is)
      (case z_int => k_is)
      (case z_len => k_is)
      (case z_list => k_is)
      (case z_max => k_is)
      (case z_min => k_is)
      (case z_range => k_is)
      (case z_repr => k_is)
      (case z_tuple => k_is)
      (case c_MAX_MINUTE => k_is)
