import PyProof.Rows.All
import Wide.All
import OpenK.AllK
import Wide.FinOn
import HandS.ForMost
import HandS.IsInst
import HandS.TupAny
import HandS.More
import HandS.Flow
import HandS.Style
import KE.GoesMore
import HandS.Walk
import PyProof.EqKinds
import KE.KEqDict
import HandS.Wide
import HandS.TryOnly
import KE.KExcIs
import HandS.ExcInit
import HandS.ExcIs
import HandS.ExcField
import HandS.ExcOwn
import HandS.WordsExc
import HandS.TupMul
import PySem.Challenge.RW_lampstays_k06_motions_numbered
set_option Elab.async false
set_option linter.all false
set_option maxRecDepth 100000
set_option maxHeartbeats 4000000
namespace Lm
open PySem PySem.Spec PyProof.Rows L2
/-! ### data at values: None, bools, ints, texts, lists, tuples, dicts -/
def kD : L2.Key → PyData
  | .inl i => .int i
  | .inr x => .str x
mutual
inductive Dq (K : PySem.W.Frag) (H : Hp) : V → PyData → Prop
  | non : Dq K H .non .none
  | bl (b : Bool) : Dq K H (.bl b) (.bool b)
  | int (i : Int) : Dq K H (.int i) (.int i)
  | str (x : Str) : Dq K H (.str x) (.str x)
  | lst {a : Addr} {xs : List V} {ds : List PyData} : SqL K H a xs → Dqs K H xs ds → Dq K H (.ref a) (.list ds)
  | tup {a : Addr} {xs : List V} {ds : List PyData} : SqT K H a xs → Dqs K H xs ds → Dq K H (.ref a) (.tuple ds)
  | dct {a : Addr} {kvs : List (L2.Key × V)} {ds : List PyData} : H a = some (.dK kvs) → Dqs K H (kvs.map (·.2)) ds → Dq K H (.ref a) (.dict ((kvs.map fun kv => kD kv.1).zip ds))
inductive Dqs (K : PySem.W.Frag) (H : Hp) : List V → List PyData → Prop
  | nil : Dqs K H [] []
  | cons {v : V} {vs : List V} {d : PyData} {ds : List PyData} : Dq K H v d → Dqs K H vs ds → Dqs K H (v :: vs) (d :: ds)
end
theorem Dqs.len {K : PySem.W.Frag} {H : Hp} : ∀ {vs : List V} {ds : List PyData}, Dqs K H vs ds → vs.length = ds.length
  | _, _, .nil => rfl
  | _, _, .cons _ t => congrArg Nat.succ (Dqs.len t)
theorem Dqs.get {K : PySem.W.Frag} {H : Hp} : ∀ {vs : List V} {ds : List PyData} {i : Nat} {v : V}, Dqs K H vs ds → vs[i]? = some v → ∃ d, ds[i]? = some d ∧ Dq K H v d
  | _, _, _, _, .nil, e => by simp at e
  | _, _, 0, _, .cons r _, e => by simp at e; subst e; exact ⟨_, rfl, r⟩
  | _, _, i + 1, v, .cons _ t, e => by
    obtain ⟨u, h1, h2⟩ := Dqs.get (i := i) (v := v) t (by simpa using e)
    exact ⟨u, by simpa using h1, h2⟩
theorem Dqs.app {K : PySem.W.Frag} {H : Hp} : ∀ {xs ys : List V} {ds es : List PyData}, Dqs K H xs ds → Dqs K H ys es → Dqs K H (xs ++ ys) (ds ++ es)
  | _, _, _, _, .nil, s => s
  | _, _, _, _, .cons r t, s => .cons r (Dqs.app t s)
theorem Dqs.take {K : PySem.W.Frag} {H : Hp} : ∀ {xs : List V} {ds : List PyData} (n : Nat), Dqs K H xs ds → Dqs K H (xs.take n) (ds.take n)
  | _, _, 0, _ => .nil
  | _, _, _ + 1, .nil => .nil
  | _, _, n + 1, .cons r t => .cons r (Dqs.take n t)
theorem Dqs.drop {K : PySem.W.Frag} {H : Hp} : ∀ {xs : List V} {ds : List PyData} (n : Nat), Dqs K H xs ds → Dqs K H (xs.drop n) (ds.drop n)
  | _, _, 0, r => r
  | _, _, _ + 1, .nil => .nil
  | _, _, n + 1, .cons _ t => Dqs.drop n t
theorem Dqs.rev {K : PySem.W.Frag} {H : Hp} : ∀ {xs : List V} {ds : List PyData}, Dqs K H xs ds → Dqs K H xs.reverse ds.reverse
  | _, _, .nil => .nil
  | _, _, .cons r t => by
    rw [List.reverse_cons, List.reverse_cons]
    exact Dqs.app (Dqs.rev t) (.cons r .nil)
theorem Same.seqT {K : PySem.W.Frag} {H H' : Hp} {a : Addr} {xs : List V} (e : Same H H') (h : SqT K H a xs) : SqT K H' a xs := by
  rcases h with (h | ⟨o, h⟩) | h
  · exact .inl (.inl (e a _ h))
  · exact .inl (.inr ⟨o, e a _ h⟩)
  · exact .inr h
mutual
theorem Dq.mono {K : PySem.W.Frag} {H H' : Hp} (s : Same H H') : ∀ {v : V} {d : PyData}, Dq K H v d → Dq K H' v d
  | _, _, .non => .non
  | _, _, .bl b => .bl b
  | _, _, .int i => .int i
  | _, _, .str x => .str x
  | _, _, .lst h t => .lst (s.seq h) (Dqs.mono s t)
  | _, _, .tup h t => .tup (Same.seqT s h) (Dqs.mono s t)
  | _, _, .dct h t => .dct (s _ _ h) (Dqs.mono s t)
theorem Dqs.mono {K : PySem.W.Frag} {H H' : Hp} (s : Same H H') : ∀ {vs : List V} {ds : List PyData}, Dqs K H vs ds → Dqs K H' vs ds
  | _, _, .nil => .nil
  | _, _, .cons h t => .cons (Dq.mono s h) (Dqs.mono s t)
end
/-! ### what such a value is in the heap -/
theorem dk_reads {h : Heap} {P : Program} {w : World} : ∀ {xs : List (L2.Key × V)} {vs : List (L2.Key × Value)} {es : List DictEntry}, KV xs vs → Pairs (mixKind P w) es vs →
    ReadsAll h (es.map (·.key)) (xs.map fun kv => kD kv.1) [] ∧ Vals (xs.map (·.2)) (es.map (·.val))
  | _, _, _, .nil, .nil => ⟨.nil, .nil⟩
  | p :: xs, kv :: vs, en :: es, .cons r t, .cons q e u => by
    obtain ⟨h1, h2⟩ := dk_reads (h := h) t u
    obtain ⟨r1, r2⟩ := r
    refine ⟨?_, .cons (by show L2.RelV p.2 en.val; rw [e]; exact r2) h2⟩
    have q' : keyIs kv.1 en.key = true := q
    rw [← r1] at q'
    show ReadsAll h (en.key :: _) (kD p.1 :: _) []
    rcases keyIs_shape q' with ⟨i, t, e1, e2⟩ | ⟨x, t, e1, e2⟩
    · rw [e1, e2]
      exact ReadsAll.cons (as := []) (bs := []) (.int i t) h1
    · rw [e1, e2]
      exact ReadsAll.cons (as := []) (bs := []) (.str x t) h1
section
variable {X : Cx} {pins : List (Addr × Obj)} {σ : L2.St} {H : Hp} {s : Shared}
mutual
theorem Dq.reads (I : Inv X pins σ H s) : ∀ {v : V} {d : PyData} (u : Value), Dq X.K H v d → L2.RelV v u → ∃ as, Reads s.heap u d as
  | _, _, u, .non, r => by cases r; exact ⟨_, .none⟩
  | _, _, u, .bl b, r => by cases r; exact ⟨_, .bool b⟩
  | _, _, u, .int i, r => by obtain ⟨t, rfl⟩ := r; exact ⟨_, .int i t⟩
  | _, _, u, .str x, r => by obtain ⟨t, rfl⟩ := r; exact ⟨_, .str x t⟩
  | _, _, u, .lst hs ha, r => by
    cases r
    obtain ⟨its, rv, ⟨o, n, ho, hc, _, hd⟩, _⟩ := I.list hs
    obtain ⟨as, hr⟩ := Dqs.reads I its ha rv
    exact ⟨_, .list ho hc hd hr⟩
  | _, _, u, .tup hs ha, r => by
    cases r
    obtain ⟨its, rv, ⟨o, ho, hc, n, hd⟩, _⟩ := I.tuple hs
    obtain ⟨as, hr⟩ := Dqs.reads I its ha rv
    exact ⟨_, .tuple ho hc hd hr⟩
  | _, _, u, .dct (kvs := kvs) (ds := ds) hs ha, r => by
    cases r
    obtain ⟨_, hne, vs, kv, o, es, ep, ho, ex, hd, _, pr, _⟩ := I.hok _ _ hs
    obtain ⟨h1, h2⟩ := dk_reads (h := s.heap) kv pr
    obtain ⟨bs, hr⟩ := Dqs.reads I _ ha h2
    have hl := ha.len
    rw [List.length_map] at hl
    refine ⟨_, Reads.dict (as := []) (bs := bs) ho ex.1 hd ?_ ?_⟩
    · rw [List.map_fst_zip (by rw [List.length_map]; omega)]
      exact h1
    · rw [List.map_snd_zip (by rw [List.length_map]; omega)]
      exact hr
theorem Dqs.reads (I : Inv X pins σ H s) : ∀ {vs : List V} {ds : List PyData} (us : List Value), Dqs X.K H vs ds → Vals vs us → ∃ as, ReadsAll s.heap us ds as
  | _, _, us, .nil, r => by cases r; exact ⟨_, .nil⟩
  | _, _, us, .cons h1 h2, r => by
    cases r with
    | cons r1 r2 =>
      obtain ⟨as, q1⟩ := Dq.reads I _ h1 r1
      obtain ⟨bs, q2⟩ := Dqs.reads I _ h2 r2
      exact ⟨_, .cons q1 q2⟩
end
/-- keys of a dict have their text at any level -/
theorem keys_reprK {h : Heap} {P : Program} {w : World} : ∀ (xs : List (L2.Key × V)) {vs : List (L2.Key × Value)} {es : List DictEntry} {bs : List Addr} {n : Nat}, KV xs vs → Pairs (mixKind P w) es vs →
    PyData.showableAll (xs.map fun kv => kD kv.1) = true → (∀ t ∈ PyData.shownAll (xs.map fun kv => kD kv.1), t.length ≤ sizeLine) →
    ReprAllK P w bs h n (es.map (·.key)) (PyData.shownAll (xs.map fun kv => kD kv.1))
  | [], _, _, _, _, .nil, .nil, _, _ => .nil
  | p :: xs, kv :: vs, en :: es, bs, n, .cons r t, .cons q e u, hs, hz => by
    have hs' : (kD p.1).showable = true ∧ PyData.showableAll (xs.map fun kv => kD kv.1) = true := by simpa [PyData.showableAll] using hs
    have q' : keyIs kv.1 en.key = true := q
    rw [← r.1] at q'
    have z1 := hz (kD p.1).shown (by simp [PyData.shownAll])
    refine .cons (show ReprK P w bs h n en.key (kD p.1).shown from ?_) (keys_reprK xs t u hs'.2 fun t ht => hz t (by simp only [List.map_cons, PyData.shownAll]; exact List.mem_cons_of_mem _ ht))
    rcases keyIs_shape q' with ⟨i, t, e1, e2⟩ | ⟨x, t, e1, e2⟩
    · rw [e2]
      have y := hs'.1
      rw [e1] at y ⊢
      exact ReprK.of_is (ReprIs.int t (by simpa [PyData.showable, kD] using y)) _ _ _
    · rw [e2]
      rw [e1] at z1 ⊢
      exact ReprK.of_is (ReprIs.str x t (by simpa only [PyData.shown, kD] using z1)) _ _ _
mutual
theorem Dq.textK (I : Inv X pins σ H s) : ∀ {v : V} {d : PyData} (u : Value), Dq X.K H v d → L2.RelV v u → d.showable = true → d.shown.length ≤ sizeLine →
    ∃ bs, ReadAtMost s.heap d.depth bs ∧ ReprK X.prog X.w bs s.heap d.depth u d.shown
  | _, _, u, .non, r, _, _ => by
    cases r
    exact ⟨[], fun _ h => (nomatch h), by simp only [PyData.shown]; exact .of_is ReprIs.none _ _ _⟩
  | _, _, u, .bl b, r, _, _ => by
    cases r
    exact ⟨[], fun _ h => (nomatch h), by simp only [PyData.shown]; exact .of_is (ReprIs.bool b) _ _ _⟩
  | _, _, u, .int i, r, hs, _ => by
    obtain ⟨t, rfl⟩ := r
    exact ⟨[], fun _ h => (nomatch h), by simp only [PyData.shown]; exact .of_is (ReprIs.int t (by simpa [PyData.showable] using hs)) _ _ _⟩
  | _, _, u, .str x, r, _, hz => by
    obtain ⟨t, rfl⟩ := r
    exact ⟨[], fun _ h => (nomatch h), by simp only [PyData.shown]; exact .of_is (ReprIs.str x t (by simpa only [PyData.shown] using hz)) _ _ _⟩
  | _, _, u, .lst (ds := ds) hq ha, r, hs, hz => by
    obtain ⟨as, rd⟩ := Dq.reads I u (.lst hq ha) r
    cases r
    obtain ⟨its, rv, ⟨o, n, ho, hc, _, hd⟩, _⟩ := I.list hq
    have z : (listText (PyData.shownAll ds)).length ≤ sizeLine := by simpa only [PyData.shown] using hz
    obtain ⟨bs, hb, hk⟩ := Dqs.textK I its ha rv (by simpa [PyData.showable] using hs) fun t ht => Nat.le_trans (listText_mem_le ht) z
    have hn := not_mem_of_deeper rd (by simp only [PyData.depth]; omega) hb
    refine ⟨_, ReadAtMost.cons rd (by simp only [PyData.depth]; omega) hb, ?_⟩
    simp only [PyData.depth, PyData.shown]
    cases its with
    | nil =>
      cases rv
      cases ha
      simp only [PyData.shownAll, listText_nil]
      exact ReprK.listEmpty ho hc hd
    | cons x l => exact ReprK.list ho hc hd hn (by simpa using hk.length_eq) fun i y e => hk.item i y (by simpa using e)
  | _, _, u, .tup (ds := ds) hq ha, r, hs, hz => by
    obtain ⟨as, rd⟩ := Dq.reads I u (.tup hq ha) r
    cases r
    obtain ⟨its, rv, ⟨o, ho, hc, n, hd⟩, _⟩ := I.tuple hq
    have z : (tupleText (PyData.shownAll ds)).length ≤ sizeLine := by simpa only [PyData.shown] using hz
    obtain ⟨bs, hb, hk⟩ := Dqs.textK I its ha rv (by simpa [PyData.showable] using hs) fun t ht => Nat.le_trans (tupleText_mem_le ht) z
    have hn := not_mem_of_deeper rd (by simp only [PyData.depth]; omega) hb
    refine ⟨_, ReadAtMost.cons rd (by simp only [PyData.depth]; omega) hb, ?_⟩
    simp only [PyData.depth, PyData.shown]
    exact ReprK.tuple ho hc hd hn hk
  | _, _, u, .dct (kvs := kvs) (ds := ds) hq ha, r, hs, hz => by
    obtain ⟨as, rd⟩ := Dq.reads I u (.dct hq ha) r
    cases r
    obtain ⟨_, hne, vs, kv, o, es, ep, ho, ex, hd, _, pr, _⟩ := I.hok _ _ hq
    have hl := ha.len
    rw [List.length_map] at hl
    have f1 : ((kvs.map fun kv => kD kv.1).zip ds).map (·.1) = kvs.map fun kv => kD kv.1 := List.map_fst_zip (by rw [List.length_map]; omega)
    have f2 : ((kvs.map fun kv => kD kv.1).zip ds).map (·.2) = ds := List.map_snd_zip (by rw [List.length_map]; omega)
    have z : (dictText (PyData.shownKv ((kvs.map fun kv => kD kv.1).zip ds))).length ≤ sizeLine := by simpa only [PyData.shown] using hz
    obtain ⟨s1, s2⟩ := PyData.showableKv_split _ (show PyData.showableKv ((kvs.map fun kv => kD kv.1).zip ds) = true by simpa [PyData.showable] using hs)
    have zk := fun t ht => (let ⟨p, hp, l⟩ := PyData.shownKv_key_le ((kvs.map fun kv => kD kv.1).zip ds) t ht; Nat.le_trans l (Nat.le_trans (dictText_mem_le hp) z))
    have zv := fun t ht => (let ⟨p, hp, l⟩ := PyData.shownKv_val_le ((kvs.map fun kv => kD kv.1).zip ds) t ht; Nat.le_trans l (Nat.le_trans (dictText_mem_le hp) z))
    have dv := PyData.depthAll_vals_le ((kvs.map fun kv => kD kv.1).zip ds)
    rw [f1] at s1 zk
    rw [f2] at s2 zv dv
    obtain ⟨bs, hb, hk⟩ := Dqs.textK I _ ha (dk_reads (h := s.heap) kv pr).2 s2 zv
    have hb' : ReadAtMost s.heap (PyData.depthKv ((kvs.map fun kv => kD kv.1).zip ds)) bs := hb.mono dv
    have hn := not_mem_of_deeper rd (by simp only [PyData.depth]; omega) hb'
    refine ⟨_, ReadAtMost.cons rd (by simp only [PyData.depth]; omega) hb', ?_⟩
    simp only [PyData.depth, PyData.shown, PyData.shownKv_eq, f1, f2]
    exact ReprK.dict ho ex.1 hd hne hn (ReprEntriesK.of_two es.toList _ _ (keys_reprK kvs kv pr s1 zk) (hk.more_le (fun b hb => hb) dv))
theorem Dqs.textK (I : Inv X pins σ H s) : ∀ {vs : List V} {ds : List PyData} (us : List Value), Dqs X.K H vs ds → Vals vs us → PyData.showableAll ds = true → (∀ t ∈ PyData.shownAll ds, t.length ≤ sizeLine) →
    ∃ bs, ReadAtMost s.heap (PyData.depthAll ds) bs ∧ ReprAllK X.prog X.w bs s.heap (PyData.depthAll ds) us (PyData.shownAll ds)
  | _, _, us, .nil, r, _, _ => by
    cases r
    exact ⟨[], fun _ h => (nomatch h), by simp only [PyData.shownAll]; exact .nil⟩
  | _, _, us, .cons (d := d) (ds := ds) h1 h2, r, hs, hz => by
    cases r with
    | cons r1 r2 =>
      have hs' : d.showable = true ∧ PyData.showableAll ds = true := by simpa [PyData.showableAll] using hs
      obtain ⟨b1, p1, k1⟩ := Dq.textK I _ h1 r1 hs'.1 (hz _ (by simp only [PyData.shownAll]; exact List.mem_cons_self ..))
      obtain ⟨b2, p2, k2⟩ := Dqs.textK I _ h2 r2 hs'.2 fun t ht => hz t (by simp only [PyData.shownAll]; exact List.mem_cons_of_mem _ ht)
      refine ⟨b1 ++ b2, ?_, ?_⟩
      · simp only [PyData.depthAll]
        exact (p1.mono (Nat.le_max_left _ _)).append (p2.mono (Nat.le_max_right _ _))
      · simp only [PyData.depthAll, PyData.shownAll]
        exact .cons ((k1.more fun b hb => List.mem_append_left _ hb).level_le (Nat.le_max_left _ _)) (k2.more_le (fun b hb => List.mem_append_right _ hb) (Nat.le_max_right _ _))
end
end
/-! ### repr of data -/
/-- what repr takes: numbers that have a text, few levels, a text that fits -/
structure Fine (d : PyData) : Prop where
  sh : d.showable = true
  dp : d.depth ≤ 100
  sz : d.shown.length ≤ sizeLine
def rRepr (K : PySem.W.Frag) : List V → Hp → VK → Prop := fun xs H Q => ∃ v d, xs = [v] ∧ Dq K H v d ∧ Fine d ∧ Q (.str d.shown) H
theorem call_reprD {X : Cx} {k : Nat} (hg : X.A.guards = some []) (hr : Room k X.A) : CallR X (.builtin "repr") (rRepr X.K) := by
  intro pins s σ H xs us Q I r h
  obtain ⟨v, d, rfl, hd, F, q⟩ := h
  obtain ⟨u, rfl, ru⟩ := vals1 r
  have hun := hr.un
  have hdp := F.dp
  have hsz := F.sz
  have hsh := F.sh
  have fin : ∀ (h' : Heap) (t : Tok) (tk : Nat), (∀ b o, s.heap.get? b = some o → h'.get? b = some o) → EP X pins σ Q (.str d.shown t) { s with heap := h', toks := tk } :=
    fun h' t tk hk => ⟨.str _, H, I.kept (t' := tk) hk, ⟨_, rfl⟩, q⟩
  cases hd with
  | non => cases ru; exact PySem.P.repr_of_none (by simpa [PyData.shown] using fin s.heap s.toks _ fun _ _ e => e)
  | bl b => cases ru; exact PySem.P.repr_of_bool (by simpa [PyData.shown] using fin s.heap s.toks _ fun _ _ e => e)
  | int i =>
    obtain ⟨t, rfl⟩ := ru
    exact PySem.P.repr_of_int (by simpa [PyData.showable] using hsh) (by simpa [PyData.shown] using fin s.heap s.toks _ fun _ _ e => e)
  | str x =>
    obtain ⟨t, rfl⟩ := ru
    exact PySem.P.repr_of_str (by simpa [PyData.shown] using fin s.heap s.toks _ fun _ _ e => e) (by simpa [PyData.shown] using hsz)
  | @lst a vs ds hq ha =>
    obtain ⟨as, rd⟩ := Dq.reads I u (.lst hq ha) ru
    cases ru
    obtain ⟨its, rv, ⟨o, n, ho, hc, _, hdt⟩, _⟩ := I.list hq
    have z : (listText (PyData.shownAll ds)).length ≤ sizeLine := by simpa only [PyData.shown] using hsz
    obtain ⟨bs, hb, hk⟩ := Dqs.textK I its ha rv (by simpa [PyData.showable] using hsh) fun t ht => Nat.le_trans (listText_mem_le ht) z
    have hn := not_mem_of_deeper rd (by simp only [PyData.depth]; omega) hb
    simp only [PyData.depth] at hdp
    simp only [PyData.shown] at fin
    refine call_repr_slot (by omega) ⟨o, ho, hc⟩ PySem.F.slot_list_repr.toG ?_
    cases its with
    | nil =>
      cases rv
      cases ha
      simp only [PyData.shownAll, listText_nil] at fin
      exact call_list_repr_empty ⟨o, ho, hc⟩ ho hdt ⟨_, _, rfl, fin s.heap _ _ fun _ _ e => e⟩
    | cons x l =>
      exact call_list_reprK ho hc hdt hn (by simpa using hk.length_eq) (fun i y e => hk.item i y (by simpa using e)) hg (fun b _ => Clear.nil b) (by show X.A.units + 1 + (PyData.depthAll ds + 1) < cLine; omega) (fun _ _ e => e)
        (fun h' u tk e => ⟨_, _, rfl, fin h' u tk e⟩) z
  | @tup a vs ds hq ha =>
    obtain ⟨as, rd⟩ := Dq.reads I u (.tup hq ha) ru
    cases ru
    obtain ⟨its, rv, ⟨o, ho, hc, n, hdt⟩, _⟩ := I.tuple hq
    have z : (tupleText (PyData.shownAll ds)).length ≤ sizeLine := by simpa only [PyData.shown] using hsz
    obtain ⟨bs, hb, hk⟩ := Dqs.textK I its ha rv (by simpa [PyData.showable] using hsh) fun t ht => Nat.le_trans (tupleText_mem_le ht) z
    have hn := not_mem_of_deeper rd (by simp only [PyData.depth]; omega) hb
    simp only [PyData.depth] at hdp
    simp only [PyData.shown] at fin
    refine call_repr_slot (by omega) ⟨o, ho, hc⟩ PySem.F.slot_tuple_repr ?_
    exact call_tuple_reprK ho hc hdt hn hk hg (fun b _ => Clear.nil b) (by show X.A.units + 1 + (PyData.depthAll ds + 1) < cLine; omega) (fun _ _ e => e) (fun h' u tk e => ⟨_, _, rfl, fin h' u tk e⟩) z
  | @dct a kvs ds hq ha =>
    obtain ⟨as, rd⟩ := Dq.reads I u (.dct hq ha) ru
    cases ru
    obtain ⟨_, hne, vs, kv, o, es, ep, ho, ex, hdt, _, pr, _⟩ := I.hok _ _ hq
    have hl := ha.len
    rw [List.length_map] at hl
    have f1 : ((kvs.map fun kv => kD kv.1).zip ds).map (·.1) = kvs.map fun kv => kD kv.1 := List.map_fst_zip (by rw [List.length_map]; omega)
    have f2 : ((kvs.map fun kv => kD kv.1).zip ds).map (·.2) = ds := List.map_snd_zip (by rw [List.length_map]; omega)
    have z : (dictText (PyData.shownKv ((kvs.map fun kv => kD kv.1).zip ds))).length ≤ sizeLine := by simpa only [PyData.shown] using hsz
    obtain ⟨s1, s2⟩ := PyData.showableKv_split _ (show PyData.showableKv ((kvs.map fun kv => kD kv.1).zip ds) = true by simpa [PyData.showable] using hsh)
    have zk := fun t ht => (let ⟨p, hp, l⟩ := PyData.shownKv_key_le ((kvs.map fun kv => kD kv.1).zip ds) t ht; Nat.le_trans l (Nat.le_trans (dictText_mem_le hp) z))
    have zv := fun t ht => (let ⟨p, hp, l⟩ := PyData.shownKv_val_le ((kvs.map fun kv => kD kv.1).zip ds) t ht; Nat.le_trans l (Nat.le_trans (dictText_mem_le hp) z))
    have dv := PyData.depthAll_vals_le ((kvs.map fun kv => kD kv.1).zip ds)
    rw [f1] at s1 zk
    rw [f2] at s2 zv dv
    obtain ⟨bs, hb, hk⟩ := Dqs.textK I _ ha (dk_reads (h := s.heap) kv pr).2 s2 zv
    have hb' : ReadAtMost s.heap (PyData.depthKv ((kvs.map fun kv => kD kv.1).zip ds)) bs := hb.mono dv
    have hn := not_mem_of_deeper rd (by simp only [PyData.depth]; omega) hb'
    simp only [PyData.depth] at hdp
    simp only [PyData.shown, PyData.shownKv_eq, f1, f2] at fin
    rw [PyData.shownKv_eq, f1, f2] at z
    refine call_repr_slot (by omega) ⟨o, ho, ex.1⟩ PySem.F.slot_dict_repr ?_
    exact call_dict_reprK ho ex.1 hdt hne hn (ReprEntriesK.of_two es.toList _ _ (keys_reprK kvs kv pr s1 zk) (hk.more_le (fun b hb => hb) dv)) hg (fun b _ => Clear.nil b)
      (by show X.A.units + 1 + (PyData.depthKv ((kvs.map fun kv => kD kv.1).zip ds) + 1) < cLine; omega) (fun _ _ e => e) (fun h' u tk e => ⟨_, _, rfl, fin h' u tk e⟩) z
end Lm

namespace Lm
open PySem PySem.Spec PyProof.Rows L2
/-! ### a def's promise where no repr runs around -/
structure FnG (P : Program) (w : World) (K : PySem.W.Frag) (mg : Str → Option Value) (base : Heap) (CX : CXT) (k : Nat) (f : Addr) (fd : FuncData) (ps : List Str) (sp : Sp) : Prop where
  len : ∀ vs H Q E, sp vs H Q E → vs.length = ps.length
  go : ∀ (A : Around) (outer : List Env) (s : Shared) (H : Hp) (args : Args) (us : List Value) (vs : List V) (Q : VK) (E : XK), A.guards = some [] → Room k A →
    Env0 P w K mg base A outer s H → BindsTo s fd args (ps.zip us) → Vals vs us → sp vs H Q E → codeAny (model P w) A (.call (.ref f) args) (CR CX outer P w H s Q E) s
section
variable {P : Program} {w : World} {K : PySem.W.Frag} {mg : Str → Option Value} {base : Heap}
theorem FnG.mono {CX : CXT} {j k : Nat} {f : Addr} {fd : FuncData} {ps : List Str} {sp : Sp} (F : FnG P w K mg base CX j f fd ps sp) (h : j ≤ k) : FnG P w K mg base CX k f fd ps sp :=
  ⟨F.len, fun A o s H as us vs Q E g r => F.go A o s H as us vs Q E g (r.mono h)⟩
theorem Fun.okG {x qual : Str} {st : Stmt} {f : Addr} {fd : FuncData} {N ps : List Str} {k : Nat} {sp : Sp} (F : Fun K x qual st f fd) (S : FnScope N ps (defScope st)) (hlen : ∀ vs H Q E, sp vs H Q E → vs.length = ps.length)
    (hb : ∀ (cdv : Value) (A : Around) (outer : List Env) (s : Shared) (H : Hp) (vs : List V) (Q : VK) (E : XK), A.guards = some [] → Room k (A.deeper (envOfC qual (defScope st) s.heap.objs.size f cdv)) → sp vs H Q E →
      ∃ t, PSs (cxOf CX0 P w K mg base N qual (defScope st) f cdv A outer s H E).nox (defBody st) t ∧ t { nx := fun _ H' => Q .non H', rt := Q } (start N vs) H) : FnG P w K mg base CX0 (k + 1) f fd ps sp := by
  obtain ⟨oc, od, kV, doc, pm, an, cdv, ct, osl, rfl, lk, hcd⟩ := F.ex
  refine ⟨hlen, fun A outer s H args us vs Q E g hr e0 bd r hs => ?_⟩
  have hl := hlen _ _ _ _ hs
  have KX : K.In s.heap := e0.mod.kin.keeps fun b o e => (e0.bs b o e).1
  have nl : s.heap.NoLimit := e0.mod.nolimit.keeps fun b o e => (e0.bs b o e).1
  have kinds : ∀ y ∈ ps.zip us, (defScope st).names.lookup y.1 = some .local ∨ ((defScope st).names.lookup y.1 = some .cell ∧ ((cellsFrom (s.heap.objs.size + 1) (defScope st).names []).lookup y.1).isSome = true) := by
    rintro ⟨nm, v⟩ hy
    have hm := (List.of_mem_zip hy).1
    cases S.par nm hm with
    | inl q => exact .inl q
    | inr q => exact .inr ⟨q, PySem.W.cellsFrom_some _ _ _ (.inl q)⟩
  refine codeAny_call_function (hr.depth) (KX _ _ lk) rfl S.co S.gen rfl (PySem.W.codeRec_of KX hcd) (bd _ _ _ _ ?_)
  refine wpAny_newFunctionEnv_cells S.kind kinds ?_
  intro env he s1 x
  subst he
  refine ⟨nl.keeps x.toInCall.keep, codeAny_func ?_⟩
  obtain ⟨t, ht, hq⟩ := hb cdv A outer s H vs Q E g (hr.deeper _) hs
  have J := inv_start (CX := CX0) (E := E) S hr.hd e0 hl r x
  refine wpAny_mono (ht.nox.run [] s1 (start N vs) H _ J hq) ?_ (fun e s' z => z)
  intro fl s' z
  cases fl with
  | ret u => obtain ⟨v, σ2, H2, J2, rv, q⟩ := z; exact ⟨v, H2, J2.os, J2.bare, J2.base, J2.hok, rv, q⟩
  | next => obtain ⟨σ2, H2, J2, q⟩ := z; exact ⟨V.non, H2, J2.os, J2.bare, J2.base, J2.hok, rfl, q⟩
  | brk => obtain ⟨_, _, _, q⟩ := z; exact q.elim
  | cont => obtain ⟨_, _, _, q⟩ := z; exact q.elim
end
/-! ### the law's own call -/
theorem lawCallG {P : Program} {w : World} {K : PySem.W.Frag} {mg mb : Str → Option Value} {k : Nat} {fa a : Addr} {fd : FuncData} {x : Str} {sp : Sp} {s₁ : Shared} {vs : List Value} {ns : List Int}
    (KX : K.In s₁.heap) (hns : s₁.heap.Ns mainGlobals mg) (hb : s₁.heap.Ns builtinsNs mb) (hbb : ∀ x : Str, x ≠ "__name__" → mb x = bootBuiltins x) (hlim : s₁.heap.NoLimit) (hg : s₁.gens = #[])
    (ha : s₁.heap.get? a = some { cls := .type "list", data := .seq vs.toArray }) (hi : IntsAre vs ns) (hl : ns.length ≤ sizeLine) (hr : Room k callerA)
    (F : ∀ base : Heap, K.In base → base.Ns mainGlobals mg → FnG P w K mg base CX0 k fa fd [x] sp) (hbind : ∀ (s : Shared) (u : Value), BindsTo s fd ⟨[u], []⟩ [(x, u)])
    (hsp : ∀ H : Hp, Only H → SqL K H a (ns.map V.int) → sp [.ref a] H (fun v _ => v = .bl true) fun _ _ _ => False) :
    codeAny (model P w) callerA (.call (.ref fa) ⟨[.ref a], []⟩) (fun r s' => r = .ok (.ret (.bool true)) ∧ OldK s₁.heap s'.heap ∧ s'.os = s₁.os ∧ AllBare s'.gens) s₁ := by
  have rv := vals_ints hi
  have ln := hi.length
  have main : ∀ H : Hp, Only H → SqL K H a (ns.map V.int) → HOk P w H s₁.heap → (∀ b, H b ≠ none → b = a) → (H a ≠ none → K.lookup a = none) →
      codeAny (model P w) callerA (.call (.ref fa) ⟨[.ref a], []⟩) (fun r s' => r = .ok (.ret (.bool true)) ∧ OldK s₁.heap s'.heap ∧ s'.os = s₁.os ∧ AllBare s'.gens) s₁ := by
    intro H hO hS ok hA hK
    have nsd : ∀ {b : Addr} {m : Str → Option Value}, s₁.heap.Ns b m → (hidT s₁.heap H).Ns b m := by
      rintro b m ⟨o, es, ep, e, d, r⟩
      refine ⟨o, es, ep, hidT_get e ?_, d, r⟩
      cases q : H b with
      | none => rfl
      | some u =>
        have eb := hA b (by rw [q]; exact fun z => nomatch z)
        rw [eb, ha] at e
        cases e
        cases d
    have hKb : K.In (hidT s₁.heap H) := by
      intro b o e
      refine hidT_get (KX b o e) ?_
      cases q : H b with
      | none => rfl
      | some u =>
        have eb := hA b (by rw [q]; exact fun z => nomatch z)
        rw [eb, hK (by rw [← eb, q]; exact fun z => nomatch z)] at e
        cases e
    obtain ⟨mc, n1, n2⟩ := hlim
    have env : Env0 P w K mg (hidT s₁.heap H) callerA [] s₁ H :=
      { frames := rfl, mod := ⟨hKb, nsd hns, ⟨mb, nsd hb, hbb⟩, ⟨mc, nsd n1, n2⟩⟩, bs := fun b o e => of_hidT e, bsz := Nat.le_of_eq (hidT_size _ _), funs := trivial, frf := (fun b hb => absurd hb (by simp [frs])), hok := ok, bare := .of_eq hg }
    have run := (F _ hKb (nsd hns)).go callerA [] s₁ H ⟨[.ref a], []⟩ [.ref a] [.ref a] _ _ rfl hr env (hbind s₁ (.ref a)) (.cons rfl .nil) (hsp H hO hS)
    refine codeAny_mono run ?_
    intro r s' h
    match r, h with
    | .error e, h => exact False.elim h
    | .ok .next, h => exact False.elim h
    | .ok .brk, h => exact False.elim h
    | .ok .cont, h => exact False.elim h
    | .ok (.ret u), h =>
      obtain ⟨v, H', os, bare, un, ok', r', q⟩ := h
      have q' : v = .bl true := q
      subst q'
      cases (show u = Value.bool true from r')
      refine ⟨rfl, OldK.of_keep (fun b o e => ?_), os, bare⟩
      cases q : H b with
      | none => exact un.keep b o e q (by simp [frs]) (by simp)
      | some u =>
        cases hO b with
        | inl z => rw [q] at z; cases z
        | inr z =>
          obtain ⟨ob, xs, z⟩ := z
          have e1 := (ok b _ z).1
          have e2 := (ok' b _ (un.frzs b ob _ z)).1
          rw [e] at e1
          rw [e2, ← e1]
  cases hk : K.lookup a with
  | some o =>
    have e := KX a o hk
    rw [ha] at e
    cases e
    exact main (fun _ => none) (fun _ => .inl rfl) (.inr ⟨_, vs.toArray, _, hk, rfl, rfl, rfl, by rw [List.size_toArray, ln]; exact hl, by simpa using rv⟩) (fun b u z => nomatch z) (fun b z => absurd rfl z) fun z => absurd rfl z
  | none =>
    have self : ∀ {b : Addr}, (if b = a then some (HO.frz { cls := .type "list", data := .seq vs.toArray } (.lst (ns.map V.int))) else none) ≠ none → b = a := fun {b} z => by
      by_cases e : b = a
      · exact e
      · rw [if_neg e] at z
        exact absurd rfl z
    refine main (fun b => if b = a then some (.frz { cls := .type "list", data := .seq vs.toArray } (.lst (ns.map V.int))) else none) ?_ (.inl (.inr ⟨_, if_pos rfl⟩)) ?_ (fun b z => self z) fun _ => hk
    · intro b
      by_cases e : b = a
      · exact .inr ⟨_, _, if_pos e⟩
      · exact .inl (if_neg e)
    · intro b u z
      dsimp only at z
      have eb := self (b := b) (by rw [z]; exact fun q => nomatch q)
      rw [if_pos eb] at z
      cases z
      rw [eb]
      exact ⟨ha, by rw [List.length_map]; exact hl, vs, _, rv, ha⟩
/-- a law row's end -/
theorem walkG {l : PySem.W.OpenLaw} {n k : Nat} {q : Program} {loose : List Str} {XP : (Str → Option Value) → Heap → Prop} {YP : World → Heap → Prop} {d : DefRec} {K : Params → PySem.W.Frag} {sp : PySem.W.Frag → Sp} {x : Str}
    (hn : l.most = some n) (hn2 : n ≤ sizeLine) (hdf : d.params.defaults = []) (hr : Room k callerA) (hY : ∀ (w : World) (h : Heap), YP w h → (K w.params).In h)
    (F : ∀ (w : World) (mg : Str → Option Value) (fa : Addr) (h : Heap), (K w.params).In h → h.Ns mainGlobals mg → mg d.name = some (.ref fa) →
      ∃ fd : FuncData, (∀ (s : Shared) (u : Value), BindsTo s fd ⟨[u], []⟩ [(x, u)]) ∧
        ∀ base : Heap, (K w.params).In base → base.Ns mainGlobals mg → FnG l.prog w (K w.params) mg base CX0 k fa fd [x] (sp (K w.params)))
    (hsp : ∀ (K : PySem.W.Frag) (H : Hp) (a : Addr) (ns : List Int), ns.length ≤ n → Only H → SqL K H a (ns.map V.int) → sp K [.ref a] H (fun v _ => v = .bl true) fun _ _ _ => False) :
    PySem.W.WalkO q loose XP YP l.row.toRowW d [] (fun f vs => PySem.call f vs) := by
  refine Att.attach_call hn hdf ?_
  intro w s₀ s₁ mg mb fa o pm cd doc a vs ns G Y ho hd hcd hmg hobj hints hlen hg
  obtain ⟨fd, b, f⟩ := F w mg fa _ (hY w _ Y) G.T.g hmg
  exact lawCallG (hY w _ Y) G.T.g G.T.b G.T.builtins G.T.nolimit hg hobj hints (Nat.le_trans hlen hn2) hr f b (fun H hO hS => hsp _ H a ns hlen hO hS)
/-! ### a call of such a def -/
section
variable {X : Cx}
theorem pe_callG {k : Nat} {f : Addr} {fd : FuncData} {ps : List Str} {sp : Sp} {E : XK} {x : Str} {e : Expr} {es : List Expr} {t : TA} {p pos : Pos} (F : FnG X.prog X.w X.K X.mg X.base CX0 k f fd ps sp) (hgd : X.A.guards = some []) (hr : Room k X.A) (hg : Gl X x)
    (hm : X.mg x = some (.ref f)) (hk : PySem.W.keepIn X.K (.ref f) = true) (hb : Binds X.K fd ps []) (ha : PA X (e :: es) t) (hdb : (x == ("__debug__" : Str)) = false := by decide)
    (he : starEach (e :: es) X.env = (false, eval e X.env) :: starEach es X.env := by rfl) (hpl : (backTo pos (starEach es X.env)).any (·.1) = false := by rfl) :
    PE X (.Call (.Name x p) (e :: es) [] pos) (tCall sp [] E0 t) := by
  refine ⟨fun pins s σ H Q I h => ?_⟩
  refine wpAny_Call_Name_kw (ld_glob I hg hm ?_ hdb)
  refine PySem.W.callWith_K (h₀ := X.base) I.ok.mod.kin hk (thn (ha.run pos pins s σ H _ I h) ?_) he hpl
  rintro us s1 ⟨vs, H1, I1, r, q⟩
  refine ⟨I1.kIn, ?_⟩
  have q' : sp vs H1 Q E0 := by simpa using q
  have hl : us.length = ps.length := r.length.symm.trans (F.len _ _ _ _ q')
  have bd := hb s1 us I1.kIn (by simpa using hl)
  simp only [List.append_nil] at bd
  refine wpAny_call (codeAny_mono (F.go X.A X.stack s1 H1 ⟨us, []⟩ us vs Q E0 hgd hr I1.env0 bd r q') ?_)
  intro r s' hq
  match r, hq with
  | .ok (.ret u), hq => exact I1.after hq
  | .ok .next, hq => exact False.elim hq
  | .ok .brk, hq => exact False.elim hq
  | .ok .cont, hq => exact False.elim hq
  | .error e, hq => exact False.elim hq
end
end Lm

namespace Lm
open PySem PySem.Spec PyProof.Rows L2
section
variable {X : Cx} {a b c d : Expr} {ta tb tc td : TE} {pos : Pos}
/-! ### a op1 b op2 c op3 d -/
def tChain3 (r1 r2 r3 : R2) (ta tb tc td : TE) : TE := fun σ H Q => ta σ H fun x H1 => tb σ H1 fun y H2 => r1 x y H2 fun z H3 => ∃ k, z = .bl k ∧
  (if k = true then tc σ H3 fun w H4 => r2 y w H4 fun z2 H5 => ∃ k2, z2 = .bl k2 ∧ (if k2 = true then td σ H5 fun w2 H6 => r3 w w2 H6 Q else Q (.bl false) H5) else Q (.bl false) H3)
theorem pe_chain3 {o1 o2 o3 : CmpOp} {r1 r2 r3 : R2} (h1 : OpR X (compareOp o1) r1) (h2 : OpR X (compareOp o2) r2) (h3 : OpR X (compareOp o3) r3) (ha : PE X a ta) (hb : PE X b tb) (hc : PE X c tc) (hd : PE X d td)
    (hm : lastMarks [o1, o2, o3] [b, c, d] = false := by with_unfolding_all rfl) : PE X (.Compare a [o1, o2, o3] [b, c, d] pos) (tChain3 r1 r2 r3 ta tb tc td) := by
  constructor
  intro pins s σ H Q I h
  refine Compare_chain (thn (ha.run pins s σ H _ I h) ?_) hm
  rintro v s1 ⟨x, H1, I1, e1, q1⟩
  refine chain_link (thn (hb.run pins s1 σ H1 _ I1 q1) ?_)
  rintro u s2 ⟨y, H2, I2, e2, q2⟩
  refine thn (h1 pins s2 σ H2 x y v u _ I2 e1 e2 q2) ?_
  rintro w1 s3 ⟨z, H3, I3, e3, k, rfl, q3⟩
  cases e3
  refine wpAny_truthy_bool ?_
  cases k with
  | false => exact ite_ff ⟨.bl false, H3, I3, rfl, q3⟩
  | true =>
    refine ite_tt (chain_link (thn (hc.run pins s3 σ H3 _ I3 q3) ?_))
    rintro w2 s4 ⟨y4, H4, I4, e4, q4⟩
    refine thn (h2 pins s4 σ H4 y y4 u w2 _ I4 e2 e4 q4) ?_
    rintro w3 s5 ⟨z5, H5, I5, e5, k5, rfl, q5⟩
    cases e5
    refine wpAny_truthy_bool ?_
    cases k5 with
    | false => exact ite_ff ⟨.bl false, H5, I5, rfl, q5⟩
    | true =>
      refine ite_tt (chain_last (thn (hd.run pins s5 σ H5 _ I5 q5) ?_))
      rintro w6 s6 ⟨y6, H6, I6, e6, q6⟩
      exact h3 pins s6 σ H6 y4 y6 w2 w6 Q I6 e4 e6 q6
end
/-! ### t[::-1] of a tuple -/
section
variable {prog : Program} {w : World} {A : Around} {E : Value → Shared → Prop} {s : Shared}
theorem getItem_tuple_back {t sl : Addr} {items : Array Value} {vl vu vs : Value} {Q : Value → Shared → Prop} (ht : IsTup s.heap t items) (hs : s.heap.IsSliceOf sl vl vu vs) (pl : IsPart vl none) (pu : IsPart vu none) (ps : IsPart vs (some (-1)))
    (h : Q (.ref s.heap.objs.size) { s with heap := s.heap.push { cls := .type "tuple", data := .seq items.toList.reverse.toArray } }) (hsz : items.size ≤ sizeLine) : wpAny (model prog w) A (getItem (.ref t) (.ref sl)) Q E s := by
  have ok : sizeOk (.seq items.toList.reverse.toArray) := by
    show items.toList.reverse.toArray.size ≤ sizeLine
    simpa using hsz
  obtain ⟨os, hos, hcs, hds⟩ := id hs
  have isSl : s.TypeIs (.ref sl) "slice" := ⟨os, hos, hcs⟩
  unfold getItem
  try with_reducible refine wpAny_holding ?_
  first | refine wpAny_bind (wpAny_pure ?_) | skip
  refine wpAny_bind (wpAny_sequenceKey ht.typeIs (by decide) ?_)
  refine wpAny_bind (wpAny_callSpecial?_slot (name := Str.ofString "__getitem__") ht.typeIs PyProof.Rows.slot_tuple_getitem (wpAny_call_entry PyProof.Rows.slot_tuple_getitem ht.typeIs entry_tuple_getitem ?_ (args_tuple_getitem _ _)))
  show wpAny _ _ (Builtin.Tuple.tupleItemsOf (.ref t) >>= _) _ _ s
  refine wpAny_bind (tupleItemsOf_ ht ?_)
  refine wpAny_bind (wpAny_typeOf isSl ?_)
  rw [if_pos (by decide)]
  refine wpAny_bind ?_
  unfold Builtin.Slice.sliceApplied Builtin.Slice.sliceFields
  refine wpAny_bind (wpAny_bind (wpAny_field hos hds (x := vl) rfl (wpAny_bind (wpAny_field hos hds (x := vu) rfl (wpAny_bind (wpAny_field hos hds (x := vs) rfl (wpAny_pure ?_)))))))
  refine wpAny_bind (HT.slicePart_ ps ?_)
  show wpAny _ _ (if ((-1 : Int) == 0) = true then _ else _) _ _ s
  rw [if_neg (by decide)]
  refine wpAny_bind (HT.slicePart_ pl (wpAny_bind (HT.slicePart_ pu (wpAny_bind (wpAny_pure ?_)))))
  have e1 : Builtin.Slice.sliceAdjust none none (-1) (items.size : Int) = ((items.size : Int) - 1, -1) := rfl
  have e2 : Builtin.Slice.slicePlaces ((items.size : Int) - 1) (-1) (-1) = items.size := by
    unfold Builtin.Slice.slicePlaces
    simp only [show ¬ ((-1 : Int) > 0) by decide, if_false, show (- -1 : Int) = 1 by decide, Int.ediv_one]
    split <;> omega
  show wpAny _ _ (match Builtin.Slice.sliceAdjust none none (-1) (items.size : Int) with | (lo, hi) => pure (lo, (-1 : Int), Builtin.Slice.slicePlaces lo hi (-1))) _ _ s
  rw [e1]
  show wpAny _ _ (pure ((items.size : Int) - 1, (-1 : Int), Builtin.Slice.slicePlaces ((items.size : Int) - 1) (-1) (-1))) _ _ s
  rw [e2]
  refine wpAny_pure ?_
  have no : ¬ ((((items.size : Int) - 1) == 0 && (-1 : Int) == 1 && items.size == items.size) = true) := by simp
  show wpAny _ _ (if (((items.size : Int) - 1) == 0 && (-1 : Int) == 1 && items.size == items.size) = true then _ else _) _ _ s
  rw [if_neg no]
  have pick : ((List.range items.size).filterMap fun (k : Nat) => items[(((items.size : Int) - 1) + (k : Int) * -1).toNat]?).toArray = items.toList.reverse.toArray := by
    rw [← PySem.W.krv_all items, ← List.filterMap_reverse, ← PySem.W.krv_range, List.filterMap_map]
    have cg : ∀ (l : List Nat), (∀ k ∈ l, k < items.size) → (l.filterMap fun (k : Nat) => items[(((items.size : Int) - 1) + (k : Int) * -1).toNat]?) = l.filterMap ((fun k => items[k]?) ∘ fun k => items.size - 1 - k) := by
      intro l
      induction l with
      | nil => intro _; rfl
      | cons k l ih =>
        intro hl
        have e : (((items.size : Int) - 1) + (k : Int) * -1).toNat = items.size - 1 - k := by
          have := hl k List.mem_cons_self
          omega
        rw [List.filterMap_cons, List.filterMap_cons, ih fun j hj => hl j (List.mem_cons_of_mem _ hj), e]
        rfl
    rw [cg _ fun k hk => List.mem_range.mp hk]
  rw [pick]
  first
    | exact wpAny_bind (m := Builtin.Tuple.tupleExact _) (wpAny_newObj_type (wpAny_pure ⟨_, rfl, wpAny_pure h⟩) ok)
    | exact wpAny_bind (m := Builtin.Tuple.tupleExact _) (wpAny_newObj_type (wpAny_bind (wpAny_pure (wpAny_pure ⟨_, rfl, wpAny_pure h⟩))) ok)
    | exact wpAny_bind (wpAny_bind (m := Builtin.Tuple.tupleExact _) (wpAny_newObj_type (wpAny_pure (wpAny_pure ⟨_, rfl, wpAny_pure h⟩)) ok))
    | exact wpAny_bind (wpAny_bind (m := Builtin.Tuple.tupleExact _) (wpAny_newObj_type (wpAny_pure ⟨_, rfl, wpAny_pure h⟩) ok))
end
section
variable {X : Cx}
def tRevT (K : PySem.W.Frag) (te : TE) : TE := fun σ H Q => te σ H fun x H1 => ∃ a xs, x = .ref a ∧ SqT K H1 a xs ∧ ∀ p, H1 p = none → Q (.ref p) (upd H1 p (.tup xs.reverse))
theorem pe_revT {e : Expr} {te : TE} {k : Nat} {p1 p2 p3 pos : Pos} (he : PE X e te) : PE X (.Subscript e (.Slice none none (some (.UnaryOp .USub (.Constant (.int 1) k p1) p2)) p3) pos) (tRevT X.K te) := by
  constructor
  intro pins s σ H Q I h
  refine Subscript_ (thn (he.run pins s σ H _ I h) ?_)
  rintro v s1 ⟨x, H1, I1, r1, a, xs, rfl, hx, q⟩
  cases r1
  have step : PO X (some (.UnaryOp .USub (.Constant (.int 1) k p1) p2)) (tPart (tUn (rU fun i => .int (-i)) (tC (.int 1)))) := po_some (pe_un un_neg pe_int)
  refine wpAny_Slice (thn (po_none.run pins s1 σ H1 (fun o H2 => o = none ∧ H2 = H1) I1 ⟨rfl, rfl⟩) ?_)
  rintro vl s2 ⟨l, H2, I2, pl, rfl, rfl⟩
  refine thn (po_none.run pins s2 σ H2 (fun o H3 => o = none ∧ H3 = H2) I2 ⟨rfl, rfl⟩) ?_
  rintro vu s3 ⟨u, H3, I3, pu, rfl, rfl⟩
  refine thn (step.run pins s3 σ H3 (fun o H4 => o = some (-1) ∧ H4 = H3) I3 ⟨1, rfl, -1, rfl, rfl, rfl⟩) ?_
  rintro vs s4 ⟨o, H4, I4, ps, rfl, rfl⟩
  have I5 : Inv X pins σ H4 { s4 with heap := s4.heap.push { cls := .type "slice", data := .fields #[vl, vu, vs] } } := I4.kept (t' := s4.toks) fun b ob q => Heap.get?_push_of_some _ q
  obtain ⟨its, r, ht, hz⟩ := I5.tuple hx
  have hlen := r.length
  show wpAny (model X.prog X.w) X.A (subscriptTail e (.Slice none none (some (.UnaryOp .USub (.Constant (.int 1) k p1) p2)) p3) (.ref a) (.ref s4.heap.objs.size)) _ _ _
  refine tail_any (ops := [.ref a, .ref s4.heap.objs.size]) ht.typeIs PyProof.Rows.slot_tuple_getitem.lookup ?_ (by with_unfolding_all rfl)
  refine getItem_tuple_back ht (Heap.IsSliceOf.new _ vl vu vs) pl pu ps ?_ (by rw [List.size_toArray]; omega)
  refine ⟨.ref _, _, I5.laid (t' := s4.toks) (o := .tup xs.reverse) (fun b ob q => Heap.get?_push_of_some _ q) (Nat.le_refl _) ?_, rfl, q _ (I5.hok.fresh (Nat.le_refl _))⟩
  exact ⟨by rw [List.length_reverse]; exact hz, its.reverse, r.reverse, IsTup.new _ _⟩
end
/-! ### enumerate of a tuple -/
section
set_option maxHeartbeats 1000000 in
theorem meets_enum_tup (t : Addr) (o : Obj) (items : Array Value) (n : Nat) (dd : Option Addr) (sl : Array (Option Value)) :
    Meets (Builtin.«enumerate.__new__» ⟨[.type "enumerate", .ref t], []⟩) (fun _ R s => s.heap.get? t = some { cls := .type "tuple", dict := dd, data := .seq items n, slots := sl } ∧
      R (.ok (.ret (.ref (s.heap.push { cls := .type "tuple_iterator", data := .fields #[.ref t, .int 0 0] }).objs.size)))
        { s with heap := (s.heap.push { cls := .type "tuple_iterator", data := .fields #[.ref t, .int 0 0] }).push { cls := .type "enumerate", data := .fields #[.none, .bool false, .ref s.heap.objs.size, rawInt 0, .none, .none] } }) :=
  .of_wp fun prog w A R s h => by
    obtain ⟨hp, g, d, tk, os⟩ := s
    obtain ⟨hl, h⟩ := h
    have hsub := sub_enumerate
    have hT : Heap.IsTuple (Shared.heap ⟨hp, g, d, tk, os⟩) t items := ⟨_, hl, rfl, n, rfl⟩
    have q1 : ∀ {A' : Around} {E : Value → Shared → Prop} {Q : Value → Shared → Prop}, Q (.ref hp.objs.size) ⟨hp.push { cls := .type "tuple_iterator", data := .fields #[.ref t, .int 0 0] }, g, d, tk, os⟩ → wpAny (model prog w) A' (pyIter (.ref t)) Q E ⟨hp, g, d, tk, os⟩ :=
      fun q => wpAny_pyIter_tuple hT q
    wp_walk using q1
    refine wpAny_stack_any fun st => wpAny_pure ?_
    split
    · rename_i c _ _ _ _ _
      cases (c == Value.type "enumerate") <;> (wp_walk using q1; exact ⟨_, rfl, h⟩)
    · wp_walk using q1
      exact ⟨_, rfl, h⟩
variable {prog : Program} {w : World} {A : Around} {E : Value → Shared → Prop} {s : Shared}
theorem call_enum_tup {t : Addr} {items : Array Value} {Q : Value → Shared → Prop} (hT : s.heap.IsTuple t items)
    (h : ∀ h', IsEnum h' (s.heap.objs.size + 1) s.heap.objs.size 0 .none → h'.IsTupleIter s.heap.objs.size t 0 → (∀ b o, s.heap.get? b = some o → h'.get? b = some o) → Q (.ref (s.heap.objs.size + 1)) { s with heap := h' }) :
    wpAny (model prog w) A (call (.type "enumerate") [.ref t]) Q E s := by
  obtain ⟨⟨c, dd, dt, sl⟩, hl, hc, n, hd⟩ := hT
  have hc' : c = .type "tuple" := hc
  have hd' : dt = .seq items n := hd
  subst hc' hd'
  refine callType_new F.called_enumerate (by decide) (F.typeCall_enumerate_1 _) (F.newCall_enumerate_1 _) (fun obj => F.args_object_init_2 obj _) F.entry_enumerate_new (meets_enum_tup t default items n dd sl) ⟨hl, ?_⟩
  have hz : (s.heap.push { cls := .type "tuple_iterator", data := .fields #[.ref t, .int 0 0] }).objs.size = s.heap.objs.size + 1 := Heap.size_push ..
  show _ ∧ _
  rw [hz]
  have he : IsEnum ((s.heap.push { cls := .type "tuple_iterator", data := .fields #[.ref t, .int 0 0] }).push { cls := .type "enumerate", data := .fields #[.none, .bool false, .ref s.heap.objs.size, rawInt 0, .none, .none] }) (s.heap.objs.size + 1) s.heap.objs.size 0 .none := by
    have q := Heap.get?_push_size (s.heap.push { cls := .type "tuple_iterator", data := .fields #[.ref t, .int 0 0] }) (o := { cls := .type "enumerate", data := .fields #[.none, .bool false, .ref s.heap.objs.size, rawInt 0, .none, .none] }) rfl
    rw [hz] at q
    exact q
  exact ⟨⟨_, he, rfl⟩, h _ he ⟨_, Heap.get?_push_of_some _ (Heap.get?_push_size _ rfl), rfl, rfl⟩ fun b o x => Heap.get?_push_of_some _ (Heap.get?_push_of_some _ x)⟩
end
/-- the tuple at a, each item in a new pair with its number -/
def Iet (K : PySem.W.Frag) (a : Addr) : It :=
  ⟨fun i H => ∃ (xs : List V) (x : V), SqT K H a xs ∧ xs[i]? = some x, fun i H v H' => ∃ T x, v = .ref T ∧ H T = none ∧ H' = upd H T (.tup [.int (i : Nat), x]) ∧ ∀ xs, SqT K H a xs → xs[i]? = some x, fun i H => ∃ xs : List V, SqT K H a xs ∧ xs.length ≤ i⟩
theorem turn_enumT {P : Program} {w : World} {K : PySem.W.Frag} {elts : List Expr} {kk : Nat} {tpos : Pos} (a e it : Addr) :
    Turn P w K (.Tuple elts kk tpos) (Iet K a) [e, it] e (fun i h => (∃ old, IsEnum h e it ((i : Nat) : Int) old) ∧ h.IsTupleIter it a i ∧ e ≠ it) where
  mem := by simp
  obj := by
    rintro i h ⟨⟨old, he⟩, ⟨o, ho, hc, hd⟩, _⟩ b hb
    have e' : b = e ∨ b = it := by simpa using hb
    cases e' with
    | inl z => rw [z]; exact ⟨_, he, fun v q => nomatch q⟩
    | inr z => rw [z]; exact ⟨o, ho, fun v q => by rw [hd] at q; cases q⟩
  keep := by
    rintro i h h' ⟨⟨old, he⟩, hi, hne⟩ k
    exact ⟨⟨old, k e (by simp) _ he⟩, hi.at fun o q => k it (by simp) o q, hne⟩
  item := by
    intro X hP hw hK hc i pins s σ H E I hf st hg
    subst hP hw hK
    obtain ⟨⟨old, he⟩, hit, hne⟩ := st
    obtain ⟨xs, x, hq, hx⟩ := hg
    obtain ⟨its, rv, p, hz⟩ := I.tuple hq
    obtain ⟨u, hu, ru⟩ := rv.get hx
    have hel : e < s.heap.objs.size := Heap.lt_size he
    have hil : it < s.heap.objs.size := by obtain ⟨_, q, _⟩ := hit; exact Heap.lt_size q
    have hai : a ≠ it := by
      rintro rfl
      obtain ⟨o1, g1, c1, _⟩ := hit
      obtain ⟨o2, g2, c2, _⟩ := p
      rw [g1] at g2
      cases g2
      rw [c1] at c2
      exact absurd c2 (by simp)
    have hae : a ≠ e := by
      rintro rfl
      obtain ⟨o2, g2, c2, _⟩ := p
      have g1 : s.heap.get? a = some _ := he
      rw [g1] at g2
      cases g2
      exact absurd c2 (by simp)
    have hu' : its.toArray[i]? = some u := by simpa using hu
    have hlt : i < its.toArray.size := (Array.getElem?_eq_some_iff.mp hu').1
    refine wpAny_pyNext_enum_itemD (Draws.tuple (A := X.A.in1) (prog := X.prog) (w := X.w) (I.ok.hd hc) it a hai its.toArray) he ⟨hit, p⟩ hlt hne (by simp [hne, hae.symm]) ?_
    intro y h' tk hy ho st' hT hsz hk
    have ey : y = u := Option.some.inj ((show its.toArray[i]? = some y from hy).symm.trans hu')
    subst ey
    refine ⟨_, rfl, wpAny_letOwnedTupleGo_enum (s := { s with heap := h', toks := tk + 1 }) ho ?_⟩
    intro h'' he' sb
    have hT2 : h''.get? s.heap.objs.size = some { cls := .type "tuple", data := .seq #[.int i tk, y] } := (sb.2 _ (Nat.ne_of_gt hel)).trans hT
    have new : ObjOk X.prog X.w (upd H s.heap.objs.size (.tup [.int (i : Nat), x])) h'' s.heap.objs.size (.tup [.int (i : Nat), x]) := ⟨by show 2 ≤ sizeLine; decide, [.int i tk, y], .cons ⟨_, rfl⟩ (.cons ru .nil), ⟨_, hT2, rfl, _, rfl⟩⟩
    have old2 : ∀ b ob, b ∉ [e, it] → s.heap.get? b = some ob → h''.get? b = some ob := fun b ob hb q => (sb.2 b (fun z => hb (by simp [z]))).trans (hk b ob (fun z => hb (by simp [z])) (fun z => hb (by simp [z])) q)
    have I1 : Inv X pins σ (upd H s.heap.objs.size (.tup [.int (i : Nat), x])) { s with heap := h'', toks := tk + 1 } := I.turnedNew (ch := [e, it]) old2 hf (Nat.le_refl _) new
    refine ⟨.ref s.heap.objs.size, _, I1, rfl, ⟨_, x, rfl, I.hok.fresh (Nat.le_refl _), rfl, fun ys hy => by rw [I.tuple_inj hy hq]; exact hx⟩, ⟨⟨y, ?_⟩, st'.1.at fun o q => (sb.2 it (Ne.symm hne)).trans q, hne⟩, ?_⟩
    · have e1 : ((i + 1 : Nat) : Int) = (i : Int) + 1 := by omega
      rw [e1]
      exact he'
    · intro b hb
      have hb' : b < s.heap.objs.size := by
        have e' : b = e ∨ b = it := by simpa using hb
        cases e' with
        | inl z => rw [z]; exact hel
        | inr z => rw [z]; exact hil
      rw [upd_ne (Nat.ne_of_lt hb')]
      exact (hf b hb).1
  done := by
    intro X hP hw hK hc i pins s σ H E I hf st hg
    subst hP hw hK
    obtain ⟨⟨old, he⟩, hit, hne⟩ := st
    obtain ⟨xs, hq, hx⟩ := hg
    obtain ⟨its, rv, p, hz⟩ := I.tuple hq
    obtain ⟨f0, f1, f2, f3, f4, f5⟩ := hf it (by simp)
    have hl := rv.length
    have isE : s.TypeIs (.ref e) "enumerate" := ⟨_, he, rfl⟩
    unfold pyNext
    refine wpAny_bind (wpAny_attempt (wpAny_callSpecial?_slot (name := Str.ofString "__next__") isE F.slot_enumerate_next (wpAny_call_entry F.slot_enumerate_next isE F.entry_enumerate_next ?_ (F.args_enumerate_next_1 _))))
    show wpAny _ _ (field (.ref e) 2 >>= _) _ _ _
    refine wpAny_bind (wpAny_field he rfl (x := .ref it) rfl ?_)
    refine wpAny_bind (wpAny_nextOf_tuple_end (I.ok.hd hc) hit p (by simp; omega) ?_)
    rintro h' x eb ⟨o, ho, hcl⟩
    refine wpAny_bind (wpAny_isInstance (T := "StopIteration") (b := true) ⟨o, ho, hcl⟩ isSubtype_stop ?_)
    exact wpAny_pure ⟨rfl, I.turned (t' := s.toks) (fun b o hb q => eb b o hb q) f0 f1 f3 f4 f5⟩
  self := by
    rintro A i s Q E ⟨⟨_, he⟩, _⟩ h
    exact wpAny_pyIter_enum he h
def iEnumT (K : PySem.W.Frag) (ta : TA) : TI := fun σ H R => ta σ H fun vs H1 => ∃ a xs, vs = [.ref a] ∧ SqT K H1 a xs ∧ R (Iet K a) H1
theorem pi_enumT {X : Cx} {e : Expr} {ta : TA} {p pos tpos : Pos} {elts : List Expr} {kk : Nat} (hg : Gl X "enumerate") (hm : X.mg "enumerate" = none) (ha : PA X [e] ta) (hs : starEach [e] X.env = [(false, eval e X.env)] := by rfl) :
    PI X (.Tuple elts kk tpos) (.Call (.Name "enumerate" p) [e] [] pos) (iEnumT X.K ta) := by
  constructor
  intro pins s σ H R I h
  refine Call_ (ld_blt I hg hm boot_enumerate (PyProof.Rows.callWith_type1 (thn (ha.run pos pins s σ H _ I h) ?_) hs rfl))
  rintro us s1 ⟨vs, H1, I1, r1, a, xs, rfl, hq, q⟩
  obtain ⟨u, rfl, ru⟩ := vals1 r1
  cases ru
  obtain ⟨its, rv, p', hz⟩ := I1.tuple hq
  refine call_enum_tup p' ?_
  intro h' he hit hk
  refine wpAny_pyIter_enum he ?_
  have I2 : Inv X pins σ H1 { s1 with heap := h' } := I1.kept (t' := s1.toks) hk
  refine ⟨s1.heap.objs.size + 1, [s1.heap.objs.size + 1, s1.heap.objs.size], _, _, H1, rfl, I2, turn_enumT a (s1.heap.objs.size + 1) s1.heap.objs.size, ⟨⟨.none, he⟩, hit, Nat.succ_ne_self _⟩, ?_, q⟩
  intro b hb
  have hb' : b = s1.heap.objs.size + 1 ∨ b = s1.heap.objs.size := by simpa using hb
  have hle : s1.heap.objs.size ≤ b := hb'.elim (fun z => by rw [z]; exact Nat.le_succ _) (fun z => by rw [z]; exact Nat.le_refl _)
  exact I1.fpOk hle (I1.hok.fresh hle)
/-- its walk: a new pair each turn -/
def YNum (xs : List V) : Nat → Hp → V → Hp → Prop := fun i H v H' => ∃ T x, v = .ref T ∧ H T = none ∧ H' = upd H T (.tup [.int (i : Nat), x]) ∧ xs[i]? = some x
theorem walk_enumT {K : PySem.W.Frag} {a : Addr} {xs : List V} : Walk (Iet K a) xs.length (fun H => SqT K H a xs) (YNum xs) :=
  ⟨fun i H hi h => ⟨xs, xs[i], h, by simp [hi]⟩, fun H h => ⟨xs, h, Nat.le_refl _⟩, fun i H x H' _ h y => by obtain ⟨T, z, e1, e2, e3, e4⟩ := y; exact ⟨T, z, e1, e2, e3, e4 xs h⟩⟩
theorem walk_enumL {K : PySem.W.Frag} {a : Addr} {xs : List V} : Walk (Ite K a) xs.length (fun H => SqL K H a xs) (YNum xs) :=
  ⟨fun i H hi h => ⟨xs, xs[i], h, by simp [hi]⟩, fun H h => ⟨xs, h, Nat.le_refl _⟩, fun i H x H' _ h y => by obtain ⟨T, z, e1, e2, e3, e4⟩ := y; exact ⟨T, z, e1, e2, e3, e4 xs h⟩⟩
end Lm

namespace Lm
open PySem PySem.Spec PyProof.Rows L2
/-! ### a def of the text, at hand -/
structure Def (K : PySem.W.Frag) (mg : Str → Option Value) (x : Str) (st : Stmt) (ps : List Str) (f : Addr) (fd : FuncData) : Prop where
  F : Fun K x x st f fd
  g : mg x = some (.ref f)
  b : Binds K fd ps []
/-! ### the pot -/

open Classical in
noncomputable def hid (Z : Hp) (p dl : Addr) (H : Hp) : Hp := fun b => if b = p ∨ b = dl ∨ Z b ≠ none then none else H b
theorem hid_at {Z : Hp} {p dl b : Addr} {H : Hp} (h1 : b ≠ p) (h2 : b ≠ dl ∧ Z b = none) : hid Z p dl H b = H b := if_neg (fun z => z.elim h1 (fun z => z.elim h2.1 (fun q => q h2.2)))
theorem hid_same {Z : Hp} (p dl : Addr) (H : Hp) : Same (hid Z p dl H) H := by
  intro b o e
  unfold hid at e
  split at e
  · cases e
  · exact e
theorem hid_some {Z : Hp} {p dl b : Addr} {H : Hp} {o : HO} (e : hid Z p dl H b = some o) : b ≠ p ∧ (b ≠ dl ∧ Z b = none) := by
  unfold hid at e
  split at e
  · cases e
  · rename_i z
    exact ⟨fun q => z (.inl q), fun q => z (.inr (.inl q)), Classical.byContradiction fun q => z (.inr (.inr q))⟩
/-- all but the pot's own two is as it was -/
def Kp (Z : Hp) (p dl : Addr) (H H' : Hp) : Prop := Same (hid Z p dl H) (hid Z p dl H')
theorem Kp.refl {Z : Hp} (p dl : Addr) (H : Hp) : Kp Z p dl H H := Same.refl _
theorem Kp.trans {Z : Hp} {p dl : Addr} {H H1 H2 : Hp} (a : Kp Z p dl H H1) (b : Kp Z p dl H1 H2) : Kp Z p dl H H2 := Same.trans a b
theorem Kp.of {Z : Hp} {p dl : Addr} {H H' : Hp} (s : Same H H') : Kp Z p dl H H' := by
  intro b o e
  have n := hid_some e
  rw [hid_at n.1 n.2] at e ⊢
  exact s b o e
theorem same_new {H : Hp} {q : Addr} {o : HO} (h : H q = none) : Same H (upd H q o) := fun b x e => by
  rw [upd_ne (ne_of_none e h)]
  exact e
theorem Kp.new {Z : Hp} {p dl q : Addr} {H : Hp} {o : HO} (h : H q = none) : Kp Z p dl H (upd H q o) := Kp.of (same_new h)
/-- the pot stands at p -/
structure PotAt (Z : Hp) (H : Hp) (p dl al : Addr) : Prop where
  ob : ∃ t : Int, H p = some (.dK [(.inr "deep", .ref dl), (.inr "all", .ref al), (.inr "times", .int t)])
  de : ∃ ns : List Int, H dl = some (.lst (ns.map V.int)) ∧ ns.length ≤ 64
  li : ∃ ns : List Int, H al = some (.lst (ns.map V.int)) ∧ ns ≠ [] ∧ ns.length ≤ 64
  ne : al ≠ dl
  zz : Same Z H
  zp : Z p = none
  zd : Z dl = none
theorem PotAt.pd {H : Hp} {Z : Hp} {p dl al : Addr} (h : PotAt Z H p dl al) : p ≠ dl := by
  obtain ⟨t, e⟩ := h.ob
  obtain ⟨ns, e2, _⟩ := h.de
  exact ne_of e e2 (fun z => nomatch z)
theorem PotAt.pa {H : Hp} {Z : Hp} {p dl al : Addr} (h : PotAt Z H p dl al) : al ≠ p := by
  obtain ⟨t, e⟩ := h.ob
  obtain ⟨ns, e2, _⟩ := h.li
  exact ne_of e2 e (fun z => nomatch z)
theorem PotAt.keep {H H' : Hp} {Z : Hp} {p dl al : Addr} (h : PotAt Z H p dl al) (s : Same H H') : PotAt Z H' p dl al :=
  ⟨let ⟨t, e⟩ := h.ob; ⟨t, s _ _ e⟩, let ⟨ns, e, l⟩ := h.de; ⟨ns, s _ _ e, l⟩, let ⟨ns, e, l⟩ := h.li; ⟨ns, s _ _ e, l⟩, h.ne, h.zz.trans s, h.zp, h.zd⟩
theorem PotAt.new {H : Hp} {Z : Hp} {p dl al q : Addr} {o : HO} (h : PotAt Z H p dl al) (n : H q = none) : PotAt Z (upd H q o) p dl al := h.keep (same_new n)
theorem PotAt.free {H : Hp} {Z : Hp} {p dl al q : Addr} (h : PotAt Z H p dl al) (n : H q = none) : q ≠ p ∧ (q ≠ dl ∧ Z q = none) := by
  obtain ⟨t, e⟩ := h.ob
  obtain ⟨ns, e2, _⟩ := h.de
  exact ⟨(ne_of_none e n).symm, (ne_of_none e2 n).symm, by
    cases e3 : Z q with
    | none => rfl
    | some o => rw [h.zz _ _ e3] at n; cases n⟩
theorem zz_upd {Z : Hp} {H : Hp} {f : Addr} {o : HO} (h : Same Z H) (n : Z f = none) : Same Z (upd H f o) := fun b x e => by
  rw [upd_ne (ne_of_none e n)]
  exact h b x e
def sp_draw : Sp := fun vs H Q _ => ∃ (Z : Hp) (p dl al : Addr) (n : Int), vs = [.ref p, .int n] ∧ PotAt Z H p dl al ∧ 0 < n ∧ n < 1073741824 ∧
  ∀ (r : Int) (H' : Hp), PotAt Z H' p dl al → Kp Z p dl H H' → 0 ≤ r → r < n → Q (.int r) H'
/-! ### xs == [], xs != [] -/
def rEqE (K : PySem.W.Frag) : R2 := fun x y H Q => ∃ a b xs, x = .ref a ∧ y = .ref b ∧ SqL K H a xs ∧ SqL K H b [] ∧ Q (.bl xs.isEmpty) H
def rNeE (K : PySem.W.Frag) : R2 := fun x y H Q => ∃ a b xs, x = .ref a ∧ y = .ref b ∧ SqL K H a xs ∧ SqL K H b [] ∧ Q (.bl (!xs.isEmpty)) H
section
variable {X : Cx}
theorem op_eqE (hu : X.A.units < cLine) : OpR X (compareOp .Eq) (rEqE X.K) := by
  rintro pins s σ H x y v u Q I rx ry ⟨a, b, xs, rfl, rfl, ha, hb, q⟩
  cases rx
  cases ry
  obtain ⟨i1, r1, p1, _⟩ := I.list ha
  obtain ⟨i2, r2, p2, _⟩ := I.list hb
  cases r2
  cases i1 with
  | nil =>
    cases r1
    exact SeqAt.RcAt.lists (e := fun _ => true) p1.isList p2.isList rfl hu (fun j h1 _ => absurd h1 (by simp)) _ _ _ _ ⟨.bl true, H, I, rfl, q⟩
  | cons z zs =>
    cases r1
    exact SeqAt.RcAt.lists_lengths p1.isList p2.isList (by simp) hu _ _ _ _ ⟨.bl false, H, I, rfl, q⟩
theorem op_neE (hu : X.A.units < cLine) : OpR X (compareOp .NotEq) (rNeE X.K) := by
  rintro pins s σ H x y v u Q I rx ry ⟨a, b, xs, rfl, rfl, ha, hb, q⟩
  cases rx
  cases ry
  obtain ⟨i1, r1, p1, _⟩ := I.list ha
  obtain ⟨i2, r2, p2, _⟩ := I.list hb
  cases r2
  cases i1 with
  | nil =>
    cases r1
    exact SeqAt.RcNeAt.lists (e := fun _ => true) p1.isList p2.isList rfl hu (fun j h1 _ => absurd h1 (by simp)) _ _ _ _ ⟨.bl false, H, I, rfl, q⟩
  | cons z zs =>
    cases r1
    exact SeqAt.RcNeAt.lists_lengths p1.isList p2.isList (by simp) hu _ _ _ _ ⟨.bl true, H, I, rfl, q⟩
end
theorem fmodB {a b : Int} (h : 0 < b) : 0 ≤ a.fmod b ∧ a.fmod b < b := ⟨Int.fmod_nonneg_of_pos a h, Int.fmod_lt_of_pos a h⟩
theorem seq0 {n : Nat} (h : 0 < n) : seqIndex? 0 n = some 0 := by
  unfold seqIndex?
  first
    | (simp [h]; done)
    | (simp; omega)
end Lm

namespace Lm
open PySem PySem.Spec PyProof.Rows L2
/-! ### what an expression gives while the pot stands: R of its value and of the heap without the pot -/
abbrev VR := V → Hp → Prop
abbrev LR := List V → Hp → Prop
def Mo (R : VR) : Prop := ∀ v G G', Same G G' → R v G → R v G'
def MoL (R : LR) : Prop := ∀ v G G', Same G G' → R v G → R v G'
def Ev (Z : Hp) (p dl al : Addr) (H0 : Hp) (σ : L2.St) (te : TE) (R : VR) : Prop :=
  ∀ (H : Hp) (Q : VK), PotAt Z H p dl al → Kp Z p dl H0 H → (∀ v H', PotAt Z H' p dl al → Kp Z p dl H H' → R v (hid Z p dl H') → Q v H') → te σ H Q
def EvA (Z : Hp) (p dl al : Addr) (H0 : Hp) (σ : L2.St) (ta : TA) (R : LR) : Prop :=
  ∀ (H : Hp) (Q : List V → Hp → Prop), PotAt Z H p dl al → Kp Z p dl H0 H → (∀ v H', PotAt Z H' p dl al → Kp Z p dl H H' → R v (hid Z p dl H') → Q v H') → ta σ H Q
section
variable {K : PySem.W.Frag} {Z : Hp} {p dl al : Addr} {H0 : Hp} {σ : L2.St} {te ta tb : TE} {tl : TA} {R R' R1 R2 : VR} {Rs Rt : LR}
theorem Ev.imp (h : Ev Z p dl al H0 σ te R) (i : ∀ v G, R v G → R' v G) : Ev Z p dl al H0 σ te R' := fun H Q P k q => h H Q P k fun v H' P' k' r => q v H' P' k' (i _ _ r)
theorem EvA.imp (h : EvA Z p dl al H0 σ tl Rs) (i : ∀ v G, Rs v G → Rt v G) : EvA Z p dl al H0 σ tl Rt := fun H Q P k q => h H Q P k fun v H' P' k' r => q v H' P' k' (i _ _ r)
theorem ev_c {v : V} : Ev Z p dl al H0 σ (tC v) (fun u _ => u = v) := fun H Q P k q => q v H P (Kp.refl _ _ _) rfl
theorem ev_var {i : Nat} {v : V} (e : σ[i]? = some (some v)) (m : Mo R) (h : R v (hid Z p dl H0)) : Ev Z p dl al H0 σ (tVar i) R := fun H Q P k q => ⟨v, e, q v H P (Kp.refl _ _ _) (m _ _ _ k h)⟩
theorem eva_nil : EvA Z p dl al H0 σ tNil (fun vs _ => vs = []) := fun H Q P k q => q [] H P (Kp.refl _ _ _) rfl
theorem eva_cons (m : Mo R) (h1 : Ev Z p dl al H0 σ te R) (h2 : EvA Z p dl al H0 σ tl Rs) : EvA Z p dl al H0 σ (tCons te tl) (fun vs G => ∃ v r, vs = v :: r ∧ R v G ∧ Rs r G) :=
  fun H Q P k q => h1 H _ P k fun v H1 P1 k1 r1 => h2 H1 _ P1 (k.trans k1) fun vs H2 P2 k2 r2 => q _ H2 P2 (k1.trans k2) ⟨v, vs, rfl, m _ _ _ k2 r1, r2⟩
/-! ### lists of alternatives, all of which have R -/
def AllR (m n : Nat) (R : VR) : LR := fun vs G => m ≤ vs.length ∧ vs.length ≤ n ∧ ∀ v ∈ vs, R v G
theorem eall_nil : EvA Z p dl al H0 σ tNil (AllR 0 0 R) := fun H Q P k q => q [] H P (Kp.refl _ _ _) ⟨Nat.le_refl _, Nat.le_refl _, fun v h => nomatch h⟩
theorem eall_cons {a b : Nat} (m : Mo R) (h1 : Ev Z p dl al H0 σ te R) (h2 : EvA Z p dl al H0 σ tl (AllR a b R)) : EvA Z p dl al H0 σ (tCons te tl) (AllR (a + 1) (b + 1) R) :=
  (eva_cons m h1 h2).imp fun vs G h => by
    obtain ⟨v, r, rfl, hv, h1, h2, h3⟩ := h
    refine ⟨Nat.succ_le_succ h1, Nat.succ_le_succ h2, fun x hx => ?_⟩
    rcases List.mem_cons.mp hx with e | e
    · rw [e]; exact hv
    · exact h3 x e
theorem AllR.mo {m n : Nat} (h : Mo R) : MoL (AllR m n R) := fun vs G G' s ⟨h1, h2, h3⟩ => ⟨h1, h2, fun v hv => h v _ _ s (h3 v hv)⟩
/-- a list, a tuple of things that have R -/
def LsR (m n : Nat) (R : VR) : VR := fun v G => ∃ a xs, v = .ref a ∧ G a = some (.lst xs) ∧ AllR m n R xs G
def TpR (K : PySem.W.Frag) (m n : Nat) (R : VR) : VR := fun v G => ∃ a xs, v = .ref a ∧ SqT K G a xs ∧ AllR m n R xs G
theorem LsR.mo {m n : Nat} (h : Mo R) : Mo (LsR m n R) := fun v G G' s ⟨a, xs, e, g, r⟩ => ⟨a, xs, e, s _ _ g, AllR.mo h _ _ _ s r⟩
theorem TpR.mo {m n : Nat} (h : Mo R) : Mo (TpR K m n R) := fun v G G' s ⟨a, xs, e, g, r⟩ => ⟨a, xs, e, Same.seqT s g, AllR.mo h _ _ _ s r⟩
theorem hid_new {H : Hp} {q : Addr} {o : HO} (P : PotAt Z H p dl al) (n : H q = none) : hid Z p dl (upd H q o) q = some o := by
  have f := P.free n
  rw [hid_at f.1 f.2, upd_same]
theorem hid_upd {H : Hp} {q : Addr} {o : HO} (h1 : q ≠ p) (h2 : q ≠ dl ∧ Z q = none) : hid Z p dl (upd H q o) q = some o := by rw [hid_at h1 h2, upd_same]
/-- a new thing that is not the pot's -/
theorem laid {H : Hp} {q : Addr} {o : HO} (P : PotAt Z H p dl al) (n : H q = none) : PotAt Z (upd H q o) p dl al ∧ Kp Z p dl H (upd H q o) ∧ hid Z p dl (upd H q o) q = some o := ⟨P.new n, Kp.new n, hid_new P n⟩
theorem ev_tup (h : EvA Z p dl al H0 σ tl Rs) (hl : ∀ vs G, Rs vs G → vs.length ≤ sizeLine) (m : MoL Rs) : Ev Z p dl al H0 σ (tTup tl) (fun v G => ∃ a xs, v = .ref a ∧ G a = some (.tup xs) ∧ Rs xs G) :=
  fun H Q P k q => h H _ P k fun vs H1 P1 k1 r1 => ⟨hl _ _ r1, fun t nt => by
    obtain ⟨P2, k2, e2⟩ := laid (o := .tup vs) P1 nt
    exact q _ _ P2 (k1.trans k2) ⟨t, vs, rfl, e2, m _ _ _ k2 r1⟩⟩
theorem ev_lst {m n : Nat} (hn : n ≤ 1000) (hm : Mo R) (h : EvA Z p dl al H0 σ tl (AllR m n R)) : Ev Z p dl al H0 σ (tLst tl) (LsR m n R) :=
  fun H Q P k q => h H _ P k fun vs H1 P1 k1 r1 => ⟨Nat.le_of_lt (small1000 (Nat.le_trans r1.2.1 hn)), fun t nt => by
    obtain ⟨P2, k2, e2⟩ := laid (o := .lst vs) P1 nt
    exact q _ _ P2 (k1.trans k2) ⟨t, vs, rfl, e2, AllR.mo hm _ _ _ k2 r1⟩⟩
theorem ev_tupR {m n : Nat} (hn : n ≤ 1000) (hm : Mo R) (h : EvA Z p dl al H0 σ tl (AllR m n R)) : Ev Z p dl al H0 σ (tTup tl) (TpR K m n R) :=
  (ev_tup h (fun vs G r => Nat.le_of_lt (small1000 (Nat.le_trans r.2.1 hn))) (AllR.mo hm)).imp fun v G ⟨a, xs, e, g, r⟩ => ⟨a, xs, e, .inl (.inl g), r⟩
theorem ev_cat {a b c d : Nat} (hn : b + d ≤ 1000) (hm : Mo R) (h1 : Ev Z p dl al H0 σ ta (LsR a b R)) (h2 : Ev Z p dl al H0 σ tb (LsR c d R)) : Ev Z p dl al H0 σ (tOp rCat ta tb) (LsR (a + c) (b + d) R) :=
  fun H Q P k q => h1 H _ P k fun x H1 P1 k1 r1 => h2 H1 _ P1 (k.trans k1) fun y H2 P2 k2 r2 => by
    obtain ⟨l, xs, rfl, g1, a1, a2, a3⟩ := LsR.mo hm _ _ _ k2 r1
    obtain ⟨l2, ys, rfl, g2, b1, b2, b3⟩ := r2
    refine ⟨l, l2, xs, ys, rfl, rfl, hid_same _ _ _ _ _ g1, hid_same _ _ _ _ _ g2, Nat.le_of_lt (small1000 (by omega)), fun t nt => ?_⟩
    obtain ⟨P3, k3, e3⟩ := laid (o := .lst (xs ++ ys)) P2 nt
    refine q _ _ P3 ((k1.trans k2).trans k3) ⟨t, _, rfl, e3, by rw [List.length_append]; omega, by rw [List.length_append]; omega, fun v hv => ?_⟩
    rcases List.mem_append.mp hv with e | e
    · exact hm _ _ _ k3 (a3 v e)
    · exact hm _ _ _ k3 (b3 v e)
theorem ev_catA {a b c d : Nat} (hn : b + d ≤ 1000) (hm : Mo R) (h1 : Ev Z p dl al H0 σ ta (TpR K a b R)) (h2 : Ev Z p dl al H0 σ tb (TpR K c d R)) : Ev Z p dl al H0 σ (tOp (rCatA K) ta tb) (TpR K (a + c) (b + d) R) :=
  fun H Q P k q => h1 H _ P k fun x H1 P1 k1 r1 => h2 H1 _ P1 (k.trans k1) fun y H2 P2 k2 r2 => by
    have r1' := TpR.mo hm _ _ _ k2 r1
    obtain ⟨l, xs, rfl, g1, a1, a2, a3⟩ := r1'
    obtain ⟨l2, ys, rfl, g2, b1, b2, b3⟩ := id r2
    refine ⟨l, l2, xs, ys, rfl, rfl, Same.seqT (hid_same _ _ _) g1, Same.seqT (hid_same _ _ _) g2, Nat.le_of_lt (small1000 (by omega)), fun z => ?_, fun z1 z2 => ?_, fun z1 z2 t nt => ?_⟩
    · subst z
      refine q _ _ P2 (k1.trans k2) ⟨l2, ys, rfl, g2, ?_, by omega, b3⟩
      simp only [List.length_nil] at a1; omega
    · subst z2
      refine q _ _ P2 (k1.trans k2) ⟨l, xs, rfl, g1, ?_, by omega, a3⟩
      simp only [List.length_nil] at b1; omega
    · obtain ⟨P3, k3, e3⟩ := laid (o := .tup (xs ++ ys)) P2 nt
      refine q _ _ P3 ((k1.trans k2).trans k3) ⟨t, _, rfl, .inl (.inl e3), by rw [List.length_append]; omega, by rw [List.length_append]; omega, fun v hv => ?_⟩
      rcases List.mem_append.mp hv with e | e
      · exact hm _ _ _ k3 (a3 v e)
      · exact hm _ _ _ k3 (b3 v e)
theorem mem_cutV {xs : List V} {lo hi : Option Int} {v : V} (h : v ∈ cutV xs lo hi) : v ∈ xs := List.mem_of_mem_drop (List.mem_of_mem_take h)
/-- any cut of a tuple -/
def AnyO (Z : Hp) (p dl al : Addr) (H0 : Hp) (σ : L2.St) (to : TO) : Prop := ∀ (H : Hp) (Q : Option Int → Hp → Prop), PotAt Z H p dl al → Kp Z p dl H0 H → (∀ o H', PotAt Z H' p dl al → Kp Z p dl H H' → Q o H') → to σ H Q
theorem any_none : AnyO Z p dl al H0 σ tNoPart := fun H Q P k q => q none H P (Kp.refl _ _ _)
theorem any_some {t : TE} (h : Ev Z p dl al H0 σ t (fun v _ => ∃ i, v = .int i)) : AnyO Z p dl al H0 σ (tPart t) := fun H Q P k q => h H _ P k fun v H1 P1 k1 ⟨i, e⟩ => ⟨i, e, q _ _ P1 k1⟩
theorem ev_slA {a b : Nat} {t1 t2 : TO} (hm : Mo R) (h : Ev Z p dl al H0 σ te (TpR K a b R)) (h1 : AnyO Z p dl al H0 σ t1) (h2 : AnyO Z p dl al H0 σ t2) : Ev Z p dl al H0 σ (tSl (rSlA K) te t1 t2) (TpR K 0 b R) :=
  fun H Q P k q => h H _ P k fun x H1 P1 k1 r1 => h1 H1 _ P1 (k.trans k1) fun lo H2 P2 k2 => h2 H2 _ P2 ((k.trans k1).trans k2) fun hi H3 P3 k3 => by
    obtain ⟨l, xs, rfl, g, a1, a2, a3⟩ := TpR.mo hm _ _ _ (Kp.trans k2 k3) r1
    refine ⟨l, xs, rfl, Same.seqT (hid_same _ _ _) g, fun _ => ?_, fun _ t nt => ?_⟩
    · exact q _ _ P3 (k1.trans (k2.trans k3)) ⟨l, xs, rfl, g, Nat.zero_le _, a2, a3⟩
    · obtain ⟨P4, k4, e4⟩ := laid (o := .tup (cutV xs lo hi)) P3 nt
      exact q _ _ P4 (k1.trans ((k2.trans k3).trans k4)) ⟨t, _, rfl, .inl (.inl e4), Nat.zero_le _, Nat.le_trans (cutV_length _ _ _) a2, fun v hv => hm _ _ _ k4 (a3 v (mem_cutV hv))⟩
theorem ev_revT {a b : Nat} (hm : Mo R) (h : Ev Z p dl al H0 σ te (TpR K a b R)) : Ev Z p dl al H0 σ (tRevT K te) (TpR K a b R) :=
  fun H Q P k q => h H _ P k fun x H1 P1 k1 r1 => by
    obtain ⟨l, xs, rfl, g, a1, a2, a3⟩ := r1
    refine ⟨l, xs, rfl, Same.seqT (hid_same _ _ _) g, fun t nt => ?_⟩
    obtain ⟨P4, k4, e4⟩ := laid (o := .tup xs.reverse) P1 nt
    exact q _ _ P4 (k1.trans k4) ⟨t, _, rfl, .inl (.inl e4), by rw [List.length_reverse]; exact a1, by rw [List.length_reverse]; exact a2, fun v hv => hm _ _ _ k4 (a3 v (List.mem_reverse.mp hv))⟩
/-! ### numbers -/
def IR (lo hi : Int) : VR := fun v _ => ∃ i, v = .int i ∧ lo ≤ i ∧ i ≤ hi
theorem IR.mo {lo hi : Int} : Mo (IR lo hi) := fun v G G' s h => h
theorem ev_int {i : Int} : Ev Z p dl al H0 σ (tC (.int i)) (IR i i) := ev_c.imp fun v G e => ⟨i, e, Int.le_refl _, Int.le_refl _⟩
theorem ev_neg {i j : Int} (h : Ev Z p dl al H0 σ te (IR i j)) : Ev Z p dl al H0 σ (tUn (rU fun i => .int (-i)) te) (IR (-j) (-i)) :=
  fun H Q P k q => h H _ P k fun v H1 P1 k1 ⟨x, e, h1, h2⟩ => ⟨x, e, q _ _ P1 k1 ⟨-x, rfl, by omega, by omega⟩⟩
theorem ev_add {a b c d : Int} (h1 : Ev Z p dl al H0 σ ta (IR a b)) (h2 : Ev Z p dl al H0 σ tb (IR c d)) : Ev Z p dl al H0 σ (tOp (rI0 fun i j => .int (i + j)) ta tb) (IR (a + c) (b + d)) :=
  fun H Q P k q => h1 H _ P k fun x H1 P1 k1 ⟨i, e1, i1, i2⟩ => h2 H1 _ P1 (k.trans k1) fun y H2 P2 k2 ⟨j, e2, j1, j2⟩ => ⟨i, j, e1, e2, q _ _ P2 (k1.trans k2) ⟨i + j, rfl, by omega, by omega⟩⟩
theorem ev_sub {a b c d : Int} (h1 : Ev Z p dl al H0 σ ta (IR a b)) (h2 : Ev Z p dl al H0 σ tb (IR c d)) : Ev Z p dl al H0 σ (tOp (rI0 fun i j => .int (i - j)) ta tb) (IR (a - d) (b - c)) :=
  fun H Q P k q => h1 H _ P k fun x H1 P1 k1 ⟨i, e1, i1, i2⟩ => h2 H1 _ P1 (k.trans k1) fun y H2 P2 k2 ⟨j, e2, j1, j2⟩ => ⟨i, j, e1, e2, q _ _ P2 (k1.trans k2) ⟨i - j, rfl, by omega, by omega⟩⟩
theorem ev_mul {a b c d : Int} (ha : 0 ≤ a) (hb : b < 2 ^ 64) (hc : 0 ≤ c) (h1 : Ev Z p dl al H0 σ ta (IR a b)) (h2 : Ev Z p dl al H0 σ tb (IR c d)) : Ev Z p dl al H0 σ (tOp (rI CMul fun i j => .int (i * j)) ta tb) (IR (a * c) (b * d)) :=
  fun H Q P k q => h1 H _ P k fun x H1 P1 k1 ⟨i, e1, i1, i2⟩ => h2 H1 _ P1 (k.trans k1) fun y H2 P2 k2 ⟨j, e2, j1, j2⟩ => by
    refine ⟨i, j, e1, e2, .inl ⟨by omega, by omega⟩, q _ _ P2 (k1.trans k2) ⟨i * j, rfl, ?_, ?_⟩⟩
    · exact Int.mul_le_mul i1 j1 hc (Int.le_trans ha i1)
    · exact Int.mul_le_mul i2 j2 (Int.le_trans hc j1) (Int.le_trans ha (Int.le_trans i1 i2))
theorem ev_pow {i j : Int} (h : CPow i j) : Ev Z p dl al H0 σ (tOp (rI CPow fun i j => .int (i ^ j.toNat)) (tC (.int i)) (tC (.int j))) (IR (i ^ j.toNat) (i ^ j.toNat)) :=
  fun H Q P k q => ⟨i, j, rfl, rfl, h, q _ _ P (Kp.refl _ _ _) ⟨_, rfl, Int.le_refl _, Int.le_refl _⟩⟩
theorem Ev.wide {a b c d : Int} (h : Ev Z p dl al H0 σ te (IR a b)) (h1 : c ≤ a) (h2 : b ≤ d) : Ev Z p dl al H0 σ te (IR c d) := h.imp fun v G ⟨i, e, i1, i2⟩ => ⟨i, e, by omega, by omega⟩
theorem Ev.isInt {a b : Int} (h : Ev Z p dl al H0 σ te (IR a b)) : Ev Z p dl al H0 σ te (fun v _ => ∃ i, v = .int i) := h.imp fun v G ⟨i, e, _⟩ => ⟨i, e⟩
/-! ### draws -/
def sp_one : Sp := fun vs H Q _ => ∃ (Z : Hp) (p dl al l : Addr) (xs : List V), vs = [.ref p, .ref l] ∧ PotAt Z H p dl al ∧ hid Z p dl H l = some (.lst xs) ∧ xs ≠ [] ∧ xs.length ≤ 1000 ∧
  ∀ (x : V) (H' : Hp), x ∈ xs → PotAt Z H' p dl al → Kp Z p dl H H' → Q x H'
theorem ev_draw {i : Nat} {b : Int} (e : σ[i]? = some (some (.ref p))) (hb : b < 1073741824) (h : Ev Z p dl al H0 σ te (IR 1 b)) : Ev Z p dl al H0 σ (tCall sp_draw [] E0 (tCons (tVar i) (tCons te tNil))) (IR 0 (b - 1)) :=
  fun H Q P k q => ⟨_, e, h H _ P k fun v H1 P1 k1 ⟨n, en, n1, n2⟩ => ⟨Z, p, dl, al, n, by rw [en]; rfl, P1, by omega, by omega, fun r H2 P2 k2 r1 r2 => q _ _ P2 (k1.trans k2) ⟨r, rfl, r1, by omega⟩⟩⟩
theorem ev_one {i m n : Nat} (e : σ[i]? = some (some (.ref p))) (hn : n ≤ 1000) (hm : Mo R) (h : Ev Z p dl al H0 σ te (LsR (m + 1) n R)) : Ev Z p dl al H0 σ (tCall sp_one [] E0 (tCons (tVar i) (tCons te tNil))) R :=
  fun H Q P k q => ⟨_, e, h H _ P k fun v H1 P1 k1 ⟨l, xs, el, g, l1, l2, l3⟩ => ⟨Z, p, dl, al, l, xs, by rw [el]; rfl, P1, g, (fun z => by subst z; simp at l1), by omega, fun x H2 hx P2 k2 => q _ _ P2 (k1.trans k2) (hm _ _ _ k2 (l3 x hx))⟩⟩
end
/-! ### data -/
def DR (K : PySem.W.Frag) (φ : PyData → Prop) : VR := fun v G => ∃ d, Dq K G v d ∧ φ d
theorem DR.mo {K : PySem.W.Frag} {φ : PyData → Prop} : Mo (DR K φ) := fun v G G' s ⟨d, h, x⟩ => ⟨d, h.mono s, x⟩
theorem all_data {K : PySem.W.Frag} {φ : PyData → Prop} {G : Hp} : ∀ {xs : List V}, (∀ x ∈ xs, DR K φ x G) → ∃ ds, Dqs K G xs ds ∧ ∀ d ∈ ds, φ d
  | [], _ => ⟨[], .nil, fun d h => nomatch h⟩
  | x :: r, h => by
    obtain ⟨d, hd, pd⟩ := h x List.mem_cons_self
    obtain ⟨ds, hs, ps⟩ := all_data (xs := r) fun y hy => h y (List.mem_cons_of_mem _ hy)
    refine ⟨d :: ds, .cons hd hs, fun e he => ?_⟩
    rcases List.mem_cons.mp he with z | z
    · rw [z]; exact pd
    · exact ps e z
/-- data whose text has at most n signs, with at most k levels -/
structure Sm (n k : Nat) (d : PyData) : Prop where
  sh : d.showable = true
  dp : d.depth ≤ k
  sz : d.shown.length ≤ n
theorem Sm.wide {n k n' k' : Nat} {d : PyData} (h : Sm n k d) (h1 : n ≤ n') (h2 : k ≤ k') : Sm n' k' d := ⟨h.sh, Nat.le_trans h.dp h2, Nat.le_trans h.sz h1⟩
theorem Sm.fine {n k : Nat} {d : PyData} (h : Sm n k d) (h1 : n ≤ 16777216) (h2 : k ≤ 100) : Fine d := ⟨h.sh, Nat.le_trans h.dp h2, Nat.le_trans h.sz (by rw [PySem.sizeLine_eq]; exact h1)⟩
end Lm

namespace Lm
open PySem PySem.Spec PyProof.Rows L2
/-! ### how long a text of data is -/
theorem all_showable : ∀ {ds : List PyData}, (∀ d ∈ ds, d.showable = true) → PyData.showableAll ds = true
  | [], _ => rfl
  | d :: r, h => by
    simp only [PyData.showableAll, h d List.mem_cons_self, Bool.true_and]
    exact all_showable fun e he => h e (List.mem_cons_of_mem _ he)
theorem all_depth {k : Nat} : ∀ {ds : List PyData}, (∀ d ∈ ds, d.depth ≤ k) → PyData.depthAll ds ≤ k
  | [], _ => Nat.zero_le _
  | d :: r, h => by
    simp only [PyData.depthAll]
    exact Nat.max_le.mpr ⟨h d List.mem_cons_self, all_depth fun e he => h e (List.mem_cons_of_mem _ he)⟩
theorem all_shown {n : Nat} : ∀ {ds : List PyData}, (∀ d ∈ ds, d.shown.length ≤ n) → ((PyData.shownAll ds).map (·.length)).sum ≤ ds.length * n ∧ (PyData.shownAll ds).length = ds.length
  | [], _ => by simp [PyData.shownAll]
  | d :: r, h => by
    obtain ⟨h1, h2⟩ := all_shown (ds := r) fun e he => h e (List.mem_cons_of_mem _ he)
    have h3 := h d List.mem_cons_self
    simp only [PyData.shownAll, List.map_cons, List.sum_cons, List.length_cons, h2, and_true]
    rw [Nat.succ_mul]
    omega
theorem seq_size {c n len sum : Nat} (h1 : sum ≤ len * n) (h2 : len ≤ c) : sum + 2 * len + 3 ≤ c * (n + 2) + 3 := by
  have h3 : len * n ≤ c * n := Nat.mul_le_mul_right n h2
  rw [Nat.mul_add]
  omega
theorem Sm.tuple {c n k : Nat} {ds : List PyData} (h : ∀ d ∈ ds, Sm n k d) (hc : ds.length ≤ c) : Sm (c * (n + 2) + 3) (k + 1) (.tuple ds) := by
  obtain ⟨h1, h2⟩ := all_shown fun d hd => (h d hd).sz
  refine ⟨?_, ?_, ?_⟩
  · simp only [PyData.showable]
    exact all_showable fun d hd => (h d hd).sh
  · simp only [PyData.depth]
    exact Nat.succ_le_succ (all_depth fun d hd => (h d hd).dp)
  · simp only [PyData.shown]
    refine Nat.le_trans (tupleText_len_le _) ?_
    rw [h2]
    exact seq_size h1 hc
theorem Sm.list {c n k : Nat} {ds : List PyData} (h : ∀ d ∈ ds, Sm n k d) (hc : ds.length ≤ c) : Sm (c * (n + 2) + 3) (k + 1) (.list ds) := by
  obtain ⟨h1, h2⟩ := all_shown fun d hd => (h d hd).sz
  refine ⟨?_, ?_, ?_⟩
  · simp only [PyData.showable]
    exact all_showable fun d hd => (h d hd).sh
  · simp only [PyData.depth]
    exact Nat.succ_le_succ (all_depth fun d hd => (h d hd).dp)
  · simp only [PyData.shown]
    refine Nat.le_trans (listText_len_le _) ?_
    rw [h2]
    exact seq_size h1 hc
theorem log2_lt {n : Nat} (h : n < 10 ^ 12) : n.log2 < 1920 := by
  by_cases z : n = 0
  · subst z; decide
  · exact (Nat.log2_lt z).mpr (Nat.lt_trans h (Nat.lt_of_lt_of_le (by decide : 10 ^ 12 < 2 ^ 40) (Nat.pow_le_pow_right (by decide) (by decide))))
theorem Sm.int {i : Int} (h : i.natAbs < 10 ^ 12) : Sm 13 0 (.int i) := by
  refine ⟨?_, Nat.le_refl _, PyData.shown_int_le h⟩
  simp only [PyData.showable, decide_eq_true_eq]
  exact log2_lt h
theorem Sm.bool (b : Bool) : Sm 5 0 (.bool b) := by cases b <;> exact ⟨rfl, Nat.le_refl _, by decide +kernel⟩
section
variable {K : PySem.W.Frag} {Z : Hp} {p dl al : Addr} {H0 : Hp} {σ : L2.St} {te ta tb : TE} {tl : TA} {R R' : VR} {n k : Nat}
theorem TpR.data {m c : Nat} {G : Hp} {v : V} (h : TpR K m c R v G) (i : ∀ x, R x G → DR K (Sm n k) x G) : DR K (Sm (c * (n + 2) + 3) (k + 1)) v G := by
  obtain ⟨a, xs, rfl, g, h1, h2, h3⟩ := h
  obtain ⟨ds, hd, hp⟩ := all_data fun x hx => i x (h3 x hx)
  exact ⟨_, .tup g hd, Sm.tuple hp (by rw [← hd.len]; exact h2)⟩
theorem LsR.data {m c : Nat} {G : Hp} {v : V} (h : LsR m c R v G) (i : ∀ x, R x G → DR K (Sm n k) x G) : DR K (Sm (c * (n + 2) + 3) (k + 1)) v G := by
  obtain ⟨a, xs, rfl, g, h1, h2, h3⟩ := h
  obtain ⟨ds, hd, hp⟩ := all_data fun x hx => i x (h3 x hx)
  exact ⟨_, .lst (.inl (.inl g)) hd, Sm.list hp (by rw [← hd.len]; exact h2)⟩
theorem DR.wide {n' k' : Nat} {G : Hp} {v : V} (h : DR K (Sm n k) v G) (h1 : n ≤ n') (h2 : k ≤ k') : DR K (Sm n' k') v G := let ⟨d, a, b⟩ := h; ⟨d, a, b.wide h1 h2⟩
theorem ev_wide {n' k' : Nat} (h : Ev Z p dl al H0 σ te (DR K (Sm n k))) (h1 : n ≤ n') (h2 : k ≤ k') : Ev Z p dl al H0 σ te (DR K (Sm n' k')) := h.imp fun v G r => r.wide h1 h2
theorem ev_d {v : V} {d : PyData} (h : ∀ G, Dq K G v d) (s : Sm n k d) : Ev Z p dl al H0 σ (tC v) (DR K (Sm n k)) := ev_c.imp fun u G e => by rw [e]; exact ⟨d, h G, s⟩
theorem ir_data {lo hi : Int} {v : V} {G : Hp} (h : IR lo hi v G) (h1 : -999999999999 ≤ lo) (h2 : hi ≤ 999999999999) : DR K (Sm 13 0) v G := by
  obtain ⟨i, rfl, i1, i2⟩ := h
  exact ⟨_, .int i, Sm.int (by omega)⟩
theorem ev_ir {lo hi : Int} (h : Ev Z p dl al H0 σ te (IR lo hi)) (h1 : -999999999999 ≤ lo) (h2 : hi ≤ 999999999999) : Ev Z p dl al H0 σ te (DR K (Sm 13 0)) := h.imp fun v G r => ir_data r h1 h2
theorem ev_tupD {m c : Nat} (hc : c ≤ 1000) (h : EvA Z p dl al H0 σ tl (AllR m c (DR K (Sm n k)))) : Ev Z p dl al H0 σ (tTup tl) (DR K (Sm (c * (n + 2) + 3) (k + 1))) :=
  (ev_tupR hc DR.mo h).imp fun v G r => r.data fun x z => z
theorem ev_lstD {m c : Nat} (hc : c ≤ 1000) (h : EvA Z p dl al H0 σ tl (AllR m c (DR K (Sm n k)))) : Ev Z p dl al H0 σ (tLst tl) (DR K (Sm (c * (n + 2) + 3) (k + 1))) :=
  (ev_lst hc DR.mo h).imp fun v G r => r.data fun x z => z
theorem ev_dnew : Ev Z p dl al H0 σ tDNewK (DR K (Sm 2 1)) := fun H Q P k q t nt => by
  obtain ⟨P4, k4, e4⟩ := laid (o := .dK []) P nt
  exact q _ _ P4 k4 ⟨_, .dct e4 .nil, ⟨rfl, by decide, by decide +kernel⟩⟩
theorem ev_disp1 {x : Str} {i : Int} {d : PyData} (hd : d = .dict [(.str x, .int i)]) (s : Sm n k d) : Ev Z p dl al H0 σ (tDisp [(tC (.str x), tC (.int i))]) (DR K (Sm n k)) := fun H Q P k q t nt => by
  subst hd
  have e : (upd (upd H t (.dK [])) t (.dK (mergeK [] [((Sum.inr x : L2.Key), V.int i)]))) = upd H t (.dK [(Sum.inr x, V.int i)]) := by rw [upd_upd]; rfl
  refine ⟨upd_same, [(Sum.inr x, V.int i)], rfl, Nat.le_add_left 1 14, ?_⟩
  rw [e]
  obtain ⟨P4, k4, e4⟩ := laid (o := .dK [(Sum.inr x, V.int i)]) P nt
  exact q _ _ P4 k4 ⟨_, .dct (ds := [.int i]) e4 (.cons (.int i) .nil), s⟩
/-- an odd value -/
def sp_odd (K : PySem.W.Frag) : Sp := fun vs H Q _ => ∃ (Z : Hp) (p dl al : Addr), vs = [.ref p] ∧ PotAt Z H p dl al ∧ ∀ (x : V) (H' : Hp), PotAt Z H' p dl al → Kp Z p dl H H' → DR K (Sm 60 3) x (hid Z p dl H') → Q x H'
theorem ev_odd {i : Nat} (e : σ[i]? = some (some (.ref p))) : Ev Z p dl al H0 σ (tCall (sp_odd K) [] E0 (tCons (tVar i) tNil)) (DR K (Sm 60 3)) := fun H Q P k q => ⟨_, e, Z, p, dl, al, rfl, P, fun x H' P' k' r => q x H' P' k' r⟩
def sp_opened (K : PySem.W.Frag) : Sp := fun vs H Q _ => ∃ (a : Addr) (ns : List Int), vs = [.ref a] ∧ SqL K H a (ns.map V.int) ∧ ns.length ≤ 63 ∧ ∀ (p dl al : Addr) (H' : Hp), PotAt (fun _ => none) H' p dl al → Same H H' → Q (.ref p) H'
end
theorem cut_all {xs : List V} (h : xs.length ≤ 64) : cutV xs none (some 64) = xs := by
  unfold cutV
  rw [HT.sIx_none, show HT.sIx xs.length xs.length (some 64) = min 64 xs.length from HT.sIx_nat xs.length xs.length 64, Nat.min_eq_right h, List.drop_zero, Nat.sub_zero, List.take_length]
theorem same_upd2 {H H' : Hp} {q : Addr} {o : HO} (s : Same H H') (n : H q = none) : Same H (upd H' q o) := fun b x e => by
  rw [upd_ne (ne_of_none e n)]
  exact s b x e
theorem yes_if {σ : L2.St} {H : Hp} {A B : Hp → Prop} (h : A H) : tYes σ H (fun b H3 => if b = true then A H3 else B H3) := by
  show if true = true then A H else B H
  rw [if_pos rfl]
  exact h
/-! ### one written number -/
def EI (i : Int) : VR := fun v _ => v = .int i
section
variable {K : PySem.W.Frag} {Z : Hp} {p dl al : Addr} {H0 : Hp} {σ : L2.St} {te ta tb : TE} {tl : TA} {n k : Nat} {a b : Int}
theorem ei_c {i : Int} : Ev Z p dl al H0 σ (tC (.int i)) (EI i) := ev_c
theorem ei_neg (h : Ev Z p dl al H0 σ te (EI a)) : Ev Z p dl al H0 σ (tUn (rU fun i => .int (-i)) te) (EI (-a)) := fun H Q P k q => h H _ P k fun v H1 P1 k1 e => ⟨a, e, q _ _ P1 k1 rfl⟩
theorem ei_add (h1 : Ev Z p dl al H0 σ ta (EI a)) (h2 : Ev Z p dl al H0 σ tb (EI b)) : Ev Z p dl al H0 σ (tOp (rI0 fun i j => .int (i + j)) ta tb) (EI (a + b)) :=
  fun H Q P k q => h1 H _ P k fun x H1 P1 k1 e1 => h2 H1 _ P1 (k.trans k1) fun y H2 P2 k2 e2 => ⟨a, b, e1, e2, q _ _ P2 (k1.trans k2) rfl⟩
theorem ei_mul (hc : CMul a b) (h1 : Ev Z p dl al H0 σ ta (EI a)) (h2 : Ev Z p dl al H0 σ tb (EI b)) : Ev Z p dl al H0 σ (tOp (rI CMul fun i j => .int (i * j)) ta tb) (EI (a * b)) :=
  fun H Q P k q => h1 H _ P k fun x H1 P1 k1 e1 => h2 H1 _ P1 (k.trans k1) fun y H2 P2 k2 e2 => ⟨a, b, e1, e2, hc, q _ _ P2 (k1.trans k2) rfl⟩
theorem ei_pow {i j : Int} (h : CPow i j) : Ev Z p dl al H0 σ (tOp (rI CPow fun i j => .int (i ^ j.toNat)) (tC (.int i)) (tC (.int j))) (EI (i ^ j.toNat)) := fun H Q P k q => ⟨i, j, rfl, rfl, h, q _ _ P (Kp.refl _ _ _) rfl⟩
theorem ei_d (h : Ev Z p dl al H0 σ te (EI a)) (s : Sm n k (.int a)) : Ev Z p dl al H0 σ te (DR K (Sm n k)) := h.imp fun v G e => by rw [e]; exact ⟨_, .int a, s⟩
theorem ei_ir (h : Ev Z p dl al H0 σ te (EI a)) : Ev Z p dl al H0 σ te (IR a a) := h.imp fun v G e => ⟨a, e, Int.le_refl _, Int.le_refl _⟩
end
instance {i j : Int} : Decidable (CPow i j) := by unfold CPow; infer_instance
instance {i j : Int} : Decidable (CMul i j) := by unfold CMul; infer_instance
theorem sm_chk {n k : Nat} {d : PyData} (h : (d.showable && decide (d.depth ≤ k) && decide (d.shown.length ≤ n)) = true) : Sm n k d := by
  simp only [Bool.and_eq_true, decide_eq_true_eq] at h
  exact ⟨h.1.1, h.1.2, h.2⟩
/-! ### a statement and what follows it -/
section
variable {D : Ends} {σ : L2.St} {H : Hp} {te : TE} {ta : TA} {t u v : TS} {c : TT} {i j : Nat}
theorem s_set (h : te σ H fun x H1 => u D (σ.set i (some x)) H1) : tSeq (tAsg te (gName i)) u D σ H := h
theorem s_set1 (h : te σ H fun x H1 => D.nx (σ.set i (some x)) H1) : tAsg te (gName i) D σ H := h
theorem s_par (h : ta σ H fun vs H1 => ∃ v w, vs = [v, w] ∧ u D ((σ.set i (some v)).set j (some w)) H1) : tSeq (tPar i j ta) u D σ H := h
theorem s_expr (h : te σ H fun _ H1 => u D σ H1) : tSeq (tDrop te) u D σ H := h
theorem s_expr1 (h : te σ H fun _ H1 => D.nx σ H1) : tDrop te D σ H := h
theorem s_if (h : c σ H fun b H1 => if b = true then t { D with nx := u D } σ H1 else v { D with nx := u D } σ H1) : tSeq (tIfS c t v) u D σ H := h
theorem s_if1 (h : c σ H fun b H1 => if b = true then t D σ H1 else v D σ H1) : tIfS c t v D σ H := h
theorem s_ret (h : te σ H D.rt) : tRet te D σ H := h
theorem s_next (h : D.nx σ H) : tNext D σ H := h
end
section
variable {K : PySem.W.Frag} {Z : Hp} {p dl al : Addr} {H0 : Hp} {σ : L2.St} {te ta tb : TE} {tl : TA} {R R' R1 R2 : VR} {n k : Nat}
theorem ev_tpD {m c N : Nat} (h : Ev Z p dl al H0 σ te (TpR K m c (DR K (Sm n k)))) (hN : c * (n + 2) + 3 ≤ N) : Ev Z p dl al H0 σ te (DR K (Sm N (k + 1))) := h.imp fun v G r => (r.data fun x z => z).wide hN (Nat.le_refl _)
theorem ev_lsD {m c N : Nat} (h : Ev Z p dl al H0 σ te (LsR m c (DR K (Sm n k)))) (hN : c * (n + 2) + 3 ≤ N) : Ev Z p dl al H0 σ te (DR K (Sm N (k + 1))) := h.imp fun v G r => (r.data fun x z => z).wide hN (Nat.le_refl _)
theorem ev_len {m c : Nat} (h : Ev Z p dl al H0 σ te (TpR K m c R)) : Ev Z p dl al H0 σ (tCB (fun xs H Q => ∃ p ys, xs = [.ref p] ∧ (SqL K H p ys ∨ SqT K H p ys) ∧ Q (.int ys.length) H) (tCons te tNil)) (IR m c) :=
  fun H Q P k q => h H _ P k fun v H1 P1 k1 ⟨a, xs, e, g, h1, h2, _⟩ => ⟨a, xs, by rw [e], .inr (Same.seqT (hid_same _ _ _) g), q _ _ P1 k1 ⟨_, rfl, by omega, by omega⟩⟩
theorem ev_lenL {m c : Nat} (h : Ev Z p dl al H0 σ te (LsR m c R)) : Ev Z p dl al H0 σ (tCB (fun xs H Q => ∃ p ys, xs = [.ref p] ∧ (SqL K H p ys ∨ SqT K H p ys) ∧ Q (.int ys.length) H) (tCons te tNil)) (IR m c) :=
  fun H Q P k q => h H _ P k fun v H1 P1 k1 ⟨a, xs, e, g, h1, h2, _⟩ => ⟨a, xs, by rw [e], .inl (.inl (.inl (hid_same _ _ _ _ _ g))), q _ _ P1 k1 ⟨_, rfl, by omega, by omega⟩⟩
theorem ev_listOf {m c : Nat} (hm : Mo R) (h : Ev Z p dl al H0 σ te (TpR K m c R)) : Ev Z p dl al H0 σ (tCB (fun xs H Q => ∃ p ys, xs = [.ref p] ∧ (SqL K H p ys ∨ SqT K H p ys) ∧ ∀ l, H l = none → Q (.ref l) (upd H l (.lst ys))) (tCons te tNil)) (LsR m c R) :=
  fun H Q P k q => h H _ P k fun v H1 P1 k1 ⟨a, xs, e, g, h1, h2, h3⟩ => ⟨a, xs, by rw [e], .inr (Same.seqT (hid_same _ _ _) g), fun t nt => by
    obtain ⟨P4, k4, e4⟩ := laid (o := .lst xs) P1 nt
    exact q _ _ P4 (k1.trans k4) ⟨t, xs, rfl, e4, h1, h2, fun x hx => hm _ _ _ k4 (h3 x hx)⟩⟩
theorem ev_tupleOf {m c : Nat} (hm : Mo R) (h : Ev Z p dl al H0 σ te (LsR m c R)) : Ev Z p dl al H0 σ (tCB (fun xs H Q => ∃ p ys, xs = [.ref p] ∧ ((SqL K H p ys ∧ ∀ l, H l = none → Q (.ref l) (upd H l (.tup ys))) ∨ (SqT K H p ys ∧ Q (.ref p) H))) (tCons te tNil)) (TpR K m c R) :=
  fun H Q P k q => h H _ P k fun v H1 P1 k1 ⟨a, xs, e, g, h1, h2, h3⟩ => ⟨a, xs, by rw [e], .inl ⟨.inl (.inl (hid_same _ _ _ _ _ g)), fun t nt => by
    obtain ⟨P4, k4, e4⟩ := laid (o := .tup xs) P1 nt
    exact q _ _ P4 (k1.trans k4) ⟨t, xs, rfl, .inl (.inl e4), h1, h2, fun x hx => hm _ _ _ k4 (h3 x hx)⟩⟩⟩
theorem ev_pair (m1 : Mo R1) (m2 : Mo R2) (h1 : Ev Z p dl al H0 σ ta R1) (h2 : Ev Z p dl al H0 σ tb R2) : EvA Z p dl al H0 σ (tCons ta (tCons tb tNil)) (fun vs G => ∃ v w, vs = [v, w] ∧ R1 v G ∧ R2 w G) :=
  (eva_cons m1 h1 (eva_cons m2 h2 eva_nil)).imp fun vs G ⟨v, r, e, r1, w, r', e', r2, e2⟩ => ⟨v, w, by rw [e, e', e2], r1, r2⟩
theorem ev_i1 {v : V} {i : Nat} {lo hi : Int} (e : σ[i]? = some (some v)) (h : IR lo hi v (hid Z p dl H0)) : Ev Z p dl al H0 σ (tVar i) (IR lo hi) := ev_var e IR.mo h
/-- a bent tuple -/
def sp_bent (K : PySem.W.Frag) (c n k N : Nat) : Sp := fun vs H Q _ => ∃ (Z : Hp) (p dl al : Addr) (v : V), vs = [.ref p, v] ∧ PotAt Z H p dl al ∧ TpR K 0 c (DR K (Sm n k)) v (hid Z p dl H) ∧
  ∀ (x : V) (H' : Hp), PotAt Z H' p dl al → Kp Z p dl H H' → DR K (Sm N (k + 1)) x (hid Z p dl H') → Q x H'
theorem ev_bent {i c N : Nat} (e : σ[i]? = some (some (.ref p))) (h : Ev Z p dl al H0 σ te (TpR K 0 c (DR K (Sm n k)))) : Ev Z p dl al H0 σ (tCall (sp_bent K c n k N) [] E0 (tCons (tVar i) (tCons te tNil))) (DR K (Sm N (k + 1))) :=
  fun H Q P k q => ⟨_, e, h H _ P k fun v H1 P1 k1 r1 => ⟨Z, p, dl, al, v, rfl, P1, r1, fun x H' P' k' r => q x H' P' (k1.trans k') r⟩⟩
end
/-! ### isinstance of data -/
def tyN : PyData → String
  | .none => "NoneType"
  | .bool _ => "bool"
  | .int _ => "int"
  | .str _ => "str"
  | .list _ => "list"
  | .tuple _ => "tuple"
  | .dict _ => "dict"
theorem Dq.ty {K : PySem.W.Frag} {H : Hp} {v : V} {d : PyData} (h : Dq K H v d) : TyX K H v (.type (tyN d)) := by
  cases h with
  | non => exact .base .non
  | bl b => exact .base (.bl b)
  | int i => exact .base (.int i)
  | str x => exact .base (.str x)
  | lst hs _ =>
    rcases hs with (h | ⟨o, h⟩) | ⟨o, its, n, hk, hc, _⟩
    · exact .base (.lst h)
    · exact .base (.frz h)
    · exact .kList hk hc
  | tup hs _ =>
    rcases hs with (h | ⟨o, h⟩) | ⟨o, its, n, hk, hc, _⟩
    · exact .base (.tup h)
    · exact .fTuple h
    · exact .kTuple hk hc
  | dct hs _ => exact .base (.dK hs)
def isI : PyData → Bool | .int _ => true | .bool _ => true | _ => false
def isB : PyData → Bool | .bool _ => true | _ => false
def isT : PyData → Bool | .tuple _ => true | _ => false
def isS : PyData → Bool | .str _ => true | _ => false
theorem kit_i (d : PyData) : kitB (tyN d) "int" = some (isI d) := by cases d <;> simp only [tyN, isI] <;> decide +kernel
theorem kit_b (d : PyData) : kitB (tyN d) "bool" = some (isB d) := by cases d <;> simp only [tyN, isB] <;> decide +kernel
theorem kit_t (d : PyData) : kitB (tyN d) "tuple" = some (isT d) := by cases d <;> simp only [tyN, isT] <;> decide +kernel
theorem kit_s (d : PyData) : kitB (tyN d) "str" = some (isS d) := by cases d <;> simp only [tyN, isS] <;> decide +kernel
theorem isi_d {K : PySem.W.Frag} {H : Hp} {v : V} {d : PyData} {Tn : String} {b : Bool} {Q : VK} (h : Dq K H v d) (hb : kitB (tyN d) Tn = some b) (q : Q (.bl b) H) : rIsi K [v, .ty Tn] H Q :=
  ⟨v, .ty Tn, _, _, b, rfl, .ty Tn, h.ty, kit_ty hb, q⟩
/-- an integer that is no bool -/
def wh : PyData → Bool | .int _ => true | _ => false
theorem wh_eq (d : PyData) : wh d = (isI d && !isB d) := by cases d <;> rfl
def sp_is_whole (K : PySem.W.Frag) : Sp := fun vs H Q _ => ∃ v d, vs = [v] ∧ Dq K H v d ∧ Q (.bl (wh d)) H
/-- so many integers -/
def wt (d : PyData) (m : Int) : Bool := match d with | .tuple ds => decide ((ds.length : Int) = m) && ds.all wh | _ => false
def sp_is_whole_tuple (K : PySem.W.Frag) : Sp := fun vs H Q _ => ∃ v d m, vs = [v, .int m] ∧ Dq K H v d ∧ m ≤ 1000 ∧ ∀ H', Same H H' → Q (.bl (wt d m)) H'
def inW (lo hi : Int) : PyData → Bool | .int i => decide (lo ≤ i) && decide (i ≤ hi) | _ => false
def sp_whole (K : PySem.W.Frag) : Sp := fun vs H Q _ => ∃ v d lo hi, vs = [v, .int lo, .int hi] ∧ Dq K H v d ∧ Q (.bl (inW lo hi d)) H
end Lm

namespace Lm
open PySem PySem.Spec PyProof.Rows L2
/-! ### stretches and logs, as functions of data -/
/-- a stretch that a log may have -/
def stOf : PyData → Option (Int × Int)
  | .tuple [.int a, .int b] => if 0 ≤ a ∧ a < b ∧ b ≤ 2000000000 then some (a, b) else none
  | _ => none
def two (d e : PyData) : PyData := .tuple [d, e]
def logGo : List PyData → Nat → Int → PyData
  | [], _, _ => .none
  | d :: r, i, b => match stOf d with
    | none => two (.int i) (.str "stretch")
    | some (on, off) => if on ≤ b then two (.int i) (.str "order") else logGo r (i + 1) off
def logErr : PyData → PyData
  | .tuple ds => if 60 < ds.length then two .none (.str "log") else logGo ds 0 (-1)
  | _ => two .none (.str "log")
theorem logGo_cons {ds : List PyData} {i : Nat} {b : Int} {d : PyData} (h : ds[i]? = some d) : logGo (ds.drop i) i b = logGo (d :: ds.drop (i + 1)) i b := by
  obtain ⟨hi, e⟩ := List.getElem?_eq_some_iff.mp h
  rw [List.drop_eq_getElem_cons hi, e]
theorem stOf_wt {d : PyData} : (stOf d).isSome = true → ∃ a b, d = .tuple [.int a, .int b] ∧ stOf d = some (a, b) ∧ 0 ≤ a ∧ a < b ∧ b ≤ 2000000000 := by
  unfold stOf
  split
  · rename_i a b
    split
    · rename_i h
      exact fun _ => ⟨a, b, rfl, rfl, h.1, h.2.1, h.2.2⟩
    · intro h; cases h
  · intro h; cases h
theorem sz2 {x y : V} : [x, y].length ≤ sizeLine := Nat.le_of_lt (small1000 (Nat.le_add_left 2 998))
def isN : PyData → Bool | .none => true | _ => false
/-- None, or a new pair of flat things -/
def Flat (K : PySem.W.Frag) (H H' : Hp) (r : V) (e : PyData) : Prop := (r = .non ∧ e = .none) ∨ ∃ t x y dx dy, r = .ref t ∧ H t = none ∧ H' t = some (.tup [x, y]) ∧ e = two dx dy ∧ (∀ G, Dq K G x dx) ∧ (∀ G, Dq K G y dy)
theorem Flat.dq {K : PySem.W.Frag} {H H' : Hp} {r : V} {e : PyData} {Z : Hp} {p dl al : Addr} (h : Flat K H H' r e) (P : PotAt Z H p dl al) : Dq K (hid Z p dl H') r e := by
  rcases h with ⟨rfl, rfl⟩ | ⟨t, x, y, dx, dy, rfl, n, g, rfl, hx, hy⟩
  · exact .non
  · have f := P.free n
    exact .tup (.inl (.inl (by rw [hid_at f.1 f.2]; exact g))) (.cons (hx _) (.cons (hy _) .nil))
def sp_err (K : PySem.W.Frag) (F : PyData → PyData) : Sp := fun vs H Q _ => ∃ v d, vs = [v] ∧ Dq K H v d ∧ ∀ r H', Same H H' → Flat K H H' r (F d) → Q r H'
def sp_is_stretch (K : PySem.W.Frag) : Sp := fun vs H Q _ => ∃ v d, vs = [v] ∧ Dq K H v d ∧ ∀ H', Same H H' → Q (.bl (stOf d).isSome) H'
def sp_bool (K : PySem.W.Frag) (F : PyData → Bool) : Sp := fun vs H Q _ => ∃ v d, vs = [v] ∧ Dq K H v d ∧ ∀ H', Same H H' → Q (.bl (F d)) H'
theorem wt2 {d : PyData} (h : wt d 2 = true) : ∃ a b, d = .tuple [.int a, .int b] := by
  unfold wt at h
  split at h
  · rename_i ds
    simp only [Bool.and_eq_true, decide_eq_true_eq] at h
    obtain ⟨h1, h2⟩ := h
    match ds, h1, h2 with
    | [x, y], _, h2 =>
      simp only [List.all_cons, List.all_nil, Bool.and_true, Bool.and_eq_true] at h2
      cases x <;> cases y <;> first | exact ⟨_, _, rfl⟩ | (simp [wh] at h2)
    | [], h1, _ => exact absurd h1 (by simp)
    | [_], h1, _ => exact absurd h1 (by simp)
    | _ :: _ :: _ :: _, h1, _ => exact absurd h1 (by simp only [List.length_cons]; omega)
  · cases h
theorem wt2_no {d : PyData} (h : wt d 2 = false) : stOf d = none := by
  unfold stOf
  split
  · simp [wt, wh] at h
  · rfl
theorem inW_int {lo hi : Int} {d : PyData} (h : inW lo hi d = true) : ∃ a, d = .int a ∧ lo ≤ a ∧ a ≤ hi := by
  unfold inW at h
  split at h
  · simp only [Bool.and_eq_true, decide_eq_true_eq] at h
    exact ⟨_, rfl, h.1, h.2⟩
  · cases h
theorem stOf_len {ds : List PyData} (h : (ds.length : Int) ≠ 2) : stOf (.tuple ds) = none := by
  unfold stOf
  split
  · rename_i e
    cases e
    exact absurd rfl h
  · rfl
theorem stOf_out {ds : List PyData} (h : ds.all (inW 0 2000000000) = false) : stOf (.tuple ds) = none := by
  cases e : stOf (.tuple ds) with
  | none => rfl
  | some ab =>
    obtain ⟨a, b, e1, _, h1, h2, h3⟩ := stOf_wt (d := .tuple ds) (by rw [e]; rfl)
    cases e1
    have g : (List.all [PyData.int a, PyData.int b] (inW 0 2000000000)) = true := by
      simp only [List.all_cons, List.all_nil, Bool.and_true, inW, Bool.and_eq_true, decide_eq_true_eq]
      omega
    rw [g] at h
    cases h
theorem stOf_in {a b : Int} (h1 : 0 ≤ a) (h2 : b ≤ 2000000000) : (stOf (.tuple [.int a, .int b])).isSome = decide (a < b) := by
  show (if 0 ≤ a ∧ a < b ∧ b ≤ 2000000000 then some (a, b) else none).isSome = _
  by_cases h : a < b
  · rw [if_pos ⟨h1, h, h2⟩, decide_eq_true h]
    rfl
  · rw [if_neg fun z => h z.2.1, decide_eq_false h]
    rfl
/-! ### pairs of numbers; a log that grows -/
def PrAt (G : Hp) : V → Int × Int → Prop := fun v q => ∃ t, v = .ref t ∧ G t = some (.tup [.int q.1, .int q.2])
abbrev Prs (G : Hp) : List V → List (Int × Int) → Prop := PySem.Paired (PrAt G)
def TupKeep (G G' : Hp) : Prop := ∀ t ys, G t = some (.tup ys) → G' t = some (.tup ys)
theorem TupKeep.of {G G' : Hp} (s : Same G G') : TupKeep G G' := fun t ys e => s _ _ e
theorem Prs.keep {G G' : Hp} (s : TupKeep G G') {xs : List V} {ps : List (Int × Int)} (h : Prs G xs ps) : Prs G' xs ps := Paired.mapP h fun a b ⟨t, e, g⟩ => ⟨t, e, s _ _ g⟩
theorem Prs.app {G : Hp} : ∀ {xs ys : List V} {ps qs : List (Int × Int)}, Prs G xs ps → Prs G ys qs → Prs G (xs ++ ys) (ps ++ qs)
  | _, _, _, _, .nil, s => s
  | _, _, _, _, .cons r t, s => .cons r (Prs.app t s)
theorem Prs.get {G : Hp} : ∀ {xs : List V} {ps : List (Int × Int)} {i : Nat} {v : V}, Prs G xs ps → xs[i]? = some v → ∃ q, ps[i]? = some q ∧ PrAt G v q
  | _, _, _, _, .nil, e => by simp at e
  | _, _, 0, _, .cons r _, e => by simp at e; subst e; exact ⟨_, rfl, r⟩
  | _, _, i + 1, v, .cons _ t, e => by
    obtain ⟨u, h1, h2⟩ := Prs.get (i := i) (v := v) t (by simpa using e)
    exact ⟨u, by simpa using h1, h2⟩
/-- it grows from b on -/
def LogUp (b : Int) : List (Int × Int) → Prop
  | [] => True
  | q :: r => b < q.1 ∧ q.1 < q.2 ∧ LogUp q.2 r
def fin (b : Int) : List (Int × Int) → Int
  | [] => b
  | q :: r => fin q.2 r
def LogOk (b : Int) (ps : List (Int × Int)) : Prop := LogUp b ps ∧ ∀ q ∈ ps, q.2 ≤ 2000000000
theorem LogUp.app : ∀ {b : Int} {ps : List (Int × Int)} {q : Int × Int}, LogUp b ps → fin b ps < q.1 → q.1 < q.2 → LogUp b (ps ++ [q]) ∧ fin b (ps ++ [q]) = q.2
  | b, [], q, _, h1, h2 => ⟨⟨h1, h2, trivial⟩, rfl⟩
  | b, x :: r, q, h, h1, h2 => by
    obtain ⟨a1, a2, a3⟩ := h
    obtain ⟨c1, c2⟩ := LogUp.app (q := q) a3 h1 h2
    exact ⟨⟨a1, a2, c1⟩, c2⟩
theorem LogUp.less : ∀ {b c : Int} {ps : List (Int × Int)}, c ≤ b → LogUp b ps → LogUp c ps
  | _, _, [], _, _ => trivial
  | b, c, q :: r, h, ⟨a1, a2, a3⟩ => ⟨by omega, a2, a3⟩
theorem LogUp.filt : ∀ {b : Int} {ps : List (Int × Int)}, LogUp b ps → LogUp b (ps.filter fun q => decide (q.2 ≤ 2000000000))
  | _, [], _ => trivial
  | b, q :: r, ⟨a1, a2, a3⟩ => by
    have ih := LogUp.filt a3
    rw [List.filter_cons]
    split
    · exact ⟨a1, a2, ih⟩
    · exact LogUp.less (by omega) ih
theorem LogUp.bound : ∀ {b : Int} {ps : List (Int × Int)}, LogUp b ps → ∀ q ∈ ps, b < q.1 ∧ q.1 < q.2
  | _, [], _, q, h => nomatch h
  | b, x :: r, ⟨a1, a2, a3⟩, q, h => by
    rcases List.mem_cons.mp h with e | e
    · rw [e]; exact ⟨a1, a2⟩
    · have := LogUp.bound a3 q e
      exact ⟨by omega, this.2⟩
/-- a tuple of such pairs -/
def PairsR (K : PySem.W.Frag) (ps : List (Int × Int)) : VR := fun v G => ∃ a xs, v = .ref a ∧ G a = some (.tup xs) ∧ Prs G xs ps
theorem PairsR.mo {K : PySem.W.Frag} {ps : List (Int × Int)} : Mo (PairsR K ps) := fun v G G' s ⟨a, xs, e, g, r⟩ => ⟨a, xs, e, s _ _ g, r.keep (.of s)⟩
def LogR (K : PySem.W.Frag) (n : Nat) : VR := fun v G => ∃ ps, PairsR K ps v G ∧ ps.length ≤ n ∧ LogOk (-1) ps
theorem LogR.mo {K : PySem.W.Frag} {n : Nat} : Mo (LogR K n) := fun v G G' s ⟨ps, h, r⟩ => ⟨ps, PairsR.mo _ _ _ s h, r⟩
def pD (q : Int × Int) : PyData := two (.int q.1) (.int q.2)
theorem Prs.dqs {K : PySem.W.Frag} {G : Hp} : ∀ {xs : List V} {ps : List (Int × Int)}, Prs G xs ps → Dqs K G xs (ps.map pD)
  | _, _, .nil => .nil
  | _, _, .cons ⟨t, e, g⟩ r => by
    subst e
    exact .cons (.tup (.inl (.inl g)) (.cons (.int _) (.cons (.int _) .nil))) (Prs.dqs r)
theorem Prs.dp {K : PySem.W.Frag} {G : Hp} : ∀ {xs : List V} {ps : List (Int × Int)}, Prs G xs ps → DpAll K G xs (ps.map pD)
  | _, _, .nil => .nil
  | _, _, .cons ⟨t, e, g⟩ r => by
    subst e
    exact .cons (.tup (.inl (.inl g)) (.cons (.int _) (.cons (.int _) .nil))) (Prs.dp r)
theorem Prs.len {G : Hp} {xs : List V} {ps : List (Int × Int)} (h : Prs G xs ps) : xs.length = ps.length := Paired.length h
theorem pD_sm {q : Int × Int} (h1 : q.1.natAbs < 10 ^ 12) (h2 : q.2.natAbs < 10 ^ 12) : Sm 33 1 (pD q) := Sm.tuple (c := 2) (n := 13) (k := 0) (ds := [.int q.1, .int q.2]) (fun d hd => by
    rcases List.mem_cons.mp hd with e | e
    · rw [e]; exact Sm.int h1
    · rw [List.mem_singleton.mp e]; exact Sm.int h2) (Nat.le_refl 2)
theorem LogR.tp {K : PySem.W.Frag} {n : Nat} {v : V} {G : Hp} (h : LogR K n v G) : TpR K 0 n (TpR K 0 2 (DR K (Sm 13 0))) v G := by
  obtain ⟨ps, ⟨a, xs, rfl, g, pr⟩, hl, hu, hb⟩ := h
  refine ⟨a, xs, rfl, .inl (.inl g), Nat.zero_le _, by rw [pr.len]; exact hl, fun x hx => ?_⟩
  obtain ⟨i, hi⟩ := List.getElem?_of_mem hx
  obtain ⟨q, hq, t, rfl, gt⟩ := pr.get hi
  have hm := List.mem_of_getElem? hq
  have b1 := hu.bound q hm
  have b2 := hb q hm
  refine ⟨t, _, rfl, .inl (.inl gt), Nat.zero_le _, Nat.le_refl 2, fun y hy => ?_⟩
  rcases List.mem_cons.mp hy with e | e
  · rw [e]; exact ⟨_, .int _, Sm.int (by omega)⟩
  · rw [List.mem_singleton.mp e]; exact ⟨_, .int _, Sm.int (by omega)⟩
theorem LogR.tpD {K : PySem.W.Frag} {n : Nat} {v : V} {G : Hp} (h : LogR K n v G) : TpR K 0 n (DR K (Sm 60 3)) v G := by
  obtain ⟨a, xs, e, g, h1, h2, h3⟩ := h.tp
  exact ⟨a, xs, e, g, h1, h2, fun x hx => ((h3 x hx).data fun y hy => hy).wide (by decide) (by decide)⟩
def sp_log (K : PySem.W.Frag) : Sp := fun vs H Q _ => ∃ (Z : Hp) (p dl al : Addr) (u g : Int), vs = [.ref p, .int u, .int g] ∧ PotAt Z H p dl al ∧ 0 ≤ u ∧ u ≤ 60 ∧ 1 ≤ g ∧ g ≤ 10000000 ∧
  ∀ (x : V) (H' : Hp), PotAt Z H' p dl al → Kp Z p dl H H' → LogR K u.toNat x (hid Z p dl H') → Q x H'
theorem Kp.upd_new {Z : Hp} {p dl f : Addr} {H H1 : Hp} {o : HO} (P : ∀ b, H b ≠ none → b ≠ f) (k : Kp Z p dl H H1) : Kp Z p dl H (upd H1 f o) := fun b u e => by
  have n := hid_some e
  have e1 := k b u e
  rw [hid_at n.1 n.2] at e1 ⊢
  rw [upd_ne]
  · exact e1
  · refine P b ?_
    rw [hid_at n.1 n.2] at e
    rw [e]
    exact fun z => nomatch z
theorem ne_of_new {H : Hp} {f : Addr} (n : H f = none) : ∀ b, H b ≠ none → b ≠ f := fun b h e => h (by rw [e]; exact n)
theorem hid_get {Z : Hp} {p dl b : Addr} {H : Hp} {o : HO} (h1 : b ≠ p) (h2 : b ≠ dl ∧ Z b = none) (h : H b = some o) : hid Z p dl H b = some o := by rw [hid_at h1 h2]; exact h
theorem PotAt.upd {H : Hp} {Z : Hp} {p dl al f : Addr} {o : HO} (h : PotAt Z H p dl al) (h1 : f ≠ p) (h2 : f ≠ dl) (h3 : f ≠ al) (h4 : Z f = none) : PotAt Z (upd H f o) p dl al :=
  ⟨let ⟨t, e⟩ := h.ob; ⟨t, by rw [upd_ne h1.symm]; exact e⟩, let ⟨ns, e, l⟩ := h.de; ⟨ns, by rw [upd_ne h2.symm]; exact e, l⟩, let ⟨ns, e, l⟩ := h.li; ⟨ns, by rw [upd_ne h3.symm]; exact e, l⟩, h.ne, zz_upd h.zz h4, h.zp, h.zd⟩
theorem PotAt.freeA {H : Hp} {Z : Hp} {p dl al q : Addr} (h : PotAt Z H p dl al) (n : H q = none) : q ≠ al := by
  obtain ⟨ns, e2, _⟩ := h.li
  exact (ne_of_none e2 n).symm
end Lm

namespace Lm
open PySem PySem.Spec PyProof.Rows L2
section
variable {K : PySem.W.Frag} {Z : Hp} {p dl al : Addr} {H0 : Hp} {σ : L2.St} {g : Int}
theorem ev_gvar {i : Nat} (e : σ[i]? = some (some (.int g))) (h0 : 1 ≤ g) (h1 : g ≤ 10000000) : Ev Z p dl al H0 σ (tVar i) (IR 1 10000000) := ev_var e IR.mo ⟨g, rfl, h0, h1⟩
theorem ev_size (e0 : σ[0]? = some (some (.ref p))) (e2 : σ[2]? = some (some (.int g))) (h0 : 1 ≤ g) (h1 : g ≤ 10000000) :
    Ev Z p dl al H0 σ (tCall sp_one [] E0 (tCons (tVar 0) (tCons (tLst (tCons (tC (.int 1)) (tCons (tC (.int 2)) (tCons (tOp (rI0 fun i j => .int (i + j)) (tC (.int 1)) (tCall sp_draw [] E0 (tCons (tVar 0) (tCons (tC (.int 20)) tNil))))
      (tCons (tOp (rI0 fun i j => .int (i + j)) (tC (.int 1)) (tCall sp_draw [] E0 (tCons (tVar 0) (tCons (tVar 2) tNil)))) tNil))))) tNil))) (IR 1 10000000) :=
  ev_one (m := 3) (n := 4) e0 (by decide) IR.mo (ev_lst (by decide) IR.mo (eall_cons IR.mo (ev_int.wide (by decide) (by decide)) (eall_cons IR.mo (ev_int.wide (by decide) (by decide))
    (eall_cons IR.mo ((ev_add ev_int (ev_draw (b := 20) e0 (by decide) (ev_int.wide (by decide) (by decide)))).wide (by decide) (by decide))
      (eall_cons IR.mo ((ev_add ev_int (ev_draw (b := 10000000) e0 (by decide) (ev_gvar e2 h0 h1))).wide (by decide) (by decide)) eall_nil)))))
theorem ev_upto {u : Int} (e0 : σ[0]? = some (some (.ref p))) (e1 : σ[1]? = some (some (.int u))) (h0 : 0 ≤ u) (h1 : u ≤ 60) :
    Ev Z p dl al H0 σ (tCall sp_draw [] E0 (tCons (tVar 0) (tCons (tOp (rI0 fun i j => .int (i + j)) (tVar 1) (tC (.int 1))) tNil))) (IR 0 u) :=
  (ev_draw (b := u + 1) e0 (by omega) ((ev_add (ev_var (R := IR 0 u) e1 IR.mo ⟨u, rfl, h0, Int.le_refl _⟩) ev_int).wide (by omega) (by omega))).wide (by omega) (by omega)
theorem ev_start (e0 : σ[0]? = some (some (.ref p))) (e2 : σ[2]? = some (some (.int g))) (h0 : 1 ≤ g) (h1 : g ≤ 10000000) :
    Ev Z p dl al H0 σ (tCall sp_one [] E0 (tCons (tVar 0) (tCons (tLst (tCons (tC (.int 0)) (tCons (tC (.int 1)) (tCons (tCall sp_draw [] E0 (tCons (tVar 0) (tCons (tVar 2) tNil))) tNil)))) tNil))) (IR 0 10000000) :=
  ev_one (m := 2) (n := 3) e0 (by decide) IR.mo (ev_lst (by decide) IR.mo (eall_cons IR.mo (ev_int.wide (by decide) (by decide)) (eall_cons IR.mo (ev_int.wide (by decide) (by decide))
    (eall_cons IR.mo ((ev_draw (b := 10000000) e0 (by decide) (ev_gvar e2 h0 h1)).wide (by decide) (by decide)) eall_nil))))
end
theorem s_ifn {D : Ends} {σ : L2.St} {H : Hp} {c : TT} {t u : TS} (h : c σ H fun b H1 => if b = true then t { D with nx := u D } σ H1 else u D σ H1) : tSeq (tIfS c t tNext) u D σ H := h
theorem s_asg {D : Ends} {σ : L2.St} {H : Hp} {te : TE} {g : TG} {u : TS} (h : te σ H fun x H1 => g x σ H1 (u D)) : tSeq (tAsg te g) u D σ H := h
theorem two_of {xs : List V} (h1 : 2 ≤ xs.length) (h2 : xs.length ≤ 2) : ∃ x y, xs = [x, y] := by
  match xs, h1, h2 with
  | [x, y], _, _ => exact ⟨x, y, rfl⟩
theorem dI {K : PySem.W.Frag} {Z : Hp} {p dl al : Addr} {H0 : Hp} {σ : L2.St} {te : TE} {lo hi : Int} (h : Ev Z p dl al H0 σ te (IR lo hi)) (h1 : -999999999999 ≤ lo) (h2 : hi ≤ 999999999999) : Ev Z p dl al H0 σ te (DR K (Sm 30 1)) :=
  ev_wide (ev_ir h h1 h2) (by decide) (by decide)
theorem ixK {X : Cx} {K : PySem.W.Frag} (h : X.K = K) : IxR X (rIxT K) := h ▸ ix_tup
/-- what a for over range(..) asks -/
def RngGo (g : TG) (tb : TS) (D : Ends) (σ : L2.St) : List V → Hp → Prop := fun vs H1 => ∃ j : Int, vs = [.int j] ∧ -(2 ^ 62) ≤ j ∧ j < 2 ^ 62 ∧ ∃ W : Nat → Nat → L2.St → Hp → Prop, (∃ m, W 0 m σ H1) ∧ ∀ i m σ H, W i m σ H →
  ((Itr 0 j.toNat).stop i H ∧ D.nx σ H) ∨ ((Itr 0 j.toNat).go i H ∧ ∃ N : L2.St → Hp → Prop, (∀ σ' H', N σ' H' → ∃ m', m' < m ∧ W (i + 1) m' σ' H') ∧ ∀ x H', (Itr 0 j.toNat).yld i H x H' → g x σ H' fun σ2 H2 => tb { D with nx := N, ct := N, bk := D.nx } σ2 H2)
theorem s_rng {D : Ends} {σ : L2.St} {H : Hp} {ta : TA} {g : TG} {tb u : TS} (h : ta σ H (RngGo g tb { D with nx := u D } σ)) : tSeq (tFor (iRng1 ta) g tb) u D σ H := h
theorem s_rng1 {D : Ends} {σ : L2.St} {H : Hp} {ta : TA} {g : TG} {tb : TS} (h : ta σ H (RngGo g tb D σ)) : tFor (iRng1 ta) g tb D σ H := h
/-- one more pair at the end of a list that stands apart -/
theorem app_pair {Z : Hp} {p dl al f t : Addr} {H H3 : Hp} {xs : List V} {ps : List (Int × Int)} {a b : Int} (P : PotAt Z H p dl al) (nf : H f = none) (P3 : PotAt Z H3 p dl al) (k3 : Kp Z p dl H H3)
    (hf : H3 f = some (.lst xs)) (hp : Prs (hid Z p dl H3) xs ps) (nt : H3 t = none) :
    let H4 := upd (upd H3 t (.tup [.int a, .int b])) f (.lst (xs ++ [.ref t]))
    PotAt Z H4 p dl al ∧ Kp Z p dl H H4 ∧ H4 f = some (.lst (xs ++ [.ref t])) ∧ Prs (hid Z p dl H4) (xs ++ [.ref t]) (ps ++ [(a, b)]) := by
  intro H4
  have f1 := P.free nf
  have f2 := P.freeA nf
  have t1 := P3.free nt
  have tf : t ≠ f := fun e => by rw [← e, nt] at hf; cases hf
  refine ⟨(P3.new nt).upd f1.1 f1.2.1 f2 f1.2.2, Kp.upd_new (ne_of_new nf) (k3.trans (Kp.new nt)), upd_same, ?_⟩
  have tk : TupKeep (hid Z p dl H3) (hid Z p dl H4) := fun c ys e => by
    have n := hid_some e
    rw [hid_at n.1 n.2] at e ⊢
    have cf : c ≠ f := fun z => by rw [z, hf] at e; cases e
    have ct : c ≠ t := fun z => by rw [z, nt] at e; cases e
    show upd (upd H3 t _) f _ c = _
    rw [upd_ne cf, upd_ne ct]
    exact e
  refine Prs.app (hp.keep tk) (.cons ⟨t, rfl, ?_⟩ .nil)
  rw [hid_at t1.1 t1.2]
  show upd (upd H3 t _) f _ t = _
  rw [upd_ne tf, upd_same]
theorem atI_in {α : Type} {xs : List α} {i : Int} (h1 : -(xs.length : Int) ≤ i) (h2 : i < xs.length) : ∃ v, v ∈ xs ∧ atI xs i = some v := by
  unfold atI ixN
  by_cases h0 : 0 ≤ i
  · rw [if_pos h0, if_pos h2]
    have lt : i.toNat < xs.length := by omega
    exact ⟨xs[i.toNat], List.getElem_mem lt, List.getElem?_eq_getElem lt⟩
  · rw [if_neg h0, if_pos h1]
    have lt : (i + xs.length).toNat < xs.length := by omega
    exact ⟨xs[(i + xs.length).toNat], List.getElem_mem lt, List.getElem?_eq_getElem lt⟩
section
variable {K : PySem.W.Frag} {Z : Hp} {p dl al : Addr} {H0 : Hp} {σ : L2.St} {te ti : TE} {R : VR}
theorem ev_ixT {m c : Nat} {lo up : Int} (hm : Mo R) (h : Ev Z p dl al H0 σ te (TpR K m c R)) (hi : Ev Z p dl al H0 σ ti (IR lo up)) (h1 : -(m : Int) ≤ lo) (h2 : up < (m : Int)) : Ev Z p dl al H0 σ (tOp (rIxT K) te ti) R :=
  fun H Q P k q => h H _ P k fun x H1 P1 k1 r1 => hi H1 _ P1 (k.trans k1) fun y H2 P2 k2 ⟨i, e, i1, i2⟩ => by
    obtain ⟨a, xs, rfl, g, l1, l2, l3⟩ := TpR.mo hm _ _ _ k2 r1
    obtain ⟨v, hv, ev⟩ := atI_in (xs := xs) (i := i) (by omega) (by omega)
    exact ⟨a, xs, i, v, rfl, e, Same.seqT (hid_same _ _ _) g, ev, q _ _ P2 (k1.trans k2) (l3 v hv)⟩
end
theorem PairsR.tpI {K : PySem.W.Frag} {ps : List (Int × Int)} {v : V} {G : Hp} (h : PairsR K ps v G) (o : LogOk (-1) ps) : TpR K ps.length ps.length (TpR K 2 2 (IR 0 2000000000)) v G := by
  obtain ⟨a, xs, rfl, g, pr⟩ := h
  obtain ⟨hu, hb⟩ := o
  refine ⟨a, xs, rfl, .inl (.inl g), by rw [pr.len]; exact Nat.le_refl _, by rw [pr.len]; exact Nat.le_refl _, fun x hx => ?_⟩
  obtain ⟨i, hi⟩ := List.getElem?_of_mem hx
  obtain ⟨q, hq, t, rfl, gt⟩ := pr.get hi
  have hm := List.mem_of_getElem? hq
  have b1 := hu.bound q hm
  have b2 := hb q hm
  refine ⟨t, _, rfl, .inl (.inl gt), Nat.le_refl 2, Nat.le_refl 2, fun y hy => ?_⟩
  rcases List.mem_cons.mp hy with e | e
  · exact ⟨_, e, by omega, by omega⟩
  · exact ⟨_, List.mem_singleton.mp e, by omega, by omega⟩
theorem LogR.tpI {K : PySem.W.Frag} {n : Nat} {v : V} {G : Hp} (h : LogR K n v G) : ∃ L : Nat, L ≤ n ∧ TpR K L L (TpR K 2 2 (IR 0 2000000000)) v G :=
  let ⟨ps, hp, hl, ho⟩ := h
  ⟨ps.length, hl, hp.tpI ho⟩
theorem pair_data {K : PySem.W.Frag} {v : V} {G : Hp} (h : TpR K 2 2 (IR 0 2000000000) v G) : DR K (Sm 33 1) v G := h.data (n := 13) (k := 0) fun x hx => ir_data hx (by decide) (by decide)
theorem TpR.weak {K : PySem.W.Frag} {m c m' c' : Nat} {R R' : VR} {v : V} {G : Hp} (h : TpR K m c R v G) (h1 : m' ≤ m) (h2 : c ≤ c') (i : ∀ x, R x G → R' x G) : TpR K m' c' R' v G := by
  obtain ⟨a, xs, e, g, l1, l2, l3⟩ := h
  exact ⟨a, xs, e, g, Nat.le_trans h1 l1, Nat.le_trans l2 h2, fun x hx => i x (l3 x hx)⟩
theorem pD_lay : ∀ ps : List (Int × Int), PyData.canLayAll0 (ps.map pD) = true
  | [] => by simp [PyData.canLayAll0]
  | q :: r => by
    simp only [List.map_cons, PyData.canLayAll0, pD_lay r, Bool.and_true]
    simp [pD, two, PyData.canLay0, PyData.canLayAll0]
theorem pD_depth : ∀ ps : List (Int × Int), PyData.depthAll (ps.map pD) ≤ 1
  | [] => by simp [PyData.depthAll]
  | q :: r => by
    simp only [List.map_cons, PyData.depthAll]
    refine Nat.max_le.mpr ⟨?_, pD_depth r⟩
    simp [pD, two, PyData.depth, PyData.depthAll]
theorem pD_shaped (ps : List (Int × Int)) : SeqAt.shaped (.tuple (ps.map pD)) = true := by
  unfold SeqAt.shaped
  simp only [PyData.canLay0, pD_lay, PyData.depth, Bool.true_and]
  exact decide_eq_true (Nat.le_trans (Nat.succ_le_succ (pD_depth ps)) (show 2 ≤ 64 by decide))
theorem pD_eqv (ps : List (Int × Int)) : PyData.eqv (.tuple (ps.map pD)) (.tuple []) = ps.isEmpty := by
  cases ps <;> simp [PyData.eqv, PyData.eqvAll]
def sp_spoilt (K : PySem.W.Frag) : Sp := fun vs H Q _ => ∃ (Z : Hp) (p dl al : Addr) (v : V), vs = [.ref p, v] ∧ PotAt Z H p dl al ∧ LogR K 60 v (hid Z p dl H) ∧
  ∀ (x : V) (H' : Hp), PotAt Z H' p dl al → Kp Z p dl H H' → DR K (Sm 53122 5) x (hid Z p dl H') → Q x H'
end Lm

namespace Lm
open PySem PySem.Spec PyProof.Rows L2
/-! ### a list that grows while the pot is used -/
section
variable {Z H H' : Hp} {p dl al D : Addr} {o o' o2 : HO}
theorem PotAt.hide (P : PotAt Z H p dl al) (e : H D = some o) (h1 : D ≠ p) (h2 : D ≠ dl) : PotAt (L2.upd Z D o) H p dl al :=
  ⟨P.ob, P.de, P.li, P.ne, fun b x z => by
    by_cases q : b = D
    · rw [q, upd_same] at z
      rw [q, e]; exact z
    · rw [upd_ne q] at z
      exact P.zz b x z, by rw [upd_ne h1.symm]; exact P.zp, by rw [upd_ne h2.symm]; exact P.zd⟩
theorem PotAt.bare (P : PotAt (L2.upd Z D o) H p dl al) (n : Z D = none) : PotAt Z H p dl al := by
  have hp : D ≠ p := fun e => by have := P.zp; rw [← e, upd_same] at this; cases this
  have hd : D ≠ dl := fun e => by have := P.zd; rw [← e, upd_same] at this; cases this
  refine ⟨P.ob, P.de, P.li, P.ne, fun b x z => ?_, ?_, ?_⟩
  · have q : b ≠ D := ne_of_none z n
    exact P.zz b x (by rw [upd_ne q]; exact z)
  · have := P.zp; rw [upd_ne hp.symm] at this; exact this
  · have := P.zd; rw [upd_ne hd.symm] at this; exact this
theorem hid_hide : Same (hid (upd Z D o) p dl H) (hid Z p dl H) := fun b x e => by
  have n := hid_some e
  rw [hid_at n.1 n.2] at e
  have q : b ≠ D := fun q => by have := n.2.2; rw [q, upd_same] at this; cases this
  have z := n.2.2
  rw [upd_ne q] at z
  rw [hid_at n.1 ⟨n.2.1, z⟩]
  exact e
theorem hid_swap : Same (hid (upd Z D o) p dl H) (hid (upd Z D o') p dl (upd H D o2)) := fun b x e => by
  have n := hid_some e
  rw [hid_at n.1 n.2] at e
  have q : b ≠ D := fun q => by have := n.2.2; rw [q, upd_same] at this; cases this
  have z := n.2.2
  rw [upd_ne q] at z
  rw [hid_at n.1 ⟨n.2.1, by rw [upd_ne q]; exact z⟩, upd_ne q]
  exact e
theorem hid_new2 (n : H D = none) : Same (hid Z p dl H) (hid (upd Z D o) p dl (upd H D o2)) := fun b x e => by
  have m := hid_some e
  rw [hid_at m.1 m.2] at e
  have q : b ≠ D := ne_of_none e n
  rw [hid_at m.1 ⟨m.2.1, by rw [upd_ne q]; exact m.2.2⟩, upd_ne q]
  exact e
end
theorem ev_lcR {Z : Hp} {p dl al : Addr} {H0 : Hp} {σ : L2.St} {te : TE} {R : VR} {v : Nat} {j : Int} (j0 : 0 ≤ j) (j1 : j ≤ 1000) (hm : Mo R)
    (hT : ∀ (Z' H1 : Hp) (x : V), PotAt Z' H1 p dl al → Same (hid Z p dl H0) (hid Z' p dl H1) → Ev Z' p dl al H1 ((wipe σ [v]).set v (some x)) te R) :
    Ev Z p dl al H0 σ (tLc (iRng1 (tCons (tC (.int j)) tNil)) (gName v) tYes te [v]) (LsR j.toNat j.toNat R) := fun H Q P k q => by
  refine ⟨j, rfl, by omega, by omega, fun D nD => ?_⟩
  have f := P.free nD
  have fa := P.freeA nD
  refine lc_range (fun i Hj => ∃ acc, PotAt (upd Z D (.lst acc)) Hj p dl al ∧ acc.length = i ∧ (∀ x ∈ acc, R x (hid (upd Z D (.lst acc)) p dl Hj)) ∧ Same (hid Z p dl H) (hid (upd Z D (.lst acc)) p dl Hj)) ⟨[], (P.new nD).hide upd_same f.1 f.2.1, rfl, (fun x hx => nomatch hx), hid_new2 nD⟩ ?_ ?_
  · rintro i Hj hi ⟨acc, Pj, la, ra, sj⟩
    refine ⟨?_, yes_if ?_⟩
    · simp only [wipe, List.set_set]
    · refine hT _ Hj _ Pj (Same.trans k sj) Hj _ Pj (Kp.refl _ _ _) fun y H4 P4 k4 r4 => ⟨acc, P4.zz _ _ upd_same, small1000 (by omega), acc ++ [y], ?_, by rw [List.length_append, la]; rfl, fun x hx => ?_, (Same.trans sj k4).trans hid_swap⟩
      · exact ((P4.bare f.2.2).upd f.1 f.2.1 fa f.2.2).hide upd_same f.1 f.2.1
      · rcases List.mem_append.mp hx with e | e
        · exact hm _ _ _ (Same.trans k4 hid_swap) (ra x e)
        · rw [List.mem_singleton.mp e]
          exact hm _ _ _ hid_swap r4
  · rintro Hn ⟨acc, Pn, la, ra, sn⟩
    have e := Pn.zz _ _ upd_same
    refine q _ Hn (Pn.bare f.2.2) (sn.trans hid_hide) ⟨D, acc, rfl, by rw [hid_at f.1 f.2]; exact e, by omega, by omega, fun x hx => hm _ _ _ hid_hide (ra x hx)⟩
section
variable {K : PySem.W.Frag} {Z : Hp} {p dl al : Addr} {H0 : Hp} {σ : L2.St} {te : TE}
theorem ev_spoilt {i j : Nat} {v : V} (e : σ[i]? = some (some (.ref p))) (ej : σ[j]? = some (some v)) (hv : LogR K 60 v (hid Z p dl H0)) : Ev Z p dl al H0 σ (tCall (sp_spoilt K) [] E0 (tCons (tVar i) (tCons (tVar j) tNil))) (DR K (Sm 53122 5)) :=
  fun H Q P k q => ⟨_, e, _, ej, Z, p, dl, al, v, rfl, P, LogR.mo _ _ _ k hv, fun x H' P' k' r => q x H' P' k' r⟩
theorem ev_log {i : Nat} {u : Int} (e : σ[i]? = some (some (.ref p))) (h0 : 0 ≤ u) (h1 : u ≤ 60) (h : Ev Z p dl al H0 σ te (IR 1 10000000)) : Ev Z p dl al H0 σ (tCall (sp_log K) [] E0 (tCons (tVar i) (tCons (tC (.int u)) (tCons te tNil)))) (LogR K u.toNat) :=
  fun H Q P k q => ⟨_, e, h H _ P k fun v H1 P1 k1 ⟨g, eg, g0, g1⟩ => ⟨Z, p, dl, al, u, g, by rw [eg]; rfl, P1, h0, h1, g0, g1, fun x H' P' k' r => q x H' P' (k1.trans k') r⟩⟩
end
theorem LogR.tpD1 {K : PySem.W.Frag} {n : Nat} {v : V} {G : Hp} (h : LogR K n v G) : TpR K 0 n (DR K (Sm 33 1)) v G :=
  let ⟨L, hL, t⟩ := h.tpI
  t.weak (Nat.zero_le _) hL fun x hx => pair_data hx
theorem Prs.tpD1 {K : PySem.W.Frag} {n : Nat} {a : Addr} {xs : List V} {ps : List (Int × Int)} {G : Hp} (g : G a = some (.tup xs)) (h : Prs G xs ps) (hl : ps.length ≤ n) (hb : ∀ q ∈ ps, q.1.natAbs < 10 ^ 12 ∧ q.2.natAbs < 10 ^ 12) : TpR K 0 n (DR K (Sm 33 1)) (.ref a) G := by
  refine ⟨a, xs, rfl, .inl (.inl g), Nat.zero_le _, by rw [h.len]; exact hl, fun x hx => ?_⟩
  obtain ⟨i, hi⟩ := List.getElem?_of_mem hx
  obtain ⟨q, hq, t, rfl, gt⟩ := h.get hi
  have b := hb q (List.mem_of_getElem? hq)
  exact ⟨_, .tup (.inl (.inl gt)) (.cons (.int _) (.cons (.int _) .nil)), pD_sm b.1 b.2⟩
/-! ### how long a fault's text is -/
theorem two_sm {i : Nat} (h : i < 1000) (x : Str) (hx : Sm 20 0 (.str x)) : Sm 60 1 (two (.int i) (.str x)) :=
  (Sm.tuple (c := 2) (n := 20) (k := 0) (ds := [.int i, .str x]) (fun d hd => by
    rcases List.mem_cons.mp hd with e | e
    · rw [e]; exact (Sm.int (by omega)).wide (by decide) (by decide)
    · rw [List.mem_singleton.mp e]; exact hx) (Nat.le_refl 2)).wide (by decide) (by decide)
theorem logGo_sm : ∀ (ds : List PyData) (i : Nat) (b : Int), i + ds.length ≤ 60 → Sm 60 1 (logGo ds i b)
  | [], _, _, _ => show Sm 60 1 .none from sm_chk (by decide +kernel)
  | d :: r, i, b, h => by
    simp only [List.length_cons] at h
    simp only [logGo]
    split
    · exact two_sm (by omega) _ (sm_chk (by decide +kernel))
    · split
      · exact two_sm (by omega) _ (sm_chk (by decide +kernel))
      · exact logGo_sm r (i + 1) _ (by omega)
theorem logErr_sm (d : PyData) : Sm 60 1 (logErr d) := by
  have e0 : Sm 60 1 (two .none (.str "log")) := sm_chk (by decide +kernel)
  unfold logErr
  split
  · split
    · exact e0
    · exact logGo_sm _ _ _ (by omega)
  · exact e0
theorem pair_fine {d : PyData} (h : Sm 60 1 d) (b : Bool) : Fine (.list [d, .bool b]) :=
  (Sm.list (c := 2) (n := 60) (k := 1) (ds := [d, .bool b]) (fun e he => by
    rcases List.mem_cons.mp he with z | z
    · rw [z]; exact h
    · rw [List.mem_singleton.mp z]; cases b <;> exact sm_chk (by decide +kernel)) (Nat.le_refl 2)).fine (by decide) (by decide)
theorem Flat.dq0 {K : PySem.W.Frag} {H H' : Hp} {r : V} {e : PyData} (h : Flat K H H' r e) : Dq K H' r e := by
  rcases h with ⟨rfl, rfl⟩ | ⟨t, x, y, dx, dy, rfl, n, g, rfl, hx, hy⟩
  · exact .non
  · exact .tup (.inl (.inl g)) (.cons (hx _) (.cons (hy _) .nil))
theorem Flat.isN {K : PySem.W.Frag} {H H' : Hp} {r : V} {e : PyData} (h : Flat K H H' r e) : decide (r = .non) = Lm.isN e := by
  rcases h with ⟨rfl, rfl⟩ | ⟨t, x, y, dx, dy, rfl, _, _, rfl, _, _⟩ <;> rfl
def sp_law (K : PySem.W.Frag) : Sp := fun vs H Q _ => ∃ (a : Addr) (ns : List Int), vs = [.ref a] ∧ SqL K H a (ns.map V.int) ∧ ns.length ≤ 63 ∧ ∀ H', Q (.bl true) H'
theorem sp_law_ok (K : PySem.W.Frag) (H : Hp) (a : Addr) (ns : List Int) (hl : ns.length ≤ 63) (_ : Only H) (hS : SqL K H a (ns.map V.int)) : sp_law K [.ref a] H (fun v _ => v = .bl true) fun _ _ _ => False :=
  ⟨a, ns, rfl, hS, hl, fun _ => rfl⟩
/-- what a for over a list asks -/
def LstGo (K : PySem.W.Frag) (g : TG) (tb : TS) (D : Ends) (σ : L2.St) : VK := fun x H1 => ∃ a, x = .ref a ∧ (∃ xs, SqL K H1 a xs) ∧ ∃ W : Nat → Nat → L2.St → Hp → Prop, (∃ m, W 0 m σ H1) ∧ ∀ i m σ H, W i m σ H →
  ((Itl K a).stop i H ∧ D.nx σ H) ∨ ((Itl K a).go i H ∧ ∃ N : L2.St → Hp → Prop, (∀ σ' H', N σ' H' → ∃ m', m' < m ∧ W (i + 1) m' σ' H') ∧ ∀ x H', (Itl K a).yld i H x H' → g x σ H' fun σ2 H2 => tb { D with nx := N, ct := N, bk := D.nx } σ2 H2)
theorem s_lst1 {K : PySem.W.Frag} {D : Ends} {σ : L2.St} {H : Hp} {te : TE} {g : TG} {tb : TS} (h : te σ H (LstGo K g tb D σ)) : tFor (iList K te) g tb D σ H := h
end Lm

namespace Lm
open PySem PySem.Spec PyProof.Rows L2
theorem ev_lg {K : PySem.W.Frag} {Z : Hp} {p dl al : Addr} {H0 : Hp} {σ : L2.St} (e1 : σ[1]? = some (some (.ref p))) :
    Ev Z p dl al H0 σ (tCall (sp_log K) [] E0 (tCons (tVar 1) (tCons (tC (.int 60)) (tCons (tCall sp_one [] E0 (tCons (tVar 1) (tCons (tLst (tCons (tC (.int 4)) (tCons (tC (.int 100)) (tCons (tOp (rI CPow fun i j => .int (i ^ j.toNat)) (tC (.int 10)) (tC (.int 7))) tNil)))) tNil))) tNil)))) (LogR K 60) :=
  ev_log (u := 60) e1 (by decide) (by decide) (ev_one (m := 2) (n := 3) e1 (by decide) IR.mo (ev_lst (by decide) IR.mo (eall_cons IR.mo (ev_int.wide (by decide) (by decide)) (eall_cons IR.mo (ev_int.wide (by decide) (by decide)) (eall_cons IR.mo ((ev_pow (by decide)).wide (by decide) (by decide)) eall_nil)))))
theorem s_setL {D : Ends} {σ : L2.St} {H : Hp} {ta : TA} {u : TS} {i : Nat} (h : ta σ H fun vs H1 => vs.length ≤ sizeLine ∧ ∀ t, H1 t = none → u D (σ.set i (some (.ref t))) (upd H1 t (.lst vs))) : tSeq (tAsg (tLst ta) (gName i)) u D σ H := h
theorem app_zero {K : PySem.W.Frag} {φ : PyData → Prop} {Z : Hp} {p dl al L w u : Addr} {H : Hp} {vs : List V} (P : PotAt Z H p dl al) (nL : H L = none) (nw : (upd H L (.lst vs)) w = none) (nu : (upd (upd H L (.lst vs)) w (.tup [.int 0, .int 0])) u = none)
    (hv : ∀ x ∈ vs, DR K φ x (hid Z p dl H)) (h0 : φ (.tuple [.tuple [.int 0, .int 0]])) :
    let H4 := upd (upd (upd (upd H L (.lst vs)) w (.tup [.int 0, .int 0])) u (.tup [.ref w])) L (.lst (vs ++ [.ref u]))
    PotAt Z H4 p dl al ∧ Kp Z p dl H H4 ∧ hid Z p dl H4 L = some (.lst (vs ++ [.ref u])) ∧ ∀ x ∈ vs ++ [.ref u], DR K φ x (hid Z p dl H4) := by
  intro H4
  have P1 := P.new (o := .lst vs) nL
  have P2 := P1.new (o := .tup [.int 0, .int 0]) nw
  have P3 := P2.new (o := .tup [.ref w]) nu
  have fL := P.free nL
  have fA := P.freeA nL
  have fw := P1.free nw
  have fu := P2.free nu
  have wL : w ≠ L := fun e => by rw [e, upd_same] at nw; cases nw
  have uw : u ≠ w := fun e => by rw [e, upd_same] at nu; cases nu
  have uL : u ≠ L := fun e => by rw [e, upd_ne wL.symm, upd_same] at nu; cases nu
  have k4 : Kp Z p dl H H4 := Kp.upd_new (ne_of_new nL) ((Kp.new nL).trans ((Kp.new nw).trans (Kp.new nu)))
  refine ⟨P3.upd fL.1 fL.2.1 fA fL.2.2, k4, hid_upd fL.1 fL.2, fun x hx => ?_⟩
  rcases List.mem_append.mp hx with e | e
  · exact DR.mo _ _ _ k4 (hv x e)
  · rw [List.mem_singleton.mp e]
    have e1 : hid Z p dl H4 u = some (.tup [.ref w]) := by
      rw [hid_at fu.1 fu.2]
      show upd (upd (upd (upd H L _) w _) u _) L _ u = _
      rw [upd_ne uL, upd_same]
    have e2 : hid Z p dl H4 w = some (.tup [.int 0, .int 0]) := by
      rw [hid_at fw.1 fw.2]
      show upd (upd (upd (upd H L _) w _) u _) L _ w = _
      rw [upd_ne wL, upd_ne uw.symm, upd_same]
    exact ⟨_, .tup (.inl (.inl e1)) (.cons (.tup (.inl (.inl e2)) (.cons (.int 0) (.cons (.int 0) .nil))) .nil), h0⟩
end Lm

namespace Lm
open PySem PySem.Spec PyProof.Rows L2 PySem.SeqAt PySem.MeetsSeq
open PySem.AutoSeq1 (wpAny_loadPart')
theorem str_declines_dict (b : Str) (u : Tok) (l : Addr) (c : Value) (es : Array DictEntry) (n : Nat) (dd : Option Addr) (sl : Array (Option Value)) :
    Meets (Builtin.«str.__eq__» ⟨[.str b u, .ref l], []⟩) (fun _ R s => s.heap.get? l = some { cls := c, dict := dd, data := .dict es n, slots := sl } ∧ R (.ok (.ret .notImplemented)) s) :=
  .of_wp fun prog w A R s h => by obtain ⟨hp, g, d, tk, os⟩ := s; obtain ⟨hl, h⟩ := h; wp_walk using wpAny_loadPart' hl, wpAny_load hl; exact ⟨_, rfl, h⟩
section
variable {A : Around} {s : Shared}
theorem rc_str_dict {l : Addr} {dd : Option Addr} {sl : Array (Option Value)} {es : Array DictEntry} {n : Nat} (b : Str) (u : Tok) (ho : s.heap.get? l = some { cls := .type "dict", dict := dd, data := .dict es n, slots := sl }) (hu : A.units < cLine) : RcAt A s (.str b u) (.ref l) false := fun prog w E Q h => by
  have ty : s.TypeIs (.ref l) "dict" := ⟨_, ho, rfl⟩
  refine rc_eq_decline_or (k := false) (typeIs_str s b u) ty (by decide) F.sub_dict_str F.slot_str_eq F.slot_dict_eq_refl
    (fun _ hq => call_meets F.slot_str_eq (typeIs_str s b u) F.entry_str_eq (F.args_str_eq_2 _ _) (str_declines_dict b u l (.type "dict") es n dd sl) ⟨ho, hq⟩)
    (fun _ hq => ?_)
    (fun _ hq => wpAny_of_eq (rfl : isSame (.str b u) (.ref l) = pure false) hq) (.inr hu) h
  refine PySem.wpAny_call_entry PySem.F.slot_dict_eq_refl ty PySem.F.entry_dict_eq ?_ (PySem.F.args_dict_eq_2 _ _)
  show wpAny _ _ (Builtin.Dict.dictSlotArgs "__eq__" ⟨[.ref l, .str b u], []⟩ >>= _) _ _ s
  refine wpAny_bind ?_
  unfold Builtin.Dict.dictSlotArgs
  refine wpAny_bind (wpAny_notOrdered_dict ty ?_)
  show wpAny _ _ (pure (Value.ref l, Value.str b u)) _ _ s
  refine wpAny_pure ?_
  refine wpAny_bind (wpAny_isInstance (T := "str") (typeIs_str s b u) PySem.F.sub_str_dict ?_)
  simp only [Bool.not_false, if_true]
  exact wpAny_bind (wpAny_rule (wpAny_pure ⟨_, rfl, hq⟩))
theorem eq_str_dict {l : Addr} {dd : Option Addr} {sl : Array (Option Value)} {es : Array DictEntry} {n : Nat} (b : Str) (u : Tok) (ho : s.heap.get? l = some { cls := .type "dict", dict := dd, data := .dict es n, slots := sl }) (hu : A.units < cLine) : EqAt A s (.str b u) (.ref l) false := fun prog w E Q h => by
  unfold eqBool
  refine wpAny_holding ?_
  refine wpAny_ite_split (fun hab => absurd (eq_of_beq hab) nofun) (fun _ => ?_)
  exact wpAny_bind (rc_str_dict b u ho hu prog w E _ (wpAny_truthy_bool h))
end
theorem in1_units {A : Around} (h : A.units + 64 < cLine) : A.in1.units < cLine := by
  have : A.in1.units = A.units + 1 := rfl
  omega
def strIs (d : PyData) (z : Str) : Bool := match d with | .str x => z == x | _ => false
def rInStr (K : PySem.W.Frag) : R2 := fun x y H Q => ∃ (d : PyData) (p : Addr) (zs : List Str), Dq K H x d ∧ y = .ref p ∧ (SqL K H p (zs.map V.str) ∨ SqT K H p (zs.map V.str)) ∧ Q (.bl (zs.any (strIs d))) H
section
variable {X : Cx}
def strE (d : PyData) : Value → Bool | .str z _ => strIs d z | _ => false
theorem vals_strs {d : PyData} : ∀ {zs : List Str} {its : List Value}, Vals (zs.map V.str) its → its.any (strE d) = zs.any (strIs d) ∧ ∀ w ∈ its, ∃ z t, w = .str z t
  | [], _, .nil => ⟨rfl, fun w h => nomatch h⟩
  | z :: r, _, .cons ⟨t, e⟩ h => by
    obtain ⟨h1, h2⟩ := vals_strs (d := d) h
    subst e
    refine ⟨by rw [List.any_cons, List.any_cons, h1]; rfl, fun w hw => ?_⟩
    rcases List.mem_cons.mp hw with e | e
    · exact ⟨z, t, e⟩
    · exact h2 w e
theorem eq_str_data {pins : List (Addr × Obj)} {σ : L2.St} {H : Hp} {s : Shared} (I : Inv X pins σ H s) {x : V} {v : Value} {d : PyData} (hd : Dq X.K H x d) (rx : L2.RelV x v) (hu : X.A.in1.units < cLine) (z : Str) (t : Tok) : EqAt X.A.in1 s (.str z t) v (strIs d z) := by
  cases hd with
  | non => cases rx; exact EqAt.str_none z t
  | bl b => cases rx; exact EqAt.str_bool z t b
  | int i => obtain ⟨u, rfl⟩ := rx; exact EqAt.str_int z t i u
  | str y => obtain ⟨u, rfl⟩ := rx; exact EqAt.str_str z t y u
  | lst hs _ =>
    cases rx
    obtain ⟨its, _, pl, _⟩ := I.list hs
    exact EqAt.str_list z t pl.isList hu
  | tup hs _ =>
    cases rx
    obtain ⟨its, _, pl, _⟩ := I.tuple hs
    exact EqAt.str_tuple z t pl hu
  | dct hs _ =>
    cases rx
    obtain ⟨_, _, vs, _, o, es, ep, e, hx, hdt, _⟩ := I.hok _ _ hs
    obtain ⟨cls, dd, data, sl⟩ := o
    have hc := hx.1
    simp only at hdt hc
    subst hdt hc
    exact eq_str_dict z t e hu
theorem op_inStr (hu : X.A.in1.units < cLine) : OpR X (compareOp .In) (rInStr X.K) := by
  intro pins s σ H x y v u Q I rx ry h
  obtain ⟨d, p, zs, hd, rfl, hq, q⟩ := h
  cases ry
  rcases hq with hq | hq
  · obtain ⟨its, r, pl, hz⟩ := I.list hq
    obtain ⟨h1, h2⟩ := vals_strs (d := d) r
    refine SeqAt.in_listAt (strE d) pl.isList (fun w hw => ?_) ⟨.bl _, H, I, rfl, ?_⟩
    · obtain ⟨z, t, rfl⟩ := h2 w (by simpa using hw)
      exact eq_str_data I hd rx hu z t
    · rw [show its.toArray.any (strE d) = its.any (strE d) by simp, h1]
      exact q
  · obtain ⟨its, r, pl, hz⟩ := I.tuple hq
    obtain ⟨h1, h2⟩ := vals_strs (d := d) r
    refine SeqAt.in_tupleAt (strE d) pl (fun w hw => ?_) ⟨.bl _, H, I, rfl, ?_⟩
    · obtain ⟨z, t, rfl⟩ := h2 w (by simpa using hw)
      exact eq_str_data I hd rx hu z t
    · rw [show its.toArray.any (strE d) = its.any (strE d) by simp, h1]
      exact q
end
end Lm

namespace Lm
open PySem PySem.Spec PyProof.Rows L2
/-! ### runs and motions, as functions of data -/
def runOf : PyData → Option (Int × Int)
  | .tuple [.int a, .int s, .int c] => if 0 ≤ a ∧ 1 ≤ s ∧ 1 ≤ c ∧ (c = 1 → s = 1) ∧ a + s * (c - 1) ≤ 1000000000 then some (a, a + s * (c - 1)) else none
  | _ => none
def motGo : List PyData → Nat → Int → PyData
  | [], _, _ => .none
  | d :: r, i, b => match runOf d with
    | none => two (.int i) (.str "run")
    | some (on, off) => if on ≤ b then two (.int i) (.str "order") else motGo r (i + 1) off
def motErr : PyData → PyData
  | .tuple ds => if 360 < ds.length then two .none (.str "motions") else motGo ds 0 (-1)
  | _ => two .none (.str "motions")
theorem motGo_cons {ds : List PyData} {i : Nat} {b : Int} {d : PyData} (h : ds[i]? = some d) : motGo (ds.drop i) i b = motGo (d :: ds.drop (i + 1)) i b := by
  obtain ⟨hi, e⟩ := List.getElem?_eq_some_iff.mp h
  rw [List.drop_eq_getElem_cons hi, e]
theorem run_bounds {a s c : Int} (h0 : 0 ≤ a) (h1 : 1 ≤ s) (h2 : 1 ≤ c) (h3 : c = 1 → s = 1) (h4 : a + s * (c - 1) ≤ 1000000000) : a ≤ 1000000000 ∧ s ≤ 1000000000 ∧ c ≤ 1000000001 := by
  have p0 : 0 ≤ s * (c - 1) := Int.mul_nonneg (by omega) (by omega)
  have p1 : 1 * (c - 1) ≤ s * (c - 1) := Int.mul_le_mul_of_nonneg_right h1 (by omega)
  refine ⟨by omega, ?_, by omega⟩
  by_cases e : c = 1
  · rw [h3 e]; decide
  · have p2 : s * 1 ≤ s * (c - 1) := Int.mul_le_mul_of_nonneg_left (by omega) (by omega)
    omega
theorem runOf_wt {d : PyData} : (runOf d).isSome = true → ∃ a s c, d = .tuple [.int a, .int s, .int c] ∧ runOf d = some (a, a + s * (c - 1)) ∧ 0 ≤ a ∧ a ≤ 1000000000 ∧ 1 ≤ s ∧ s ≤ 1000000000 ∧ 1 ≤ c ∧ c ≤ 1000000001 := by
  unfold runOf
  split
  · rename_i a s c
    split
    · rename_i h
      have b := run_bounds h.1 h.2.1 h.2.2.1 h.2.2.2.1 h.2.2.2.2
      exact fun _ => ⟨a, s, c, rfl, rfl, h.1, b.1, h.2.1, b.2.1, h.2.2.1, b.2.2⟩
    · intro h; cases h
  · intro h; cases h
theorem wt3 {d : PyData} (h : wt d 3 = true) : ∃ a b c, d = .tuple [.int a, .int b, .int c] := by
  unfold wt at h
  split at h
  · rename_i ds
    simp only [Bool.and_eq_true, decide_eq_true_eq] at h
    obtain ⟨h1, h2⟩ := h
    match ds, h1, h2 with
    | [x, y, z], _, h2 =>
      simp only [List.all_cons, List.all_nil, Bool.and_true, Bool.and_eq_true] at h2
      cases x <;> cases y <;> cases z <;> first | exact ⟨_, _, _, rfl⟩ | (simp [wh] at h2)
    | [], h1, _ => exact absurd h1 (by simp)
    | [_], h1, _ => exact absurd h1 (by simp)
    | [_, _], h1, _ => exact absurd h1 (by simp)
    | _ :: _ :: _ :: _ :: _, h1, _ => exact absurd h1 (by simp only [List.length_cons]; omega)
  · cases h
theorem wt3_no {d : PyData} (h : wt d 3 = false) : runOf d = none := by
  unfold runOf
  split
  · simp [wt, wh] at h
  · rfl
theorem runOf_len {ds : List PyData} (h : (ds.length : Int) ≠ 3) : runOf (.tuple ds) = none := by
  unfold runOf
  split
  · rename_i e
    cases e
    exact absurd rfl h
  · rfl
theorem runOf_out {ds : List PyData} (h : ds.all (inW 0 1000000001) = false) : runOf (.tuple ds) = none := by
  cases e : runOf (.tuple ds) with
  | none => rfl
  | some ab =>
    obtain ⟨a, s, c, e1, _, h1, h2, h3, h4, h5, h6⟩ := runOf_wt (d := .tuple ds) (by rw [e]; rfl)
    cases e1
    have g : (List.all [PyData.int a, PyData.int s, PyData.int c] (inW 0 1000000001)) = true := by
      simp only [List.all_cons, List.all_nil, Bool.and_true, inW, Bool.and_eq_true, decide_eq_true_eq]
      omega
    rw [g] at h
    cases h
theorem runOf_eq {a s c : Int} : (runOf (.tuple [.int a, .int s, .int c])).isSome = decide (0 ≤ a ∧ 1 ≤ s ∧ 1 ≤ c ∧ (c = 1 → s = 1) ∧ a + s * (c - 1) ≤ 1000000000) := by
  show (if 0 ≤ a ∧ 1 ≤ s ∧ 1 ≤ c ∧ (c = 1 → s = 1) ∧ a + s * (c - 1) ≤ 1000000000 then some (a, a + s * (c - 1)) else none).isSome = _
  by_cases h : 0 ≤ a ∧ 1 ≤ s ∧ 1 ≤ c ∧ (c = 1 → s = 1) ∧ a + s * (c - 1) ≤ 1000000000
  · rw [if_pos h, decide_eq_true h]; rfl
  · rw [if_neg h, decide_eq_false h]; rfl
theorem log2_sub {c : Int} (h : c.natAbs.log2 < 1920) : (c - 1).natAbs.log2 < 2000 := by
  have h1 : c.natAbs < 2 ^ 1920 := by
    by_cases z : c.natAbs = 0
    · rw [z]; exact Nat.two_pow_pos _
    · exact (Nat.log2_lt z).mp h
  by_cases z : (c - 1).natAbs = 0
  · rw [z]; decide
  · refine (Nat.log2_lt z).mpr ?_
    have h2 : (2 : Nat) ^ 1920 + 1 ≤ 2 ^ 2000 := by
      have : (2 : Nat) ^ 1921 ≤ 2 ^ 2000 := Nat.pow_le_pow_right (by decide) (by decide)
      have e : (2 : Nat) ^ 1921 = 2 ^ 1920 * 2 := Nat.pow_succ ..
      have p : 0 < (2 : Nat) ^ 1920 := Nat.two_pow_pos _
      omega
    omega
theorem run_mulW {a s c : Int} (h : (PyData.tuple [.int a, .int s, .int c]).showable = true) : CMulW s (c - 1) := by
  simp only [PyData.showable, PyData.showableAll, Bool.and_true, Bool.and_eq_true, decide_eq_true_eq] at h
  have := log2_sub h.2.2
  unfold CMulW
  omega
theorem show_get : ∀ {ds : List PyData} {i : Nat} {d : PyData}, PyData.showableAll ds = true → ds[i]? = some d → d.showable = true
  | [], _, _, _, e => by simp at e
  | x :: r, 0, d, h, e => by
    simp only [PyData.showableAll, Bool.and_eq_true] at h
    simp at e; rw [← e]; exact h.1
  | x :: r, i + 1, d, h, e => by
    simp only [PyData.showableAll, Bool.and_eq_true] at h
    exact show_get h.2 (by simpa using e)
def sp_last (K : PySem.W.Frag) : Sp := fun vs H Q _ => ∃ (t : Addr) (a s c : Int), vs = [.ref t] ∧ SqT K H t [.int a, .int s, .int c] ∧ CMulW s (c - 1) ∧ Q (.int (a + s * (c - 1))) H
def sp_boolS (K : PySem.W.Frag) (F : PyData → Bool) : Sp := fun vs H Q _ => ∃ v d, vs = [v] ∧ Dq K H v d ∧ d.showable = true ∧ ∀ H', Same H H' → Q (.bl (F d)) H'
def sp_errS (K : PySem.W.Frag) (F : PyData → PyData) : Sp := fun vs H Q _ => ∃ v d, vs = [v] ∧ Dq K H v d ∧ d.showable = true ∧ ∀ r H', Same H H' → Flat K H H' r (F d) → Q r H'
def lampB (d : PyData) : Bool := match d with | .tuple [k, s] => (["hold", "pulse"] : List Str).any (strIs k) && inW 1 1000000000 s | _ => false
theorem motGo_sm : ∀ (ds : List PyData) (i : Nat) (b : Int), i + ds.length ≤ 360 → Sm 60 1 (motGo ds i b)
  | [], _, _, _ => show Sm 60 1 .none from sm_chk (by decide +kernel)
  | d :: r, i, b, h => by
    simp only [List.length_cons] at h
    simp only [motGo]
    split
    · exact two_sm (by omega) _ (sm_chk (by decide +kernel))
    · split
      · exact two_sm (by omega) _ (sm_chk (by decide +kernel))
      · exact motGo_sm r (i + 1) _ (by omega)
theorem motErr_sm (d : PyData) : Sm 60 1 (motErr d) := by
  have e0 : Sm 60 1 (two .none (.str "motions")) := sm_chk (by decide +kernel)
  unfold motErr
  split
  · split
    · exact e0
    · exact motGo_sm _ _ _ (by omega)
  · exact e0
end Lm

namespace Lm
open PySem PySem.Spec PyProof.Rows L2
def sp_lamp (K : PySem.W.Frag) : Sp := fun vs H Q _ => ∃ (Z : Hp) (p dl al : Addr) (g : Int), vs = [.ref p, .int g] ∧ PotAt Z H p dl al ∧ 1 ≤ g ∧ g ≤ 1000000000 ∧
  ∀ (x : V) (H' : Hp), PotAt Z H' p dl al → Kp Z p dl H H' → TpR K 2 2 (DR K (Sm 30 1)) x (hid Z p dl H') → Q x H'
def sp_far (K : PySem.W.Frag) : Sp := fun vs H Q _ => ∃ (Z : Hp) (p dl al : Addr) (u : Int), vs = [.ref p, .int u] ∧ PotAt Z H p dl al ∧ 0 ≤ u ∧ u ≤ 40 ∧
  ∀ (x : V) (H' : Hp), PotAt Z H' p dl al → Kp Z p dl H H' → TpR K 0 40 (TpR K 3 3 (IR 0 2000000000)) x (hid Z p dl H') → Q x H'
def sp_spoiltR (K : PySem.W.Frag) : Sp := fun vs H Q _ => ∃ (Z : Hp) (p dl al : Addr) (v : V), vs = [.ref p, v] ∧ PotAt Z H p dl al ∧ TpR K 0 40 (TpR K 3 3 (IR 0 2000000000)) v (hid Z p dl H) ∧
  ∀ (x : V) (H' : Hp), PotAt Z H' p dl al → Kp Z p dl H H' → DR K (Sm 53122 5) x (hid Z p dl H') → Q x H'
section
variable {K : PySem.W.Frag} {Z : Hp} {p dl al : Addr} {H0 : Hp} {σ : L2.St} {te : TE} {R : VR}
theorem ev_iw {a b c d : Int} (h : Ev Z p dl al H0 σ te (IR a b)) (h1 : c ≤ a := by decide) (h2 : b ≤ d := by decide) : Ev Z p dl al H0 σ te (IR c d) := h.wide h1 h2
theorem ev_ivar {i : Nat} {g lo hi : Int} (e : σ[i]? = some (some (.int g))) (h0 : lo ≤ g) (h1 : g ≤ hi) : Ev Z p dl al H0 σ (tVar i) (IR lo hi) := ev_var e IR.mo ⟨g, rfl, h0, h1⟩
theorem ev_drawC {i : Nat} {n : Int} (e : σ[i]? = some (some (.ref p))) (h0 : 1 ≤ n := by decide) (h1 : n < 1073741824 := by decide) : Ev Z p dl al H0 σ (tCall sp_draw [] E0 (tCons (tVar i) (tCons (tC (.int n)) tNil))) (IR 0 (n - 1)) :=
  ev_draw (b := n) e h1 (ev_int.wide h0 (Int.le_refl _))
theorem ev_drawP {i : Nat} {a : Int} {j : Int} (c : CPow a j) (e : σ[i]? = some (some (.ref p))) (h0 : 1 ≤ a ^ j.toNat := by decide) (h1 : a ^ j.toNat < 1073741824 := by decide) :
    Ev Z p dl al H0 σ (tCall sp_draw [] E0 (tCons (tVar i) (tCons (tOp (rI CPow fun i j => .int (i ^ j.toNat)) (tC (.int a)) (tC (.int j))) tNil))) (IR 0 (a ^ j.toNat - 1)) :=
  ev_draw (b := a ^ j.toNat) e h1 ((ev_pow c).wide h0 (Int.le_refl _))
theorem ei_cons {lo hi : Int} {tl : TA} {a b : Nat} {c d : Int} (h1 : Ev Z p dl al H0 σ te (IR c d)) (h2 : EvA Z p dl al H0 σ tl (AllR a b (IR lo hi))) (h3 : lo ≤ c := by decide) (h4 : d ≤ hi := by decide) : EvA Z p dl al H0 σ (tCons te tl) (AllR (a + 1) (b + 1) (IR lo hi)) :=
  eall_cons IR.mo (h1.wide h3 h4) h2
end
/-- one more thing at the end of a list that stands apart -/
theorem app_any {K : PySem.W.Frag} {Z : Hp} {p dl al f : Addr} {H H3 : Hp} {xs : List V} {v : V} {m n : Nat} {R : VR} (hR2 : ∀ v G G', R v G → R v G') (P : PotAt Z H p dl al) (nf : H f = none) (P3 : PotAt Z H3 p dl al) (k3 : Kp Z p dl H H3)
    (hf : H3 f = some (.lst xs)) (hx : ∀ x ∈ xs, TpR K m n R x (hid Z p dl H3)) (hv : TpR K m n R v (hid Z p dl H3)) :
    let H4 := upd H3 f (.lst (xs ++ [v]))
    PotAt Z H4 p dl al ∧ Kp Z p dl H H4 ∧ H4 f = some (.lst (xs ++ [v])) ∧ ∀ x ∈ xs ++ [v], TpR K m n R x (hid Z p dl H4) := by
  intro H4
  have f1 := P.free nf
  have f2 := P.freeA nf
  refine ⟨P3.upd f1.1 f1.2.1 f2 f1.2.2, Kp.upd_new (ne_of_new nf) k3, upd_same, ?_⟩
  have tk : ∀ b o, hid Z p dl H3 b = some o → (∀ l, o ≠ .lst l) → hid Z p dl H4 b = some o := fun b o e no => by
    have n := hid_some e
    rw [hid_at n.1 n.2] at e ⊢
    have cf : b ≠ f := fun z => by rw [z, hf] at e; cases e; exact no _ rfl
    show upd H3 f _ b = _
    rw [upd_ne cf]
    exact e
  have one : ∀ x, TpR K m n R x (hid Z p dl H3) → TpR K m n R x (hid Z p dl H4) := fun x ⟨a, ys, e, g, l1, l2, l3⟩ => by
    refine ⟨a, ys, e, ?_, l1, l2, fun y hy => hR2 _ _ _ (l3 y hy)⟩
    rcases g with (g | ⟨o, g⟩) | g
    · exact .inl (.inl (tk _ _ g fun l z => nomatch z))
    · exact .inl (.inr ⟨o, tk _ _ g fun l z => nomatch z⟩)
    · exact .inr g
  intro x hx'
  rcases List.mem_append.mp hx' with e | e
  · exact one x (hx x e)
  · rw [List.mem_singleton.mp e]; exact one v hv
theorem far_step {m st x : Int} (h0 : 0 ≤ m) (h1 : 1 ≤ st) (h2 : 0 ≤ x) : 0 ≤ (if x < m.fdiv st then x else m.fdiv st) ∧ (if x < m.fdiv st then x else m.fdiv st) ≤ m ∧ 0 ≤ st * (if x < m.fdiv st then x else m.fdiv st) ∧ st * (if x < m.fdiv st then x else m.fdiv st) ≤ m := by
  have e : m.fdiv st = m / st := Int.fdiv_eq_ediv_of_nonneg _ (by omega)
  rw [e]
  have q0 : 0 ≤ m / st := Int.ediv_nonneg h0 (by omega)
  have q1 : st * (m / st) ≤ m := Int.mul_ediv_self_le (by omega)
  generalize m / st = q at q0 q1
  have k : ∀ y : Int, 0 ≤ y → y ≤ q → 0 ≤ y ∧ y ≤ m ∧ 0 ≤ st * y ∧ st * y ≤ m := fun y y0 y1 => by
    have a1 : st * y ≤ st * q := Int.mul_le_mul_of_nonneg_left y1 (by omega)
    have a2 : 1 * y ≤ st * y := Int.mul_le_mul_of_nonneg_right h1 y0
    have a3 : 0 ≤ st * y := Int.mul_nonneg (by omega) y0
    omega
  by_cases g : x < q
  · rw [if_pos g]; exact k x h2 (by omega)
  · rw [if_neg g]; exact k q q0 (Int.le_refl _)
theorem s_par3 {D : Ends} {σ : L2.St} {H : Hp} {ta : TA} {t : TS} {i j l : Nat} (h : ta σ H fun vs H1 => ∃ u v w, vs = [u, v, w] ∧ t D (((σ.set i (some u)).set j (some v)).set l (some w)) H1) : tSeq (tPar3 i j l ta) t D σ H := h
theorem ev_ifGt {Z : Hp} {p dl al : Addr} {H0 : Hp} {σ : L2.St} {ta tb : TE} {R : VR} {i : Nat} {c : Int} (e : σ[i]? = some (some (.int c))) (h1 : Ev Z p dl al H0 σ ta R) (h2 : Ev Z p dl al H0 σ tb R) :
    Ev Z p dl al H0 σ (tIf (tTest (tOp (rI0 fun i j => .bl (decide (j < i))) (tVar i) (tC (.int 1)))) ta tb) R :=
  fun H Q P k q => ⟨_, e, c, 1, rfl, rfl, _, rfl, ite2 (fun _ => h1 H Q P k q) (fun _ => h2 H Q P k q)⟩
theorem tri_data {K : PySem.W.Frag} {v : V} {G : Hp} (h : TpR K 3 3 (IR 0 2000000000) v G) : DR K (Sm 48 1) v G := h.data (n := 13) (k := 0) fun x hx => ir_data hx (by decide) (by decide)
theorem three_of {xs : List V} (h1 : 3 ≤ xs.length) (h2 : xs.length ≤ 3) : ∃ x y z, xs = [x, y, z] := by
  match xs, h1, h2 with
  | [x, y, z], _, _ => exact ⟨x, y, z, rfl⟩
def tD (q : Int × Int × Int) : PyData := .tuple [.int q.1, .int q.2.1, .int q.2.2]
theorem runs_dp {K : PySem.W.Frag} {G : Hp} {lo hi : Int} : ∀ {xs : List V}, (∀ x ∈ xs, TpR K 3 3 (IR lo hi) x G) → ∃ ts : List (Int × Int × Int), DpAll K G xs (ts.map tD) ∧ ts.length = xs.length
  | [], _ => ⟨[], .nil, rfl⟩
  | x :: r, h => by
    obtain ⟨ts, h1, h2⟩ := runs_dp (xs := r) fun y hy => h y (List.mem_cons_of_mem _ hy)
    obtain ⟨a, ys, rfl, g, l1, l2, l3⟩ := h x List.mem_cons_self
    obtain ⟨y0, y1, y2, rfl⟩ := three_of l1 l2
    obtain ⟨i, rfl, _⟩ := l3 y0 (by simp)
    obtain ⟨j, rfl, _⟩ := l3 y1 (by simp)
    obtain ⟨k, rfl, _⟩ := l3 y2 (by simp)
    exact ⟨(i, j, k) :: ts, .cons (.tup g (.cons (.int i) (.cons (.int j) (.cons (.int k) .nil)))) h1, by rw [List.length_cons, List.length_cons, h2]⟩
theorem tD_lay : ∀ ps : List (Int × Int × Int), PyData.canLayAll0 (ps.map tD) = true
  | [] => by simp [PyData.canLayAll0]
  | q :: r => by
    simp only [List.map_cons, PyData.canLayAll0, tD_lay r, Bool.and_true]
    simp [tD, PyData.canLay0, PyData.canLayAll0]
theorem tD_depth : ∀ ps : List (Int × Int × Int), PyData.depthAll (ps.map tD) ≤ 1
  | [] => by simp [PyData.depthAll]
  | q :: r => by
    simp only [List.map_cons, PyData.depthAll]
    refine Nat.max_le.mpr ⟨?_, tD_depth r⟩
    simp [tD, PyData.depth, PyData.depthAll]
theorem tD_shaped (ps : List (Int × Int × Int)) : SeqAt.shaped (.tuple (ps.map tD)) = true := by
  unfold SeqAt.shaped
  simp only [PyData.canLay0, tD_lay, PyData.depth, Bool.true_and]
  exact decide_eq_true (Nat.le_trans (Nat.succ_le_succ (tD_depth ps)) (show 2 ≤ 64 by decide))
theorem tD_eqv (ps : List (Int × Int × Int)) : PyData.eqv (.tuple (ps.map tD)) (.tuple []) = ps.isEmpty := by
  cases ps <;> simp [PyData.eqv, PyData.eqvAll]
end Lm

namespace Lm
open PySem PySem.Spec PyProof.Rows L2
theorem s_lst {K : PySem.W.Frag} {D : Ends} {σ : L2.St} {H : Hp} {te : TE} {g : TG} {tb u : TS} (h : te σ H (LstGo K g tb { D with nx := u D } σ)) : tSeq (tFor (iList K te) g tb) u D σ H := h
theorem app_three {K : PySem.W.Frag} {φ : PyData → Prop} {Z : Hp} {p dl al L w u : Addr} {H : Hp} {vs : List V} {i j k : Int} (P : PotAt Z H p dl al) (nL : H L = none) (nw : (upd H L (.lst vs)) w = none) (nu : (upd (upd H L (.lst vs)) w (.tup [.int i, .int j, .int k])) u = none)
    (hv : ∀ x ∈ vs, DR K φ x (hid Z p dl H)) (h0 : φ (.tuple [.tuple [.int i, .int j, .int k]])) :
    let H4 := upd (upd (upd (upd H L (.lst vs)) w (.tup [.int i, .int j, .int k])) u (.tup [.ref w])) L (.lst (vs ++ [.ref u]))
    PotAt Z H4 p dl al ∧ Kp Z p dl H H4 ∧ hid Z p dl H4 L = some (.lst (vs ++ [.ref u])) ∧ ∀ x ∈ vs ++ [.ref u], DR K φ x (hid Z p dl H4) := by
  intro H4
  have P1 := P.new (o := .lst vs) nL
  have P2 := P1.new (o := .tup [.int i, .int j, .int k]) nw
  have P3 := P2.new (o := .tup [.ref w]) nu
  have fL := P.free nL
  have fA := P.freeA nL
  have fw := P1.free nw
  have fu := P2.free nu
  have wL : w ≠ L := fun e => by rw [e, upd_same] at nw; cases nw
  have uw : u ≠ w := fun e => by rw [e, upd_same] at nu; cases nu
  have uL : u ≠ L := fun e => by rw [e, upd_ne wL.symm, upd_same] at nu; cases nu
  have k4 : Kp Z p dl H H4 := Kp.upd_new (ne_of_new nL) ((Kp.new nL).trans ((Kp.new nw).trans (Kp.new nu)))
  refine ⟨P3.upd fL.1 fL.2.1 fA fL.2.2, k4, hid_upd fL.1 fL.2, fun x hx => ?_⟩
  rcases List.mem_append.mp hx with e | e
  · exact DR.mo _ _ _ k4 (hv x e)
  · rw [List.mem_singleton.mp e]
    have e1 : hid Z p dl H4 u = some (.tup [.ref w]) := by
      rw [hid_at fu.1 fu.2]
      show upd (upd (upd (upd H L _) w _) u _) L _ u = _
      rw [upd_ne uL, upd_same]
    have e2 : hid Z p dl H4 w = some (.tup [.int i, .int j, .int k]) := by
      rw [hid_at fw.1 fw.2]
      show upd (upd (upd (upd H L _) w _) u _) L _ w = _
      rw [upd_ne wL, upd_ne uw.symm, upd_same]
    exact ⟨_, .tup (.inl (.inl e1)) (.cons (.tup (.inl (.inl e2)) (.cons (.int i) (.cons (.int j) (.cons (.int k) .nil)))) .nil), h0⟩
theorem tri_at {K : PySem.W.Frag} {Z : Hp} {p dl t : Addr} {H : Hp} {i j k : Int} (e : hid Z p dl H t = some (.tup [.int i, .int j, .int k])) (h : (0 ≤ i ∧ i ≤ 2000000000) ∧ (0 ≤ j ∧ j ≤ 2000000000) ∧ (0 ≤ k ∧ k ≤ 2000000000)) : TpR K 3 3 (IR 0 2000000000) (.ref t) (hid Z p dl H) := by
  refine ⟨t, _, rfl, .inl (.inl e), Nat.le_refl 3, Nat.le_refl 3, fun x hx => ?_⟩
  simp only [List.mem_cons, List.not_mem_nil, or_false] at hx
  rcases hx with e | e | e
  · exact ⟨_, e, h.1⟩
  · exact ⟨_, e, h.2.1⟩
  · exact ⟨_, e, h.2.2⟩
theorem ev_spoiltR {K : PySem.W.Frag} {Z : Hp} {p dl al : Addr} {H0 : Hp} {σ : L2.St} {i j : Nat} {v : V} (e : σ[i]? = some (some (.ref p))) (ej : σ[j]? = some (some v)) (hv : TpR K 0 40 (TpR K 3 3 (IR 0 2000000000)) v (hid Z p dl H0)) : Ev Z p dl al H0 σ (tCall (sp_spoiltR K) [] E0 (tCons (tVar i) (tCons (tVar j) tNil))) (DR K (Sm 53122 5)) :=
  fun H Q P k q => ⟨_, e, _, ej, Z, p, dl, al, v, rfl, P, TpR.mo (TpR.mo IR.mo) _ _ _ k hv, fun x H' P' k' r => q x H' P' k' r⟩
theorem s_nxe {D : Ends} {t u : TS} {σ : L2.St} {H : Hp} {i : Nat} {v : V} {a b c} (h : tSeq t u D (σ.set i (some v)) H) : gName i v σ H (Ends.nx { nx := tSeq t u D, rt := a, bk := b, ct := c }) := h
theorem bool_fine (b : Bool) : Fine (.bool b) := by cases b <;> exact (sm_chk (n := 5) (k := 0) (by decide +kernel)).fine (by decide) (by decide)
end Lm

namespace Lg
open PySem PySem.Spec PyProof.Rows L2 Lm
/-! ### a source of numbers: what must stand while b more draws are left; whose addresses -/
structure Src where
  at_ : Nat → Hp → Prop
  own : Addr → Prop
  frame : ∀ {b : Nat} {H H' : Hp}, (∀ a, own a → H' a = H a) → at_ b H → at_ b H'
  less : ∀ {b c : Nat} {H : Hp}, c ≤ b → at_ b H → at_ c H
  full : ∀ {b : Nat} {H : Hp} {q : Addr}, at_ b H → own q → H q ≠ none
open Classical in
noncomputable def cut (N : Addr → Prop) (H : Hp) : Hp := fun a => if N a then none else H a
def Occ (N : Addr → Prop) (H : Hp) : Prop := ∀ a, N a → H a ≠ none
abbrev NZ (S : Src) (Z : Hp) : Addr → Prop := fun a => S.own a ∨ Z a ≠ none
noncomputable abbrev hid (S : Src) (Z H : Hp) : Hp := cut (NZ S Z) H
section
variable {N N' : Addr → Prop} {H H' : Hp} {a q f : Addr} {o : HO}
theorem cut_at (h : ¬ N a) : cut N H a = H a := if_neg h
theorem cut_some (e : cut N H a = some o) : ¬ N a ∧ H a = some o := by
  unfold cut at e
  split at e
  · cases e
  · rename_i z
    exact ⟨z, e⟩
theorem cut_same : Same (cut N H) H := fun b o e => (cut_some e).2
theorem cut_mono (s : Same H H') : Same (cut N H) (cut N H') := fun b o e => by
  have n := cut_some e
  rw [cut_at n.1]
  exact s _ _ n.2
theorem cut_le (h : ∀ a, N a → N' a) : Same (cut N' H) (cut N H) := fun b o e => by
  have n := cut_some e
  rw [cut_at fun z => n.1 (h _ z)]
  exact n.2
theorem cut_upd (h : N f) : cut N (upd H f o) = cut N H := by
  funext b
  by_cases z : N b
  · unfold cut; rw [if_pos z, if_pos z]
  · rw [cut_at z, cut_at z, upd_ne (show b ≠ f from fun e => z (by rw [e]; exact h))]
theorem cut_new (O : Occ N H) (n : H q = none) : cut N (upd H q o) q = some o := by rw [cut_at fun z => O q z n, upd_same]
theorem Occ.keep (O : Occ N H) (s : Same H H') : Occ N H' := fun a h => by
  cases e : H a with
  | none => exact absurd e (O a h)
  | some o => rw [s _ _ e]; exact fun z => nomatch z
theorem Occ.more (O : Occ N H) (e : H f ≠ none) : Occ (fun a => N a ∨ a = f) H := fun a h => h.elim (O a) fun z => z ▸ e
theorem Occ.upd (O : Occ N H) : Occ N (upd H f o) := fun a h => by
  by_cases e : a = f
  · rw [e, upd_same]; exact fun z => nomatch z
  · rw [upd_ne e]; exact O a h
theorem occ_none : Occ (fun _ => False) H := fun a h => h.elim
theorem cut_none : cut (fun _ => False) H = H := by funext b; exact if_neg fun z => z
end
structure Iv (S : Src) (Z : Hp) (b : Nat) (H : Hp) : Prop where
  src : S.at_ b H
  zz : Same Z H
  zo : ∀ a, S.own a → Z a = none
def Off (S : Src) (Z : Hp) (a : Addr) : Prop := ¬ S.own a ∧ Z a = none
def Kp (S : Src) (Z H H' : Hp) : Prop := Same (hid S Z H) (hid S Z H')
section
variable {S : Src} {Z H H' H1 H2 : Hp} {b c : Nat} {q D a : Addr} {o o' o2 : HO}
theorem hid_at (h : Off S Z a) : hid S Z H a = H a := if_neg (fun z => z.elim h.1 (fun z => z h.2))
theorem hid_same : Same (hid S Z H) H := cut_same
theorem hid_some (e : hid S Z H a = some o) : Off S Z a := ⟨fun q => (cut_some e).1 (.inl q), Classical.byContradiction fun q => (cut_some e).1 (.inr q)⟩
theorem Iv.occ (P : Iv S Z b H) : Occ (NZ S Z) H := fun a h => h.elim (S.full P.src) fun z => by
  cases e : Z a with
  | none => exact absurd e z
  | some o => rw [P.zz _ _ e]; exact fun z => nomatch z
theorem Kp.refl : Kp S Z H H := Same.refl _
theorem Kp.trans (a : Kp S Z H H1) (b : Kp S Z H1 H2) : Kp S Z H H2 := Same.trans a b
theorem Kp.of (s : Same H H') : Kp S Z H H' := by
  intro b o e
  have n := hid_some e
  rw [hid_at n] at e ⊢
  exact s b o e
theorem same_new (h : H q = none) : Same H (upd H q o) := fun b x e => by
  rw [upd_ne (ne_of_none e h)]
  exact e
theorem Kp.new (h : H q = none) : Kp S Z H (upd H q o) := Kp.of (same_new h)
theorem Src.keep {b : Nat} (S : Src) (s : Same H H') (h : S.at_ b H) : S.at_ b H' := S.frame (fun a ha => by
  cases e : H a with
  | none => exact absurd e (S.full h ha)
  | some o => exact s _ _ e) h
theorem Iv.keep (P : Iv S Z b H) (s : Same H H') : Iv S Z b H' := ⟨S.keep s P.src, P.zz.trans s, P.zo⟩
theorem Iv.less (P : Iv S Z b H) (h : c ≤ b) : Iv S Z c H := ⟨S.less h P.src, P.zz, P.zo⟩
theorem Iv.new (P : Iv S Z b H) (n : H q = none) : Iv S Z b (upd H q o) := P.keep (same_new n)
theorem Iv.free (P : Iv S Z b H) (n : H q = none) : Off S Z q := ⟨fun z => S.full P.src z n, by
  cases e : Z q with
  | none => rfl
  | some o => rw [P.zz _ _ e] at n; cases n⟩
theorem zz_upd (h : Same Z H) (n : Z q = none) : Same Z (upd H q o) := fun b x e => by
  rw [upd_ne (ne_of_none e n)]
  exact h b x e
theorem Iv.upd (P : Iv S Z b H) (h : Off S Z q) : Iv S Z b (L2.upd H q o) := ⟨S.frame (fun a ha => upd_ne fun e => h.1 (e ▸ ha)) P.src, zz_upd P.zz h.2, P.zo⟩
theorem Iv.hide (P : Iv S Z b H) (e : H D = some o) (h : ¬ S.own D) : Iv S (L2.upd Z D o) b H := ⟨P.src, fun b x z => by
    by_cases q : b = D
    · rw [q, upd_same] at z
      rw [q, e]; exact z
    · rw [upd_ne q] at z
      exact P.zz b x z, fun a ha => by rw [upd_ne (show a ≠ D from fun e => h (by rw [← e]; exact ha))]; exact P.zo a ha⟩
theorem Iv.bare (P : Iv S (L2.upd Z D o) b H) (n : Z D = none) : Iv S Z b H := ⟨P.src, fun b x z => P.zz b x (by rw [upd_ne (ne_of_none z n)]; exact z), fun a ha => by
  have := P.zo a ha
  by_cases e : a = D
  · rw [e, upd_same] at this; cases this
  · rw [upd_ne e] at this; exact this⟩
theorem hid_new (P : Iv S Z b H) (n : H q = none) : hid S Z (L2.upd H q o) q = some o := by rw [hid_at (P.free n), upd_same]
theorem hid_upd (h : Off S Z q) : hid S Z (L2.upd H q o) q = some o := by rw [hid_at h, upd_same]
theorem hid_get (h : Off S Z a) (e : H a = some o) : hid S Z H a = some o := by rw [hid_at h]; exact e
theorem laid (P : Iv S Z b H) (n : H q = none) : Iv S Z b (L2.upd H q o) ∧ Kp S Z H (L2.upd H q o) ∧ hid S Z (L2.upd H q o) q = some o := ⟨P.new n, Kp.new n, hid_new P n⟩
theorem off_hide (h : Off S (L2.upd Z D o) a) : a ≠ D ∧ Off S Z a := by
  have q : a ≠ D := fun q => by have := h.2; rw [q, upd_same] at this; cases this
  exact ⟨q, h.1, by have := h.2; rw [upd_ne q] at this; exact this⟩
theorem hid_hide : Same (hid S (L2.upd Z D o) H) (hid S Z H) := fun b x e => by
  have n := hid_some e
  rw [hid_at n] at e
  rw [hid_at (off_hide n).2]
  exact e
theorem hid_swap : Same (hid S (L2.upd Z D o) H) (hid S (L2.upd Z D o') (L2.upd H D o2)) := fun b x e => by
  have n := hid_some e
  rw [hid_at n] at e
  have m := off_hide n
  rw [hid_at ⟨n.1, by rw [upd_ne m.1]; exact m.2.2⟩, upd_ne m.1]
  exact e
theorem hid_new2 (n : H D = none) : Same (hid S Z H) (hid S (L2.upd Z D o) (L2.upd H D o2)) := fun b x e => by
  have m := hid_some e
  rw [hid_at m] at e
  have q : b ≠ D := ne_of_none e n
  rw [hid_at ⟨m.1, by rw [upd_ne q]; exact m.2⟩, upd_ne q]
  exact e
theorem ne_of_new (n : H q = none) : ∀ b, H b ≠ none → b ≠ q := fun b h e => h (by rw [e]; exact n)
theorem Kp.upd_new (P : ∀ b, H b ≠ none → b ≠ q) (k : Kp S Z H H1) : Kp S Z H (L2.upd H1 q o) := fun b u e => by
  have n := hid_some e
  have e1 := k b u e
  rw [hid_at n] at e1 ⊢
  rw [upd_ne]
  · exact e1
  · refine P b ?_
    rw [hid_at n] at e
    rw [e]
    exact fun z => nomatch z
end
/-- a def without draws: what it gives is a function of the data that it gets -/
def sp_fn (K : PySem.W.Frag) (P : List PyData → Prop) (F : List PyData → PyData) : Sp := fun vs H Q _ => ∃ (N : Addr → Prop) (ds : List PyData), Occ N H ∧ Dqs K (cut N H) vs ds ∧ P ds ∧ ∀ r H', Same H H' → Dq K (cut N H') r (F ds) → Q r H'
/-! ### what an expression gives -/
def Ev (S : Src) (Z : Hp) (n : Nat) (H0 : Hp) (σ : L2.St) (te : TE) (R : VR) : Prop :=
  ∀ (H : Hp) (b : Nat) (Q : VK), Iv S Z (n + b) H → Kp S Z H0 H → (∀ v H', Iv S Z b H' → Kp S Z H H' → R v (hid S Z H') → Q v H') → te σ H Q
def EvA (S : Src) (Z : Hp) (n : Nat) (H0 : Hp) (σ : L2.St) (ta : TA) (R : LR) : Prop :=
  ∀ (H : Hp) (b : Nat) (Q : List V → Hp → Prop), Iv S Z (n + b) H → Kp S Z H0 H → (∀ v H', Iv S Z b H' → Kp S Z H H' → R v (hid S Z H') → Q v H') → ta σ H Q
section
variable {K : PySem.W.Frag} {S : Src} {Z : Hp} {H0 : Hp} {σ : L2.St} {te ta tb ti : TE} {tl : TA} {R R' R1 R2 : VR} {Rs Rt : LR} {n m n1 n2 : Nat}
theorem Ev.run (h : Ev S Z n H0 σ te R) {B b : Nat} {Q : VK} (P : Iv S Z B H0) (hb : n + b ≤ B) (q : ∀ v H', Iv S Z b H' → Kp S Z H0 H' → R v (hid S Z H') → Q v H') : te σ H0 Q := h H0 b Q (P.less hb) Kp.refl q
theorem EvA.run (h : EvA S Z n H0 σ tl Rs) {B b : Nat} {Q : List V → Hp → Prop} (P : Iv S Z B H0) (hb : n + b ≤ B) (q : ∀ v H', Iv S Z b H' → Kp S Z H0 H' → Rs v (hid S Z H') → Q v H') : tl σ H0 Q := h H0 b Q (P.less hb) Kp.refl q
theorem Ev.imp (h : Ev S Z n H0 σ te R) (i : ∀ v G, R v G → R' v G) : Ev S Z n H0 σ te R' := fun H b Q P k q => h H b Q P k fun v H' P' k' r => q v H' P' k' (i _ _ r)
theorem EvA.imp (h : EvA S Z n H0 σ tl Rs) (i : ∀ v G, Rs v G → Rt v G) : EvA S Z n H0 σ tl Rt := fun H b Q P k q => h H b Q P k fun v H' P' k' r => q v H' P' k' (i _ _ r)
theorem Ev.cost (h : Ev S Z n H0 σ te R) (i : n ≤ m) : Ev S Z m H0 σ te R := fun H b Q P k q => h H b Q (P.less (by omega)) k q
theorem ev_c {v : V} : Ev S Z 0 H0 σ (tC v) (fun u _ => u = v) := fun H b Q P k q => q v H (P.less (by omega)) Kp.refl rfl
theorem ev_var {i : Nat} {v : V} (e : σ[i]? = some (some v)) (m : Mo R) (h : R v (hid S Z H0)) : Ev S Z 0 H0 σ (tVar i) R := fun H b Q P k q => ⟨v, e, q v H (P.less (by omega)) Kp.refl (m _ _ _ k h)⟩
theorem eva_nil : EvA S Z 0 H0 σ tNil (fun vs _ => vs = []) := fun H b Q P k q => q [] H (P.less (by omega)) Kp.refl rfl
theorem eva_cons (mo : Mo R) (h1 : Ev S Z n1 H0 σ te R) (h2 : EvA S Z n2 H0 σ tl Rs) : EvA S Z (n1 + n2) H0 σ (tCons te tl) (fun vs G => ∃ v r, vs = v :: r ∧ R v G ∧ Rs r G) :=
  fun H b Q P k q => h1 H (n2 + b) _ (P.less (by omega)) k fun v H1 P1 k1 r1 => h2 H1 b _ P1 (k.trans k1) fun vs H2 P2 k2 r2 => q _ H2 P2 (k1.trans k2) ⟨v, vs, rfl, mo _ _ _ k2 r1, r2⟩
theorem eva_pair (m1 : Mo R1) (m2 : Mo R2) (h1 : Ev S Z n1 H0 σ ta R1) (h2 : Ev S Z n2 H0 σ tb R2) : EvA S Z (n1 + (n2 + 0)) H0 σ (tCons ta (tCons tb tNil)) (fun vs G => ∃ v w, vs = [v, w] ∧ R1 v G ∧ R2 w G) :=
  (eva_cons m1 h1 (eva_cons m2 h2 eva_nil)).imp fun vs G ⟨v, r, e, r1, w, r', e', r2, e2⟩ => ⟨v, w, by rw [e, e', e2], r1, r2⟩
theorem eall_nil : EvA S Z 0 H0 σ tNil (AllR 0 0 R) := fun H b Q P k q => q [] H (P.less (by omega)) Kp.refl ⟨Nat.le_refl _, Nat.le_refl _, fun v h => nomatch h⟩
theorem eall_cons {a b : Nat} (m : Mo R) (h1 : Ev S Z n1 H0 σ te R) (h2 : EvA S Z n2 H0 σ tl (AllR a b R)) : EvA S Z (n1 + n2) H0 σ (tCons te tl) (AllR (a + 1) (b + 1) R) :=
  (eva_cons m h1 h2).imp fun vs G h => by
    obtain ⟨v, r, rfl, hv, h1, h2, h3⟩ := h
    refine ⟨Nat.succ_le_succ h1, Nat.succ_le_succ h2, fun x hx => ?_⟩
    rcases List.mem_cons.mp hx with e | e
    · rw [e]; exact hv
    · exact h3 x e
theorem ev_tup (h : EvA S Z n H0 σ tl Rs) (hl : ∀ vs G, Rs vs G → vs.length ≤ sizeLine) (m : MoL Rs) : Ev S Z n H0 σ (tTup tl) (fun v G => ∃ a xs, v = .ref a ∧ G a = some (.tup xs) ∧ Rs xs G) :=
  fun H b Q P k q => h H b _ P k fun vs H1 P1 k1 r1 => ⟨hl _ _ r1, fun t nt => by
    obtain ⟨P2, k2, e2⟩ := laid (o := .tup vs) P1 nt
    exact q _ _ P2 (k1.trans k2) ⟨t, vs, rfl, e2, m _ _ _ k2 r1⟩⟩
theorem ev_lst {m n' : Nat} (hn : n' ≤ 1000) (hm : Mo R) (h : EvA S Z n H0 σ tl (AllR m n' R)) : Ev S Z n H0 σ (tLst tl) (LsR m n' R) :=
  fun H b Q P k q => h H b _ P k fun vs H1 P1 k1 r1 => ⟨Nat.le_of_lt (small1000 (Nat.le_trans r1.2.1 hn)), fun t nt => by
    obtain ⟨P2, k2, e2⟩ := laid (o := .lst vs) P1 nt
    exact q _ _ P2 (k1.trans k2) ⟨t, vs, rfl, e2, AllR.mo hm _ _ _ k2 r1⟩⟩
theorem ev_tupR {m n' : Nat} (hn : n' ≤ 1000) (hm : Mo R) (h : EvA S Z n H0 σ tl (AllR m n' R)) : Ev S Z n H0 σ (tTup tl) (TpR K m n' R) :=
  (ev_tup h (fun vs G r => Nat.le_of_lt (small1000 (Nat.le_trans r.2.1 hn))) (AllR.mo hm)).imp fun v G ⟨a, xs, e, g, r⟩ => ⟨a, xs, e, .inl (.inl g), r⟩
theorem ev_cat {a b c d : Nat} (hn : b + d ≤ 1000) (hm : Mo R) (h1 : Ev S Z n1 H0 σ ta (LsR a b R)) (h2 : Ev S Z n2 H0 σ tb (LsR c d R)) : Ev S Z (n1 + n2) H0 σ (tOp rCat ta tb) (LsR (a + c) (b + d) R) :=
  fun H bb Q P k q => h1 H (n2 + bb) _ (P.less (by omega)) k fun x H1 P1 k1 r1 => h2 H1 bb _ P1 (k.trans k1) fun y H2 P2 k2 r2 => by
    obtain ⟨l, xs, rfl, g1, a1, a2, a3⟩ := LsR.mo hm _ _ _ k2 r1
    obtain ⟨l2, ys, rfl, g2, b1, b2, b3⟩ := r2
    refine ⟨l, l2, xs, ys, rfl, rfl, hid_same _ _ g1, hid_same _ _ g2, Nat.le_of_lt (small1000 (by omega)), fun t nt => ?_⟩
    obtain ⟨P3, k3, e3⟩ := laid (o := .lst (xs ++ ys)) P2 nt
    refine q _ _ P3 ((k1.trans k2).trans k3) ⟨t, _, rfl, e3, by rw [List.length_append]; omega, by rw [List.length_append]; omega, fun v hv => ?_⟩
    rcases List.mem_append.mp hv with e | e
    · exact hm _ _ _ k3 (a3 v e)
    · exact hm _ _ _ k3 (b3 v e)
theorem ev_catA {a b c d : Nat} (hn : b + d ≤ 1000) (hm : Mo R) (h1 : Ev S Z n1 H0 σ ta (TpR K a b R)) (h2 : Ev S Z n2 H0 σ tb (TpR K c d R)) : Ev S Z (n1 + n2) H0 σ (tOp (rCatA K) ta tb) (TpR K (a + c) (b + d) R) :=
  fun H bb Q P k q => h1 H (n2 + bb) _ (P.less (by omega)) k fun x H1 P1 k1 r1 => h2 H1 bb _ P1 (k.trans k1) fun y H2 P2 k2 r2 => by
    have r1' := TpR.mo hm _ _ _ k2 r1
    obtain ⟨l, xs, rfl, g1, a1, a2, a3⟩ := r1'
    obtain ⟨l2, ys, rfl, g2, b1, b2, b3⟩ := id r2
    refine ⟨l, l2, xs, ys, rfl, rfl, Same.seqT hid_same g1, Same.seqT hid_same g2, Nat.le_of_lt (small1000 (by omega)), fun z => ?_, fun z1 z2 => ?_, fun z1 z2 t nt => ?_⟩
    · subst z
      refine q _ _ P2 (k1.trans k2) ⟨l2, ys, rfl, g2, ?_, by omega, b3⟩
      simp only [List.length_nil] at a1; omega
    · subst z2
      refine q _ _ P2 (k1.trans k2) ⟨l, xs, rfl, g1, ?_, by omega, a3⟩
      simp only [List.length_nil] at b1; omega
    · obtain ⟨P3, k3, e3⟩ := laid (o := .tup (xs ++ ys)) P2 nt
      refine q _ _ P3 ((k1.trans k2).trans k3) ⟨t, _, rfl, .inl (.inl e3), by rw [List.length_append]; omega, by rw [List.length_append]; omega, fun v hv => ?_⟩
      rcases List.mem_append.mp hv with e | e
      · exact hm _ _ _ k3 (a3 v e)
      · exact hm _ _ _ k3 (b3 v e)
theorem ev_int {i : Int} : Ev S Z 0 H0 σ (tC (.int i)) (IR i i) := ev_c.imp fun v G e => ⟨i, e, Int.le_refl _, Int.le_refl _⟩
theorem ev_neg {i j : Int} (h : Ev S Z n H0 σ te (IR i j)) : Ev S Z n H0 σ (tUn (rU fun i => .int (-i)) te) (IR (-j) (-i)) :=
  fun H b Q P k q => h H b _ P k fun v H1 P1 k1 ⟨x, e, h1, h2⟩ => ⟨x, e, q _ _ P1 k1 ⟨-x, rfl, by omega, by omega⟩⟩
theorem ev_add {a b c d : Int} (h1 : Ev S Z n1 H0 σ ta (IR a b)) (h2 : Ev S Z n2 H0 σ tb (IR c d)) : Ev S Z (n1 + n2) H0 σ (tOp (rI0 fun i j => .int (i + j)) ta tb) (IR (a + c) (b + d)) :=
  fun H bb Q P k q => h1 H (n2 + bb) _ (P.less (by omega)) k fun x H1 P1 k1 ⟨i, e1, i1, i2⟩ => h2 H1 bb _ P1 (k.trans k1) fun y H2 P2 k2 ⟨j, e2, j1, j2⟩ => ⟨i, j, e1, e2, q _ _ P2 (k1.trans k2) ⟨i + j, rfl, by omega, by omega⟩⟩
theorem ev_sub {a b c d : Int} (h1 : Ev S Z n1 H0 σ ta (IR a b)) (h2 : Ev S Z n2 H0 σ tb (IR c d)) : Ev S Z (n1 + n2) H0 σ (tOp (rI0 fun i j => .int (i - j)) ta tb) (IR (a - d) (b - c)) :=
  fun H bb Q P k q => h1 H (n2 + bb) _ (P.less (by omega)) k fun x H1 P1 k1 ⟨i, e1, i1, i2⟩ => h2 H1 bb _ P1 (k.trans k1) fun y H2 P2 k2 ⟨j, e2, j1, j2⟩ => ⟨i, j, e1, e2, q _ _ P2 (k1.trans k2) ⟨i - j, rfl, by omega, by omega⟩⟩
theorem ev_mul {a b c d : Int} (ha : 0 ≤ a) (hb : b < 2 ^ 64) (hc : 0 ≤ c) (h1 : Ev S Z n1 H0 σ ta (IR a b)) (h2 : Ev S Z n2 H0 σ tb (IR c d)) : Ev S Z (n1 + n2) H0 σ (tOp (rI CMul fun i j => .int (i * j)) ta tb) (IR (a * c) (b * d)) :=
  fun H bb Q P k q => h1 H (n2 + bb) _ (P.less (by omega)) k fun x H1 P1 k1 ⟨i, e1, i1, i2⟩ => h2 H1 bb _ P1 (k.trans k1) fun y H2 P2 k2 ⟨j, e2, j1, j2⟩ => by
    refine ⟨i, j, e1, e2, .inl ⟨by omega, by omega⟩, q _ _ P2 (k1.trans k2) ⟨i * j, rfl, ?_, ?_⟩⟩
    · exact Int.mul_le_mul i1 j1 hc (Int.le_trans ha i1)
    · exact Int.mul_le_mul i2 j2 (Int.le_trans hc j1) (Int.le_trans ha (Int.le_trans i1 i2))
theorem ev_pow {i j : Int} (h : CPow i j) : Ev S Z 0 H0 σ (tOp (rI CPow fun i j => .int (i ^ j.toNat)) (tC (.int i)) (tC (.int j))) (IR (i ^ j.toNat) (i ^ j.toNat)) :=
  fun H b Q P k q => ⟨i, j, rfl, rfl, h, q _ _ (P.less (by omega)) Kp.refl ⟨_, rfl, Int.le_refl _, Int.le_refl _⟩⟩
theorem Ev.wide {a b c d : Int} (h : Ev S Z n H0 σ te (IR a b)) (h1 : c ≤ a := by decide) (h2 : b ≤ d := by decide) : Ev S Z n H0 σ te (IR c d) := h.imp fun v G ⟨i, e, i1, i2⟩ => ⟨i, e, by omega, by omega⟩
theorem Ev.isInt {a b : Int} (h : Ev S Z n H0 σ te (IR a b)) : Ev S Z n H0 σ te (fun v _ => ∃ i, v = .int i) := h.imp fun v G ⟨i, e, _⟩ => ⟨i, e⟩
theorem ev_ivar {i : Nat} {g lo hi : Int} (e : σ[i]? = some (some (.int g))) (h0 : lo ≤ g) (h1 : g ≤ hi) : Ev S Z 0 H0 σ (tVar i) (IR lo hi) := ev_var e IR.mo ⟨g, rfl, h0, h1⟩
theorem ev_ixT {m c : Nat} {lo up : Int} (hm : Mo R) (h : Ev S Z n1 H0 σ te (TpR K m c R)) (hi : Ev S Z n2 H0 σ ti (IR lo up)) (h1 : -(m : Int) ≤ lo) (h2 : up < (m : Int)) : Ev S Z (n1 + n2) H0 σ (tOp (rIxT K) te ti) R :=
  fun H b Q P k q => h H (n2 + b) _ (P.less (by omega)) k fun x H1 P1 k1 r1 => hi H1 b _ P1 (k.trans k1) fun y H2 P2 k2 ⟨i, e, i1, i2⟩ => by
    obtain ⟨a, xs, rfl, g, l1, l2, l3⟩ := TpR.mo hm _ _ _ k2 r1
    obtain ⟨v, hv, ev⟩ := atI_in (xs := xs) (i := i) (by omega) (by omega)
    exact ⟨a, xs, i, v, rfl, e, Same.seqT hid_same g, ev, q _ _ P2 (k1.trans k2) (l3 v hv)⟩
theorem ev_ixL {m c : Nat} {lo up : Int} (hm : Mo R) (h : Ev S Z n1 H0 σ te (LsR m c R)) (hi : Ev S Z n2 H0 σ ti (IR lo up)) (h1 : -(m : Int) ≤ lo := by decide) (h2 : up < (m : Int) := by decide) : Ev S Z (n1 + n2) H0 σ (tOp (rIxL K) te ti) R :=
  fun H b Q P k q => h H (n2 + b) _ (P.less (by omega)) k fun x H1 P1 k1 r1 => hi H1 b _ P1 (k.trans k1) fun y H2 P2 k2 ⟨i, e, i1, i2⟩ => by
    obtain ⟨a, xs, rfl, g, l1, l2, l3⟩ := LsR.mo hm _ _ _ k2 r1
    obtain ⟨v, hv, ev⟩ := atI_in (xs := xs) (i := i) (by omega) (by omega)
    exact ⟨a, xs, i, v, rfl, e, .inl (.inl (hid_same _ _ g)), ev, q _ _ P2 (k1.trans k2) (l3 v hv)⟩
theorem ev_len {m c : Nat} (h : Ev S Z n H0 σ te (TpR K m c R)) : Ev S Z n H0 σ (tCB (fun xs H Q => ∃ p ys, xs = [.ref p] ∧ (SqL K H p ys ∨ SqT K H p ys) ∧ Q (.int ys.length) H) (tCons te tNil)) (IR m c) :=
  fun H b Q P k q => h H b _ P k fun v H1 P1 k1 ⟨a, xs, e, g, h1, h2, _⟩ => ⟨a, xs, by rw [e], .inr (Same.seqT hid_same g), q _ _ P1 k1 ⟨_, rfl, by omega, by omega⟩⟩
theorem ev_lenL {m c : Nat} (h : Ev S Z n H0 σ te (LsR m c R)) : Ev S Z n H0 σ (tCB (fun xs H Q => ∃ p ys, xs = [.ref p] ∧ (SqL K H p ys ∨ SqT K H p ys) ∧ Q (.int ys.length) H) (tCons te tNil)) (IR m c) :=
  fun H b Q P k q => h H b _ P k fun v H1 P1 k1 ⟨a, xs, e, g, h1, h2, _⟩ => ⟨a, xs, by rw [e], .inl (.inl (.inl (hid_same _ _ g))), q _ _ P1 k1 ⟨_, rfl, by omega, by omega⟩⟩
theorem ev_listOf {m c : Nat} (hm : Mo R) (h : Ev S Z n H0 σ te (TpR K m c R)) : Ev S Z n H0 σ (tCB (fun xs H Q => ∃ p ys, xs = [.ref p] ∧ (SqL K H p ys ∨ SqT K H p ys) ∧ ∀ l, H l = none → Q (.ref l) (upd H l (.lst ys))) (tCons te tNil)) (LsR m c R) :=
  fun H b Q P k q => h H b _ P k fun v H1 P1 k1 ⟨a, xs, e, g, h1, h2, h3⟩ => ⟨a, xs, by rw [e], .inr (Same.seqT hid_same g), fun t nt => by
    obtain ⟨P4, k4, e4⟩ := laid (o := .lst xs) P1 nt
    exact q _ _ P4 (k1.trans k4) ⟨t, xs, rfl, e4, h1, h2, fun x hx => hm _ _ _ k4 (h3 x hx)⟩⟩
theorem ev_tupleOf {m c : Nat} (hm : Mo R) (h : Ev S Z n H0 σ te (LsR m c R)) : Ev S Z n H0 σ (tCB (fun xs H Q => ∃ p ys, xs = [.ref p] ∧ ((SqL K H p ys ∧ ∀ l, H l = none → Q (.ref l) (upd H l (.tup ys))) ∨ (SqT K H p ys ∧ Q (.ref p) H))) (tCons te tNil)) (TpR K m c R) :=
  fun H b Q P k q => h H b _ P k fun v H1 P1 k1 ⟨a, xs, e, g, h1, h2, h3⟩ => ⟨a, xs, by rw [e], .inl ⟨.inl (.inl (hid_same _ _ g)), fun t nt => by
    obtain ⟨P4, k4, e4⟩ := laid (o := .tup xs) P1 nt
    exact q _ _ P4 (k1.trans k4) ⟨t, xs, rfl, .inl (.inl e4), h1, h2, fun x hx => hm _ _ _ k4 (h3 x hx)⟩⟩⟩
/-! ### a def without draws: data to data -/
theorem ev_fn {P : List PyData → Prop} {F : List PyData → PyData} {R : PyData → Prop} {Rs : List PyData → Prop} (h : EvA S Z n H0 σ tl (fun vs G => ∃ ds, Dqs K G vs ds ∧ Rs ds)) (hP : ∀ ds, Rs ds → P ds) (hR : ∀ ds, Rs ds → R (F ds)) : Ev S Z n H0 σ (tCall (sp_fn K P F) [] E0 tl) (DR K R) :=
  fun H b Q Pi k q => h H b _ Pi k fun vs H1 P1 k1 ⟨ds, hd, hr⟩ => ⟨NZ S Z, ds, P1.occ, by rw [List.append_nil]; exact hd, hP _ hr, fun r H' s hf => q _ _ (P1.keep s) (k1.trans (Kp.of s)) ⟨_, hf, hR _ hr⟩⟩
end
/-! ### lists that a comprehension makes grow -/
theorem ev_lcR {S : Src} {Z : Hp} {H0 : Hp} {σ : L2.St} {te : TE} {R : VR} {v n : Nat} {j : Int} (j0 : 0 ≤ j) (j1 : j ≤ 1000) (hm : Mo R)
    (hT : ∀ (Z' H1 : Hp) (x : V) (b : Nat), Iv S Z' b H1 → Same (hid S Z H0) (hid S Z' H1) → Ev S Z' n H1 ((wipe σ [v]).set v (some x)) te R) :
    Ev S Z (n * j.toNat) H0 σ (tLc (iRng1 (tCons (tC (.int j)) tNil)) (gName v) tYes te [v]) (LsR j.toNat j.toNat R) := fun H b Q P k q => by
  refine ⟨j, rfl, by omega, by omega, fun D nD => ?_⟩
  have f := P.free nD
  refine lc_range (fun i Hj => ∃ acc, Iv S (upd Z D (.lst acc)) (n * (j.toNat - i) + b) Hj ∧ acc.length = i ∧ (∀ x ∈ acc, R x (hid S (upd Z D (.lst acc)) Hj)) ∧ Same (hid S Z H) (hid S (upd Z D (.lst acc)) Hj)) ⟨[], (P.new nD).hide upd_same f.1, rfl, (fun x hx => nomatch hx), hid_new2 nD⟩ ?_ ?_
  · rintro i Hj hi ⟨acc, Pj, la, ra, sj⟩
    refine ⟨?_, yes_if ?_⟩
    · simp only [wipe, List.set_set]
    · have e1 : n * (j.toNat - i) = n + n * (j.toNat - (i + 1)) := by
        rw [show j.toNat - i = (j.toNat - (i + 1)) + 1 by omega, Nat.mul_add, Nat.mul_one, Nat.add_comm]
      rw [e1, Nat.add_assoc] at Pj
      refine hT _ Hj _ _ Pj (Same.trans k sj) Hj _ _ Pj Kp.refl fun y H4 P4 k4 r4 => ⟨acc, P4.zz _ _ upd_same, small1000 (by omega), acc ++ [y], ?_, by rw [List.length_append, la]; rfl, fun x hx => ?_, (Same.trans sj k4).trans hid_swap⟩
      · exact ((P4.bare f.2).upd f).hide upd_same f.1
      · rcases List.mem_append.mp hx with e | e
        · exact hm _ _ _ (Same.trans k4 hid_swap) (ra x e)
        · rw [List.mem_singleton.mp e]
          exact hm _ _ _ hid_swap r4
  · rintro Hn ⟨acc, Pn, la, ra, sn⟩
    have e := Pn.zz _ _ upd_same
    exact q _ Hn ((Pn.bare f.2).less (by omega)) (sn.trans hid_hide) ⟨D, acc, rfl, by rw [hid_at f]; exact e, by omega, by omega, fun x hx => hm _ _ _ hid_hide (ra x hx)⟩
end Lg

namespace Lg
open PySem PySem.Spec PyProof.Rows L2 Lm
/-! ### the reel -/
def rlAt (r c : Addr) (b : Nat) (H : Hp) : Prop := ∃ (t : Nat) (ns : List Int), H r = some (.lst [.ref c, .int (t : Int)]) ∧ H c = some (.lst (ns.map V.int)) ∧ ns ≠ [] ∧ ns.length ≤ 64 ∧ t + b ≤ 1000000000000
def reel (r c : Addr) : Src where
  at_ := rlAt r c
  own := fun a => a = r ∨ a = c
  frame := fun h ⟨t, ns, h1, h2, h3⟩ => ⟨t, ns, by rw [h r (.inl rfl)]; exact h1, by rw [h c (.inr rfl)]; exact h2, h3⟩
  less := fun hc ⟨t, ns, h1, h2, h3, h4, h5⟩ => ⟨t, ns, h1, h2, h3, h4, by omega⟩
  full := fun ⟨t, ns, h1, h2, _⟩ h => by
    rcases h with rfl | rfl
    · rw [h1]; exact fun z => nomatch z
    · rw [h2]; exact fun z => nomatch z
theorem reel_ne {r c : Addr} {b : Nat} {H : Hp} (h : rlAt r c b H) : r ≠ c := by
  obtain ⟨t, ns, h1, h2, h3, _⟩ := h
  rintro rfl
  rw [h1] at h2
  cases ns with
  | nil => exact h3 rfl
  | cons n ns =>
    have q : [V.ref r, V.int (t : Int)] = (n :: ns).map V.int := HO.lst.inj (Option.some.inj h2)
    simp at q
def sp_spin : Sp := fun vs H Q _ => ∃ (Z : Hp) (r c : Addr) (b : Nat) (n : Int), vs = [.ref r, .int n] ∧ Iv (reel r c) Z (1 + b) H ∧ 1 ≤ n ∧ n < 1073741824 ∧
  ∀ (v : Int) (H' : Hp), Iv (reel r c) Z b H' → Kp (reel r c) Z H H' → 0 ≤ v → v < n → Q (.int v) H'
def sp_reel (K : PySem.W.Frag) : Sp := fun vs H Q _ => ∃ (a : Addr) (ns : List Int), vs = [.ref a] ∧ SqL K H a (ns.map V.int) ∧ ns.length ≤ 63 ∧ ∀ (r c : Addr) (H' : Hp), Iv (reel r c) (fun _ => none) 1000000000000 H' → Same H H' → Q (.ref r) H'
section
variable {K : PySem.W.Frag} {r c : Addr} {Z : Hp} {H0 : Hp} {σ : L2.St} {te ta tb : TE} {tl : TA} {R : VR} {n : Nat}
theorem ev_spin {i : Nat} {b : Int} (e : σ[i]? = some (some (.ref r))) (hb : b < 1073741824) (h : Ev (reel r c) Z n H0 σ te (IR 1 b)) : Ev (reel r c) Z (n + 1) H0 σ (tCall sp_spin [] E0 (tCons (tVar i) (tCons te tNil))) (IR 0 (b - 1)) :=
  fun H bb Q P k q => ⟨_, e, h H (1 + bb) _ (P.less (by omega)) k fun v H1 P1 k1 ⟨m, em, n1, n2⟩ => ⟨Z, r, c, bb, m, by rw [em]; rfl, P1, by omega, by omega, fun x H2 P2 k2 r1 r2 => q _ _ P2 (k1.trans k2) ⟨x, rfl, r1, by omega⟩⟩⟩
theorem ev_spinC {i : Nat} {m : Int} (e : σ[i]? = some (some (.ref r)) := by rfl) (h0 : 1 ≤ m := by decide) (h1 : m < 1073741824 := by decide) : Ev (reel r c) Z (0 + 1) H0 σ (tCall sp_spin [] E0 (tCons (tVar i) (tCons (tC (.int m)) tNil))) (IR 0 (m - 1)) :=
  ev_spin (b := m) e h1 (ev_int.wide h0 (Int.le_refl _))
end
/-! ### lamps, stretches, logs, minutes -/
def kindS (h : Bool) : Str := if h then "hold" else "pulse"
abbrev Lamp := Bool × Int
abbrev Stt := Int × Int
def lampD (l : Lamp) : PyData := .tuple [.str (kindS l.1), .int l.2]
def logD (ps : List Stt) : PyData := .tuple (ps.map pD)
def lampsD (ls : List Lamp) : PyData := .tuple (ls.map lampD)
def minsD (ms : List Int) : PyData := .list (ms.map .int)
/-- strictly rising, from above b -/
def Asc : Int → List Int → Prop
  | _, [] => True
  | b, m :: r => b < m ∧ Asc m r
def stepL (h : Bool) (s : Int) : List Stt → Int → List Stt
  | [], m => [(m, m + s)]
  | q :: r, m => if q.2 < m then (m, m + s) :: q :: r else if h || decide (m = q.2) then (q.1, m + s) :: r else q :: r
def logF (l : Lamp) (ms : List Int) : List Stt := (ms.foldl (stepL l.1 l.2) []).reverse
/-- a log in order, all of it up to B -/
structure LgOk (n : Nat) (B : Int) (ps : List Stt) : Prop where
  up : LogUp (-1) ps
  len : ps.length ≤ n
  top : ∀ q ∈ ps, q.2 ≤ B
/-- the same from its end -/
def DownOk (B : Int) : List Stt → Prop
  | [] => True
  | q :: r => 0 ≤ q.1 ∧ q.1 < q.2 ∧ q.2 ≤ B ∧ DownOk B r ∧ (match r with | [] => True | p :: _ => p.2 < q.1)
theorem LogUp.snoc {b : Int} : ∀ {ps : List Stt} {q : Stt}, LogUp b ps → (∀ p, ps.getLast? = some p → p.2 < q.1) → b < q.1 → q.1 < q.2 → LogUp b (ps ++ [q])
  | [], q, _, _, h, h2 => ⟨h, h2, trivial⟩
  | p :: r, q, ⟨a1, a2, a3⟩, hl, h, h2 => by
    refine ⟨a1, a2, LogUp.snoc a3 (fun x hx => ?_) ?_ h2⟩
    · cases r with
      | nil => simp at hx
      | cons y ys => exact hl x (by rw [List.getLast?_cons_cons]; exact hx)
    · cases r with
      | nil => exact hl p rfl
      | cons y ys =>
        obtain ⟨b1, b2, b3⟩ := a3
        have := hl ((y :: ys).getLast (by simp)) (by rw [List.getLast?_cons_cons, List.getLast?_eq_getLast (by simp)])
        have m : (y :: ys).getLast (by simp) ∈ (y :: ys) := List.getLast_mem _
        have bb := LogUp.bound (b := p.2) (ps := y :: ys) ⟨b1, b2, b3⟩ _ m
        omega
theorem DownOk.rev {B : Int} : ∀ {qs : List Stt}, DownOk B qs → LogUp (-1) qs.reverse ∧ ∀ q ∈ qs, 0 ≤ q.1 ∧ q.1 < q.2 ∧ q.2 ≤ B
  | [], _ => ⟨trivial, fun q h => nomatch h⟩
  | q :: r, ⟨h0, h1, h2, h3, h4⟩ => by
    obtain ⟨i1, i2⟩ := DownOk.rev h3
    rw [List.reverse_cons]
    refine ⟨LogUp.snoc i1 (fun p hp => ?_) (by omega) h1, fun x hx => ?_⟩
    · rw [List.getLast?_reverse] at hp
      cases r with
      | nil => simp at hp
      | cons y ys => simp at hp; rw [← hp]; exact h4
    · rcases List.mem_cons.mp hx with e | e
      · rw [e]; exact ⟨h0, h1, h2⟩
      · exact i2 x e
theorem DownOk.ok {B : Int} {n : Nat} {qs : List Stt} (h : DownOk B qs) (hl : qs.length ≤ n) : LgOk n B qs.reverse :=
  ⟨h.rev.1, by rw [List.length_reverse]; exact hl, fun q hq => (h.rev.2 q (List.mem_reverse.mp hq)).2.2⟩
theorem stepL_down {h : Bool} {s B C m : Int} {qs : List Stt} (hs : 1 ≤ s) (hd : DownOk C qs) (h0 : 0 ≤ m) (hb : m + s ≤ B) (hc : C ≤ B) (hm : ∀ q, qs.head? = some q → q.1 < m) : DownOk B (stepL h s qs m) := by
  have w : ∀ {rs : List Stt}, DownOk C rs → DownOk B rs := fun {rs} => by
    intro hr
    induction rs with
    | nil => trivial
    | cons q r ih => obtain ⟨a1, a2, a3, a4, a5⟩ := hr; exact ⟨a1, a2, Int.le_trans a3 hc, ih a4, a5⟩
  cases qs with
  | nil => exact ⟨h0, by show m < m + s; omega, hb, trivial, trivial⟩
  | cons q r =>
    have hq := hm q rfl
    obtain ⟨a1, a2, a3, a4, a5⟩ := hd
    simp only [stepL]
    split
    · exact ⟨h0, by show m < m + s; omega, hb, w ⟨a1, a2, a3, a4, a5⟩, by assumption⟩
    · split
      · exact ⟨a1, by show q.1 < m + s; omega, hb, w a4, a5⟩
      · exact w ⟨a1, a2, a3, a4, a5⟩
theorem stepL_head {h : Bool} {s m : Int} {qs : List Stt} (hm : ∀ q, qs.head? = some q → q.1 < m) : ∀ q, (stepL h s qs m).head? = some q → q.1 ≤ m := by
  intro x
  cases qs with
  | nil => intro e; cases e; exact Int.le_refl _
  | cons q r =>
    have hq := hm q rfl
    simp only [stepL]
    split
    · intro e; cases e; exact Int.le_refl _
    · split
      · intro e; cases e; show q.1 ≤ m; omega
      · intro e; cases e; omega
theorem stepL_len {h : Bool} {s m : Int} {qs : List Stt} : (stepL h s qs m).length ≤ qs.length + 1 := by
  cases qs with
  | nil => exact Nat.le_refl _
  | cons q r =>
    simp only [stepL]
    split
    · simp
    · split <;> simp
theorem foldL_down {h : Bool} {s B : Int} (hs : 1 ≤ s) : ∀ {ms : List Int} {b : Int} {qs : List Stt}, Asc b ms → (∀ m ∈ ms, 0 ≤ m ∧ m + s ≤ B) → DownOk B qs → (∀ q, qs.head? = some q → q.1 ≤ b) → DownOk B (ms.foldl (stepL h s) qs) ∧ (ms.foldl (stepL h s) qs).length ≤ qs.length + ms.length
  | [], b, qs, _, _, hd, _ => ⟨hd, Nat.le_refl _⟩
  | m :: r, b, qs, ⟨a1, a2⟩, hm, hd, hh => by
    have m0 := hm m List.mem_cons_self
    have hh' : ∀ q, qs.head? = some q → q.1 < m := fun q e => by have := hh q e; omega
    obtain ⟨i1, i2⟩ := foldL_down (h := h) hs a2 (fun x hx => hm x (List.mem_cons_of_mem _ hx)) (stepL_down (h := h) hs hd m0.1 m0.2 (Int.le_refl _) hh') (stepL_head hh')
    have l := stepL_len (h := h) (s := s) (m := m) (qs := qs)
    refine ⟨i1, ?_⟩
    rw [List.foldl_cons, List.length_cons]
    omega
theorem logF_ok {l : Lamp} {ms : List Int} {b B : Int} {n : Nat} (hs : 1 ≤ l.2) (ha : Asc b ms) (hm : ∀ m ∈ ms, 0 ≤ m ∧ m + l.2 ≤ B) (hl : ms.length ≤ n) : LgOk n B (logF l ms) := by
  obtain ⟨h1, h2⟩ := foldL_down (h := l.1) (qs := []) hs ha hm trivial (fun q e => nomatch e)
  exact h1.ok (by simp at h2; omega)
/-! ### what such data is in the heap -/
theorem dqs_nil {K : PySem.W.Frag} {G : Hp} {vs : List V} (h : Dqs K G vs []) : vs = [] := by cases h; rfl
theorem dqs_cons {K : PySem.W.Frag} {G : Hp} {vs : List V} {d : PyData} {ds : List PyData} (h : Dqs K G vs (d :: ds)) : ∃ v r, vs = v :: r ∧ Dq K G v d ∧ Dqs K G r ds := by cases h; exact ⟨_, _, rfl, by assumption, by assumption⟩
theorem dq_int {K : PySem.W.Frag} {G : Hp} {v : V} {i : Int} (h : Dq K G v (.int i)) : v = .int i := by cases h; rfl
theorem dq_str {K : PySem.W.Frag} {G : Hp} {v : V} {x : Str} (h : Dq K G v (.str x)) : v = .str x := by cases h; rfl
theorem dq_bool {K : PySem.W.Frag} {G : Hp} {v : V} {x : Bool} (h : Dq K G v (.bool x)) : v = .bl x := by cases h; rfl
theorem dq_none {K : PySem.W.Frag} {G : Hp} {v : V} (h : Dq K G v .none) : v = .non := by cases h; rfl
theorem dq_tup {K : PySem.W.Frag} {G : Hp} {v : V} {ds : List PyData} (h : Dq K G v (.tuple ds)) : ∃ a xs, v = .ref a ∧ SqT K G a xs ∧ Dqs K G xs ds := by cases h; exact ⟨_, _, rfl, by assumption, by assumption⟩
theorem dq_lst {K : PySem.W.Frag} {G : Hp} {v : V} {ds : List PyData} (h : Dq K G v (.list ds)) : ∃ a xs, v = .ref a ∧ SqL K G a xs ∧ Dqs K G xs ds := by cases h; exact ⟨_, _, rfl, by assumption, by assumption⟩
theorem dq_lamp {K : PySem.W.Frag} {G : Hp} {v : V} {l : Lamp} (h : Dq K G v (lampD l)) : ∃ a, v = .ref a ∧ SqT K G a [.str (kindS l.1), .int l.2] := by
  obtain ⟨a, xs, rfl, h1, h2⟩ := dq_tup h
  obtain ⟨x, r, rfl, h3, h4⟩ := dqs_cons h2
  obtain ⟨y, r, rfl, h5, h6⟩ := dqs_cons h4
  rw [dqs_nil h6, dq_str h3, dq_int h5] at h1
  exact ⟨a, rfl, h1⟩
theorem dq_pair {K : PySem.W.Frag} {G : Hp} {v : V} {q : Stt} (h : Dq K G v (pD q)) : ∃ a, v = .ref a ∧ SqT K G a [.int q.1, .int q.2] := by
  obtain ⟨a, xs, rfl, h1, h2⟩ := dq_tup h
  obtain ⟨x, r, rfl, h3, h4⟩ := dqs_cons h2
  obtain ⟨y, r, rfl, h5, h6⟩ := dqs_cons h4
  rw [dqs_nil h6, dq_int h3, dq_int h5] at h1
  exact ⟨a, rfl, h1⟩
theorem dq_lampT {K : PySem.W.Frag} {G : Hp} {a : Addr} {l : Lamp} (h : SqT K G a [.str (kindS l.1), .int l.2]) : Dq K G (.ref a) (lampD l) := .tup h (.cons (.str _) (.cons (.int _) .nil))
theorem dq_pairT {K : PySem.W.Frag} {G : Hp} {a : Addr} {q : Stt} (h : SqT K G a [.int q.1, .int q.2]) : Dq K G (.ref a) (pD q) := .tup h (.cons (.int _) (.cons (.int _) .nil))
theorem dqs_ints {K : PySem.W.Frag} {G : Hp} : ∀ {vs : List V} {ms : List Int}, Dqs K G vs (ms.map .int) → vs = ms.map V.int
  | _, [], h => dqs_nil h
  | _, m :: r, h => by
    obtain ⟨v, t, rfl, h1, h2⟩ := dqs_cons h
    rw [dq_int h1, dqs_ints h2]; rfl
theorem ints_dqs {K : PySem.W.Frag} {G : Hp} : ∀ {ms : List Int}, Dqs K G (ms.map V.int) (ms.map .int)
  | [] => .nil
  | m :: r => .cons (.int m) ints_dqs
theorem kindS_hold (h : Bool) : decide (V.str (kindS h) = V.str "hold") = h := by
  cases h with
  | true => exact decide_eq_true rfl
  | false => exact decide_eq_false (fun e => absurd (V.str.inj e) (by decide))
theorem kindS_pulse (h : Bool) : decide (V.str (kindS h) = V.str "pulse") = !h := by
  cases h with
  | true => exact decide_eq_false (fun e => absurd (V.str.inj e) (by decide))
  | false => exact decide_eq_true rfl
theorem cut_ints (ns : List Int) (lo hi : Option Int) : ∃ ks : List Int, cutV (ns.map V.int) lo hi = ks.map V.int ∧ ks.length ≤ ns.length := by
  refine ⟨(ns.drop (HT.sIx (ns.map V.int).length 0 lo)).take (HT.sIx (ns.map V.int).length (ns.map V.int).length hi - HT.sIx (ns.map V.int).length 0 lo), ?_, ?_⟩
  · unfold cutV
    rw [List.map_take, List.map_drop]
  · rw [List.length_take, List.length_drop]
    omega
/-! ### promises -/
def sp_f (K : PySem.W.Frag) {α : Type} (A : α → List PyData) (P : α → Prop) (F : α → PyData) : Sp := fun vs H Q _ => ∃ (N : Addr → Prop) (x : α), Occ N H ∧ Dqs K (cut N H) vs (A x) ∧ P x ∧ ∀ r H', Same H H' → Dq K (cut N H') r (F x) → Q r H'
def fitB (l : Lamp) (q : Stt) : Bool := decide (q.2 - l.2 ≤ 1000000000) && (if l.1 then decide (l.2 ≤ q.2 - q.1) else decide ((q.2 - q.1).fmod l.2 = 0))
/-- the numbers of those that do not pass, from i on -/
def wrongs (p : Stt → Bool) : Nat → List Stt → List Int
  | _, [] => []
  | i, q :: r => if p q then wrongs p (i + 1) r else (i : Int) :: wrongs p (i + 1) r
theorem wrongs_snoc (p : Stt → Bool) : ∀ (i : Nat) (ps : List Stt) (q : Stt), wrongs p i (ps ++ [q]) = wrongs p i ps ++ (if p q then [] else [((i + ps.length : Nat) : Int)])
  | i, [], q => by simp only [List.nil_append, wrongs, List.length_nil, Nat.add_zero]
  | i, x :: r, q => by
    simp only [List.cons_append, wrongs, wrongs_snoc p (i + 1) r q, List.length_cons]
    rw [show i + 1 + r.length = i + (r.length + 1) by omega]
    split <;> simp
theorem wrongs_len (p : Stt → Bool) : ∀ (i : Nat) (ps : List Stt), (wrongs p i ps).length ≤ ps.length
  | _, [] => Nat.le_refl _
  | i, q :: r => by
    simp only [wrongs]
    have := wrongs_len p (i + 1) r
    split <;> simp only [List.length_cons] <;> omega
theorem wrongs_lt (p : Stt → Bool) : ∀ (i : Nat) (ps : List Stt), ∀ x ∈ wrongs p i ps, (i : Int) ≤ x ∧ x < i + ps.length
  | _, [], x, h => nomatch h
  | i, q :: r, x, h => by
    have ih := wrongs_lt p (i + 1) r
    simp only [wrongs] at h
    simp only [List.length_cons]
    split at h
    · have := ih x h; omega
    · rcases List.mem_cons.mp h with e | e
      · omega
      · have := ih x e; omega
def sp_lamps (K : PySem.W.Frag) : Sp := fun vs H Q _ => ∃ (Z : Hp) (r c : Addr) (b : Nat) (m T : Int), vs = [.ref r, .int m, .int T] ∧ Iv (reel r c) Z (25 + b) H ∧ 1 ≤ m ∧ m ≤ 6 ∧ 1 ≤ T ∧ T ≤ 10000 ∧
  ∀ (x : V) (H' : Hp) (ls : List Lamp), Iv (reel r c) Z b H' → Kp (reel r c) Z H H' → Dq K (hid (reel r c) Z H') x (lampsD ls) → 1 ≤ ls.length → (ls.length : Int) ≤ m → (∀ l ∈ ls, 1 ≤ l.2 ∧ l.2 ≤ T) → Q x H'
/-- minutes: rising, not negative, of at most 10 ** 7, so many at most -/
def MinsOk (n : Int) (ms : List Int) : Prop := Asc (-1) ms ∧ (ms.length : Int) ≤ n ∧ ∀ m ∈ ms, 0 ≤ m ∧ m ≤ 10000000
def sp_minutes (K : PySem.W.Frag) : Sp := fun vs H Q _ => ∃ (Z : Hp) (r c : Addr) (b : Nat) (m g : Int), vs = [.ref r, .int m, .int g] ∧ Iv (reel r c) Z (205 + b) H ∧ 0 ≤ m ∧ m ≤ 50 ∧ 1 ≤ g ∧ g ≤ 20000 ∧
  ∀ (x : V) (H' : Hp) (ms : List Int), Iv (reel r c) Z b H' → Kp (reel r c) Z H H' → Dq K (hid (reel r c) Z H') x (minsD ms) → MinsOk m ms → Q x H'
def sp_bent (K : PySem.W.Frag) : Sp := fun vs H Q _ => ∃ (Z : Hp) (r c : Addr) (b : Nat) (x : V) (ps : List Stt) (B : Int), vs = [.ref r, x] ∧ Iv (reel r c) Z (3 + b) H ∧ Dq K (hid (reel r c) Z H) x (logD ps) ∧ LgOk 60 B ps ∧ 0 ≤ B ∧ B ≤ 100000000 ∧
  ∀ (y : V) (H' : Hp) (qs : List Stt), Iv (reel r c) Z b H' → Kp (reel r c) Z H H' → Dq K (hid (reel r c) Z H') y (logD qs) → LgOk 60 (B + 8) qs → Q y H'
def sp_scene (K : PySem.W.Frag) : Sp := fun vs H Q _ => ∃ (Z : Hp) (r c : Addr) (b : Nat) (m T n : Int), vs = [.ref r, .int m, .int T, .int n] ∧ Iv (reel r c) Z (700 + b) H ∧ 1 ≤ m ∧ m ≤ 6 ∧ 1 ≤ T ∧ T ≤ 10000 ∧ 0 ≤ n ∧ n ≤ 50 ∧
  ∀ (p : Addr) (x y : V) (H' : Hp) (ls : List Lamp) (gs : List (List Stt)), Iv (reel r c) Z b H' → Kp (reel r c) Z H H' → H' p = some (.lst [x, y]) → ¬ (reel r c).own p → Z p = none → H p = none →
    Dq K (hid (reel r c) Z H') x (lampsD ls) → Dq K (hid (reel r c) Z H') y (.tuple (gs.map logD)) → 1 ≤ ls.length → (ls.length : Int) ≤ m → (∀ l ∈ ls, 1 ≤ l.2 ∧ l.2 ≤ T) → gs.length = ls.length → (∀ g ∈ gs, LgOk 60 20000000 g) → Q (.ref p) H'
end Lg

namespace Lg
open PySem PySem.Spec PyProof.Rows L2 Lm
/-! ### a list of one's own -/
noncomputable abbrev cut1 (f : Addr) (G : Hp) : Hp := cut (fun a => a = f) G
theorem cut1_at {f b : Addr} {G : Hp} (h : b ≠ f) : cut1 f G b = G b := if_neg h
section
variable {N : Addr → Prop} {H H3 : Hp} {f t : Addr} {o o' : HO} {vs : List V}
theorem app_cut (O : Occ N H3) (hf : H3 f = some o) (nt : H3 t = none) : Same (cut1 f (cut N H3)) (cut1 f (cut N (upd (upd H3 t (.tup vs)) f o'))) ∧ cut1 f (cut N (upd (upd H3 t (.tup vs)) f o')) t = some (.tup vs) := by
  have tf : t ≠ f := fun e => by rw [e, hf] at nt; cases nt
  have tN : ¬ N t := fun z => O t z nt
  constructor
  · intro b u e
    have n1 := cut_some e
    have n2 := cut_some n1.2
    have bt : b ≠ t := fun e => by rw [e, nt] at n2; cases n2.2
    rw [cut1_at n1.1, cut_at n2.1, upd_ne n1.1, upd_ne bt]
    exact n2.2
  · rw [cut1_at tf, cut_at tN, upd_ne tf, upd_same]
theorem set_cut : cut1 f (cut N (upd H3 f o)) = cut1 f (cut N H3) := by
  funext b
  by_cases e : b = f
  · unfold cut1 cut; rw [if_pos e, if_pos e]
  · rw [cut1_at e, cut1_at e]
    by_cases n : N b
    · unfold cut; rw [if_pos n, if_pos n]
    · rw [cut_at n, cut_at n, upd_ne e]
theorem new_cut (O : Occ N H3) (nt : H3 t = none) : Same (cut N H3) (cut N (upd H3 t o)) := cut_mono (same_new nt)
end
section
variable {S : Src} {Z H H3 : Hp} {b c : Nat} {f t : Addr} {o : HO} {vs : List V}
theorem app_iv (P : Iv S Z c H) (nf : H f = none) (P3 : Iv S Z b H3) (k3 : Kp S Z H H3) (nt : H3 t = none) : Iv S Z b (upd (upd H3 t (.tup vs)) f o) ∧ Kp S Z H (upd (upd H3 t (.tup vs)) f o) :=
  ⟨(P3.new nt).upd (P.free nf), Kp.upd_new (ne_of_new nf) (k3.trans (Kp.new nt))⟩
theorem set_iv (P : Iv S Z c H) (nf : H f = none) (P3 : Iv S Z b H3) (k3 : Kp S Z H H3) : Iv S Z b (upd H3 f o) ∧ Kp S Z H (upd H3 f o) :=
  ⟨P3.upd (P.free nf), Kp.upd_new (ne_of_new nf) k3⟩
/-- what is visible is so behind a call -/
theorem Kp.at_ (k : Kp S Z H H3) (h : Off S Z f) (e : H f = some o) : H3 f = some o := cut_same _ _ (k _ _ (hid_get h e))
end
section
variable {σ : L2.St} {H : Hp} {te : TE} {tl : TA} {Q : VK} {QL : List V → Hp → Prop} {K : PySem.W.Frag}
theorem r_tup (h : tl σ H fun vs H1 => vs.length ≤ sizeLine ∧ ∀ t, H1 t = none → Q (.ref t) (upd H1 t (.tup vs))) : tTup tl σ H Q := h
theorem r_lst (h : tl σ H fun vs H1 => vs.length ≤ sizeLine ∧ ∀ t, H1 t = none → Q (.ref t) (upd H1 t (.lst vs))) : tLst tl σ H Q := h
theorem r_cons (h : te σ H fun v H1 => tl σ H1 fun vs H2 => QL (v :: vs) H2) : tCons te tl σ H QL := h
theorem dqs_snoc {G : Hp} {xs : List V} {ds : List PyData} {v : V} {d : PyData} (h : Dqs K G xs ds) (hv : Dq K G v d) : Dqs K G (xs ++ [v]) (ds ++ [d]) := Dqs.app h (.cons hv .nil)
end
def KS (v : V) (_ : Hp) : Prop := ∃ h, v = .str (kindS h)
theorem KS.mo : Mo KS := fun v G G' s h => h
section
variable {K : PySem.W.Frag} {S : Src} {Z : Hp} {H0 : Hp} {σ : L2.St} {ta tb : TE} {n1 n2 : Nat}
theorem ev_min2 {a b c d : Int} (h1 : Ev S Z n1 H0 σ ta (IR a b)) (h2 : Ev S Z n2 H0 σ tb (IR c d)) : Ev S Z (n1 + n2) H0 σ (tCB (fun xs H Q => ∃ i j, xs = [.int i, .int j] ∧ Q (.int (if j < i then j else i)) H) (tCons ta (tCons tb tNil))) (IR (if c < a then c else a) b) :=
  fun H bb Q P k q => h1 H (n2 + bb) _ (P.less (by omega)) k fun x H1 P1 k1 ⟨i, e1, i1, i2⟩ => h2 H1 bb _ P1 (k.trans k1) fun y H2 P2 k2 ⟨j, e2, j1, j2⟩ => ⟨i, j, by rw [e1, e2], q _ _ P2 (k1.trans k2) ⟨_, rfl, by repeat (first | omega | split), by repeat (first | omega | split)⟩⟩
theorem EI_mo {i : Int} : Mo (EI i) := fun _ _ _ _ h => h
theorem ev_iv {i : Nat} {g : Int} (e : σ[i]? = some (some (.int g))) : Ev S Z 0 H0 σ (tVar i) (EI g) := ev_var e EI_mo rfl
theorem ev_kinds : Ev S Z 0 H0 σ (tLst (tCons (tC (.str "hold")) (tCons (tC (.str "pulse")) tNil))) (LsR 2 2 KS) :=
  ev_lst (by decide) KS.mo (eall_cons KS.mo (ev_c.imp fun v G e => ⟨true, e⟩) (eall_cons KS.mo (ev_c.imp fun v G e => ⟨false, e⟩) eall_nil))
end
theorem Asc.snoc : ∀ {b : Int} {ms : List Int} {m : Int}, Asc b ms → b < m → (∀ x ∈ ms, x < m) → Asc b (ms ++ [m])
  | _, [], _, _, h, _ => ⟨h, trivial⟩
  | b, x :: r, m, ⟨a1, a2⟩, h, hx => ⟨a1, Asc.snoc a2 (hx x List.mem_cons_self) fun y hy => hx y (List.mem_cons_of_mem _ hy)⟩
end Lg

namespace Lg
open PySem PySem.Spec PyProof.Rows L2 Lm
theorem dqs_snoc_inv {K : PySem.W.Frag} {G : Hp} : ∀ {xs : List V} {ds : List PyData} {d : PyData}, Dqs K G xs (ds ++ [d]) → ∃ ys v, xs = ys ++ [v] ∧ Dqs K G ys ds ∧ Dq K G v d
  | _, [], d, h => by
    obtain ⟨v, r, rfl, h1, h2⟩ := dqs_cons h
    rw [dqs_nil h2]
    exact ⟨[], v, rfl, .nil, h1⟩
  | _, e :: r, d, h => by
    obtain ⟨v, t, rfl, h1, h2⟩ := dqs_cons h
    obtain ⟨ys, u, rfl, h3, h4⟩ := dqs_snoc_inv h2
    exact ⟨v :: ys, u, rfl, .cons h1 h3, h4⟩
theorem ixN_last {xs : List V} {v : V} : ixN (xs ++ [v]).length (-1) = some xs.length := by
  unfold ixN
  rw [if_neg (by decide), if_pos (by simp; omega)]
  congr 1
  simp
  omega
theorem set_last {xs : List V} {v u : V} : (xs ++ [v]).set xs.length u = xs ++ [u] := by
  rw [List.set_append_right _ _ (Nat.le_refl _), Nat.sub_self]
  rfl
/-- the numbers that two sure facts about decide give -/
theorem Same.seqL {K : PySem.W.Frag} {H H' : Hp} {a : Addr} {xs : List V} (e : Same H H') (h : SqL K H a xs) : SqL K H' a xs := e.seq h
theorem get_ints {ms : List Int} {i : Nat} {x : V} (h : (ms.map V.int)[i]? = some x) : ∃ m, ms[i]? = some m ∧ x = .int m := by
  rw [List.getElem?_map] at h
  cases e : ms[i]? with
  | none => rw [e] at h; cases h
  | some n => rw [e] at h; exact ⟨n, rfl, (Option.some.inj h).symm⟩
theorem same_upd {H H3 : Hp} {f : Addr} {o : HO} (s : Same H H3) (n : H f = none) : Same H (upd H3 f o) := same_upd2 s n
theorem logF_len (h : Bool) (s : Int) : ∀ (ms : List Int) (qs : List Stt), (ms.foldl (stepL h s) qs).length ≤ qs.length + ms.length
  | [], _ => Nat.le_refl _
  | m :: r, qs => by
    have a := logF_len h s r (stepL h s qs m)
    have b := stepL_len (h := h) (s := s) (m := m) (qs := qs)
    rw [List.foldl_cons, List.length_cons]
    omega
theorem foldl_take {α β : Type} (g : β → α → β) (b : β) (xs : List α) {i : Nat} {x : α} (h : xs[i]? = some x) : (xs.take (i + 1)).foldl g b = g ((xs.take i).foldl g b) x := by
  rw [List.take_add_one, h, List.foldl_append]
  rfl
def sp_l_log (K : PySem.W.Frag) : Sp := sp_f K (fun x : Lamp × List Int => [lampD x.1, minsD x.2]) (fun x => x.2.length ≤ 900) (fun x => logD (logF x.1 x.2))
def sp_l_logs (K : PySem.W.Frag) : Sp := sp_f K (fun x : List Lamp × List Int => [lampsD x.1, minsD x.2]) (fun x => x.1.length ≤ 900 ∧ x.2.length ≤ 900) (fun x => .tuple (x.1.map fun l => logD (logF l x.2)))
def sp_fits (K : PySem.W.Frag) : Sp := sp_f K (fun x : Lamp × Stt => [lampD x.1, pD x.2]) (fun x => 1 ≤ x.1.2 ∧ x.2.1 < x.2.2) (fun x => .bool (fitB x.1 x.2))
def sp_wrong (K : PySem.W.Frag) : Sp := sp_f K (fun x : Lamp × List Stt => [lampD x.1, logD x.2]) (fun x => 1 ≤ x.1.2 ∧ (∀ q ∈ x.2, q.1 < q.2) ∧ x.2.length ≤ 900) (fun x => .tuple ((wrongs (fitB x.1) 0 x.2).map .int))
theorem dqs_get {K : PySem.W.Frag} {G : Hp} {α : Type} {D : α → PyData} {xs : List V} {ps : List α} {i : Nat} {v : V} (h : Dqs K G xs (ps.map D)) (e : xs[i]? = some v) : ∃ q, ps[i]? = some q ∧ Dq K G v (D q) := by
  obtain ⟨d, hd, hq⟩ := h.get e
  rw [List.getElem?_map] at hd
  cases e2 : ps[i]? with
  | none => rw [e2] at hd; cases hd
  | some q => rw [e2] at hd; cases (Option.some.inj hd); exact ⟨q, rfl, hq⟩
/-- a list of pairs that grows while nothing else changes: σ is what the names hold but for y -/
def GrowAt (K : PySem.W.Frag) (N : Addr → Prop) (H : Hp) (f : Addr) (ps : List Stt) (Hi : Hp) : Prop := ∃ xs, Same H Hi ∧ Hi f = some (.lst xs) ∧ Dqs K (cut1 f (cut N Hi)) xs (ps.map pD)
theorem GrowAt.start {K : PySem.W.Frag} {N : Addr → Prop} {H : Hp} {f : Addr} (nf : H f = none) : GrowAt K N H f [] (upd H f (.lst [])) := ⟨[], same_new nf, upd_same, .nil⟩
theorem GrowAt.put {K : PySem.W.Frag} {N : Addr → Prop} {H Hi G : Hp} {f t : Addr} {zs : List V} {o : HO} {ps : List Stt} {q : Stt} (nf : H f = none) (O : Occ N H) (si : Same H Hi) (sG : Same Hi G) (eG : G f = some o) (hz : Dqs K (cut1 f (cut N Hi)) zs (ps.map pD)) (nt : G t = none) :
    GrowAt K N H f (ps ++ [q]) (upd (upd G t (.tup [.int q.1, .int q.2])) f (.lst (zs ++ [.ref t]))) := by
  obtain ⟨s5, e5⟩ := app_cut (vs := [.int q.1, .int q.2]) (o' := .lst (zs ++ [.ref t])) ((O.keep si).keep sG) eG nt
  refine ⟨_, same_upd ((si.trans sG).trans (same_new nt)) nf, upd_same, ?_⟩
  rw [List.map_append]
  exact dqs_snoc (hz.mono ((cut_mono (cut_mono sG)).trans s5)) (dq_pairT (.inl (.inl e5)))
theorem GrowAt.keep {K : PySem.W.Frag} {N : Addr → Prop} {H Hi G : Hp} {f : Addr} {ps : List Stt} (h : GrowAt K N H f ps Hi) (s : Same Hi G) : GrowAt K N H f ps G :=
  let ⟨xs, s1, e, d⟩ := h; ⟨xs, s1.trans s, s _ _ e, d.mono (cut_mono (cut_mono s))⟩
theorem GrowAt.tup {K : PySem.W.Frag} {N : Addr → Prop} {H Hi : Hp} {f t : Addr} {xs : List V} {ds : List PyData} (O : Occ N H) (s : Same H Hi) (d : Dqs K (cut1 f (cut N Hi)) xs ds) (nt : Hi t = none) : Dq K (cut N (upd Hi t (.tup xs))) (.ref t) (.tuple ds) :=
  .tup (.inl (.inl (cut_new (O.keep s) nt))) (d.mono (cut_same.trans (cut_mono (same_new nt))))
theorem iteF_e {b : Bool} {P R : Prop} (h : b = false) (q : R) : if b = true then P else R := by rw [h]; exact q
theorem iteT_e {b : Bool} {P R : Prop} (h : b = true) (q : P) : if b = true then P else R := by rw [h]; exact q
theorem ite_b {b : Bool} {P R : Prop} (h1 : b = true → P) (h2 : b = false → R) : if b = true then P else R := by
  cases b with
  | true => exact h1 rfl
  | false => exact h2 rfl
end Lg

namespace Lg
open PySem PySem.Spec PyProof.Rows L2 Lm
theorem pg_tupK {X : Cx} {K : PySem.W.Frag} {es : List Expr} {k : Nat} {t : TGs} {n : Nat} {pos : Pos} (hK : X.K = K) (hc : X.calm = true) (h : PGs X es t) (hn : (assignEach es X.env).length = n := by rfl) (hst : (assignEach es X.env).findIdx? (·.1) = none := by rfl) : PG X (.Tuple es k pos) (gTup K n t) := by
  rw [← hK]
  exact pg_tup hc h hn hst
/-! ### comprehensions whose items are made by defs without draws -/
abbrev NP (N : Addr → Prop) (D : Addr) : Addr → Prop := fun a => N a ∨ a = D
theorem np_new {N : Addr → Prop} {H H' : Hp} {D : Addr} (n : H D = none) (s : Same H H') : Same (cut N H) (cut (NP N D) H') := fun b o e => by
  have m := cut_some e
  rw [cut_at (fun z => z.elim m.1 fun q => by rw [← q, m.2] at n; cases n)]
  exact s _ _ m.2
theorem np_le {N : Addr → Prop} {H : Hp} {D : Addr} : Same (cut (NP N D) H) (cut N H) := cut_le fun a h => .inl h
theorem np_occ {N : Addr → Prop} {H : Hp} {D : Addr} {o : HO} (O : Occ N H) (e : H D = some o) : Occ (NP N D) H := O.more (by rw [e]; exact fun z => nomatch z)
theorem map_take_snoc {α β : Type} (F : α → β) {as : List α} {i : Nat} {y : α} (h : as[i]? = some y) : (as.take (i + 1)).map F = (as.take i).map F ++ [F y] := by
  rw [List.take_add_one, h, List.map_append]
  rfl
theorem lc_map {J : It} {Gd : Hp → Prop} {K : PySem.W.Frag} {N : Addr → Prop} {xs : List V} {te : TE} {v : Nat} {σ : L2.St} {H1 : Hp} {Dl : Addr} {Qd : Hp → Prop} {α : Type} {D F : α → PyData} {as : List α}
    (w : Walk J xs.length Gd (YAt xs)) (hG : ∀ H', Same H1 H' → Gd H') (nD : H1 Dl = none) (O : Occ N H1) (hd : Dqs K (cut N H1) xs (as.map D)) (hl : as.length ≤ 900)
    (hT : ∀ (G : Hp) (x : V) (y : α) (Q : VK), y ∈ as → Occ (NP N Dl) G → Same (cut N H1) (cut (NP N Dl) G) → Same H1 G → Dq K (cut (NP N Dl) G) x (D y) → (∀ r G', Same G G' → Dq K (cut (NP N Dl) G') r (F y) → Q r G') → te ((wipe σ [v]).set v (some x)) G Q)
    (hq : ∀ H' acc, Same H1 H' → H' Dl = some (.lst acc) → Occ (NP N Dl) H' → Dqs K (cut (NP N Dl) H') acc (as.map F) → Qd H') :
    ∃ W : Nat → Nat → Hp → Prop, (∃ m, W 0 m (upd H1 Dl (.lst []))) ∧ ∀ i m H, W i m H →
      (J.stop i H ∧ Qd H) ∨ (J.go i H ∧ ∃ Nx : Hp → Prop, (∀ H', Nx H' → ∃ m', m' < m ∧ W (i + 1) m' H') ∧ ∀ x H', J.yld i H x H' → gName v x (wipe σ [v]) H' fun σ2 H2 => wipe σ2 [v] = wipe σ [v] ∧ tYes σ2 H2 fun b H3 =>
        if b = true then te σ2 H3 fun y H4 => ∃ acc, H4 Dl = some (.lst acc) ∧ acc.length < sizeLine ∧ Nx (upd H4 Dl (.lst (acc ++ [y]))) else Nx H3) := by
  have len := hd.len
  rw [List.length_map] at len
  refine lc_it w (fun i Hj => ∃ acc, Same H1 Hj ∧ Hj Dl = some (.lst acc) ∧ Dqs K (cut (NP N Dl) Hj) acc ((as.take i).map F)) ⟨[], same_new nD, upd_same, .nil⟩ (fun i H _ ⟨_, s, _⟩ => hG H s) ?_ ?_
  · rintro i x Hj H' hi ⟨acc, sj, ej, dj⟩ ⟨rfl, hx⟩
    obtain ⟨y, hy, qy⟩ := dqs_get hd hx
    have la := dj.len
    rw [List.length_map, List.length_take] at la
    refine ⟨?_, yes_if ?_⟩
    · simp only [wipe, List.set_set]
    · refine hT _ x y _ (List.mem_of_getElem? hy) (np_occ (O.keep sj) ej) (np_new nD sj) sj (qy.mono (np_new nD sj)) fun r G' sG hr => ⟨acc, sG _ _ ej, small1000 (by omega), acc ++ [r], same_upd (sj.trans sG) nD, upd_same, ?_⟩
      rw [map_take_snoc F hy, cut_upd (.inr rfl)]
      exact dqs_snoc (dj.mono (cut_mono sG)) hr
  · rintro Hn ⟨acc, sn, en, dn⟩
    rw [len, List.take_length] at dn
    exact hq Hn acc sn en (np_occ (O.keep sn) en) dn
/-- the numbers of those that do not pass, over numbers -/
theorem wrongs_take (p : Stt → Bool) {ps : List Stt} {i : Nat} {q : Stt} (h : ps[i]? = some q) : (wrongs p 0 (ps.take (i + 1))).map V.int = (wrongs p 0 (ps.take i)).map V.int ++ (if p q then [] else [V.int (i : Int)]) := by
  have hi : i < ps.length := (List.getElem?_eq_some_iff.mp h).1
  rw [List.take_add_one, h]
  show (wrongs p 0 (ps.take i ++ [q])).map V.int = _
  rw [wrongs_snoc, List.map_append, List.length_take]
  congr 1
  split
  · rfl
  · rw [show min i ps.length = i by omega]; simp
end Lg

namespace Lg
open PySem PySem.Spec PyProof.Rows L2 Lm
/-! ### exact numbers -/
section
variable {K : PySem.W.Frag} {S : Src} {Z : Hp} {H0 : Hp} {σ : L2.St} {te ta tb : TE} {tl : TA} {n n1 n2 : Nat} {a b : Int} {R : VR}
theorem ei_c {i : Int} : Ev S Z 0 H0 σ (tC (.int i)) (EI i) := ev_c
theorem ei_neg (h : Ev S Z n H0 σ te (EI a)) : Ev S Z n H0 σ (tUn (rU fun i => .int (-i)) te) (EI (-a)) := fun H b Q P k q => h H b _ P k fun v H1 P1 k1 e => ⟨a, e, q _ _ P1 k1 rfl⟩
theorem ei_add (h1 : Ev S Z n1 H0 σ ta (EI a)) (h2 : Ev S Z n2 H0 σ tb (EI b)) : Ev S Z (n1 + n2) H0 σ (tOp (rI0 fun i j => .int (i + j)) ta tb) (EI (a + b)) :=
  fun H bb Q P k q => h1 H (n2 + bb) _ (P.less (by omega)) k fun x H1 P1 k1 e1 => h2 H1 bb _ P1 (k.trans k1) fun y H2 P2 k2 e2 => ⟨a, b, e1, e2, q _ _ P2 (k1.trans k2) rfl⟩
theorem ei_sub (h1 : Ev S Z n1 H0 σ ta (EI a)) (h2 : Ev S Z n2 H0 σ tb (EI b)) : Ev S Z (n1 + n2) H0 σ (tOp (rI0 fun i j => .int (i - j)) ta tb) (EI (a - b)) :=
  fun H bb Q P k q => h1 H (n2 + bb) _ (P.less (by omega)) k fun x H1 P1 k1 e1 => h2 H1 bb _ P1 (k.trans k1) fun y H2 P2 k2 e2 => ⟨a, b, e1, e2, q _ _ P2 (k1.trans k2) rfl⟩
theorem ei_mul (hc : CMul a b) (h1 : Ev S Z n1 H0 σ ta (EI a)) (h2 : Ev S Z n2 H0 σ tb (EI b)) : Ev S Z (n1 + n2) H0 σ (tOp (rI CMul fun i j => .int (i * j)) ta tb) (EI (a * b)) :=
  fun H bb Q P k q => h1 H (n2 + bb) _ (P.less (by omega)) k fun x H1 P1 k1 e1 => h2 H1 bb _ P1 (k.trans k1) fun y H2 P2 k2 e2 => ⟨a, b, e1, e2, hc, q _ _ P2 (k1.trans k2) rfl⟩
theorem ei_fdivN (hc : b ≠ 0 ∧ b.natAbs < 1073741824) (h1 : Ev S Z n1 H0 σ ta (EI a)) (h2 : Ev S Z n2 H0 σ tb (EI b)) : Ev S Z (n1 + n2) H0 σ (tOp (rI CDivN fun i j => .int (i.fdiv j)) ta tb) (EI (a.fdiv b)) :=
  fun H bb Q P k q => h1 H (n2 + bb) _ (P.less (by omega)) k fun x H1 P1 k1 e1 => h2 H1 bb _ P1 (k.trans k1) fun y H2 P2 k2 e2 => ⟨a, b, e1, e2, hc, q _ _ P2 (k1.trans k2) rfl⟩
theorem ei_modN (hc : b ≠ 0) (h1 : Ev S Z n1 H0 σ ta (EI a)) (h2 : Ev S Z n2 H0 σ tb (EI b)) : Ev S Z (n1 + n2) H0 σ (tOp (rI (fun _ j => j ≠ 0) fun i j => .int (i.fmod j)) ta tb) (EI (a.fmod b)) :=
  fun H bb Q P k q => h1 H (n2 + bb) _ (P.less (by omega)) k fun x H1 P1 k1 e1 => h2 H1 bb _ P1 (k.trans k1) fun y H2 P2 k2 e2 => ⟨a, b, e1, e2, hc, q _ _ P2 (k1.trans k2) rfl⟩
theorem ei_pow {i j : Int} (h : CPow i j) : Ev S Z 0 H0 σ (tOp (rI CPow fun i j => .int (i ^ j.toNat)) (tC (.int i)) (tC (.int j))) (EI (i ^ j.toNat)) := fun H b Q P k q => ⟨i, j, rfl, rfl, h, q _ _ (P.less (by omega)) Kp.refl rfl⟩
theorem ei_max2 (h1 : Ev S Z n1 H0 σ ta (EI a)) (h2 : Ev S Z n2 H0 σ tb (EI b)) : Ev S Z (n1 + n2) H0 σ (tCB (fun xs H Q => ∃ i j, xs = [.int i, .int j] ∧ Q (.int (if j > i then j else i)) H) (tCons ta (tCons tb tNil))) (EI (if b > a then b else a)) :=
  fun H bb Q P k q => h1 H (n2 + bb) _ (P.less (by omega)) k fun x H1 P1 k1 e1 => h2 H1 bb _ P1 (k.trans k1) fun y H2 P2 k2 e2 => ⟨a, b, by rw [e1, e2], q _ _ P2 (k1.trans k2) rfl⟩
theorem ei_ir {lo hi : Int} (h : Ev S Z n H0 σ te (EI a)) (h1 : lo ≤ a := by decide) (h2 : a ≤ hi := by decide) : Ev S Z n H0 σ te (IR lo hi) := h.imp fun v G e => ⟨a, e, h1, h2⟩
/-- a stretch that ends by B -/
def PR (K : PySem.W.Frag) (B : Int) : VR := fun v G => ∃ q : Stt, Dq K G v (pD q) ∧ 0 ≤ q.1 ∧ q.1 < q.2 ∧ q.2 ≤ B
theorem PR.mo {B : Int} : Mo (PR K B) := fun v G G' s ⟨q, h, r⟩ => ⟨q, h.mono s, r⟩
theorem PR.wide {B C : Int} {v : V} {G : Hp} (h : PR K B v G) (hc : B ≤ C) : PR K C v G := let ⟨q, d, h0, h1, h2⟩ := h; ⟨q, d, h0, h1, Int.le_trans h2 hc⟩
theorem ev_pr {B : Int} (h : 0 ≤ a ∧ a < b ∧ b ≤ B) (h1 : Ev S Z n1 H0 σ ta (EI a)) (h2 : Ev S Z n2 H0 σ tb (EI b)) : Ev S Z (n1 + (n2 + 0)) H0 σ (tTup (tCons ta (tCons tb tNil))) (PR K B) :=
  fun H bb Q P k q => (eva_pair EI_mo EI_mo h1 h2) H bb _ P k fun vs H1 P1 k1 ⟨v, w, e, e1, e2⟩ => by
    subst e; cases e1; cases e2
    refine ⟨sz2, fun t nt => ?_⟩
    obtain ⟨P2, k2, g2⟩ := laid (o := .tup [.int a, .int b]) P1 nt
    exact q _ _ P2 (k1.trans k2) ⟨(a, b), dq_pairT (.inl (.inl g2)), h⟩
theorem ev_lsW {m c m' c' : Nat} {R' : VR} (h : Ev S Z n H0 σ te (LsR m c R)) (h1 : m' ≤ m) (h2 : c ≤ c') (i : ∀ x G, R x G → R' x G) : Ev S Z n H0 σ te (LsR m' c' R') :=
  h.imp fun v G ⟨a, xs, e, g, l1, l2, l3⟩ => ⟨a, xs, e, g, Nat.le_trans h1 l1, Nat.le_trans l2 h2, fun x hx => i x G (l3 x hx)⟩
theorem ev_ifLt {i : Nat} {c d : Int} (e : σ[i]? = some (some (.int c))) (h1 : c < d → Ev S Z n H0 σ ta R) (h2 : Ev S Z n H0 σ tb R) :
    Ev S Z n H0 σ (tIf (tTest (tOp (rI0 fun i j => .bl (decide (i < j))) (tVar i) (tC (.int d)))) ta tb) R :=
  fun H b Q P k q => ⟨_, e, c, d, rfl, rfl, _, rfl, ite2 (fun g => h1 (of_decide_eq_true g) H b Q P k q) (fun _ => h2 H b Q P k q)⟩
def AnyO (S : Src) (Z : Hp) (H0 : Hp) (σ : L2.St) (to : TO) : Prop := ∀ (H : Hp) (b : Nat) (Q : Option Int → Hp → Prop), Iv S Z b H → Kp S Z H0 H → (∀ o H', Iv S Z b H' → Kp S Z H H' → Q o H') → to σ H Q
theorem any_none : AnyO S Z H0 σ tNoPart := fun H b Q P k q => q none H P Kp.refl
theorem any_some {t : TE} (h : Ev S Z 0 H0 σ t (fun v _ => ∃ i, v = .int i)) : AnyO S Z H0 σ (tPart t) := fun H b Q P k q => h H b _ (P.less (by omega)) k fun v H1 P1 k1 ⟨i, e⟩ => ⟨i, e, q _ _ P1 k1⟩
theorem ev_slA {a b : Nat} {t1 t2 : TO} (hm : Mo R) (h : Ev S Z n H0 σ te (TpR K a b R)) (h1 : AnyO S Z H0 σ t1) (h2 : AnyO S Z H0 σ t2) : Ev S Z n H0 σ (tSl (rSlA K) te t1 t2) (TpR K 0 b R) :=
  fun H bb Q P k q => h H bb _ P k fun x H1 P1 k1 r1 => h1 H1 bb _ P1 (k.trans k1) fun lo H2 P2 k2 => h2 H2 bb _ P2 ((k.trans k1).trans k2) fun hi H3 P3 k3 => by
    obtain ⟨l, xs, rfl, g, a1, a2, a3⟩ := TpR.mo hm _ _ _ (Kp.trans k2 k3) r1
    refine ⟨l, xs, rfl, Same.seqT hid_same g, fun _ => ?_, fun _ t nt => ?_⟩
    · exact q _ _ P3 (k1.trans (k2.trans k3)) ⟨l, xs, rfl, g, Nat.zero_le _, a2, a3⟩
    · obtain ⟨P4, k4, e4⟩ := laid (o := .tup (cutV xs lo hi)) P3 nt
      exact q _ _ P4 (k1.trans ((k2.trans k3).trans k4)) ⟨t, _, rfl, .inl (.inl e4), Nat.zero_le _, Nat.le_trans (cutV_length _ _ _) a2, fun v hv => hm _ _ _ k4 (a3 v (mem_cutV hv))⟩
end
theorem ev_lsW_v {m c m' c' : Nat} {R : VR} {v : V} {G : Hp} (h : LsR m c R v G) (h1 : m' ≤ m) (h2 : c ≤ c') : LsR m' c' R v G := let ⟨a, xs, e, g, l1, l2, l3⟩ := h; ⟨a, xs, e, g, Nat.le_trans h1 l1, Nat.le_trans l2 h2, l3⟩
theorem s_ifn' {D : Ends} {σ : L2.St} {H : Hp} {c : TT} {t u : TS} (P : L2.St → Hp → Prop) (rest : ∀ σ' H', P σ' H' → u D σ' H') (h : ∀ X : L2.St → Hp → Prop, (∀ σ' H', P σ' H' → X σ' H') → c σ H fun b H1 => if b = true then t { D with nx := X } σ H1 else X σ H1) : tSeq (tIfS c t tNext) u D σ H := h _ rest
theorem Dqs.pr {K : PySem.W.Frag} {G : Hp} {B : Int} : ∀ {xs : List V} {ps : List Stt}, Dqs K G xs (ps.map pD) → (∀ q ∈ ps, 0 ≤ q.1 ∧ q.1 < q.2 ∧ q.2 ≤ B) → ∀ x ∈ xs, PR K B x G
  | _, [], h, _, x, hx => by rw [dqs_nil h] at hx; cases hx
  | _, q :: r, h, hb, x, hx => by
    obtain ⟨v, t, rfl, h1, h2⟩ := dqs_cons h
    rcases List.mem_cons.mp hx with e | e
    · rw [e]; exact ⟨q, h1, hb q List.mem_cons_self⟩
    · exact Dqs.pr h2 (fun p hp => hb p (List.mem_cons_of_mem _ hp)) x e
theorem LgOk.all {n : Nat} {B : Int} {ps : List Stt} (h : LgOk n B ps) : ∀ q ∈ ps, 0 ≤ q.1 ∧ q.1 < q.2 ∧ q.2 ≤ B := fun q hq => by
  have := h.up.bound q hq
  have := h.top q hq
  omega
theorem prs_dp {K : PySem.W.Frag} {G : Hp} : ∀ {xs : List V} {ps : List Stt}, Dqs K G xs (ps.map pD) → DpAll K G xs (ps.map pD)
  | _, [], h => by rw [dqs_nil h]; exact .nil
  | _, q :: r, h => by
    obtain ⟨v, t, rfl, h1, h2⟩ := dqs_cons h
    obtain ⟨a, rfl, g⟩ := dq_pair h1
    exact .cons (.tup g (.cons (.int _) (.cons (.int _) .nil))) (prs_dp h2)
theorem log_dp {K : PySem.W.Frag} {G : Hp} {v : V} {ps : List Stt} (h : Dq K G v (logD ps)) : Dp K G v (logD ps) := by
  obtain ⟨a, xs, rfl, g, hx⟩ := dq_tup h
  exact .tup g (prs_dp hx)
theorem LogUp.take : ∀ {b : Int} {ps : List Stt} (n : Nat), LogUp b ps → LogUp b (ps.take n)
  | _, [], _, _ => by simp [LogUp]
  | _, _, 0, _ => trivial
  | _, q :: r, n + 1, ⟨a1, a2, a3⟩ => ⟨a1, a2, LogUp.take n a3⟩
theorem cutV_take (xs : List V) (n : Nat) : cutV xs none (some (n : Int)) = xs.take n := by
  unfold cutV
  rw [HT.sIx_none, HT.sIx_nat, List.drop_zero, Nat.sub_zero]
  by_cases h : n ≤ xs.length
  · rw [Nat.min_eq_left h]
  · rw [Nat.min_eq_right (by omega), List.take_length, List.take_of_length_le (by omega)]
theorem DownOk.push {B : Int} {qs : List Stt} {q : Stt} (h : DownOk B qs) (h0 : 0 ≤ q.1) (h1 : q.1 < q.2) (h2 : q.2 ≤ B) (hl : ∀ p, qs.head? = some p → p.2 < q.1) : DownOk B (q :: qs) :=
  ⟨h0, h1, h2, h, by cases qs with | nil => trivial | cons p r => exact hl p rfl⟩
end Lg

namespace Lg
open PySem PySem.Spec PyProof.Rows L2 Lm
/-! ### all but the list at f is as it was -/
def AB (f : Addr) (H H' : Hp) : Prop := Same (cut1 f H) (cut1 f H')
section
variable {K : PySem.W.Frag} {S : Src} {N : Addr → Prop} {Z H H1 H2 Hi G : Hp} {f t a : Addr} {b : Nat} {o : HO}
theorem AB.refl : AB f H H := Same.refl _
theorem AB.trans (h : AB f H H1) (k : AB f H1 H2) : AB f H H2 := Same.trans h k
theorem AB.of (s : Same H H1) : AB f H H1 := cut_mono s
theorem AB.set : AB f H (upd H f o) := fun b u e => by
  have n := cut_some e
  rw [cut1_at n.1, upd_ne n.1]
  exact n.2
theorem AB.at_ (h : AB f H H1) (ne : a ≠ f) (e : H a = some o) : H1 a = some o := (cut_some (h a o (by rw [cut1_at ne]; exact e))).2
theorem AB.cut (h : AB f H H1) : Same (cut1 f (Lg.cut N H)) (cut1 f (Lg.cut N H1)) := fun b u e => by
  have n := cut_some e
  have m := cut_some n.2
  rw [cut1_at n.1, cut_at m.1]
  exact h.at_ n.1 m.2
theorem AB.kp {H8 : Hp} (h : AB f H H1) (nf : H8 f = none) (k : Kp S Z H8 H) : Kp S Z H8 H1 := fun b u e => by
  have m := cut_some e
  have n := cut_some (k b u e)
  show Lg.cut (NZ S Z) H1 b = _
  rw [cut_at m.1]
  exact h.at_ (ne_of_none m.2 nf) n.2
theorem AB.iv (h : AB f H H1) (P : Iv S Z b H) (hf : Off S Z f) : Iv S Z b H1 :=
  ⟨S.frame (fun a ha => by
    have ne : a ≠ f := fun e => hf.1 (by rw [← e]; exact ha)
    cases e : H a with
    | none => exact absurd e (S.full P.src ha)
    | some o => exact h.at_ ne e) P.src, fun a u e => h.at_ (ne_of_none e hf.2) (P.zz a u e), P.zo⟩
def GrowB (K : PySem.W.Frag) (N : Addr → Prop) (H : Hp) (f : Addr) (ps : List Stt) (Hi : Hp) : Prop := ∃ xs, AB f H Hi ∧ Hi f = some (.lst xs) ∧ Dqs K (cut1 f (Lg.cut N Hi)) xs (ps.map pD)
theorem GrowB.put {zs : List V} {ps : List Stt} {q : Stt} (O : Occ N Hi) (si : AB f H Hi) (sG : Same Hi G) (eG : G f = some o) (hz : Dqs K (cut1 f (Lg.cut N Hi)) zs (ps.map pD)) (nt : G t = none) :
    GrowB K N H f (ps ++ [q]) (upd (upd G t (.tup [.int q.1, .int q.2])) f (.lst (zs ++ [.ref t]))) := by
  obtain ⟨s5, e5⟩ := app_cut (vs := [.int q.1, .int q.2]) (o' := .lst (zs ++ [.ref t])) (O.keep sG) eG nt
  refine ⟨_, (si.trans (AB.of (sG.trans (same_new nt)))).trans AB.set, upd_same, ?_⟩
  rw [List.map_append]
  exact dqs_snoc (hz.mono ((cut_mono (cut_mono sG)).trans s5)) (dq_pairT (.inl (.inl e5)))
theorem hid_cut1 : Same (hid S (L2.upd Z f o) H) (cut1 f (hid S Z H)) := fun b u e => by
  have n := off_hide (hid_some e)
  rw [cut1_at n.1, hid_at n.2]
  exact hid_same _ _ e
theorem sqt_ne {xs ys : List V} {a : Addr} (h : SqT K G a xs) (e : G f = some (.lst ys)) : SqT K (cut1 f G) a xs := by
  rcases h with (h | ⟨o, h⟩) | h
  · exact .inl (.inl (by rw [cut1_at (ne_of h e (by intro z; cases z))]; exact h))
  · exact .inl (.inr ⟨o, by rw [cut1_at (ne_of h e (by intro z; cases z))]; exact h⟩)
  · exact .inr h
theorem pr_cut1 {B : Int} {x : V} {ys : List V} (h : PR K B x G) (e : G f = some (.lst ys)) : PR K B x (cut1 f G) := by
  obtain ⟨q, hd, r⟩ := h
  obtain ⟨a, rfl, g⟩ := dq_pair hd
  exact ⟨q, dq_pairT (sqt_ne g e), r⟩
end
end Lg
namespace Lg
open PySem PySem.Spec PyProof.Rows L2 Lm
theorem dqs_set {K : PySem.W.Frag} {G : Hp} {v : V} {d : PyData} : ∀ {xs : List V} {ds : List PyData} (j : Nat), Dqs K G xs ds → Dq K G v d → Dqs K G (xs.set j v) (ds.set j d)
  | _, _, _, .nil, _ => .nil
  | _, _, 0, .cons _ t, h => .cons h t
  | _, _, j + 1, .cons r t, h => .cons r (dqs_set j t h)
theorem LgOk.wide {n m : Nat} {B C : Int} {ps : List Stt} (h : LgOk n B ps) (h1 : n ≤ m) (h2 : B ≤ C) : LgOk m C ps := ⟨h.up, Nat.le_trans h.len h1, fun q hq => Int.le_trans (h.top q hq) h2⟩
theorem ixN_in {n : Nat} {i : Int} (h0 : 0 ≤ i) (h1 : i < n) : ixN n i = some i.toNat := by
  unfold ixN
  rw [if_pos h0, if_pos h1]
theorem atI_get {α : Type} {xs : List α} {i : Int} {v : α} (h0 : 0 ≤ i) (h : xs[i.toNat]? = some v) : atI xs i = some v := by
  have lt : i.toNat < xs.length := (List.getElem?_eq_some_iff.mp h).1
  unfold atI
  rw [ixN_in h0 (by omega)]
  exact h
end Lg
namespace Lg
open PySem PySem.Spec PyProof.Rows L2 Lm
theorem kp_none {S : Src} {Z H H8 : Hp} {p : Addr} (O : Occ (NZ S Z) H8) (k : Kp S Z H H8) (n : H8 p = none) : H p = none := by
  cases e : H p with
  | none => rfl
  | some o =>
    by_cases z : NZ S Z p
    · exact absurd n (O p z)
    · have h := k p o (by rw [show hid S Z H p = H p from cut_at z]; exact e)
      have := (cut_some h).2
      rw [n] at this
      cases this
end Lg

namespace Lg
open PySem PySem.Spec PyProof.Rows L2 Lm
/-- a log of at most n stretches, none of them empty, all of them up to B -/
def StOk (n : Nat) (B : Int) (ps : List Stt) : Prop := ps.length ≤ n ∧ ∀ q ∈ ps, 0 ≤ q.1 ∧ q.1 < q.2 ∧ q.2 ≤ B
def LgR (K : PySem.W.Frag) (n : Nat) (B : Int) : VR := fun v G => ∃ ps, Dq K G v (logD ps) ∧ StOk n B ps
theorem LgR.mo {K : PySem.W.Frag} {n : Nat} {B : Int} : Mo (LgR K n B) := fun v G G' s ⟨ps, h, r⟩ => ⟨ps, h.mono s, r⟩
theorem prs_dqs {K : PySem.W.Frag} {G : Hp} {B : Int} : ∀ {xs : List V}, (∀ x ∈ xs, PR K B x G) → ∃ ps : List Stt, Dqs K G xs (ps.map pD) ∧ ∀ q ∈ ps, 0 ≤ q.1 ∧ q.1 < q.2 ∧ q.2 ≤ B
  | [], _ => ⟨[], .nil, fun q h => nomatch h⟩
  | x :: r, h => by
    obtain ⟨q, hd, hq⟩ := h x List.mem_cons_self
    obtain ⟨ps, h1, h2⟩ := prs_dqs (xs := r) fun y hy => h y (List.mem_cons_of_mem _ hy)
    refine ⟨q :: ps, .cons hd h1, fun p hp => ?_⟩
    rcases List.mem_cons.mp hp with e | e
    · rw [e]; exact hq
    · exact h2 p e
theorem TpR.lg {K : PySem.W.Frag} {m n : Nat} {B : Int} {v : V} {G : Hp} (h : TpR K m n (PR K B) v G) : LgR K n B v G := by
  obtain ⟨a, xs, rfl, g, l1, l2, hx⟩ := h
  obtain ⟨ps, h1, h2⟩ := prs_dqs hx
  have := h1.len
  rw [List.length_map] at this
  exact ⟨ps, .tup g h1, by omega, h2⟩
theorem LgOk.st {n : Nat} {B : Int} {ps : List Stt} (h : LgOk n B ps) : StOk n B ps := ⟨h.len, h.all⟩
theorem StOk.wide {n m : Nat} {B C : Int} {ps : List Stt} (h : StOk n B ps) (h1 : n ≤ m) (h2 : B ≤ C) : StOk m C ps := ⟨Nat.le_trans h.1 h1, fun q hq => by have := h.2 q hq; omega⟩
theorem log_sm {ps : List Stt} {n : Nat} {B : Int} (h : StOk n B ps) (hB : B ≤ 10000000000) : Sm (n * 35 + 3) 2 (logD ps) :=
  Sm.tuple (n := 33) (k := 1) (fun d hd => by
    obtain ⟨q, hq, rfl⟩ := List.mem_map.mp hd
    have := h.2 q hq
    exact pD_sm (by omega) (by omega)) (by rw [List.length_map]; exact h.1)
theorem kind_sm (h : Bool) : Sm 13 0 (.str (kindS h)) := by cases h <;> exact sm_chk (by decide +kernel)
theorem lamp_sm {l : Lamp} (h0 : 0 ≤ l.2) (h1 : l.2 ≤ 10000000000) : Sm 33 1 (lampD l) :=
  Sm.tuple (c := 2) (n := 13) (k := 0) (ds := [.str (kindS l.1), .int l.2]) (fun d hd => by
    rcases List.mem_cons.mp hd with e | e
    · rw [e]; exact kind_sm _
    · rw [List.mem_singleton.mp e]; exact Sm.int (by omega)) (Nat.le_refl 2)
theorem two_sm' {d e : PyData} {n k : Nat} (h1 : Sm n k d) (h2 : Sm n k e) : Sm (2 * (n + 2) + 3) (k + 1) (.list [d, e]) :=
  Sm.list (c := 2) (ds := [d, e]) (fun x hx => by
    rcases List.mem_cons.mp hx with z | z
    · rw [z]; exact h1
    · rw [List.mem_singleton.mp z]; exact h2) (Nat.le_refl 2)
theorem ints_sm {xs : List Int} {n : Nat} (hl : xs.length ≤ n) (h : ∀ x ∈ xs, x.natAbs < 10 ^ 12) : Sm (n * 15 + 3) 1 (.tuple (xs.map .int)) :=
  Sm.tuple (n := 13) (k := 0) (fun d hd => by
    obtain ⟨x, hx, rfl⟩ := List.mem_map.mp hd
    exact Sm.int (h x hx)) (by rw [List.length_map]; exact hl)
section
variable {K : PySem.W.Frag} {S : Src} {Z : Hp} {H0 : Hp} {σ : L2.St} {te ta tb : TE} {tl : TA} {n n1 n2 : Nat} {a b lo hi : Int} {R : VR}
theorem ev_prR {B : Int} (h0 : 0 ≤ a) (h1 : a < lo) (h2 : hi ≤ B) (e1 : Ev S Z n1 H0 σ ta (EI a)) (e2 : Ev S Z n2 H0 σ tb (IR lo hi)) : Ev S Z (n1 + (n2 + 0)) H0 σ (tTup (tCons ta (tCons tb tNil))) (PR K B) :=
  fun H bb Q P k q => (eva_pair EI_mo IR.mo e1 e2) H bb _ P k fun vs H1 P1 k1 ⟨v, w, e, e1, ⟨b, e2, b0, b1⟩⟩ => by
    subst e; cases e1; cases e2
    refine ⟨sz2, fun t nt => ?_⟩
    obtain ⟨P2, k2, g2⟩ := laid (o := .tup [.int a, .int b]) P1 nt
    exact q _ _ P2 (k1.trans k2) ⟨(a, b), dq_pairT (.inl (.inl g2)), h0, by show a < b; omega, by show b ≤ B; omega⟩
theorem ev_modC {m : Int} (hm : 0 < m) (h : Ev S Z n H0 σ te (IR lo hi)) : Ev S Z n H0 σ (tOp (rI (fun _ j => j ≠ 0) fun i j => .int (i.fmod j)) te (tC (.int m))) (IR 0 (m - 1)) :=
  fun H b Q P k q => h H b _ P k fun v H1 P1 k1 ⟨i, e, _⟩ => ⟨i, m, e, rfl, by omega, q _ _ P1 k1 ⟨_, rfl, (fmodB hm).1, by have := (fmodB (a := i) hm).2; omega⟩⟩
/-- lamps[0][1] -/
theorem ei_stay0 {x : V} {i : Nat} {l : Lamp} {r : List Lamp} (e : σ[i]? = some (some x)) (h : Dq K (hid S Z H0) x (lampsD (l :: r))) : Ev S Z 0 H0 σ (tOp (rIxT K) (tOp (rIxT K) (tVar i) (tC (.int 0))) (tC (.int 1))) (EI l.2) :=
  fun H b Q P k q => by
    obtain ⟨a, xs, rfl, g, hd⟩ := dq_tup (h.mono k)
    obtain ⟨v, t, rfl, h1, h2⟩ := dqs_cons hd
    obtain ⟨al, rfl, gl⟩ := dq_lamp h1
    exact ⟨_, e, a, _, 0, .ref al, rfl, rfl, Same.seqT hid_same g, atI_nat (j := 0) rfl, al, _, 1, .int l.2, rfl, rfl, Same.seqT hid_same gl, atI_nat (j := 1) rfl, q _ _ (P.less (by omega)) Kp.refl rfl⟩
/-- lamp[1] -/
theorem ei_stay {x : V} {i : Nat} {l : Lamp} (e : σ[i]? = some (some x)) (h : Dq K (hid S Z H0) x (lampD l)) : Ev S Z 0 H0 σ (tOp (rIxT K) (tVar i) (tC (.int 1))) (EI l.2) :=
  fun H b Q P k q => by
    obtain ⟨al, rfl, gl⟩ := dq_lamp (h.mono k)
    exact ⟨_, e, al, _, 1, .int l.2, rfl, rfl, Same.seqT hid_same gl, atI_nat (j := 1) rfl, q _ _ (P.less (by omega)) Kp.refl rfl⟩
theorem ev_lg {m : Nat} {B : Int} (hn : n1 ≤ 1000) (h : EvA S Z n H0 σ tl (AllR m n1 (PR K B))) : Ev S Z n H0 σ (tTup tl) (LgR K n1 B) := (ev_tupR hn PR.mo h).imp fun v G r => TpR.lg r
end
theorem ne_self {z : Str} : V.bl (!decide (V.str z = V.str z)) = V.bl false := by rw [decide_eq_true rfl]; rfl
theorem dqs_lg {K : PySem.W.Frag} {G : Hp} {n : Nat} {B : Int} : ∀ {xs : List V} {gs : List (List Stt)}, Dqs K G xs (gs.map logD) → (∀ g ∈ gs, LgOk n B g) → ∀ x ∈ xs, LgR K n B x G
  | _, [], h, _, x, hx => by rw [dqs_nil h] at hx; cases hx
  | _, q :: r, h, hb, x, hx => by
    obtain ⟨v, t, rfl, h1, h2⟩ := dqs_cons h
    rcases List.mem_cons.mp hx with e | e
    · rw [e]; exact ⟨q, h1, (hb q List.mem_cons_self).st⟩
    · exact dqs_lg h2 (fun p hp => hb p (List.mem_cons_of_mem _ hp)) x e
end Lg

namespace Lg
open PySem PySem.Spec PyProof.Rows L2 Lm
/-! ### an error class of one field, over other such classes over ValueError -/
structure IsC (K : PySem.W.Frag) (C : Addr) : Prop where
  ha : PySem.W.findIn K (.ref C) "__class__" = some (some (.builtin "object.__class__"))
  hn : PySem.W.specialIn K (.builtin "object.__class__") "__get__" = some (some (.builtin "getset_descriptor.__get__"))
  ht : PySem.W.takesIn K (.builtin "object.__class__") = some true
  hm : PySem.W.mroIn K C (.type "object") = some true
structure ExC (K : PySem.W.Frag) (mg : Str → Option Value) (X q f : Str) (C fI : Addr) (fd : FuncData) (st : Stmt) : Prop where
  g : mg X = some (.ref C)
  ox : OexC K C
  iC : PySem.W.findIn K (.ref C) "__init__" = some (some (.ref fI))
  tI : PySem.W.typeIn K (.ref fI) = some (.type "function")
  no : PySem.W.findIn K (.ref C) f = some none
  xf : XfC K C
  is : IsC K C
  F : Fun K "__init__" q st fI fd
  b : Binds K fd ["self", f] []
def sp_init (K : PySem.W.Frag) (f : Str) : Sp := fun vs H Q _ => ∃ (a C : Addr) (v : V), vs = [.ref a, v] ∧ OexC K C ∧ PySem.W.findIn K (.ref C) f = some none ∧ H a = some (exo a C none) ∧
  ∀ dx, H dx = none → dx ≠ a → Q .non (upd (upd H dx (exd dx [(f, v)])) a (exo a C (some dx)))
section
variable {P : Program} {w : World} {K : PySem.W.Frag} {mg : Str → Option Value} {base : Heap}
theorem mkO_run {C : Addr} {f : Str} {v : V} {H1 : Hp} {Q : XK} (ox : OexC K C) (no : PySem.W.findIn K (.ref C) f = some none) (h : ∀ (d : Addr) (H' : Hp), Same H1 H' → H1 d = none → H' d = some (.xd [(f, v)]) → Q (.ref C) (some d) H') :
    ([v] : List V).length ≤ 1000 ∧ ∀ a, H1 a = none → sp_init K f [.ref a, v] (upd H1 a (exo a C none)) (fun r H2 => r = .non ∧ ∃ (d : Addr) (fs : List (Str × V)), H2 a = some (exo a C (some d)) ∧ H2 d = some (exd d fs) ∧ H1 d = none ∧ Q (.ref C) (some d) (upd (del H2 a) d (.xd fs))) (fun _ _ _ => False) := by
  refine ⟨by show 1 ≤ 1000; decide, fun a na => ⟨a, C, v, rfl, ox, no, upd_same, fun dx nd ne => ⟨rfl, dx, [(f, v)], upd_same, ?_, ?_, ?_⟩⟩⟩
  · rw [upd_ne ne, upd_same]
  · rw [upd_ne ne] at nd; exact nd
  · rw [upd_ne ne] at nd
    refine h dx _ (fun b o e => ?_) nd upd_same
    have ba : b ≠ a := ne_of_none e na
    have bd : b ≠ dx := ne_of_none e nd
    rw [upd_ne bd, del_ne ba, upd_ne ba, upd_ne bd, upd_ne ba]
    exact e
/-- isinstance of the error that the suite holds -/
def rIsX (K : PySem.W.Frag) (a : Addr) (cls : Value) (d : Option Addr) : List V → Hp → VK → Prop := fun xs H Q => ∃ (D : Addr) (c : V) (dd : Addr) (fs : List (Str × V)) (b : Bool), xs = [.ref a, c] ∧ cls = .ref D ∧ d = some dd ∧ H dd = some (.xd fs) ∧ XfC K D ∧ IsC K D ∧
  ((∃ cv : Value, (∀ u, L2.RelV c u → u = cv) ∧ PySem.W.kitOne K (.ref D) cv = some b) ∨ (∃ (tp : Addr) (as : List Addr), c = .ref tp ∧ H tp = some (.tup (as.map V.ref)) ∧ PySem.W.kitAny K (.ref D) (as.map Value.ref) = some b)) ∧ Q (.bl b) H
theorem vals_refs : ∀ {as : List Addr} {us : List Value}, Vals (as.map V.ref) us → us = as.map Value.ref
  | [], _, .nil => rfl
  | a :: r, _, .cons h t => by
    obtain rfl := (show _ = Value.ref a from h)
    rw [vals_refs t]
    rfl
theorem call_isX {X : Cx} {a : Addr} {oe : Obj} {cls : Value} {d : Option Addr} {pn : List (Addr × Obj)} (hz : Zc cls d oe) (hf : ∃ vs, oe.data = .fields vs) : CallR (X.suite a ((a, oe) :: pn)) (.builtin "isinstance") (rIsX X.K a cls d) := by
  intro pins s σ H xs us Q I r h
  obtain ⟨D, c, dd, fs, b, rfl, rfl, rfl, ed, XF, IC, e, q⟩ := h
  obtain ⟨u1, u2, rfl, r1, r2⟩ := vals2 r
  cases (show u1 = Value.ref a from r1)
  obtain ⟨hget, _⟩ := I.pin (a, oe) (List.mem_append.mpr (.inl List.mem_cons_self))
  obtain ⟨vs, hv⟩ := hf
  obtain ⟨mA, hns, hr⟩ := (show ObjOk X.prog X.w H s.heap dd (.xd fs) from I.hok dd _ ed)
  obtain ⟨od, ho, hl⟩ := lookIn_ns hns
  have J : PySem.W.InstAt s.heap a oe D (some od) := ⟨hget, hz.1, by unfold PySem.W.notCls; rw [hv] <;> rfl, by rw [hz.2]; exact ho⟩
  have hcl : (PySem.W.clsIn X.K D).isSome = true := by
    obtain ⟨cd, hc, _⟩ := PySem.W.any_some XF.hdC
    rw [hc]; rfl
  have Z := PySem.W.kitx_exc (x := a) (od := some od) (ox := oe) hcl XF.ga XF.gg XF.exC IC.ha IC.hn IC.ht IC.hm
  rcases e with ⟨cv, hcv, e⟩ | ⟨tp, as, rfl, hT, e⟩
  · have ec := hcv _ r2
    subst ec
    exact PySem.W.kia_one Z I.kIn J e (fun z => nomatch z) fun tk => ⟨.bl b, H, I.kept (t' := tk) fun _ _ z => z, rfl, q⟩
  · cases (show u2 = Value.ref tp from r2)
    obtain ⟨_, its, rv, o, h1, h2, n, h3⟩ := (show ObjOk X.prog X.w H s.heap tp (.tup (as.map V.ref)) from I.hok tp _ hT)
    have e3 := vals_refs rv
    subst e3
    obtain ⟨oc, odd, dt, sl⟩ := o
    simp only at h2 h3
    subst h2 h3
    exact PySem.W.kia_tup Z I.kIn J h1 e (fun z => nomatch z) fun tk => ⟨.bl b, H, I.kept (t' := tk) fun _ _ z => z, rfl, q⟩
end
end Lg

namespace Lg
open PySem PySem.Spec PyProof.Rows L2 Lm
/-! ### runs, and the logs that the text makes of them -/
abbrev Run := Int × Int × Int
def lastM (r : Run) : Int := r.1 + r.2.1 * (r.2.2 - 1)
def ap (f st : Int) (n : Nat) : List Int := (List.range n).map fun (k : Nat) => f + st * (k : Int)
def pcs (s f st : Int) (n : Nat) : List Stt := (List.range n).map fun (k : Nat) => (f + st * (k : Int), f + st * (k : Int) + s)
def spreadAll (rs : List Run) : List Int := rs.flatMap fun r => ap r.1 r.2.1 r.2.2.toNat
def joinS : List Stt → Stt → List Stt
  | [], p => [p]
  | q :: r, p => if p.1 ≤ q.2 then (q.1, if p.2 > q.2 then p.2 else q.2) :: r else p :: q :: r
def joinedF (ps : List Stt) : List Stt := (ps.foldl joinS []).reverse
def litP (s : Int) (r : Run) : List Stt := if r.2.1 ≤ s then [(r.1, lastM r + s)] else pcs s r.1 r.2.1 (if 61 < r.2.2 then 61 else r.2.2).toNat
def rup (n by_ : Int) : Int := (n + by_ - 1).fdiv by_
def lightR (s off : Int) (r : Run) : Run :=
  let u := rup (if off - r.1 > 0 then off - r.1 else 0) r.2.1
  let a := rup s r.2.1
  (r.1 + r.2.1 * u, r.2.1 * a, rup (r.2.2 - u) a)
def lightU (off : Int) (r : Run) : Int := rup (if off - r.1 > 0 then off - r.1 else 0) r.2.1
def lightS (s : Int) (x : List Run × Int) (r : Run) : List Run × Int := if lightU x.2 r < r.2.2 then (x.1 ++ [lightR s x.2 r], lastM (lightR s x.2 r) + s) else x
def lightsF (s : Int) (rs : List Run) : List Run := (rs.foldl (lightS s) ([], 0)).1
def logOf (l : Lamp) (rs : List Run) : List Stt := joinedF ((if l.1 then rs else lightsF l.2 rs).flatMap (litP l.2))
def RunsUp : Int → List Run → Prop
  | _, [] => True
  | b, r :: rs => b < r.1 ∧ 1 ≤ r.2.1 ∧ 1 ≤ r.2.2 ∧ RunsUp (lastM r) rs
/-- the end of the last stretch (of a list in reverse) is at most B -/
def HeadB (acc : List Stt) (B : Int) : Prop := ∀ q, acc.head? = some q → q.2 ≤ B
def offOf : List Stt → Int
  | [] => 0
  | q :: _ => q.2
theorem ap_succ (f st : Int) (n : Nat) : ap f st (n + 1) = ap f st n ++ [f + st * (n : Int)] := by unfold ap; rw [List.range_succ, List.map_append]; rfl
theorem pcs_succ (s f st : Int) (n : Nat) : pcs s f st (n + 1) = pcs s f st n ++ [(f + st * (n : Int), f + st * (n : Int) + s)] := by unfold pcs; rw [List.range_succ, List.map_append]; rfl
theorem ap_mono {st : Int} (h : 1 ≤ st) (n : Nat) : st * ((n + 1 : Nat) : Int) = st * (n : Int) + st := by
  rw [show ((n + 1 : Nat) : Int) = (n : Int) + 1 by omega, Int.mul_add, Int.mul_one]
theorem mul_nn {st : Int} (h : 1 ≤ st) (n : Nat) : 0 ≤ st * (n : Int) := Int.mul_nonneg (by omega) (by omega)
theorem joinS_len (acc : List Stt) (p : Stt) : acc.length ≤ (joinS acc p).length ∧ 1 ≤ (joinS acc p).length := by
  cases acc with
  | nil => simp [joinS]
  | cons q r => simp only [joinS]; split <;> simp
theorem joinS_fold_len : ∀ (ps : List Stt) (acc : List Stt), acc.length ≤ (ps.foldl joinS acc).length
  | [], _ => Nat.le_refl _
  | p :: r, acc => Nat.le_trans (joinS_len acc p).1 (joinS_fold_len r _)
theorem stepL_len2 (h : Bool) (s : Int) (acc : List Stt) (m : Int) : acc.length ≤ (stepL h s acc m).length := by
  cases acc with
  | nil => simp
  | cons q r => simp only [stepL]; split <;> (try split) <;> simp
theorem stepL_fold_len (h : Bool) (s : Int) : ∀ (ms : List Int) (acc : List Stt), acc.length ≤ (ms.foldl (stepL h s) acc).length
  | [], _ => Nat.le_refl _
  | m :: r, acc => Nat.le_trans (stepL_len2 h s acc m) (stepL_fold_len h s r _)
theorem stepJ {s m : Int} {acc : List Stt} (hb : HeadB acc (m + s)) : stepL true s acc m = joinS acc (m, m + s) := by
  cases acc with
  | nil => rfl
  | cons q r =>
    have h := hb q rfl
    simp only [stepL, joinS, Bool.true_or, if_true]
    by_cases g : q.2 < m
    · rw [if_pos g, if_neg (by omega)]
    · rw [if_neg g, if_pos (by omega)]
      congr 1
      by_cases g2 : m + s > q.2
      · rw [if_pos g2]
      · rw [if_neg g2, show q.2 = m + s by omega]
theorem joinS_head {m t : Int} {acc : List Stt} (hb : HeadB acc t) : ∃ r q, joinS acc (m, t) = q :: r ∧ q.2 = t := by
  cases acc with
  | nil => exact ⟨[], _, rfl, rfl⟩
  | cons q r =>
    have h := hb q rfl
    simp only [joinS]
    by_cases g : m ≤ q.2
    · rw [if_pos g]
      refine ⟨r, _, rfl, ?_⟩
      show (if t > q.2 then t else q.2) = t
      split <;> omega
    · rw [if_neg g]; exact ⟨q :: r, _, rfl, rfl⟩
theorem headB_join {m t : Int} {acc : List Stt} (hb : HeadB acc t) : HeadB (joinS acc (m, t)) t ∧ offOf (joinS acc (m, t)) = t := by
  obtain ⟨r, q, e, h⟩ := joinS_head (m := m) hb
  rw [e]
  exact ⟨fun x hx => by cases hx; omega, h⟩
/-- a hold lamp sees a run -/
theorem runH {s f st : Int} {acc : List Stt} (hs : 1 ≤ s) (hst : 1 ≤ st) (hb : HeadB acc (f + s)) : ∀ n : Nat, (ap f st n).foldl (stepL true s) acc = (pcs s f st n).foldl joinS acc ∧ HeadB ((pcs s f st n).foldl joinS acc) (f + st * (n : Int) + s)
  | 0 => ⟨rfl, fun q hq => by have := hb q hq; have := mul_nn hst 0; omega⟩
  | n + 1 => by
    obtain ⟨i1, i2⟩ := runH hs hst hb n
    rw [ap_succ, pcs_succ, List.foldl_append, List.foldl_append, i1]
    have e := stepJ i2
    refine ⟨e, fun q hq => ?_⟩
    have := (headB_join i2).1 q hq
    rw [ap_mono hst]
    omega
/-- pieces that touch are one -/
theorem touch {s f st : Int} {acc : List Stt} (hs : 1 ≤ s) (hst : 1 ≤ st) (hle : st ≤ s) (hb : HeadB acc (f + s)) : ∀ n : Nat, (pcs s f st (n + 1)).foldl joinS acc = joinS acc (f, f + st * (n : Int) + s)
  | 0 => by
    show joinS acc (f + st * ((0 : Nat) : Int), f + st * ((0 : Nat) : Int) + s) = _
    simp
  | n + 1 => by
    rw [pcs_succ, List.foldl_append, touch hs hst hle hb n]
    show joinS (joinS acc (f, f + st * (n : Int) + s)) _ = _
    have z := mul_nn hst n
    have e := ap_mono hst n
    cases acc with
    | nil =>
      simp only [joinS]
      rw [if_pos (by show f + st * ((n + 1 : Nat) : Int) ≤ f + st * (n : Int) + s; omega), if_pos (by show f + st * ((n + 1 : Nat) : Int) + s > f + st * (n : Int) + s; omega)]
    | cons q r =>
      have h := hb q rfl
      simp only [joinS]
      by_cases g : f ≤ q.2
      · rw [if_pos g, if_pos g]
        simp only []
        rw [if_pos (by split <;> omega)]
        congr 1
        congr 1
        repeat (first | omega | split)
      · rw [if_neg g, if_neg g]
        simp only []
        rw [if_pos (by omega), if_pos (by omega)]
/-- pieces that stay apart -/
theorem apart_len {s f st : Int} (hs : 1 ≤ s) (hlt : s < st) : ∀ (n : Nat) (acc : List Stt), HeadB acc (f + s) → acc.length + n ≤ ((pcs s f st (n + 1)).foldl joinS acc).length ∧ (acc = [] → n + 1 ≤ ((pcs s f st (n + 1)).foldl joinS acc).length) ∧ offOf ((pcs s f st (n + 1)).foldl joinS acc) = f + st * (n : Int) + s ∧ ((pcs s f st (n + 1)).foldl joinS acc) ≠ []
  | 0, acc, hb => by
    have e : pcs s f st 1 = [(f + st * ((0 : Nat) : Int), f + st * ((0 : Nat) : Int) + s)] := rfl
    have z : f + st * ((0 : Nat) : Int) = f := by simp
    rw [e, z]
    show acc.length + 0 ≤ (joinS acc (f, f + s)).length ∧ (acc = [] → 0 + 1 ≤ (joinS acc (f, f + s)).length) ∧ offOf (joinS acc (f, f + s)) = f + s ∧ joinS acc (f, f + s) ≠ []
    refine ⟨(joinS_len _ _).1, fun _ => (joinS_len _ _).2, (headB_join hb).2, fun e => ?_⟩
    have := (joinS_len acc (f, f + s)).2
    rw [e] at this
    simp at this
  | n + 1, acc, hb => by
    obtain ⟨i1, i2, i3, i4⟩ := apart_len (f := f) hs hlt n acc hb
    rw [pcs_succ, List.foldl_append]
    generalize (pcs s f st (n + 1)).foldl joinS acc = A at i1 i2 i3 i4
    have e := ap_mono (st := st) (by omega) n
    cases A with
    | nil => exact absurd rfl i4
    | cons q r =>
      have hq : q.2 = f + st * (n : Int) + s := i3
      have j : ([(f + st * ((n + 1 : Nat) : Int), f + st * ((n + 1 : Nat) : Int) + s)] : List Stt).foldl joinS (q :: r) = (f + st * ((n + 1 : Nat) : Int), f + st * ((n + 1 : Nat) : Int) + s) :: q :: r := by
        show joinS (q :: r) _ = _
        simp only [joinS]
        rw [if_neg (by show ¬ f + st * ((n + 1 : Nat) : Int) ≤ q.2; omega)]
      rw [j]
      simp only [List.length_cons] at i1 i2 ⊢
      exact ⟨by omega, fun z => by have := i2 z; omega, rfl, by simp⟩
/-- what the text makes of a run, against its pieces -/
theorem litP_rel {s f st c : Int} {acc : List Stt} (hs : 1 ≤ s) (hst : 1 ≤ st) (hc : 1 ≤ c) (hb : HeadB acc (f + s)) :
    (litP s (f, st, c)).foldl joinS acc = (pcs s f st c.toNat).foldl joinS acc ∨ (60 < ((litP s (f, st, c)).foldl joinS acc).length ∧ 60 < ((pcs s f st c.toNat).foldl joinS acc).length) := by
  unfold litP
  by_cases h : st ≤ s
  · left
    rw [if_pos h]
    obtain ⟨n, hn⟩ : ∃ n : Nat, c.toNat = n + 1 := ⟨c.toNat - 1, by omega⟩
    rw [hn, touch hs hst h hb n]
    show joinS acc _ = _
    unfold lastM
    rw [show (f, st, c).2.2 - 1 = (n : Int) by show c - 1 = _; omega]
  · rw [if_neg h]
    by_cases h2 : 61 < c
    · right
      rw [show (if (61 : Int) < (f, st, c).2.2 then (61 : Int) else (f, st, c).2.2) = 61 from if_pos h2]
      have k : ∀ n : Nat, 60 ≤ n → 60 < ((pcs s f st (n + 1)).foldl joinS acc).length := fun n hn => by
        obtain ⟨i1, i2, _⟩ := apart_len (f := f) hs (by omega : s < st) n acc hb
        cases acc with
        | nil => have := i2 rfl; omega
        | cons q r => simp only [List.length_cons] at i1; omega
      refine ⟨k 60 (by omega), ?_⟩
      obtain ⟨n, hn⟩ : ∃ n : Nat, c.toNat = n + 1 := ⟨c.toNat - 1, by omega⟩
      rw [hn]
      exact k n (by omega)
    · left
      rw [show (if (61 : Int) < (f, st, c).2.2 then (61 : Int) else (f, st, c).2.2) = c from if_neg h2]
theorem rup_spec {n b : Int} (hn : 0 ≤ n) (hb : 1 ≤ b) : 0 ≤ rup n b ∧ n ≤ b * rup n b ∧ b * rup n b < n + b := by
  unfold rup
  rw [Int.fdiv_eq_ediv_of_nonneg _ (by omega)]
  have h1 : b * ((n + b - 1) / b) ≤ n + b - 1 := Int.mul_ediv_self_le (by omega)
  have h2 : n + b - 1 < ((n + b - 1) / b + 1) * b := Int.lt_ediv_add_one_mul_self _ (by omega)
  have h3 : 0 ≤ (n + b - 1) / b := Int.ediv_nonneg (by omega) (by omega)
  rw [Int.add_mul, Int.one_mul, Int.mul_comm] at h2
  generalize (n + b - 1) / b = q at h1 h2 h3
  omega
theorem stepP1 {s m : Int} {acc : List Stt} (hs : 1 ≤ s) (h : offOf acc ≤ m) : stepL false s acc m = joinS acc (m, m + s) := by
  cases acc with
  | nil => rfl
  | cons q r =>
    have h : q.2 ≤ m := h
    simp only [stepL, joinS, Bool.false_or]
    by_cases g : q.2 < m
    · rw [if_pos g, if_neg (by omega)]
    · have e : m = q.2 := by omega
      rw [if_neg g, if_pos (decide_eq_true e), if_pos (by omega), if_pos (by omega)]
theorem stepP0 {s m : Int} {acc : List Stt} (h0 : 0 ≤ m) (h : m < offOf acc) : stepL false s acc m = acc := by
  cases acc with
  | nil => have h : m < 0 := h; omega
  | cons q r =>
    have h : m < q.2 := h
    simp only [stepL, Bool.false_or]
    rw [if_neg (by omega), if_neg (by rw [decide_eq_false (show ¬ m = q.2 by omega)]; exact fun z => nomatch z)]
theorem offFold {s f st : Int} {acc : List Stt} (hs : 1 ≤ s) (hst : 1 ≤ st) (hb : HeadB acc (f + s)) (n : Nat) : offOf ((pcs s f st (n + 1)).foldl joinS acc) = f + st * (n : Int) + s := by
  rw [pcs_succ, List.foldl_append]
  exact (headB_join (runH hs hst hb n).2).2
theorem headB_off {acc : List Stt} {B : Int} (h : offOf acc ≤ B) : HeadB acc B := fun q hq => by
  cases acc with
  | nil => cases hq
  | cons x r => cases hq; exact h
/-- a pulse lamp sees a run -/
theorem runP {s f st : Int} {u a : Nat} {acc : List Stt} (hs : 1 ≤ s) (hst : 1 ≤ st) (h0 : 0 ≤ f) (hu0 : ∀ k : Nat, k < u → f + st * (k : Int) < offOf acc) (hu1 : offOf acc ≤ f + st * (u : Int)) (ha : 1 ≤ a) (ha0 : st * ((a : Int) - 1) < s) (ha1 : s ≤ st * (a : Int)) :
    ∀ n c : Nat, (n ≤ u → c = 0) → (u ≤ n → n - u ≤ a * c ∧ a * c < n - u + a) → (ap f st n).foldl (stepL false s) acc = (pcs s (f + st * (u : Int)) (st * (a : Int)) c).foldl joinS acc
  | 0, c, h1, _ => by rw [h1 (Nat.zero_le _)]; rfl
  | n + 1, c, h1, h2 => by
    rw [ap_succ, List.foldl_append]
    have hm : 0 ≤ f + st * (n : Int) := by have := mul_nn hst n; omega
    have hst2 : 1 ≤ st * (a : Int) := by omega
    by_cases g : n + 1 ≤ u
    · rw [runP hs hst h0 hu0 hu1 ha ha0 ha1 n 0 (fun _ => rfl) (fun z => absurd z (by omega)), h1 g]
      exact stepP0 hm (hu0 n (by omega))
    · have hb : HeadB acc (f + st * (u : Int) + s) := headB_off (by omega)
      obtain ⟨k1, k2⟩ := h2 (by omega)
      obtain ⟨c0, rfl⟩ : ∃ c0, c = c0 + 1 := ⟨c - 1, by cases c with | zero => simp at k1; omega | succ c => omega⟩
      obtain ⟨d, rfl⟩ : ∃ d, n = u + d := ⟨n - u, by omega⟩
      rw [Nat.mul_succ] at k1 k2
      have em : st * ((u + d : Nat) : Int) = st * (u : Int) + st * (d : Int) := by rw [show ((u + d : Nat) : Int) = (u : Int) + d by omega, Int.mul_add]
      by_cases e : a * c0 = d
      · rw [runP hs hst h0 hu0 hu1 ha ha0 ha1 (u + d) c0 (fun z => by
          have : d = 0 := by omega
          subst this
          cases c0 with
          | zero => rfl
          | succ c => rw [Nat.mul_succ] at e; omega) (fun _ => by omega)]
        have ed : st * (d : Int) = st * (a : Int) * (c0 : Int) := by rw [← e, Int.natCast_mul, Int.mul_assoc]
        have hoff : offOf ((pcs s (f + st * (u : Int)) (st * (a : Int)) c0).foldl joinS acc) ≤ f + st * ((u + d : Nat) : Int) := by
          cases c0 with
          | zero => show offOf acc ≤ _; rw [em, ed]; simp; omega
          | succ c1 =>
            rw [offFold hs hst2 hb c1, em, ed, ap_mono hst2]
            omega
        show stepL false s _ (f + st * ((u + d : Nat) : Int)) = _
        rw [stepP1 hs hoff, pcs_succ, List.foldl_append, em, ed]
        show joinS _ _ = joinS _ _
        rw [← Int.add_assoc]
      · rw [runP hs hst h0 hu0 hu1 ha ha0 ha1 (u + d) (c0 + 1) (fun z => by
          have : d = 0 := by omega
          subst this
          cases c0 with
          | zero => exact absurd rfl e
          | succ c => rw [Nat.mul_succ] at k2; omega) (fun _ => by rw [Nat.mul_succ]; omega)]
        refine stepP0 hm ?_
        rw [offFold hs hst2 hb c0, em]
        have l1 : d ≤ a * c0 + (a - 1) := by omega
        have l2 : st * (d : Int) ≤ st * ((a * c0 + (a - 1) : Nat) : Int) := Int.mul_le_mul_of_nonneg_left (by omega) (by omega)
        have l3 : st * ((a * c0 + (a - 1) : Nat) : Int) = st * (a : Int) * (c0 : Int) + st * ((a : Int) - 1) := by
          rw [show ((a * c0 + (a - 1) : Nat) : Int) = (a : Int) * c0 + ((a : Int) - 1) by rw [Int.natCast_add, Int.natCast_mul]; omega, Int.mul_add, Int.mul_assoc]
        omega
/-- what the text tells of a run that lights a pulse lamp -/
theorem light_run {s : Int} {r : Run} {acc : List Stt} (hs : 1 ≤ s) (h0 : 0 ≤ r.1) (hst : 1 ≤ r.2.1) (hc : 1 ≤ r.2.2) :
    (lightU (offOf acc) r < r.2.2 → (ap r.1 r.2.1 r.2.2.toNat).foldl (stepL false s) acc = (pcs s (lightR s (offOf acc) r).1 (lightR s (offOf acc) r).2.1 (lightR s (offOf acc) r).2.2.toNat).foldl joinS acc ∧ 0 ≤ (lightR s (offOf acc) r).1 ∧ 1 ≤ (lightR s (offOf acc) r).2.1 ∧ 1 ≤ (lightR s (offOf acc) r).2.2 ∧
      HeadB acc ((lightR s (offOf acc) r).1 + s) ∧ offOf ((pcs s (lightR s (offOf acc) r).1 (lightR s (offOf acc) r).2.1 (lightR s (offOf acc) r).2.2.toNat).foldl joinS acc) = lastM (lightR s (offOf acc) r) + s) ∧
    (¬ lightU (offOf acc) r < r.2.2 → (ap r.1 r.2.1 r.2.2.toNat).foldl (stepL false s) acc = acc) := by
  obtain ⟨f, st, c⟩ := r
  have h0 : 0 ≤ f := h0
  have hst : 1 ≤ st := hst
  have hc : 1 ≤ c := hc
  have gn : 0 ≤ (if offOf acc - f > 0 then offOf acc - f else 0) := by split <;> omega
  obtain ⟨u0, u1, u2⟩ := rup_spec gn hst
  obtain ⟨a0, a1, a2⟩ := rup_spec (n := s) (by omega) hst
  have hU : lightU (offOf acc) (f, st, c) = rup (if offOf acc - f > 0 then offOf acc - f else 0) st := rfl
  have hR : lightR s (offOf acc) (f, st, c) = (f + st * rup (if offOf acc - f > 0 then offOf acc - f else 0) st, st * rup s st, rup (c - rup (if offOf acc - f > 0 then offOf acc - f else 0) st) (rup s st)) := rfl
  rw [hU, hR]
  obtain ⟨u, hu⟩ : ∃ u : Nat, rup (if offOf acc - f > 0 then offOf acc - f else 0) st = (u : Int) := ⟨_, (Int.toNat_of_nonneg u0).symm⟩
  obtain ⟨a, ha⟩ : ∃ a : Nat, rup s st = (a : Int) := ⟨_, (Int.toNat_of_nonneg a0).symm⟩
  rw [hu] at u1 u2 ⊢
  rw [ha] at a1 a2 ⊢
  have a1' : 1 ≤ a := by
    cases a with
    | zero => simp at a1; omega
    | succ a => omega
  have pu0 : ∀ k : Nat, k < u → f + st * (k : Int) < offOf acc := fun k hk => by
    have l : st * ((k + 1 : Nat) : Int) ≤ st * (u : Int) := Int.mul_le_mul_of_nonneg_left (by omega) (by omega)
    rw [ap_mono hst] at l
    have := mul_nn hst k
    split at u2 <;> omega
  have pu1 : offOf acc ≤ f + st * (u : Int) := by
    split at u1 <;> omega
  have pa0 : st * ((a : Int) - 1) < s := by rw [Int.mul_sub, Int.mul_one]; omega
  have P := runP (u := u) (a := a) (acc := acc) hs hst h0 pu0 pu1 a1' pa0 a1 c.toNat
  constructor
  · intro g
    have g : (u : Int) < c := g
    obtain ⟨c0, c1, c2⟩ := rup_spec (n := c - (u : Int)) (b := (a : Int)) (by omega) (by omega)
    show _ = (pcs s _ _ (rup (c - (u : Int)) (a : Int)).toNat).foldl joinS acc ∧ _
    show (ap f st c.toNat).foldl (stepL false s) acc = (pcs s (f + st * (u : Int)) (st * (a : Int)) (rup (c - (u : Int)) (a : Int)).toNat).foldl joinS acc ∧ 0 ≤ f + st * (u : Int) ∧ 1 ≤ st * (a : Int) ∧ 1 ≤ rup (c - (u : Int)) (a : Int) ∧ HeadB acc (f + st * (u : Int) + s) ∧
      offOf ((pcs s (f + st * (u : Int)) (st * (a : Int)) (rup (c - (u : Int)) (a : Int)).toNat).foldl joinS acc) = f + st * (u : Int) + st * (a : Int) * (rup (c - (u : Int)) (a : Int) - 1) + s
    obtain ⟨n, hn⟩ : ∃ n : Nat, rup (c - (u : Int)) (a : Int) = (n : Int) := ⟨_, (Int.toNat_of_nonneg c0).symm⟩
    rw [hn] at c1 c2 ⊢
    have c1' : c.toNat - u ≤ a * n := by
      have : (c - (u : Int)) ≤ ((a * n : Nat) : Int) := by rw [Int.natCast_mul]; exact c1
      omega
    have c2' : a * n < c.toNat - u + a := by
      have : ((a * n : Nat) : Int) < c - (u : Int) + a := by rw [Int.natCast_mul]; exact c2
      omega
    have n1 : 1 ≤ n := by
      cases n with
      | zero => simp at c1'; omega
      | succ n => omega
    have hb : HeadB acc (f + st * (u : Int) + s) := headB_off (by omega)
    have hst2 : 1 ≤ st * (a : Int) := by omega
    rw [Int.toNat_natCast]
    refine ⟨P n (fun z => by omega) (fun _ => ⟨c1', c2'⟩), by have := mul_nn hst u; omega, hst2, by omega, hb, ?_⟩
    obtain ⟨m, rfl⟩ : ∃ m, n = m + 1 := ⟨n - 1, by omega⟩
    rw [offFold hs hst2 hb m, show ((m + 1 : Nat) : Int) - 1 = (m : Int) by omega]
  · intro g
    have g : ¬ (u : Int) < c := g
    exact P 0 (fun _ => rfl) (fun z => by
      have : c.toNat - u = 0 := by omega
      rw [this]
      simp
      omega)
/-! ### all runs -/
def Rel60 (F J : List Stt) : Prop := F = J ∨ (60 < F.length ∧ 60 < J.length)
def lightsR (s : Int) : Int → List Run → List Run
  | _, [] => []
  | off, r :: rs => if lightU off r < r.2.2 then lightR s off r :: lightsR s (lastM (lightR s off r) + s) rs else lightsR s off rs
theorem lights_eq (s : Int) : ∀ (rs : List Run) (found : List Run) (off : Int), (rs.foldl (lightS s) (found, off)).1 = found ++ lightsR s off rs
  | [], found, off => by simp [lightsR]
  | r :: rs, found, off => by
    rw [List.foldl_cons]
    by_cases g : lightU off r < r.2.2
    · rw [show lightS s (found, off) r = (found ++ [lightR s off r], lastM (lightR s off r) + s) from if_pos g, lights_eq s rs]
      simp only [lightsR, if_pos g]
      rw [List.append_assoc]
      rfl
    · rw [show lightS s (found, off) r = (found, off) from if_neg g, lights_eq s rs]
      simp only [lightsR, if_neg g]
theorem rel_join {F J : List Stt} {ps : List Stt} (h : Rel60 F J) : Rel60 (ps.foldl joinS F) (ps.foldl joinS J) := by
  rcases h with e | ⟨h1, h2⟩
  · exact .inl (by rw [e])
  · exact .inr ⟨Nat.lt_of_lt_of_le h1 (joinS_fold_len _ _), Nat.lt_of_lt_of_le h2 (joinS_fold_len _ _)⟩
theorem Rel60.trans {A B C : List Stt} (h : Rel60 A B) (k : Rel60 B C) : Rel60 A C := by
  rcases h with e | ⟨h1, h2⟩
  · rw [e]; exact k
  · rcases k with e | ⟨k1, k2⟩
    · exact .inr ⟨h1, by rw [← e]; exact h2⟩
    · exact .inr ⟨h1, k2⟩
theorem hold_all {s : Int} (hs : 1 ≤ s) : ∀ (rs : List Run) (b : Int) (F J : List Stt), RunsUp b rs → HeadB F (b + s) → Rel60 F J → Rel60 ((spreadAll rs).foldl (stepL true s) F) ((rs.flatMap (litP s)).foldl joinS J)
  | [], _, _, _, _, _, h => h
  | (f, st, c) :: rs, b, F, J, ⟨u1, u2, u3, u4⟩, hb, h => by
    have u1 : b < f := u1
    have u2 : 1 ≤ st := u2
    have u3 : 1 ≤ c := u3
    have hb' : HeadB F (f + s) := fun q hq => by have := hb q hq; omega
    rw [List.flatMap_cons, List.foldl_append]
    rw [show spreadAll ((f, st, c) :: rs) = ap f st c.toNat ++ spreadAll rs from List.flatMap_cons .., List.foldl_append]
    obtain ⟨e1, e2⟩ := runH hs u2 hb' c.toNat
    rw [e1]
    obtain ⟨n, hn⟩ : ∃ n : Nat, c.toNat = n + 1 := ⟨c.toNat - 1, by omega⟩
    refine hold_all hs rs (lastM (f, st, c)) _ _ u4 ?_ ?_
    · rw [hn]
      refine headB_off ?_
      rw [offFold hs u2 hb' n]
      unfold lastM
      rw [show (f, st, c).2.2 - 1 = (n : Int) by show c - 1 = _; omega]
      exact Int.le_refl _
    · refine Rel60.trans ?_ (rel_join h)
      rcases litP_rel hs u2 u3 hb' with e | ⟨l1, l2⟩
      · exact .inl e.symm
      · exact .inr ⟨l2, l1⟩
theorem pulse_all {s : Int} (hs : 1 ≤ s) : ∀ (rs : List Run) (b : Int) (F J : List Stt), -1 ≤ b → RunsUp b rs → Rel60 F J → Rel60 ((spreadAll rs).foldl (stepL false s) F) (((lightsR s (offOf F) rs).flatMap (litP s)).foldl joinS J)
  | [], _, _, _, _, _, h => h
  | r :: rs, b, F, J, hb, ⟨u1, u2, u3, u4⟩, h => by
    have hl : -1 ≤ lastM r := by
      unfold lastM
      have : 0 ≤ r.2.1 * (r.2.2 - 1) := Int.mul_nonneg (by omega) (by omega)
      omega
    rw [show spreadAll (r :: rs) = ap r.1 r.2.1 r.2.2.toNat ++ spreadAll rs from List.flatMap_cons .., List.foldl_append]
    obtain ⟨L1, L0⟩ := light_run (acc := F) hs (by omega : 0 ≤ r.1) u2 u3
    simp only [lightsR]
    by_cases g : lightU (offOf F) r < r.2.2
    · obtain ⟨e1, e2, e3, e4, e5, e6⟩ := L1 g
      rw [if_pos g, List.flatMap_cons, List.foldl_append, e1]
      have ih := pulse_all hs rs (lastM r) ((pcs s (lightR s (offOf F) r).1 (lightR s (offOf F) r).2.1 (lightR s (offOf F) r).2.2.toNat).foldl joinS F) ((litP s (lightR s (offOf F) r)).foldl joinS J) hl u4 (by
        refine Rel60.trans ?_ (rel_join h)
        rcases litP_rel (s := s) (f := (lightR s (offOf F) r).1) (st := (lightR s (offOf F) r).2.1) (c := (lightR s (offOf F) r).2.2) hs e3 e4 e5 with e | ⟨l1, l2⟩
        · exact .inl e.symm
        · exact .inr ⟨l2, l1⟩)
      rw [e6] at ih
      exact ih
    · rw [if_neg g, L0 g]
      exact pulse_all hs rs (lastM r) F J hl u4 h
theorem logOf_spec {l : Lamp} {rs : List Run} (hs : 1 ≤ l.2) (hr : RunsUp (-1) rs) : Rel60 (logF l (spreadAll rs)) (logOf l rs) := by
  obtain ⟨h, s⟩ := l
  have key : Rel60 ((spreadAll rs).foldl (stepL h s) []) (((if h then rs else lightsF s rs).flatMap (litP s)).foldl joinS []) := by
    cases h with
    | true => exact hold_all hs rs (-1) [] [] hr (fun q hq => by cases hq) (.inl rfl)
    | false =>
      have := pulse_all hs rs (-1) [] [] (Int.le_refl _) hr (.inl rfl)
      rw [show (if false = true then rs else lightsF s rs) = lightsR s 0 rs by
        show lightsF s rs = _
        unfold lightsF
        rw [lights_eq]
        rfl]
      exact this
  rcases key with e | ⟨h1, h2⟩
  · left
    show List.reverse _ = List.reverse _
    rw [e]
  · right
    refine ⟨?_, ?_⟩
    · show 60 < (List.reverse _).length
      rw [List.length_reverse]; exact h1
    · show 60 < (List.reverse _).length
      rw [List.length_reverse]; exact h2
end Lg

namespace Lg
open PySem PySem.Spec PyProof.Rows L2 Lm
/-! ### a for over a list or a tuple -/
def iSeq (K : PySem.W.Frag) (tl : TE) : TI := fun σ H R => tl σ H fun x H1 => ∃ a, x = .ref a ∧ (((∃ xs, SqL K H1 a xs) ∧ R (Itl K a) H1) ∨ ((∃ xs, SqT K H1 a xs) ∧ R (Itt K a) H1))
theorem pi_seq {X : Cx} {tg : Expr} {l : Expr} {tl : TE} (hl : PE X l tl) : PI X tg l (iSeq X.K tl) := by
  refine ⟨fun pins s σ H R I h => ?_⟩
  refine thn (hl.run pins s σ H _ I h) fun v s1 ⟨x, H1, I1, r1, q1⟩ => ?_
  obtain ⟨a, e, q⟩ := q1
  subst e
  cases r1
  rcases q with ⟨⟨xs, hq⟩, q⟩ | ⟨⟨xs, hq⟩, q⟩
  · obtain ⟨its, rv, p, hz⟩ := I1.list hq
    refine wpAny_pyIter_list p.isList ?_
    refine ⟨s1.heap.objs.size, [s1.heap.objs.size], _, _, H1, rfl, I1.kept (t' := s1.toks) fun b o e => Heap.get?_push_of_some _ e, turn_list a _, ⟨_, Heap.get?_push_size _ rfl, rfl, rfl⟩, fun b hb => ?_, q⟩
    have e : b = s1.heap.objs.size := by simpa using hb
    subst e
    exact I1.fpOk (Nat.le_refl _) (I1.hok.fresh (Nat.le_refl _))
  · obtain ⟨its, rv, p, hz⟩ := I1.tuple hq
    refine wpAny_pyIter_tuple (show s1.heap.IsTuple a its.toArray from p) ?_
    refine ⟨s1.heap.objs.size, [s1.heap.objs.size], _, _, H1, rfl, I1.kept (t' := s1.toks) fun b o e => Heap.get?_push_of_some _ e, turn_tuple a _, ⟨_, Heap.get?_push_size _ rfl, rfl, rfl⟩, fun b hb => ?_, q⟩
    have e : b = s1.heap.objs.size := by simpa using hb
    subst e
    exact I1.fpOk (Nat.le_refl _) (I1.hok.fresh (Nat.le_refl _))
/-! ### promises of the makers of logs -/
def runD (r : Run) : PyData := .tuple [.int r.1, .int r.2.1, .int r.2.2]
def runsD (rs : List Run) : PyData := .tuple (rs.map runD)
def RB (r : Run) : Prop := (0 ≤ r.1 ∧ r.1 ≤ 10000000000) ∧ (1 ≤ r.2.1 ∧ r.2.1 ≤ 10000000000) ∧ (1 ≤ r.2.2 ∧ r.2.2 ≤ 10000000000)
def sp_last2 (K : PySem.W.Frag) : Sp := sp_f K (fun r : Run => [runD r]) RB (fun r => .int (lastM r))
def sp_rup (K : PySem.W.Frag) : Sp := sp_f K (fun x : Int × Int => [.int x.1, .int x.2]) (fun x => 1 ≤ x.2 ∧ x.2 < 1073741824) (fun x => .int (rup x.1 x.2))
/-- a run of motions -/
structure RunOk (r : Run) : Prop where
  f : 0 ≤ r.1 ∧ r.1 ≤ 1000000000
  s : 1 ≤ r.2.1 ∧ r.2.1 ≤ 1000000000
  c : 1 ≤ r.2.2 ∧ r.2.2 ≤ 1000000001
  l : lastM r ≤ 1000000000
def sp_lighting (K : PySem.W.Frag) : Sp := sp_f K (fun x : Int × List Run => [.int x.1, runsD x.2]) (fun x => 1 ≤ x.1 ∧ x.1 ≤ 1000000000 ∧ x.2.length ≤ 400 ∧ (∀ r ∈ x.2, RunOk r)) (fun x => .list ((lightsF x.1 x.2).map runD))
def sp_lit (K : PySem.W.Frag) : Sp := fun vs H Q _ => ∃ (N : Addr → Prop) (s : Int) (r : Run), Occ N H ∧ Dqs K (cut N H) vs [.int s, runD r] ∧ (1 ≤ s ∧ s ≤ 1000000000) ∧ RB r ∧
  ∀ (p : Addr) (xs : List V) (H' : Hp), Same H H' → H' p = some (.lst xs) → ¬ N p → Dqs K (cut N H') xs ((litP s r).map pD) → Q (.ref p) H'
def sp_joined (K : PySem.W.Frag) : Sp := sp_f K (fun ps : List Stt => [.list (ps.map pD)]) (fun ps => ps.length ≤ 100000) (fun ps => logD (joinedF ps))
def sp_fx (K : PySem.W.Frag) (CT : Addr) (f : Str) (n : Int) {α : Type} (A : α → List PyData) (P : α → Prop) (F : α → PyData) (B : α → Bool) : Sp := fun vs H Q E => ∃ (N : Addr → Prop) (x : α), Occ N H ∧ Dqs K (cut N H) vs (A x) ∧ P x ∧
  (B x = false → ∀ r H', Same H H' → Dq K (cut N H') r (F x) → Q r H') ∧ (B x = true → ∀ d H', Same H H' → H' d = some (.xd [(f, .int n)]) → H d = none → E (.ref CT) (some d) H')
def sp_most (K : PySem.W.Frag) (CT : Addr) (n : Int) : Sp := sp_fx K CT "limit" n (fun ds : List PyData => [.int n, .tuple ds]) (fun _ => True) (fun ds => .tuple ds) (fun ds => decide (n < (ds.length : Int)))
def sp_logof (K : PySem.W.Frag) (CT : Addr) : Sp := sp_fx K CT "limit" 60 (fun x : Lamp × List Run => [lampD x.1, runsD x.2]) (fun x => 1 ≤ x.1.2 ∧ x.1.2 ≤ 1000000000 ∧ x.2.length ≤ 400 ∧ (∀ r ∈ x.2, RunOk r)) (fun x => logD (logOf x.1 x.2)) (fun x => decide (60 < (logOf x.1 x.2).length))
theorem dq_run {K : PySem.W.Frag} {G : Hp} {v : V} {q : Run} (h : Dq K G v (runD q)) : ∃ a, v = .ref a ∧ SqT K G a [.int q.1, .int q.2.1, .int q.2.2] := by
  obtain ⟨a, xs, rfl, h1, h2⟩ := dq_tup h
  obtain ⟨x, r, rfl, h3, h4⟩ := dqs_cons h2
  obtain ⟨y, r, rfl, h5, h6⟩ := dqs_cons h4
  obtain ⟨z, r, rfl, h7, h8⟩ := dqs_cons h6
  rw [dqs_nil h8, dq_int h3, dq_int h5, dq_int h7] at h1
  exact ⟨a, rfl, h1⟩
theorem dq_runT {K : PySem.W.Frag} {G : Hp} {a : Addr} {q : Run} (h : SqT K G a [.int q.1, .int q.2.1, .int q.2.2]) : Dq K G (.ref a) (runD q) := .tup h (.cons (.int _) (.cons (.int _) (.cons (.int _) .nil)))
theorem np_cut1 {N : Addr → Prop} {H : Hp} {f : Addr} : cut (NP N f) H = cut1 f (cut N H) := by
  funext b
  by_cases e : b = f
  · unfold cut1 cut
    rw [if_pos (show NP N f b from .inr e), if_pos e]
  · rw [cut1_at e]
    by_cases n : N b
    · unfold cut
      rw [if_pos (show NP N f b from .inl n), if_pos n]
    · rw [cut_at n, cut_at (show ¬ NP N f b from fun z => z.elim n e)]
/-- a list of made things that grows while nothing else changes -/
def GrowG (K : PySem.W.Frag) (N : Addr → Prop) (H : Hp) (f : Addr) {α : Type} (D : α → PyData) (as : List α) (Hi : Hp) : Prop := ∃ xs, Same H Hi ∧ Hi f = some (.lst xs) ∧ Dqs K (cut1 f (cut N Hi)) xs (as.map D)
section
variable {K : PySem.W.Frag} {N : Addr → Prop} {H Hi G : Hp} {f t : Addr} {zs vs : List V} {o : HO} {α : Type} {D : α → PyData} {as : List α} {x : α}
theorem GrowG.start (nf : H f = none) : GrowG K N H f D ([] : List α) (upd H f (.lst [])) := ⟨[], same_new nf, upd_same, .nil⟩
theorem GrowG.put (hv : ∀ G', SqT K G' t vs → Dq K G' (.ref t) (D x)) (nf : H f = none) (O : Occ N H) (si : Same H Hi) (sG : Same Hi G) (eG : G f = some o) (hz : Dqs K (cut1 f (cut N Hi)) zs (as.map D)) (nt : G t = none) :
    GrowG K N H f D (as ++ [x]) (upd (upd G t (.tup vs)) f (.lst (zs ++ [.ref t]))) := by
  obtain ⟨s5, e5⟩ := app_cut (vs := vs) (o' := .lst (zs ++ [.ref t])) ((O.keep si).keep sG) eG nt
  refine ⟨_, same_upd ((si.trans sG).trans (same_new nt)) nf, upd_same, ?_⟩
  rw [List.map_append]
  exact dqs_snoc (hz.mono ((cut_mono (cut_mono sG)).trans s5)) (hv _ (.inl (.inl e5)))
theorem grow_list {ps : List PyData} (O : Occ N H) (nf : H f = none) (e : Hi f = some (.lst zs)) (h : Dqs K (cut1 f (cut N Hi)) zs ps) : Dq K (cut N Hi) (.ref f) (.list ps) :=
  .lst (.inl (.inl (by rw [cut_at fun z => O f z nf]; exact e))) (h.mono cut_same)
end
theorem size_le {n : Nat} (h : n ≤ 1000000) : n < sizeLine := by rw [PySem.sizeLine_eq]; omega
theorem joinS_len1 (acc : List Stt) (p : Stt) : (joinS acc p).length ≤ acc.length + 1 := by
  cases acc with
  | nil => simp [joinS]
  | cons q r => simp only [joinS]; split <;> simp
theorem joinS_fold_le : ∀ (ps acc : List Stt), (ps.foldl joinS acc).length ≤ acc.length + ps.length
  | [], _ => Nat.le_refl _
  | p :: r, acc => by
    have a := joinS_fold_le r (joinS acc p)
    have b := joinS_len1 acc p
    rw [List.foldl_cons, List.length_cons]
    omega
theorem litP_len {s : Int} {r : Run} : (litP s r).length ≤ 61 := by
  unfold litP
  split
  · exact (by decide : 1 ≤ 61)
  · unfold pcs
    rw [List.length_map, List.length_range]
    split <;> omega
theorem flat_len {s : Int} : ∀ rs : List Run, (rs.flatMap (litP s)).length ≤ rs.length * 61
  | [] => Nat.le_refl _
  | r :: rs => by
    rw [List.flatMap_cons, List.length_append, List.length_cons]
    have := flat_len (s := s) rs
    have := litP_len (s := s) (r := r)
    omega
theorem lightsR_len (s : Int) : ∀ (rs : List Run) (off : Int), (lightsR s off rs).length ≤ rs.length
  | [], _ => Nat.le_refl _
  | r :: rs, off => by
    simp only [lightsR]
    have a := lightsR_len s rs
    split
    · rw [List.length_cons, List.length_cons]; have := a (lastM (lightR s off r) + s); omega
    · rw [List.length_cons]; have := a off; omega
theorem lightsF_eq (s : Int) (rs : List Run) : lightsF s rs = lightsR s 0 rs := by
  unfold lightsF
  rw [lights_eq]
  rfl
theorem rup_one {n b : Int} (h : 1 ≤ n) (hb : 1 ≤ b) : 1 ≤ rup n b := by
  obtain ⟨h0, h1, _⟩ := rup_spec (n := n) (b := b) (by omega) hb
  have : rup n b ≠ 0 := fun e => by rw [e] at h1; simp at h1; omega
  omega
theorem rup_le {n b : Int} (h : 0 ≤ n) (hb : 1 ≤ b) : rup n b ≤ n := by
  obtain ⟨h0, h1, h2⟩ := rup_spec (n := n) (b := b) h hb
  by_cases e : rup n b ≤ n
  · exact e
  · have l : b * (n + 1) ≤ b * rup n b := Int.mul_le_mul_of_nonneg_left (by omega) (by omega)
    have l2 : 1 * n ≤ b * n := Int.mul_le_mul_of_nonneg_right hb h
    rw [Int.mul_add] at l
    omega
/-- what lights a pulse lamp is small -/
theorem lightU_nn {off : Int} {r : Run} (hst : 1 ≤ r.2.1) : 0 ≤ lightU off r := (rup_spec (by split <;> omega) hst).1
theorem lightR_b {s off : Int} {r : Run} (hs : 1 ≤ s ∧ s ≤ 1000000000) (hr : RunOk r) (g : lightU off r < r.2.2) : RB (lightR s off r) ∧ 0 ≤ lightU off r ∧ 1 ≤ rup s r.2.1 ∧ rup s r.2.1 ≤ 1000000000 := by
  obtain ⟨f, st, c⟩ := r
  obtain ⟨⟨f0, f1⟩, ⟨s0, s1⟩, ⟨c0, c1⟩, hl⟩ := hr
  have f0 : 0 ≤ f := f0
  have s0 : 1 ≤ st := s0
  have s1 : st ≤ 1000000000 := s1
  have c1 : c ≤ 1000000001 := c1
  have hl : f + st * (c - 1) ≤ 1000000000 := hl
  have hu := lightU_nn (off := off) (r := (f, st, c)) s0
  have e : lightR s off (f, st, c) = (f + st * lightU off (f, st, c), st * rup s st, rup (c - lightU off (f, st, c)) (rup s st)) := rfl
  rw [e]
  have g : lightU off (f, st, c) < c := g
  generalize lightU off (f, st, c) = u at hu g
  obtain ⟨a0, a1, a2⟩ := rup_spec (n := s) (b := st) (by omega) s0
  have a3 := rup_one hs.1 s0
  have a4 := rup_le (n := s) (b := st) (by omega) s0
  show RB (f + st * u, st * rup s st, rup (c - u) (rup s st)) ∧ 0 ≤ u ∧ 1 ≤ rup s st ∧ rup s st ≤ 1000000000
  have m1 : st * u ≤ st * (c - 1) := Int.mul_le_mul_of_nonneg_left (by omega) (by omega)
  have m0 : 0 ≤ st * u := Int.mul_nonneg (by omega) hu
  have b1 := rup_one (n := c - u) (b := rup s st) (by omega) a3
  have b2 := rup_le (n := c - u) (b := rup s st) (by omega) a3
  exact ⟨⟨⟨by show 0 ≤ f + st * u; omega, by show f + st * u ≤ _; omega⟩, ⟨by show 1 ≤ st * rup s st; omega, by show st * rup s st ≤ _; omega⟩, ⟨b1, by show rup (c - u) (rup s st) ≤ _; omega⟩⟩, hu, a3, by omega⟩
theorem ite_val {b : Bool} {ta tb : TE} {σ : L2.St} {H : Hp} {Q : VK} (P : V → Hp → Prop) (rest : ∀ v H', P v H' → Q v H') (h : ∀ Q' : VK, (∀ v H', P v H' → Q' v H') → if b = true then ta σ H Q' else tb σ H Q') : if b = true then ta σ H Q else tb σ H Q := h Q rest
theorem lightsR_ok {s : Int} (hs : 1 ≤ s ∧ s ≤ 1000000000) : ∀ (rs : List Run) (off : Int), (∀ r ∈ rs, RunOk r) → ∀ r ∈ lightsR s off rs, RB r
  | [], _, _, r, h => nomatch h
  | x :: rs, off, hok, r, h => by
    simp only [lightsR] at h
    split at h
    · rename_i g
      rcases List.mem_cons.mp h with e | e
      · rw [e]; exact (lightR_b hs (hok x List.mem_cons_self) g).1
      · exact lightsR_ok hs rs _ (fun y hy => hok y (List.mem_cons_of_mem _ hy)) r e
    · exact lightsR_ok hs rs _ (fun y hy => hok y (List.mem_cons_of_mem _ hy)) r h
theorem RunOk.rb {r : Run} (h : RunOk r) : RB r := by
  have a := h.f
  have b := h.s
  have c := h.c
  exact ⟨by omega, by omega, by omega⟩
end Lg

namespace Lg
open PySem PySem.Spec PyProof.Rows L2 Lm
theorem FnOk.imp {P : Program} {w : World} {K : PySem.W.Frag} {mg : Str → Option Value} {base : Heap} {CX : CXT} {k : Nat} {f : Addr} {fd : FuncData} {ps : List Str} {sp sp' : Sp} (F : FnOk P w K mg base CX k f fd ps sp) (h : ∀ vs H Q E, sp' vs H Q E → sp vs H Q E) : FnOk P w K mg base CX k f fd ps sp' := by
  constructor
  · exact fun vs H Q E z => F.len vs H Q E (h _ _ _ _ z)
  · intros
    first
      | exact F.run _ _ _ _ _ _ _ _ _ (by assumption) (by assumption) (by assumption) (by assumption) (h _ _ _ _ (by assumption))
      | exact F.go _ _ _ _ _ _ _ _ _ (by assumption) (by assumption) (by assumption) (by assumption) (h _ _ _ _ (by assumption))
/-! ### the pot as a source -/
def potAt (p dl al : Addr) (_ : Nat) (H : Hp) : Prop := (∃ t : Int, H p = some (.dK [(.inr "deep", .ref dl), (.inr "all", .ref al), (.inr "times", .int t)])) ∧ (∃ ns : List Int, H dl = some (.lst (ns.map V.int)) ∧ ns.length ≤ 64) ∧
  (∃ ns : List Int, H al = some (.lst (ns.map V.int)) ∧ ns ≠ [] ∧ ns.length ≤ 64) ∧ al ≠ dl
def pot (p dl al : Addr) : Src where
  at_ := potAt p dl al
  own := fun a => a = p ∨ a = dl ∨ a = al
  frame := fun h ⟨h1, h2, h3, h4⟩ => ⟨by rw [h p (.inl rfl)]; exact h1, by rw [h dl (.inr (.inl rfl))]; exact h2, by rw [h al (.inr (.inr rfl))]; exact h3, h4⟩
  less := fun _ h => h
  full := fun ⟨⟨t, h1⟩, ⟨ns, h2, _⟩, ⟨ms, h3, _⟩, _⟩ h => by
    rcases h with rfl | rfl | rfl
    · rw [h1]; exact fun z => nomatch z
    · rw [h2]; exact fun z => nomatch z
    · rw [h3]; exact fun z => nomatch z
section
variable {p dl al : Addr} {Z H H' : Hp} {b c : Nat}
theorem iv_pot (P : Iv (pot p dl al) Z b H) : PotAt Z H p dl al := ⟨P.src.1, P.src.2.1, P.src.2.2.1, P.src.2.2.2, P.zz, P.zo p (.inl rfl), P.zo dl (.inr (.inl rfl))⟩
theorem pot_iv (P : PotAt Z H p dl al) (z : Z al = none) : Iv (pot p dl al) Z b H := ⟨⟨P.ob, P.de, P.li, P.ne⟩, P.zz, fun a ha => by
  rcases ha with rfl | rfl | rfl
  · exact P.zp
  · exact P.zd
  · exact z⟩
theorem pot_hid : Same (hid (pot p dl al) Z H) (Lm.hid Z p dl H) := fun x o e => by
  have n := hid_some e
  rw [Lm.hid_at (fun z => n.1 (.inl z)) ⟨fun z => n.1 (.inr (.inl z)), n.2⟩]
  exact hid_same _ _ e
theorem pot_kp (k : Lm.Kp Z p dl H H') : Kp (pot p dl al) Z H H' := fun x o e => by
  have n := hid_some e
  have h := k x o (pot_hid _ _ e)
  rw [hid_at n]
  exact Lm.hid_same _ _ _ _ _ h
def sp_draw : Sp := fun vs H Q _ => ∃ (Z : Hp) (p dl al : Addr) (n : Int), vs = [.ref p, .int n] ∧ Iv (pot p dl al) Z 0 H ∧ 0 < n ∧ n < 1073741824 ∧
  ∀ (r : Int) (H' : Hp), Iv (pot p dl al) Z 0 H' → Kp (pot p dl al) Z H H' → 0 ≤ r → r < n → Q (.int r) H'
def sp_one : Sp := fun vs H Q _ => ∃ (Z : Hp) (p dl al l : Addr) (xs : List V), vs = [.ref p, .ref l] ∧ Iv (pot p dl al) Z 0 H ∧ hid (pot p dl al) Z H l = some (.lst xs) ∧ xs ≠ [] ∧ xs.length ≤ 1000 ∧
  ∀ (x : V) (H' : Hp), x ∈ xs → Iv (pot p dl al) Z 0 H' → Kp (pot p dl al) Z H H' → Q x H'
def sp_opened (K : PySem.W.Frag) : Sp := fun vs H Q _ => ∃ (a : Addr) (ns : List Int), vs = [.ref a] ∧ SqL K H a (ns.map V.int) ∧ ns.length ≤ 63 ∧ ∀ (p dl al : Addr) (H' : Hp), Iv (pot p dl al) (fun _ => none) 0 H' → Same H H' → Q (.ref p) H'
theorem draw_imp (vs : List V) (H : Hp) (Q : VK) (E : XK) (h : sp_draw vs H Q E) : Lm.sp_draw vs H Q E := by
  obtain ⟨Z, p, dl, al, n, e, P, n0, n1, q⟩ := h
  exact ⟨Z, p, dl, al, n, e, iv_pot P, n0, n1, fun r H' P' k' r0 r1 => q r H' (pot_iv P' (P.zo al (.inr (.inr rfl)))) (pot_kp k') r0 r1⟩
theorem one_imp (vs : List V) (H : Hp) (Q : VK) (E : XK) (h : sp_one vs H Q E) : Lm.sp_one vs H Q E := by
  obtain ⟨Z, p, dl, al, l, xs, e, P, hl, n0, n1, q⟩ := h
  exact ⟨Z, p, dl, al, l, xs, e, iv_pot P, pot_hid _ _ hl, n0, n1, fun x H' hx P' k' => q x H' hx (pot_iv P' (P.zo al (.inr (.inr rfl)))) (pot_kp k')⟩
theorem opened_imp (K : PySem.W.Frag) (vs : List V) (H : Hp) (Q : VK) (E : XK) (h : sp_opened K vs H Q E) : Lm.sp_opened K vs H Q E := by
  obtain ⟨a, ns, e, hS, hl, q⟩ := h
  exact ⟨a, ns, e, hS, hl, fun p dl al H' P' s' => q p dl al H' (pot_iv P' rfl) s'⟩
variable {K : PySem.W.Frag} {H0 : Hp} {σ : L2.St} {te : TE} {R : VR} {n : Nat}
theorem ev_draw {i : Nat} {b : Int} (e : σ[i]? = some (some (.ref p))) (hb : b < 1073741824) (h : Ev (pot p dl al) Z n H0 σ te (IR 1 b)) : Ev (pot p dl al) Z n H0 σ (tCall sp_draw [] E0 (tCons (tVar i) (tCons te tNil))) (IR 0 (b - 1)) :=
  fun H bb Q P k q => ⟨_, e, h H bb _ P k fun v H1 P1 k1 ⟨m, em, n1, n2⟩ => ⟨Z, p, dl, al, m, by rw [em]; rfl, P1.less (Nat.zero_le _), by omega, by omega, fun x H2 P2 k2 r1 r2 => q _ _ ⟨P2.src, P2.zz, P2.zo⟩ (k1.trans k2) ⟨x, rfl, r1, by omega⟩⟩⟩
theorem ev_drawC {i : Nat} {m : Int} (e : σ[i]? = some (some (.ref p)) := by rfl) (h0 : 1 ≤ m := by decide) (h1 : m < 1073741824 := by decide) : Ev (pot p dl al) Z 0 H0 σ (tCall sp_draw [] E0 (tCons (tVar i) (tCons (tC (.int m)) tNil))) (IR 0 (m - 1)) :=
  ev_draw (b := m) e h1 (ev_int.wide h0 (Int.le_refl _))
theorem ev_one {i m : Nat} (e : σ[i]? = some (some (.ref p))) (hn : m ≤ 1000) {m0 : Nat} (hm : Mo R) (h : Ev (pot p dl al) Z n H0 σ te (LsR (m0 + 1) m R)) : Ev (pot p dl al) Z n H0 σ (tCall sp_one [] E0 (tCons (tVar i) (tCons te tNil))) R :=
  fun H b Q P k q => ⟨_, e, h H b _ P k fun v H1 P1 k1 ⟨l, xs, el, g, l1, l2, l3⟩ => ⟨Z, p, dl, al, l, xs, by rw [el]; rfl, P1.less (Nat.zero_le _), g, (fun z => by subst z; simp at l1), by omega, fun x H2 hx P2 k2 => q _ _ ⟨P2.src, P2.zz, P2.zo⟩ (k1.trans k2) (hm _ _ _ k2 (l3 x hx))⟩⟩
end
end Lg

namespace Lg
open PySem PySem.Spec PyProof.Rows L2 Lm
def sp_lampP (K : PySem.W.Frag) : Sp := fun vs H Q _ => ∃ (Z : Hp) (p dl al : Addr) (g : Int), vs = [.ref p, .int g] ∧ Iv (pot p dl al) Z 0 H ∧ 1 ≤ g ∧ g ≤ 1000000000 ∧
  ∀ (x : V) (H' : Hp) (l : Lamp), Iv (pot p dl al) Z 0 H' → Kp (pot p dl al) Z H H' → Dq K (hid (pot p dl al) Z H') x (lampD l) → 1 ≤ l.2 → l.2 ≤ 1000000000 → Q x H'
/-- minutes: rising, from 0 on -/
def MinsP (ms : List Int) : Prop := Asc (-1) ms ∧ ms.length ≤ 60 ∧ ∀ m ∈ ms, 0 ≤ m ∧ m ≤ 10000
def intsT (ms : List Int) : PyData := .tuple (ms.map .int)
def sp_minsP (K : PySem.W.Frag) : Sp := fun vs H Q _ => ∃ (Z : Hp) (p dl al : Addr) (u : Int), vs = [.ref p, .int u] ∧ Iv (pot p dl al) Z 0 H ∧ 0 ≤ u ∧ u ≤ 60 ∧
  ∀ (x : V) (H' : Hp) (ms : List Int), Iv (pot p dl al) Z 0 H' → Kp (pot p dl al) Z H H' → Dq K (hid (pot p dl al) Z H') x (intsT ms) → MinsP ms → Q x H'
def sp_runsP (K : PySem.W.Frag) : Sp := fun vs H Q _ => ∃ (Z : Hp) (p dl al : Addr) (v : V) (ms : List Int), vs = [.ref p, v] ∧ Iv (pot p dl al) Z 0 H ∧ Dq K (hid (pot p dl al) Z H) v (intsT ms) ∧ MinsP ms ∧
  ∀ (x : V) (H' : Hp) (rs : List Run), Iv (pot p dl al) Z 0 H' → Kp (pot p dl al) Z H H' → Dq K (hid (pot p dl al) Z H') x (runsD rs) → spreadAll rs = ms → RunsUp (-1) rs → rs.length ≤ 60 → (∀ r ∈ rs, RunOk r) → Q x H'
def sp_played (K : PySem.W.Frag) : Sp := fun vs H Q _ => ∃ (N : Addr → Prop) (x y : V) (l : Lamp) (ms : List Int), vs = [x, y] ∧ Occ N H ∧ Dq K (cut N H) x (lampD l) ∧ (Dq K (cut N H) y (.list (ms.map .int)) ∨ Dq K (cut N H) y (intsT ms)) ∧ (∀ m ∈ ms, 0 ≤ m) ∧ ms.length ≤ 900 ∧
  ∀ r H', Same H H' → Dq K (cut N H') r (logD (logF l ms)) → Q r H'
def toldD (l : Lamp) (rs : List Run) : PyData := if 60 < (logOf l rs).length then .list [.int 60] else logD (logOf l rs)
def sp_told (K : PySem.W.Frag) : Sp := sp_f K (fun x : Lamp × List Run => [lampD x.1, runsD x.2]) (fun x => 1 ≤ x.1.2 ∧ x.1.2 ≤ 1000000000 ∧ x.2.length ≤ 400 ∧ (∀ r ∈ x.2, RunOk r)) (fun x => toldD x.1 x.2)
/-! ### runs of rising minutes -/
theorem asc_app : ∀ {b : Int} {xs ys : List Int}, Asc b (xs ++ ys) → Asc b xs ∧ (∀ x ∈ xs, ∀ y ∈ ys, x < y) ∧ (∀ x ∈ xs, b < x) ∧ (∀ y ∈ ys, b < y) ∧ (ys.Pairwise (· < ·))
  | b, [], ys, h => by
    have k : ∀ {b : Int} {ys : List Int}, Asc b ys → (∀ y ∈ ys, b < y) ∧ ys.Pairwise (· < ·) := fun {b ys} => by
      induction ys generalizing b with
      | nil => exact fun _ => ⟨(fun y h => nomatch h), List.Pairwise.nil⟩
      | cons y r ih =>
        rintro ⟨h1, h2⟩
        obtain ⟨i1, i2⟩ := ih h2
        refine ⟨fun z hz => ?_, List.pairwise_cons.mpr ⟨i1, i2⟩⟩
        rcases List.mem_cons.mp hz with e | e
        · omega
        · have := i1 z e; omega
    exact ⟨trivial, (fun x h => nomatch h), (fun x h => nomatch h), (k h).1, (k h).2⟩
  | b, x :: xs, ys, ⟨h1, h2⟩ => by
    obtain ⟨i1, i2, i3, i4, i5⟩ := asc_app h2
    refine ⟨⟨h1, i1⟩, fun z hz y hy => ?_, fun z hz => ?_, fun y hy => by have := i4 y hy; omega, i5⟩
    · rcases List.mem_cons.mp hz with e | e
      · rw [e]; exact i4 y hy
      · exact i2 z e y hy
    · rcases List.mem_cons.mp hz with e | e
      · omega
      · have := i3 z e; omega
theorem asc_of : ∀ {b : Int} {ys : List Int}, (∀ y ∈ ys, b < y) → ys.Pairwise (· < ·) → Asc b ys
  | _, [], _, _ => trivial
  | b, y :: r, h, p => by
    obtain ⟨p1, p2⟩ := List.pairwise_cons.mp p
    exact ⟨h y List.mem_cons_self, asc_of p1 p2⟩
theorem ap_mem {f st : Int} {n k : Nat} (h : k < n) : f + st * (k : Int) ∈ ap f st n := List.mem_map.mpr ⟨k, List.mem_range.mpr h, rfl⟩
theorem runs_up : ∀ {rs : List Run} {b : Int}, Asc b (spreadAll rs) → (∀ r ∈ rs, 1 ≤ r.2.1 ∧ 1 ≤ r.2.2) → RunsUp b rs
  | [], _, _, _ => trivial
  | r :: rs, b, h, hv => by
    rw [show spreadAll (r :: rs) = ap r.1 r.2.1 r.2.2.toNat ++ spreadAll rs from List.flatMap_cons ..] at h
    obtain ⟨i1, i2, i3, i4, i5⟩ := asc_app h
    have v := hv r List.mem_cons_self
    have m0 := i3 _ (ap_mem (f := r.1) (st := r.2.1) (n := r.2.2.toNat) (k := 0) (by omega))
    have m1 := ap_mem (f := r.1) (st := r.2.1) (n := r.2.2.toNat) (k := r.2.2.toNat - 1) (by omega)
    have em : r.1 + r.2.1 * ((r.2.2.toNat - 1 : Nat) : Int) = lastM r := by
      unfold lastM
      rw [show ((r.2.2.toNat - 1 : Nat) : Int) = r.2.2 - 1 by omega]
    rw [em] at m1
    refine ⟨by simpa using m0, v.1, v.2, runs_up (asc_of (fun y hy => i2 _ m1 y hy) i5) fun x hx => hv x (List.mem_cons_of_mem _ hx)⟩
theorem runs_ok {rs : List Run} {B : Int} (hB : B ≤ 1000000000) (h : ∀ m ∈ spreadAll rs, 0 ≤ m ∧ m ≤ B) (hv : ∀ r ∈ rs, (1 ≤ r.2.1 ∧ r.2.1 ≤ 1000000000) ∧ (1 ≤ r.2.2 ∧ r.2.2 ≤ 1000000000)) : ∀ r ∈ rs, RunOk r := fun r hr => by
  obtain ⟨v1, v2⟩ := hv r hr
  have mem : ∀ k : Nat, k < r.2.2.toNat → r.1 + r.2.1 * (k : Int) ∈ spreadAll rs := fun k hk => List.mem_flatMap.mpr ⟨r, hr, ap_mem hk⟩
  have m0 := h _ (mem 0 (by omega))
  have m1 := h _ (mem (r.2.2.toNat - 1) (by omega))
  have em : r.1 + r.2.1 * ((r.2.2.toNat - 1 : Nat) : Int) = lastM r := by
    unfold lastM
    rw [show ((r.2.2.toNat - 1 : Nat) : Int) = r.2.2 - 1 by omega]
  rw [em] at m1
  simp at m0
  exact ⟨by omega, v1, by omega, by omega⟩
/-- neighbours that are near (in reverse) -/
def Near60 : List Int → Prop
  | b :: a :: r => 1 ≤ b - a ∧ b - a ≤ 60 ∧ Near60 (a :: r)
  | _ => True
/-- what _law_played keeps: the end of the last stretch, or -1 -/
def darkOf : List Stt → Int
  | [] => -1
  | q :: _ => q.2
theorem spread_snoc (rs : List Run) (r : Run) : spreadAll (rs ++ [r]) = spreadAll rs ++ ap r.1 r.2.1 r.2.2.toNat := by
  unfold spreadAll
  rw [List.flatMap_append]
  simp
theorem ap_take {rem : List Int} {r0 d : Int} {s : Nat} (hs : s ≤ rem.length) (h : ∀ j : Nat, j < s → rem[j]? = some (r0 + d * (j : Int))) : rem = ap r0 d s ++ rem.drop s := by
  have e : rem.take s = ap r0 d s := by
    apply List.ext_getElem?
    intro j
    unfold ap
    rw [List.getElem?_take, List.getElem?_map]
    by_cases hj : j < s
    · rw [if_pos hj, h j hj, List.getElem?_range hj]; rfl
    · rw [if_neg hj, List.getElem?_eq_none (by rw [List.length_range]; omega)]; rfl
  rw [← e, List.take_append_drop]
/-- the first s of these numbers are evenly apart -/
def PreR (rem : List Int) (r0 d : Int) (s : Nat) : Prop := 1 ≤ s ∧ s ≤ rem.length ∧ (∀ j : Nat, j < s → rem[j]? = some (r0 + d * (j : Int))) ∧ (2 ≤ rem.length → 2 ≤ s)
theorem cutV_drop (xs : List V) {n : Nat} (h : n ≤ xs.length) : cutV xs (some (n : Int)) none = xs.drop n := by
  unfold cutV
  rw [HT.sIx_none, HT.sIx_nat, Nat.min_eq_left h, List.take_of_length_le (by rw [List.length_drop]; omega)]
theorem tst_of {t : TT} {σ : L2.St} {H : Hp} {Q : Bool → Hp → Prop} (P : Bool → Hp → Prop) (h2 : ∀ b H', P b H' → Q b H') (h1 : ∀ Q' : Bool → Hp → Prop, (∀ b H', P b H' → Q' b H') → t σ H Q') : t σ H Q := h1 Q h2
theorem te_of {t : TE} {σ : L2.St} {H : Hp} {Q : VK} (P : V → Hp → Prop) (h2 : ∀ b H', P b H' → Q b H') (h1 : ∀ Q' : VK, (∀ b H', P b H' → Q' b H') → t σ H Q') : t σ H Q := h1 Q h2
theorem atI_pre2 {α : Type} {xs : List α} {u v : α} : atI (xs ++ [u] ++ [v]) (-2) = some u := by
  unfold atI ixN
  have l : (xs ++ [u] ++ [v]).length = xs.length + 2 := by simp
  rw [l]
  rw [if_neg (by decide), if_pos (by omega)]
  show (xs ++ [u] ++ [v])[_]? = _
  have e : ((-2 : Int) + ((xs.length + 2 : Nat) : Int)).toNat = xs.length := by omega
  first
    | rw [e, List.append_assoc, List.getElem?_append_right (Nat.le_refl _), Nat.sub_self]; rfl
    | (rw [show ((((xs.length + 2 : Nat) : Int) + (-2 : Int)).toNat) = xs.length by omega, List.append_assoc, List.getElem?_append_right (Nat.le_refl _), Nat.sub_self]; rfl)
end Lg

namespace Lg
open PySem PySem.Spec PyProof.Rows L2 Lm
theorem told_small {l : Lamp} {rs : List Run} (hs : 1 ≤ l.2) (hr : RunsUp (-1) rs) (h : (logF l (spreadAll rs)).length ≤ 60) : toldD l rs = logD (logF l (spreadAll rs)) := by
  unfold toldD
  rcases logOf_spec hs hr with e | ⟨e, _⟩
  · rw [← e, if_neg (by omega)]
  · omega
theorem told_big {l : Lamp} {rs : List Run} (hs : 1 ≤ l.2) (hr : RunsUp (-1) rs) (h : 60 < (logF l (spreadAll rs)).length) : toldD l rs = .list [.int 60] := by
  unfold toldD
  rcases logOf_spec hs hr with e | ⟨_, e⟩
  · rw [← e, if_pos h]
  · rw [if_pos e]
theorem logF_le (l : Lamp) (ms : List Int) : (logF l ms).length ≤ ms.length := by
  have := logF_len l.1 l.2 ms []
  unfold logF
  rw [List.length_reverse]
  simpa using this
theorem logF_grow (l : Lamp) (f st : Int) {n m : Nat} (h : n ≤ m) : (logF l (ap f st n)).length ≤ (logF l (ap f st m)).length := by
  induction m with
  | zero => obtain rfl : n = 0 := by omega
            exact Nat.le_refl _
  | succ m ih =>
    rcases (show n ≤ m ∨ n = m + 1 by omega) with e | e
    · refine Nat.le_trans (ih e) ?_
      unfold logF
      rw [List.length_reverse, List.length_reverse, ap_succ, List.foldl_append]
      exact stepL_fold_len _ _ _ _
    · rw [e]; exact Nat.le_refl _
theorem stepL_bd {h : Bool} {s B m : Int} (hs : 0 ≤ s) (hm : 0 ≤ m ∧ m ≤ B) {qs : List Stt} (hq : ∀ q ∈ qs, (0 ≤ q.1 ∧ q.1 ≤ B) ∧ 0 ≤ q.2 ∧ q.2 ≤ B + s) : ∀ q ∈ stepL h s qs m, (0 ≤ q.1 ∧ q.1 ≤ B) ∧ 0 ≤ q.2 ∧ q.2 ≤ B + s := by
  cases qs with
  | nil =>
    intro q hq
    rw [List.mem_singleton.mp hq]
    exact ⟨hm, by show 0 ≤ m + s; omega, by show m + s ≤ B + s; omega⟩
  | cons p r =>
    have hp := hq p List.mem_cons_self
    simp only [stepL]
    split
    · intro q hz
      rcases List.mem_cons.mp hz with e | e
      · rw [e]; exact ⟨hm, by show 0 ≤ m + s; omega, by show m + s ≤ B + s; omega⟩
      · exact hq q e
    · split
      · intro q hz
        rcases List.mem_cons.mp hz with e | e
        · rw [e]; exact ⟨hp.1, by show 0 ≤ m + s; omega, by show m + s ≤ B + s; omega⟩
        · exact hq q (List.mem_cons_of_mem _ e)
      · exact hq
theorem logF_bd {l : Lamp} {B : Int} (hs : 0 ≤ l.2) : ∀ {ms : List Int}, (∀ m ∈ ms, 0 ≤ m ∧ m ≤ B) → ∀ q ∈ logF l ms, (0 ≤ q.1 ∧ q.1 ≤ B) ∧ 0 ≤ q.2 ∧ q.2 ≤ B + l.2 := by
  have go : ∀ (ms : List Int) (qs : List Stt), (∀ m ∈ ms, 0 ≤ m ∧ m ≤ B) → (∀ q ∈ qs, (0 ≤ q.1 ∧ q.1 ≤ B) ∧ 0 ≤ q.2 ∧ q.2 ≤ B + l.2) → ∀ q ∈ ms.foldl (stepL l.1 l.2) qs, (0 ≤ q.1 ∧ q.1 ≤ B) ∧ 0 ≤ q.2 ∧ q.2 ≤ B + l.2 := by
    intro ms
    induction ms with
    | nil => exact fun qs _ h => h
    | cons m r ih => exact fun qs hm hq => ih _ (fun x hx => hm x (List.mem_cons_of_mem _ hx)) (stepL_bd hs (hm m List.mem_cons_self) hq)
  intro ms hm q hq
  exact go ms [] hm (fun q h => nomatch h) q (List.mem_reverse.mp hq)
theorem logF_sm {l : Lamp} {B : Int} (hs : 0 ≤ l.2 ∧ l.2 ≤ 1000000000) (hB : B ≤ 1000000000) {ms : List Int} (hm : ∀ m ∈ ms, 0 ≤ m ∧ m ≤ B) (h60 : (logF l ms).length ≤ 60) : Sm 2103 2 (logD (logF l ms)) :=
  Sm.tuple (c := 60) (n := 33) (k := 1) (fun d hd => by
    obtain ⟨q, hq, rfl⟩ := List.mem_map.mp hd
    have := logF_bd hs.1 hm q hq
    exact pD_sm (by omega) (by omega)) (by rw [List.length_map]; exact h60)
theorem run_sm {r : Run} (h : RunOk r) : Sm 48 1 (runD r) :=
  Sm.tuple (c := 3) (n := 13) (k := 0) (ds := [.int r.1, .int r.2.1, .int r.2.2]) (fun d hd => by
    obtain ⟨h1, h2, h3⟩ := h.rb
    rcases List.mem_cons.mp hd with e | e
    · rw [e]; exact Sm.int (by omega)
    · rcases List.mem_cons.mp e with e | e
      · rw [e]; exact Sm.int (by omega)
      · rw [List.mem_singleton.mp e]; exact Sm.int (by omega)) (Nat.le_refl _)
theorem runs_sm {rs : List Run} (hl : rs.length ≤ 60) (h : ∀ r ∈ rs, RunOk r) : Sm 3003 2 (runsD rs) :=
  Sm.tuple (c := 60) (n := 48) (k := 1) (fun d hd => by
    obtain ⟨q, hq, rfl⟩ := List.mem_map.mp hd
    exact run_sm (h q hq)) (by rw [List.length_map]; exact hl)
/-! ### each minute by itself -/
def ones (ms : List Int) : List Run := ms.map fun m => (m, 1, 1)
theorem ones_spread (ms : List Int) : spreadAll (ones ms) = ms := by
  induction ms with
  | nil => rfl
  | cons m r ih =>
    show ap m 1 1 ++ spreadAll (ones r) = _
    rw [ih]
    show [m + 1 * ((0 : Nat) : Int)] ++ r = _
    simp
theorem ones_facts {ms : List Int} (h : MinsP ms) : spreadAll (ones ms) = ms ∧ RunsUp (-1) (ones ms) ∧ (ones ms).length ≤ 60 ∧ ∀ r ∈ ones ms, RunOk r := by
  have v : ∀ r ∈ ones ms, (1 ≤ r.2.1 ∧ r.2.1 ≤ 1000000000) ∧ (1 ≤ r.2.2 ∧ r.2.2 ≤ 1000000000) := fun r hr => by
    obtain ⟨m, _, rfl⟩ := List.mem_map.mp hr
    exact ⟨⟨Int.le_refl 1, (by decide : (1:Int) ≤ 1000000000)⟩, Int.le_refl 1, (by decide : (1:Int) ≤ 1000000000)⟩
  exact ⟨ones_spread ms, runs_up (by rw [ones_spread]; exact h.1) (fun r hr => ⟨(v r hr).1.1, (v r hr).2.1⟩), by unfold ones; rw [List.length_map]; exact h.2.1, runs_ok (B := 10000) (by decide) (by rw [ones_spread]; exact h.2.2) v⟩
theorem one_run {f st c : Int} (hf : 0 ≤ f) (hs : 1 ≤ st) (hc : 1 ≤ c) : RunsUp (-1) [(f, st, c)] := ⟨by show -1 < f; omega, hs, hc, trivial⟩
theorem one_spread {f st c : Int} : spreadAll [(f, st, c)] = ap f st c.toNat := by
  show ap f st c.toNat ++ [] = _
  rw [List.append_nil]
theorem ap_bd {f st B : Int} {n : Nat} (hf : 0 ≤ f) (hs : 0 ≤ st) (h : f + st * (n : Int) ≤ B) : ∀ m ∈ ap f st n, 0 ≤ m ∧ m ≤ B := fun m hm => by
  obtain ⟨k, hk, rfl⟩ := List.mem_map.mp hm
  have hk := List.mem_range.mp hk
  have h1 : 0 ≤ st * (k : Int) := Int.mul_nonneg hs (by omega)
  have h2 : st * (k : Int) ≤ st * (n : Int) := Int.mul_le_mul_of_nonneg_left (by omega) hs
  exact ⟨by omega, by omega⟩
def dueD (g : List Stt) : PyData := if 60 < g.length then .list [.int 60] else logD g
end Lg

namespace Lg
open PySem PySem.Spec PyProof.Rows L2 Lm
/-! ### runs that grow -/
def endL : Int → List Run → Int
  | b, [] => b
  | _, r :: rs => endL (lastM r) rs
theorem runsUp_snoc : ∀ {b : Int} {rs : List Run} {x : Run}, RunsUp b rs → endL b rs < x.1 → 1 ≤ x.2.1 → 1 ≤ x.2.2 → RunsUp b (rs ++ [x]) ∧ endL b (rs ++ [x]) = lastM x
  | _, [], _, _, h, h1, h2 => ⟨⟨h, h1, h2, trivial⟩, rfl⟩
  | _, r :: rs, x, ⟨u1, u2, u3, u4⟩, h, h1, h2 => by
    obtain ⟨i1, i2⟩ := runsUp_snoc (b := lastM r) u4 h h1 h2
    exact ⟨⟨u1, u2, u3, i1⟩, i2⟩
theorem spread_bd {rs : List Run} (h : ∀ r ∈ rs, RunOk r) : ∀ m ∈ spreadAll rs, 0 ≤ m ∧ m ≤ 1000000000 := fun m hm => by
  obtain ⟨r, hr, hx⟩ := List.mem_flatMap.mp hm
  obtain ⟨k, hk, rfl⟩ := List.mem_map.mp hx
  have hk := List.mem_range.mp hk
  obtain ⟨⟨f0, f1⟩, ⟨s0, s1⟩, ⟨c0, c1⟩, hl⟩ := h r hr
  unfold lastM at hl
  have h1 : 0 ≤ r.2.1 * (k : Int) := Int.mul_nonneg (by omega) (by omega)
  have h2 : r.2.1 * (k : Int) ≤ r.2.1 * (r.2.2 - 1) := Int.mul_le_mul_of_nonneg_left (by omega) (by omega)
  exact ⟨by omega, by omega⟩
/-! ### put: joined, but never more than 61 -/
def putR : List Stt → Stt → List Stt
  | [], p => [p]
  | q :: r, p => if p.1 ≤ q.2 then (q.1, if p.2 < q.2 then q.2 else p.2) :: r else if (q :: r).length < 61 then p :: q :: r else q :: r
theorem put_eq {qs : List Stt} {p : Stt} (h : qs.length < 61) : putR qs p = joinS qs p := by
  cases qs with
  | nil => rfl
  | cons q r =>
    simp only [putR, joinS]
    rw [if_pos h]
    split
    · congr 2
      split <;> split <;> omega
    · rfl
theorem put_len (qs : List Stt) (p : Stt) : qs.length ≤ (putR qs p).length ∧ 1 ≤ (putR qs p).length := by
  cases qs with
  | nil => simp [putR]
  | cons q r =>
    simp only [putR]
    split
    · simp
    · split <;> simp
theorem put_max (qs : List Stt) (p : Stt) (h : qs.length ≤ 61) : (putR qs p).length ≤ 61 := by
  cases qs with
  | nil => simp [putR]
  | cons q r =>
    simp only [putR]
    split
    · simpa using h
    · split
      · simp only [List.length_cons] at *; omega
      · exact h
theorem put_rel {F qs : List Stt} {p : Stt} (h : Rel60 F qs) : Rel60 (joinS F p) (putR qs p) := by
  rcases h with rfl | ⟨h1, h2⟩
  · by_cases g : F.length < 61
    · exact .inl (put_eq g).symm
    · exact .inr ⟨Nat.lt_of_lt_of_le (by omega) (joinS_len _ _).1, Nat.lt_of_lt_of_le (by omega) (put_len _ _).1⟩
  · exact .inr ⟨Nat.lt_of_lt_of_le h1 (joinS_len _ _).1, Nat.lt_of_lt_of_le h2 (put_len _ _).1⟩
/-- what the hold lamps have of the runs so far -/
def heldB (s : Int) (rs : List Run) : List Stt := (spreadAll rs).foldl (stepL true s) []
theorem held_snoc (s : Int) (rs : List Run) (r : Run) : heldB s (rs ++ [r]) = (ap r.1 r.2.1 r.2.2.toNat).foldl (stepL true s) (heldB s rs) := by
  unfold heldB
  rw [spread_snoc, List.foldl_append]
def pulB (s : Int) (rs : List Run) : List Stt := (spreadAll rs).foldl (stepL false s) []
theorem pul_snoc (s : Int) (rs : List Run) (r : Run) : pulB s (rs ++ [r]) = (ap r.1 r.2.1 r.2.2.toNat).foldl (stepL false s) (pulB s rs) := by
  unfold pulB
  rw [spread_snoc, List.foldl_append]
/-- the next run of hold lamps -/
theorem held_run {s b f st c : Int} {rs : List Run} (hs : 1 ≤ s) (hb : HeadB (heldB s rs) (b + s)) (h1 : b < f) (h2 : 1 ≤ st) (h3 : 1 ≤ c) :
    heldB s (rs ++ [(f, st, c)]) = (pcs s f st c.toNat).foldl joinS (heldB s rs) ∧ HeadB (heldB s (rs ++ [(f, st, c)])) (lastM (f, st, c) + s) ∧ (st ≤ s → heldB s (rs ++ [(f, st, c)]) = joinS (heldB s rs) (f, f + st * (c - 1) + s)) ∧
    (s < st → ∀ n : Nat, 62 ≤ n → 60 < ((pcs s f st n).foldl joinS (heldB s rs)).length) := by
  rw [held_snoc]
  generalize heldB s rs = acc at hb
  have hb' : HeadB acc (f + s) := fun q hq => by have := hb q hq; omega
  obtain ⟨e1, e2⟩ := runH hs h2 hb' c.toNat
  obtain ⟨n, hn⟩ : ∃ n : Nat, c.toNat = n + 1 := ⟨c.toNat - 1, by omega⟩
  have hc : c - 1 = (n : Int) := by omega
  show (ap f st c.toNat).foldl _ _ = _ ∧ HeadB ((ap f st c.toNat).foldl _ _) _ ∧ (_ → (ap f st c.toNat).foldl _ _ = _) ∧ _
  rw [e1]
  refine ⟨rfl, ?_, fun h => ?_, fun h m hm => ?_⟩
  · rw [hn]
    refine headB_off ?_
    rw [offFold hs h2 hb' n]
    unfold lastM
    show f + st * (n : Int) + s ≤ f + st * (c - 1) + s
    rw [hc]
    exact Int.le_refl _
  · rw [hn, touch hs h2 h hb' n, hc]
  · obtain ⟨m, rfl⟩ : ∃ k, m = k + 1 := ⟨m - 1, by omega⟩
    obtain ⟨i1, i2, _⟩ := apart_len (f := f) hs h m acc hb'
    cases acc with
    | nil => have := i2 rfl; omega
    | cons q r => simp only [List.length_cons] at i1; omega
/-! ### numbers of whole steps -/
theorem rup_uniq {x b q : Int} (hx : 0 ≤ x) (hb : 1 ≤ b) (h1 : x ≤ b * q) (h2 : b * q < x + b) : rup x b = q := by
  obtain ⟨_, r1, r2⟩ := rup_spec hx hb
  generalize rup x b = z at r1 r2
  have a1 : b * z - b * q < b := by omega
  have a2 : b * q - b * z < b := by omega
  rw [← Int.mul_sub] at a1 a2
  have : ∀ t : Int, b * t < b → t < 1 := fun t ht => by
    by_cases h : t < 1
    · exact h
    · have : b * 1 ≤ b * t := Int.mul_le_mul_of_nonneg_left (by omega) (by omega)
      omega
  have t1 := this _ a1
  have t2 := this _ a2
  omega
theorem neg_fdiv {x b : Int} (hb : 1 ≤ b) : x ≤ b * -((-x).fdiv b) ∧ b * -((-x).fdiv b) < x + b := by
  rw [Int.fdiv_eq_ediv_of_nonneg _ (by omega)]
  have h1 : b * (-x / b) ≤ -x := Int.mul_ediv_self_le (by omega)
  have h2 : -x < (-x / b + 1) * b := Int.lt_ediv_add_one_mul_self _ (by omega)
  rw [Int.add_mul, Int.one_mul, Int.mul_comm] at h2
  rw [Int.mul_neg]
  omega
theorem neg_fdiv_uniq {x b q : Int} (hb : 1 ≤ b) (h1 : x ≤ b * q) (h2 : b * q < x + b) : -((-x).fdiv b) = q := by
  obtain ⟨r1, r2⟩ := neg_fdiv (x := x) hb
  generalize -((-x).fdiv b) = z at r1 r2
  have a1 : b * z - b * q < b := by omega
  have a2 : b * q - b * z < b := by omega
  rw [← Int.mul_sub] at a1 a2
  have : ∀ t : Int, b * t < b → t < 1 := fun t ht => by
    by_cases h : t < 1
    · exact h
    · have : b * 1 ≤ b * t := Int.mul_le_mul_of_nonneg_left (by omega) (by omega)
      omega
  have t1 := this _ a1
  have t2 := this _ a2
  omega
end Lg

namespace Lg
open PySem PySem.Spec PyProof.Rows L2 Lm
/-- how many stays a light goes on for -/
def sizeP (s st c k : Int) : Int := if st ≤ s ∧ s.fmod st = 0 then 1 + (c - 1 - k).fdiv (s.fdiv st) else 1
def PL (s f st c : Int) (F : List Stt) (k dark : Int) (qs : List Stt) : Prop :=
  let u := lightU (offOf F) (f, st, c)
  let R := lightR s (offOf F) (f, st, c)
  (k = u ∧ qs = F ∧ dark = offOf F) ∨ (u < c ∧ ∃ j : Nat, 1 ≤ j ∧ (j : Int) ≤ R.2.2 ∧ k = u + rup s st * (j : Int) ∧ qs = (pcs s R.1 R.2.1 j).foldl joinS F ∧ dark = R.1 + R.2.1 * ((j : Int) - 1) + s ∧ (st ≤ s ∧ s.fmod st = 0 → (j : Int) = R.2.2))
section
variable {s f st c : Int} {F qs : List Stt} {k dark : Int}
theorem light_nn (hst : 1 ≤ st) : 0 ≤ lightU (offOf F) (f, st, c) ∧ offOf F ≤ f + st * lightU (offOf F) (f, st, c) := by
  have gn : 0 ≤ (if offOf F - f > 0 then offOf F - f else 0) := by split <;> omega
  obtain ⟨u0, u1, u2⟩ := rup_spec gn hst
  have hU : lightU (offOf F) (f, st, c) = rup (if offOf F - f > 0 then offOf F - f else 0) st := rfl
  rw [hU]
  refine ⟨u0, ?_⟩
  split at u1 <;> split <;> omega
/-- where the walk over a run begins -/
theorem light_start (hst : 1 ≤ st) : lightU (offOf F) (f, st, c) = if f < offOf F then (if (0 : Int) < -((f - offOf F).fdiv st) then -((f - offOf F).fdiv st) else 0) else 0 := by
  have hU : lightU (offOf F) (f, st, c) = rup (if offOf F - f > 0 then offOf F - f else 0) st := rfl
  rw [hU]
  by_cases h : f < offOf F
  · rw [if_pos h, if_pos (by omega)]
    obtain ⟨n1, n2⟩ := neg_fdiv (x := offOf F - f) hst
    rw [show -(offOf F - f) = f - offOf F by omega] at n1 n2
    have e := rup_uniq (x := offOf F - f) (by omega) hst n1 n2
    rw [e]
    have p : 0 < -((f - offOf F).fdiv st) := by
      apply Classical.byContradiction
      intro z
      have := Int.mul_le_mul_of_nonneg_left (show -((f - offOf F).fdiv st) ≤ 0 by omega) (show 0 ≤ st by omega)
      rw [Int.mul_zero] at this
      omega
    rw [if_pos p]
  · rw [if_neg h, if_neg (by omega)]
    exact rup_uniq (Int.le_refl _) hst (by simp) (by simp; omega)
theorem pl_start (hst : 1 ≤ st) : PL s f st c F (lightU (offOf F) (f, st, c)) (offOf F) F := .inl ⟨rfl, rfl, rfl⟩
theorem pl_step (hs : 1 ≤ s) (hst : 1 ≤ st) (hf : 0 ≤ f) (hc : 1 ≤ c) (h : PL s f st c F k dark qs) (hk : k < c) (hl : qs.length < 61) :
    PL s f st c F (-((f - (f + st * k + s * sizeP s st c k)).fdiv st)) (f + st * k + s * sizeP s st c k) (putR qs (f + st * k, f + st * k + s * sizeP s st c k)) ∧ k < -((f - (f + st * k + s * sizeP s st c k)).fdiv st) := by
  rw [put_eq hl]
  obtain ⟨a0, a1, a2⟩ := rup_spec (n := s) (by omega) hst
  obtain ⟨u0, u1⟩ := light_nn (F := F) (f := f) (c := c) hst
  have hR : lightR s (offOf F) (f, st, c) = (f + st * lightU (offOf F) (f, st, c), st * rup s st, rup (c - lightU (offOf F) (f, st, c)) (rup s st)) := rfl
  unfold PL at h ⊢
  rw [hR] at h ⊢
  dsimp only at h ⊢
  generalize lightU (offOf F) (f, st, c) = u at h u0 u1 ⊢
  have a1' : 1 ≤ rup s st := by
    apply Classical.byContradiction
    intro z
    have := Int.mul_le_mul_of_nonneg_left (show rup s st ≤ 0 by omega) (show 0 ≤ st by omega)
    rw [Int.mul_zero] at this
    omega
  have uc : u < c := by
    rcases h with ⟨rfl, _, _⟩ | ⟨h, _⟩
    · exact hk
    · exact h
  obtain ⟨n0, n1, n2⟩ := rup_spec (n := c - u) (b := rup s st) (by omega) a1'
  have div : st ≤ s ∧ s.fmod st = 0 → s.fdiv st = rup s st ∧ st * rup s st = s := fun ⟨_, d2⟩ => by
    have e : s = st * (s.fdiv st) := by
      have := Int.mul_fdiv_add_fmod s st
      omega
    have e2 : rup s st = s.fdiv st := rup_uniq (by omega) hst (by omega) (by omega)
    exact ⟨e2.symm, by rw [e2]; exact e.symm⟩
  -- the number of the light under way
  obtain ⟨j, hj, ek, eq, ed⟩ : ∃ j : Nat, (j : Int) < rup (c - u) (rup s st) ∧ k = u + rup s st * (j : Int) ∧ qs = (pcs s (f + st * u) (st * rup s st) j).foldl joinS F ∧ (st ≤ s ∧ s.fmod st = 0 → j = 0) := by
    have lt : ∀ j : Nat, u + rup s st * (j : Int) < c → (j : Int) < rup (c - u) (rup s st) := fun j hj => by
      apply Classical.byContradiction
      intro z
      have := Int.mul_le_mul_of_nonneg_left (show rup (c - u) (rup s st) ≤ (j : Int) by omega) (show 0 ≤ rup s st by omega)
      omega
    rcases h with ⟨rfl, rfl, _⟩ | ⟨_, j, j1, j2, rfl, rfl, _, j3⟩
    · exact ⟨0, lt 0 (by simpa using hk), by simp, rfl, fun _ => rfl⟩
    · refine ⟨j, lt j hk, rfl, rfl, fun d => ?_⟩
      have e := j3 d
      have := lt j hk
      omega
  have here : f + st * k = f + st * u + st * rup s st * (j : Int) := by
    rw [ek, Int.mul_add, Int.mul_assoc]
    omega
  by_cases d : st ≤ s ∧ s.fmod st = 0
  · obtain ⟨d1, d2⟩ := div d
    obtain rfl := ed d
    have ek : k = u := by rw [ek]; simp
    have esz : sizeP s st c k = rup (c - u) (rup s st) := by
      unfold sizeP
      rw [if_pos d, d1, ek]
      symm
      refine rup_uniq (by omega) a1' ?_ ?_
      · have := Int.lt_ediv_add_one_mul_self (c - 1 - u) (show 0 < rup s st by omega)
        rw [Int.fdiv_eq_ediv_of_nonneg _ (by omega), Int.mul_add, Int.mul_one]
        rw [Int.add_mul, Int.one_mul, Int.mul_comm] at this
        omega
      · have := Int.mul_ediv_self_le (x := c - 1 - u) (show rup s st ≠ 0 by omega)
        rw [Int.fdiv_eq_ediv_of_nonneg _ (by omega), Int.mul_add, Int.mul_one]
        omega
    rw [esz]
    obtain ⟨m, hm⟩ : ∃ m : Nat, rup (c - u) (rup s st) = ((m + 1 : Nat) : Int) := ⟨(rup (c - u) (rup s st)).toNat - 1, by omega⟩
    rw [hm] at n1 n2 ⊢
    have tch := touch (s := s) (f := f + st * u) (st := s) (acc := F) hs hs (Int.le_refl _) (headB_off (by omega)) m
    have e1 : s * ((m + 1 : Nat) : Int) = s * (m : Int) + s := by rw [show ((m + 1 : Nat) : Int) = (m : Int) + 1 by omega, Int.mul_add, Int.mul_one]
    have kq : -((f - (f + st * k + s * ((m + 1 : Nat) : Int))).fdiv st) = u + rup s st * ((m + 1 : Nat) : Int) := by
      rw [show f - (f + st * k + s * ((m + 1 : Nat) : Int)) = -(st * k + s * ((m + 1 : Nat) : Int)) by omega]
      have e3 : st * (u + rup s st * ((m + 1 : Nat) : Int)) = st * k + s * ((m + 1 : Nat) : Int) := by rw [Int.mul_add, ← Int.mul_assoc, d2, ek]
      exact neg_fdiv_uniq hst (by omega) (by omega)
    have pos : 0 < rup s st * ((m + 1 : Nat) : Int) := Int.mul_pos (by omega) (by omega)
    rw [kq]
    refine ⟨.inr ⟨uc, m + 1, by omega, Int.le_refl _, rfl, ?_, ?_, fun _ => rfl⟩, by omega⟩
    · rw [d2, tch, eq, ek, e1]
      show joinS F _ = joinS F _
      congr 2
      omega
    · rw [d2, ek, e1, show ((m + 1 : Nat) : Int) - 1 = (m : Int) by omega]
      omega
  · have esz : sizeP s st c k = 1 := if_neg d
    rw [esz, Int.mul_one]
    have kq : -((f - (f + st * k + s)).fdiv st) = u + rup s st * ((j + 1 : Nat) : Int) := by
      rw [show f - (f + st * k + s) = -(st * k + s) by omega]
      have e3 : u + rup s st * ((j + 1 : Nat) : Int) = k + rup s st := by rw [ek, show ((j + 1 : Nat) : Int) = (j : Int) + 1 by omega, Int.mul_add, Int.mul_one]; omega
      rw [e3]
      refine neg_fdiv_uniq hst ?_ ?_
      · rw [Int.mul_add]; omega
      · rw [Int.mul_add]; omega
    rw [kq]
    refine ⟨.inr ⟨uc, j + 1, by omega, by omega, rfl, ?_, ?_, fun z => absurd z d⟩, ?_⟩
    · rw [pcs_succ, List.foldl_append, eq, here]
      rfl
    · rw [here, show ((j + 1 : Nat) : Int) - 1 = (j : Int) by omega]
    · rw [ek, show ((j + 1 : Nat) : Int) = (j : Int) + 1 by omega, Int.mul_add, Int.mul_one]
      omega
theorem pcs_le {s f st : Int} {F : List Stt} {i j : Nat} (h : i ≤ j) : ((pcs s f st i).foldl joinS F).length ≤ ((pcs s f st j).foldl joinS F).length := by
  induction j with
  | zero => obtain rfl : i = 0 := by omega
            exact Nat.le_refl _
  | succ j ih =>
    rcases (show i ≤ j ∨ i = j + 1 by omega) with e | e
    · refine Nat.le_trans (ih e) ?_
      rw [pcs_succ, List.foldl_append]
      exact joinS_fold_len _ _
    · rw [e]; exact Nat.le_refl _
/-- where the walk over a run ends -/
theorem pl_end {rs : List Run} (hs : 1 ≤ s) (hst : 1 ≤ st) (hf : 0 ≤ f) (hc : 1 ≤ c) (h : PL s f st c (pulB s rs) k dark qs) (hx : ¬ k < c ∨ 61 ≤ qs.length) :
    (pulB s (rs ++ [(f, st, c)]) = qs ∧ dark = offOf (pulB s (rs ++ [(f, st, c)]))) ∨ (60 < (pulB s (rs ++ [(f, st, c)])).length ∧ 60 < qs.length) := by
  rw [pul_snoc]
  generalize pulB s rs = F at h
  obtain ⟨L1, L0⟩ := light_run (s := s) (r := (f, st, c)) (acc := F) hs hf hst hc
  have mono : F.length ≤ ((ap f st c.toNat).foldl (stepL false s) F).length := stepL_fold_len _ _ _ _
  show ((ap f st c.toNat).foldl (stepL false s) F = qs ∧ dark = offOf ((ap f st c.toNat).foldl (stepL false s) F)) ∨ (60 < ((ap f st c.toNat).foldl (stepL false s) F).length ∧ _)
  have L1 : lightU (offOf F) (f, st, c) < c → (ap f st c.toNat).foldl (stepL false s) F = _ ∧ _ := L1
  have L0 : ¬ lightU (offOf F) (f, st, c) < c → (ap f st c.toNat).foldl (stepL false s) F = F := L0
  rcases h with ⟨rfl, rfl, rfl⟩ | ⟨uc, j, j1, j2, rfl, rfl, rfl, j3⟩
  · rcases hx with hx | hx
    · rw [L0 hx]
      exact .inl ⟨rfl, rfl⟩
    · exact .inr ⟨by omega, by omega⟩
  · obtain ⟨e1, e2, e3, e4, e5, e6⟩ := L1 uc
    rw [e1]
    rcases hx with hx | hx
    · have hR : lightR s (offOf F) (f, st, c) = (f + st * lightU (offOf F) (f, st, c), st * rup s st, rup (c - lightU (offOf F) (f, st, c)) (rup s st)) := rfl
      have a1' : 1 ≤ rup s st := rup_one hs hst
      obtain ⟨n0, n1, n2⟩ := rup_spec (n := c - lightU (offOf F) (f, st, c)) (b := rup s st) (by omega) a1'
      have ej : (j : Int) = (lightR s (offOf F) (f, st, c)).2.2 := by
        apply Classical.byContradiction
        intro z
        rw [hR] at j2 z
        dsimp only at j2 z
        have := Int.mul_le_mul_of_nonneg_left (show (j : Int) ≤ rup (c - lightU (offOf F) (f, st, c)) (rup s st) - 1 by omega) (show 0 ≤ rup s st by omega)
        rw [Int.mul_sub, Int.mul_one] at this
        omega
      have ejn : (lightR s (offOf F) (f, st, c)).2.2.toNat = j := by omega
      refine .inl ⟨by rw [ejn], ?_⟩
      rw [e6]
      unfold lastM
      rw [← ej]
    · refine .inr ⟨?_, by omega⟩
      refine Nat.lt_of_lt_of_le (show 60 < _ from hx) (pcs_le (by omega))
end
end Lg

namespace Lg
open PySem PySem.Spec PyProof.Rows L2 Lm
def sp_farP (K : PySem.W.Frag) : Sp := fun vs H Q _ => ∃ (Z : Hp) (p dl al : Addr) (u : Int), vs = [.ref p, .int u] ∧ Iv (pot p dl al) Z 0 H ∧ 0 ≤ u ∧ u ≤ 60 ∧
  ∀ (x : V) (H' : Hp) (rs : List Run), Iv (pot p dl al) Z 0 H' → Kp (pot p dl al) Z H H' → Dq K (hid (pot p dl al) Z H') x (runsD rs) → RunsUp (-1) rs → rs.length ≤ 60 → (∀ r ∈ rs, RunOk r) → Q x H'
def logL (qs : List Stt) : PyData := .list (qs.reverse.map pD)
/-- a list of pairs that stands by itself, its end first -/
def LL (K : PySem.W.Frag) (G : Hp) (a : Addr) (qs : List Stt) : Prop := ∃ xs, G a = some (.lst xs) ∧ Dqs K G xs (qs.reverse.map pD)
theorem LL.mono {K : PySem.W.Frag} {G G' : Hp} {a : Addr} {qs : List Stt} (s : Same G G') (h : LL K G a qs) : LL K G' a qs := let ⟨xs, e, d⟩ := h; ⟨xs, s _ _ e, d.mono s⟩
theorem LL.dq {K : PySem.W.Frag} {G : Hp} {a : Addr} {qs : List Stt} (h : LL K G a qs) : Dq K G (.ref a) (logL qs) := let ⟨_, e, d⟩ := h; .lst (.inl (.inl e)) d
def sp_put (K : PySem.W.Frag) : Sp := fun vs H Q _ => ∃ (N : Addr → Prop) (a : Addr) (qs : List Stt) (p : Stt), vs = [.ref a, .int p.1, .int p.2] ∧ Occ N H ∧ LL K (cut N H) a qs ∧ qs.length ≤ 61 ∧
  ∀ (r : Addr) (H' : Hp), Same H H' → LL K (cut N H') r (putR qs p) → Q (.ref r) H'
def sp_back (K : PySem.W.Frag) (B : Int → List Run → List Stt) : Sp := fun vs H Q _ => ∃ (N : Addr → Prop) (s : Int) (rs : List Run), Occ N H ∧ Dqs K (cut N H) vs [.int s, runsD rs] ∧ 1 ≤ s ∧ s ≤ 1000000000 ∧ rs.length ≤ 400 ∧ (∀ r ∈ rs, RunOk r) ∧ RunsUp (-1) rs ∧
  ∀ (r : Addr) (H' : Hp) (qs : List Stt), Same H H' → LL K (cut N H') r qs → qs.length ≤ 61 → Rel60 (B s rs) qs → Q (.ref r) H'
abbrev sp_held (K : PySem.W.Frag) : Sp := sp_back K heldB
abbrev sp_pulsed (K : PySem.W.Frag) : Sp := sp_back K pulB
theorem drop_get {α : Type} {xs : List α} {i : Nat} {x : α} (h : xs[i]? = some x) : xs.drop i = x :: xs.drop (i + 1) := by
  obtain ⟨hi, rfl⟩ := List.getElem?_eq_some_iff.mp h
  exact List.drop_eq_getElem_cons hi
theorem take_snoc {α : Type} {xs : List α} {i : Nat} {x : α} (h : xs[i]? = some x) : xs.take (i + 1) = xs.take i ++ [x] := by
  rw [List.take_add_one, h]
  rfl
theorem cutV_init {xs : List V} {v : V} : cutV (xs ++ [v]) none (some (-1)) = xs := by
  unfold cutV
  rw [HT.sIx_none, List.drop_zero, Nat.sub_zero]
  have e : HT.sIx (xs ++ [v]).length (xs ++ [v]).length (some (-1)) = xs.length := by
    unfold HT.sIx
    simp
    try omega
  rw [e]
  simp
theorem call_lenK {X : Cx} {K : PySem.W.Frag} (h : X.K = K) : CallR X (.builtin "len") (fun xs H Q => ∃ p ys, xs = [.ref p] ∧ (SqL K H p ys ∨ SqT K H p ys) ∧ Q (.int ys.length) H) := h ▸ call_len_seq
theorem call_tupleK {X : Cx} {K : PySem.W.Frag} (h : X.K = K) : CallR X (.type "tuple") (fun xs H Q => ∃ p ys, xs = [.ref p] ∧ ((SqL K H p ys ∧ ∀ l, H l = none → Q (.ref l) (upd H l (.tup ys))) ∨ (SqT K H p ys ∧ Q (.ref p) H))) := h ▸ call_tuple_of
/-- the booked answer, once the runs were walked -/
theorem told_due {l : Lamp} {rs : List Run} {qs : List Stt} (hs : 1 ≤ l.2) (hr : RunsUp (-1) rs) (h : Rel60 ((spreadAll rs).foldl (stepL l.1 l.2) []) qs) : toldD l rs = dueD qs.reverse ∧ (qs.length ≤ 60 → qs.reverse = logF l (spreadAll rs)) := by
  have e : logF l (spreadAll rs) = ((spreadAll rs).foldl (stepL l.1 l.2) []).reverse := rfl
  rcases h with h | ⟨h1, h2⟩
  · have e2 : qs.reverse = logF l (spreadAll rs) := by rw [e, h]
    refine ⟨?_, fun _ => e2⟩
    rw [e2]
    unfold dueD
    by_cases g : 60 < (logF l (spreadAll rs)).length
    · rw [if_pos g]; exact told_big hs hr g
    · rw [if_neg g]; exact told_small hs hr (by omega)
  · refine ⟨?_, fun z => by omega⟩
    unfold dueD
    rw [if_pos (by rw [List.length_reverse]; exact h2)]
    exact told_big hs hr (by rw [e, List.length_reverse]; exact h1)
section
variable {K : PySem.W.Frag} {Z H0 : Hp} {p dl al : Addr} {σ : L2.St} {tg : TE} {n : Nat}
theorem ev_lampStay {i : Nat} (e : σ[i]? = some (some (.ref p))) (h : Ev (pot p dl al) Z n H0 σ tg (IR 1 1000000000)) : Ev (pot p dl al) Z n H0 σ (tOp (rIxT K) (tCall (sp_lampP K) [] E0 (tCons (tVar i) (tCons tg tNil))) (tC (.int 1))) (IR 1 1000000000) :=
  fun H b Q P k q => ⟨_, e, h H b _ P k fun v H1 P1 k1 ⟨g, eg, g1, g2⟩ => ⟨Z, p, dl, al, g, by rw [eg]; rfl, P1.less (Nat.zero_le _), g1, g2, fun x H' l P' k' d' l1 l2 => by
    obtain ⟨a1, rfl, ga⟩ := dq_lamp d'
    exact ⟨a1, _, 1, .int l.2, rfl, rfl, Same.seqT hid_same ga, atI_nat (j := 1) rfl, q _ _ ⟨P'.src, P'.zz, P'.zo⟩ (k1.trans k') ⟨l.2, rfl, l1, l2⟩⟩⟩⟩
end
theorem due_sm {l : Lamp} {rs : List Run} {qs : List Stt} (hs : 1 ≤ l.2 ∧ l.2 ≤ 1000000000) (hr : RunsUp (-1) rs) (ok : ∀ r ∈ rs, RunOk r) (h : Rel60 ((spreadAll rs).foldl (stepL l.1 l.2) []) qs) : Sm 2103 2 (dueD qs.reverse) := by
  unfold dueD
  by_cases g : 60 < qs.reverse.length
  · rw [if_pos g]
    exact (Sm.list (c := 1) (n := 13) (k := 0) (ds := [.int 60]) (fun d hd => by rw [List.mem_singleton.mp hd]; exact Sm.int (by decide)) (Nat.le_refl _)).wide (by decide) (by decide)
  · rw [if_neg g]
    rw [List.length_reverse] at g
    have e := (told_due hs.1 hr h).2 (by omega)
    rw [e]
    refine logF_sm ⟨by omega, hs.2⟩ (B := 1000000000) (Int.le_refl _) (spread_bd ok) ?_
    rw [← e, List.length_reverse]
    omega
end Lg

namespace Lg
open PySem PySem.Spec PyProof.Rows L2 Lm
/-! ### minutes put into runs -/
def grpS : List Run → Int → List Run
  | [], m => [(m, 1, 1)]
  | r :: rs, m => if r.2.2 = 1 ∨ m = r.1 + r.2.1 * r.2.2 then (r.1, (m - r.1).fdiv r.2.2, r.2.2 + 1) :: rs else (m, 1, 1) :: r :: rs
def grpF (ms : List Int) : List Run := (ms.foldl grpS []).reverse
theorem grpS_len (rs : List Run) (m : Int) : (grpS rs m).length ≤ rs.length + 1 := by
  cases rs with
  | nil => simp [grpS]
  | cons r rs => simp only [grpS]; split <;> simp
theorem grp_fold_len : ∀ (ms : List Int) (rs : List Run), (ms.foldl grpS rs).length ≤ rs.length + ms.length
  | [], _ => Nat.le_refl _
  | m :: ms, rs => by
    have a := grp_fold_len ms (grpS rs m)
    have b := grpS_len rs m
    rw [List.foldl_cons, List.length_cons]
    omega
/-- what stands in the last run: how many, how far -/
def GrpOk (rs : List Run) : Prop := ∀ r ∈ rs, 1 ≤ r.2.2 ∧ r.2.2 ≤ 1000000
/-- the value of a wrong minute -/
def minGo : List PyData → Int → Option PyData
  | [], _ => none
  | .int m :: r, b => if 0 ≤ m ∧ m ≤ 1000000000 ∧ b < m then minGo r m else some (.int m)
  | d :: _, _ => some d
def minErr : PyData → Option PyData
  | .tuple ds => minGo ds (-1)
  | d => some d
theorem minGo_ints : ∀ {ds : List PyData} {b : Int}, minGo ds b = none → ∃ ms : List Int, ds = ms.map .int ∧ Asc b ms ∧ ∀ m ∈ ms, 0 ≤ m ∧ m ≤ 1000000000
  | [], b, _ => ⟨[], rfl, trivial, fun m h => nomatch h⟩
  | .int m :: r, b, h => by
    simp only [minGo] at h
    split at h
    · rename_i g
      obtain ⟨ms, rfl, h1, h2⟩ := minGo_ints h
      refine ⟨m :: ms, rfl, ⟨g.2.2, h1⟩, fun x hx => ?_⟩
      rcases List.mem_cons.mp hx with e | e
      · rw [e]; exact ⟨g.1, g.2.1⟩
      · exact h2 x e
    · cases h
  | .none :: _, _, h => by simp [minGo] at h
  | .bool _ :: _, _, h => by simp [minGo] at h
  | .str _ :: _, _, h => by simp [minGo] at h
  | .list _ :: _, _, h => by simp [minGo] at h
  | .tuple _ :: _, _, h => by simp [minGo] at h
  | .dict _ :: _, _, h => by simp [minGo] at h
/-! ### a def that may raise an error with any value -/
def sp_fe (K : PySem.W.Frag) {α : Type} (A : α → List PyData) (P : α → Prop) (F : α → PyData) (B : α → Option (Addr × Str × PyData)) : Sp := fun vs H Q E => ∃ (N : Addr → Prop) (x : α), Occ N H ∧ Dqs K (cut N H) vs (A x) ∧ P x ∧
  (B x = none → ∀ r H', Same H H' → Dq K (cut N H') r (F x) → Q r H') ∧ (∀ C f d, B x = some (C, f, d) → ∀ (dd : Addr) (v : V) (H' : Hp), Same H H' → H dd = none → H' dd = some (.xd [(f, v)]) → Dq K (cut N H') v d → E (.ref C) (some dd) H')
def isMin (d : PyData) : Bool := inW 0 1000000000 d
def sp_isMin (K : PySem.W.Frag) : Sp := fun vs H Q _ => ∃ v d, vs = [v] ∧ Dq K H v d ∧ Q (.bl (isMin d)) H
def sp_foll (K : PySem.W.Frag) : Sp := sp_f K (fun x : Int × Run => [.int x.1, runD x.2]) (fun x => 1 ≤ x.2.2.2 ∧ x.2.2.2 ≤ 10000000000 ∧ 0 ≤ x.2.2.1 ∧ x.2.2.1 ≤ 10000000000) (fun x => .bool (decide (x.2.2.2 = 1) || decide (x.1 = x.2.1 + x.2.2.1 * x.2.2.2)))
def sp_runsOf (K : PySem.W.Frag) : Sp := sp_f K (fun ms : List Int => [.list ((ones ms).map runD)]) (fun ms => ms.length ≤ 900 ∧ Asc (-1) ms ∧ ∀ m ∈ ms, 0 ≤ m ∧ m ≤ 1000000000) (fun ms => runsD (grpF ms))
def GInv (ms : List Int) (i : Nat) (qs : List Run) : Prop := ∀ r ∈ qs, r.1 ∈ ms.take i ∧ (0 ≤ r.2.1 ∧ r.2.1 ≤ 1000000000) ∧ 1 ≤ r.2.2 ∧ r.2.2 ≤ (i : Int)
theorem asc_lt {ms : List Int} {i : Nat} {m b x : Int} (ha : Asc b ms) (hm : ms[i]? = some m) (hx : x ∈ ms.take i) : x < m := by
  have h := (asc_app (xs := ms.take i) (ys := ms.drop i) (by rw [List.take_append_drop]; exact ha)).2.1
  exact h x hx m (by rw [drop_get hm]; exact List.mem_cons_self)
theorem ginv_step {ms : List Int} {i : Nat} {m : Int} {qs : List Run} (ha : Asc (-1) ms) (hb : ∀ m ∈ ms, 0 ≤ m ∧ m ≤ 1000000000) (hm : ms[i]? = some m) (h : GInv ms i qs) : GInv ms (i + 1) (grpS qs m) := by
  have tk : ms.take (i + 1) = ms.take i ++ [m] := take_snoc hm
  have wide : ∀ r : Run, (r.1 ∈ ms.take i ∧ (0 ≤ r.2.1 ∧ r.2.1 ≤ 1000000000) ∧ 1 ≤ r.2.2 ∧ r.2.2 ≤ (i : Int)) → (r.1 ∈ ms.take (i + 1) ∧ (0 ≤ r.2.1 ∧ r.2.1 ≤ 1000000000) ∧ 1 ≤ r.2.2 ∧ r.2.2 ≤ ((i + 1 : Nat) : Int)) := fun r ⟨h1, h2, h3, h4⟩ => ⟨by rw [tk]; exact List.mem_append_left _ h1, h2, h3, by omega⟩
  have one : (m ∈ ms.take (i + 1) ∧ (0 ≤ (1 : Int) ∧ (1 : Int) ≤ 1000000000) ∧ (1 : Int) ≤ 1 ∧ (1 : Int) ≤ ((i + 1 : Nat) : Int)) := ⟨by rw [tk]; simp, ⟨by decide, by decide⟩, Int.le_refl _, by omega⟩
  cases qs with
  | nil =>
    intro r hr
    rw [List.mem_singleton.mp hr]
    exact one
  | cons q rs =>
    have hq := h q List.mem_cons_self
    have hr : ∀ r ∈ rs, _ := fun r hr => wide r (h r (List.mem_cons_of_mem _ hr))
    simp only [grpS]
    split
    · intro r hz
      rcases List.mem_cons.mp hz with e | e
      · obtain ⟨q1, q2, q3, q4⟩ := hq
        have lt := asc_lt ha hm q1
        have m1 := hb m (List.mem_of_getElem? hm)
        have b1 := hb q.1 (List.mem_of_mem_take q1)
        rw [e]
        refine ⟨(wide q ⟨q1, q2, q3, q4⟩).1, ?_, by show 1 ≤ q.2.2 + 1; omega, by show q.2.2 + 1 ≤ _; omega⟩
        show 0 ≤ (m - q.1).fdiv q.2.2 ∧ (m - q.1).fdiv q.2.2 ≤ 1000000000
        rw [Int.fdiv_eq_ediv_of_nonneg _ (by omega)]
        have d0 : 0 ≤ (m - q.1) / q.2.2 := Int.ediv_nonneg (by omega) (by omega)
        have d1 : (m - q.1) / q.2.2 ≤ m - q.1 := Int.ediv_le_self _ (by omega)
        omega
      · exact hr r e
    · intro r hz
      rcases List.mem_cons.mp hz with e | e
      · rw [e]; exact one
      · rcases List.mem_cons.mp e with e | e
        · rw [e]; exact wide q hq
        · exact hr r e
end Lg

namespace Lg
open PySem PySem.Spec PyProof.Rows L2 Lm
def sumC (rs : List Run) : Int := (rs.map fun r => r.2.2).sum
def sp_count (K : PySem.W.Frag) : Sp := sp_f K (fun rs : List Run => [runsD rs]) (fun rs => rs.length ≤ 900) (fun rs => .int (sumC rs))
def okD : Option Int → PyData
  | some m => .int m
  | none => .none
def erD (C : Addr) (f : Str) (d : PyData) : Option Int → Option (Addr × Str × PyData)
  | some _ => none
  | none => some (C, f, d)
/-- the motion with this number -/
def motAt : List Run → Int → Option Int
  | [], _ => none
  | r :: rs, i => if i < r.2.2 then some (r.1 + r.2.1 * i) else motAt rs (i - r.2.2)
def motAtD (rs : List Run) : PyData → Option Int
  | .int i => if 0 ≤ i then motAt rs i else none
  | _ => none
def sp_motAt (K : PySem.W.Frag) (C : Addr) : Sp := sp_fe K (fun x : List Run × PyData => [runsD x.1, x.2]) (fun x => x.1.length ≤ 900 ∧ ∀ r ∈ x.1, RunOk r) (fun x => okD (motAtD x.1 x.2)) (fun x => erD C "index" x.2 (motAtD x.1 x.2))
/-- how many motions stand before a minute -/
def befs (rs : List Run) (m : Int) : List Int := (rs.filter fun r => decide (r.1 < m)).map fun r => if rup (m - r.1) r.2.1 < r.2.2 then rup (m - r.1) r.2.1 else r.2.2
def befD (rs : List Run) : PyData → Option Int
  | .int m => if 0 ≤ m ∧ m ≤ 1000000000 then some (befs rs m).sum else none
  | _ => none
def sp_before (K : PySem.W.Frag) (C : Addr) : Sp := sp_fe K (fun x : List Run × PyData => [runsD x.1, x.2]) (fun x => x.1.length ≤ 900 ∧ ∀ r ∈ x.1, RunOk r) (fun x => okD (befD x.1 x.2)) (fun x => erD C "value" x.2 (befD x.1 x.2))
theorem befs_len (rs : List Run) (m : Int) : (befs rs m).length ≤ rs.length := by
  unfold befs
  rw [List.length_map]
  exact List.length_filter_le _ _
theorem befs_take {rs : List Run} {m : Int} {i : Nat} {r : Run} (h : rs[i]? = some r) : befs (rs.take (i + 1)) m = befs (rs.take i) m ++ (if r.1 < m then [if rup (m - r.1) r.2.1 < r.2.2 then rup (m - r.1) r.2.1 else r.2.2] else []) := by
  unfold befs
  rw [take_snoc h, List.filter_append, List.map_append]
  congr 1
  by_cases g : r.1 < m
  · rw [if_pos g, List.filter_cons_of_pos (by rw [decide_eq_true g])]
    rfl
  · rw [if_neg g, List.filter_cons_of_neg (by rw [decide_eq_false g]; exact fun z => nomatch z)]
    rfl
/-- what motions_of gives, and its errors -/
def grpOf : PyData → List Run
  | .tuple ds => grpF (ds.filterMap fun d => match d with | .int m => some m | _ => none)
  | _ => []
theorem ints_back (ms : List Int) : (ms.map PyData.int).filterMap (fun d => match d with | .int m => some m | _ => none) = ms := by
  induction ms with
  | nil => rfl
  | cons m r ih => rw [List.map_cons, List.filterMap_cons]; simp only [ih]
theorem grpOf_ints (ms : List Int) : grpOf (.tuple (ms.map .int)) = grpF ms := by
  show grpF ((ms.map PyData.int).filterMap _) = _
  rw [ints_back]
def motsErr (CM CL : Addr) (d : PyData) : Option (Addr × Str × PyData) := match minErr d with
  | some e => some (CM, "value", e)
  | none => if 360 < (grpOf d).length then some (CL, "limit", .int 360) else none
def sp_motsOf (K : PySem.W.Frag) (CM CL : Addr) : Sp := sp_fe K (fun d : PyData => [d]) (fun d => match d with | .tuple ds => ds.length ≤ 800 | _ => True) (fun d => runsD (grpOf d)) (motsErr CM CL)
end Lg

namespace Lg
open PySem PySem.Spec PyProof.Rows L2 Lm
def sp_oddP (K : PySem.W.Frag) : Sp := fun vs H Q _ => ∃ (Z : Hp) (p dl al : Addr), vs = [.ref p] ∧ Iv (pot p dl al) Z 0 H ∧ ∀ (x : V) (H' : Hp), Iv (pot p dl al) Z 0 H' → Kp (pot p dl al) Z H H' → DR K (Sm 60 3) x (hid (pot p dl al) Z H') → Q x H'
theorem odd_hid {p dl al : Addr} {Z H : Hp} {o : HO} (hz : Z al = none) : Lm.hid (upd Z al o) p dl H = hid (pot p dl al) Z H := by
  funext b
  by_cases h : Off (pot p dl al) Z b
  · have n1 : b ≠ p := fun e => h.1 (.inl e)
    have n2 : b ≠ dl := fun e => h.1 (.inr (.inl e))
    have n3 : b ≠ al := fun e => h.1 (.inr (.inr e))
    rw [hid_at h, Lm.hid_at n1 ⟨n2, by rw [upd_ne n3]; exact h.2⟩]
  · have e1 : hid (pot p dl al) Z H b = none := by
      cases e : hid (pot p dl al) Z H b with
      | none => rfl
      | some o => exact absurd (hid_some e) h
    rw [e1]
    cases e : Lm.hid (upd Z al o) p dl H b with
    | none => rfl
    | some o' =>
      exfalso
      have n := Lm.hid_some e
      apply h
      have n3 : b ≠ al := fun z => by have := n.2.2; rw [z, upd_same] at this; cases this
      refine ⟨fun z => ?_, ?_⟩
      · rcases z with z | z | z
        · exact n.1 z
        · exact n.2.1 z
        · exact n3 z
      · have := n.2.2
        rw [upd_ne n3] at this
        exact this
theorem odd_imp (K : PySem.W.Frag) (vs : List V) (H : Hp) (Q : VK) (E : XK) (h : sp_oddP K vs H Q E) : Lm.sp_odd K vs H Q E := by
  obtain ⟨Z, p, dl, al, e, P, q⟩ := h
  have PA := iv_pot P
  obtain ⟨ns, hal, hne, hlen⟩ := PA.li
  have za : Z al = none := P.zo al (.inr (.inr rfl))
  have npa : p ≠ al := PA.pa.symm
  refine ⟨upd Z al (.lst (ns.map V.int)), p, dl, al, e, ⟨PA.ob, PA.de, PA.li, PA.ne, fun b o z => ?_, ?_, ?_⟩, fun x H' P' k' r => ?_⟩
  · by_cases eb : b = al
    · rw [eb, upd_same] at z
      rw [eb, hal]; exact z
    · rw [upd_ne eb] at z
      exact P.zz b o z
  · rw [upd_ne npa]; exact P.zo p (.inl rfl)
  · rw [upd_ne PA.ne.symm]; exact P.zo dl (.inr (.inl rfl))
  · have zz' : Same Z H' := fun b o z => P'.zz b o (by rw [upd_ne (ne_of_none z za)]; exact z)
    have P2 : PotAt Z H' p dl al := ⟨P'.ob, P'.de, P'.li, P'.ne, zz', P.zo p (.inl rfl), P.zo dl (.inr (.inl rfl))⟩
    refine q x H' (pot_iv P2 za) ?_ (by rw [odd_hid za] at r; exact r)
    unfold Lm.Kp at k'
    rw [odd_hid za, odd_hid za] at k'
    exact k'
end Lg

namespace Lg
open PySem PySem.Spec PyProof.Rows L2 Lm
def dueGo : Option PyData → List Run → PyData
  | some e, _ => .list [.str "minute", e]
  | none, rs => if 360 < rs.length then .list [.str "large", .int 360] else runsD rs
def dueOf (d : PyData) : PyData := dueGo (minErr d) (grpOf d)
def told1 (w : Str) (d : PyData) : Option Int → PyData
  | some m => .int m
  | none => .list [.str w, d]
def lenOk : PyData → Prop
  | .tuple ds => ds.length ≤ 800
  | _ => True
def sp_told6 (K : PySem.W.Frag) : Sp := fun vs H Q _ => ∃ (N : Addr → Prop) (way : Int) (v1 v2 : V), vs = [.int way, v1, v2] ∧ Occ N H ∧
  ((way = 0 ∧ ∃ d, Dq K (cut N H) v1 d ∧ lenOk d ∧ ∀ r H', Same H H' → Dq K (cut N H') r (dueOf d) → Q r H') ∨
   (way = 1 ∧ ∃ rs d, Dq K (cut N H) v1 (runsD rs) ∧ Dq K (cut N H) v2 d ∧ rs.length ≤ 900 ∧ (∀ r ∈ rs, RunOk r) ∧ ∀ r H', Same H H' → Dq K (cut N H') r (told1 "index" d (motAtD rs d)) → Q r H') ∨
   (way = 2 ∧ ∃ rs d, Dq K (cut N H) v1 (runsD rs) ∧ Dq K (cut N H) v2 d ∧ rs.length ≤ 900 ∧ (∀ r ∈ rs, RunOk r) ∧ ∀ r H', Same H H' → Dq K (cut N H') r (told1 "minute" d (befD rs d)) → Q r H'))
def sp_due6 (K : PySem.W.Frag) : Sp := sp_f K (fun d : PyData => [d]) lenOk dueOf
theorem op_eqDK {X : Cx} {K : PySem.W.Frag} (h : X.K = K) (hu : X.A.units + 64 < cLine) : OpR X (compareOp .Eq) (rEqD K) := h ▸ op_eqD hu
end Lg

namespace Lg
open PySem PySem.Spec PyProof.Rows L2 Lm
/-- the run at hand can take no more -/
def Shut (qs : List Run) (m : Int) : Prop := grpS qs m = (m, 1, 1) :: qs
theorem grp_block {qs : List Run} {r0 d : Int} (hd : 1 ≤ d) (hs : Shut qs r0) : ∀ s : Nat, (ap r0 d (s + 1)).foldl grpS qs = (r0, if 1 < s + 1 then d else 1, ((s + 1 : Nat) : Int)) :: qs
  | 0 => by
    show grpS qs (r0 + d * ((0 : Nat) : Int)) = _
    rw [show r0 + d * ((0 : Nat) : Int) = r0 by simp, hs]
    rfl
  | s + 1 => by
    rw [ap_succ, List.foldl_append, grp_block hd hs s]
    rw [List.foldl_cons, List.foldl_nil]
    simp only [grpS]
    have pos : (0 : Int) < ((s + 1 : Nat) : Int) := by omega
    have e : (r0 + d * ((s + 1 : Nat) : Int) - r0).fdiv ((s + 1 : Nat) : Int) = d := by
      rw [show r0 + d * ((s + 1 : Nat) : Int) - r0 = d * ((s + 1 : Nat) : Int) by omega, Int.fdiv_eq_ediv_of_nonneg _ (by omega)]
      exact Int.mul_ediv_cancel _ (by omega)
    have c : ((s + 1 : Nat) : Int) = 1 ∨ r0 + d * ((s + 1 : Nat) : Int) = r0 + (if 1 < s + 1 then d else 1) * ((s + 1 : Nat) : Int) := by
      by_cases h : 1 < s + 1
      · rw [if_pos h]; exact .inr rfl
      · exact .inl (by omega)
    rw [if_pos c, e, if_pos (by omega)]
    rfl
theorem grp_take {qs : List Run} {rem : List Int} {r0 d : Int} {s : Nat} (hd : 1 ≤ d) (hsh : Shut qs r0) (s1 : 1 ≤ s) (s2 : s ≤ rem.length) (h : ∀ j : Nat, j < s → rem[j]? = some (r0 + d * (j : Int))) : rem.foldl grpS qs = (rem.drop s).foldl grpS ((r0, if 1 < s then d else 1, (s : Int)) :: qs) := by
  obtain ⟨n, rfl⟩ : ∃ n, s = n + 1 := ⟨s - 1, by omega⟩
  have e := ap_take s2 h
  conv => lhs; rw [e]
  rw [List.foldl_append, grp_block hd hsh n]
theorem shut_next {qs : List Run} {r0 d m : Int} {s : Nat} (hs : 2 ≤ s) (hm : m ≠ r0 + d * (s : Int)) : Shut ((r0, if 1 < s then d else 1, (s : Int)) :: qs) m := by
  unfold Shut
  simp only [grpS]
  rw [if_neg]
  rw [if_pos (by omega)]
  intro z
  rcases z with z | z
  · omega
  · exact hm z
def spreadL (n : Nat) (sh : Int) : List Int := (List.range n).map fun (k : Nat) => 7 * (k : Int).fdiv 2 + (k : Int).fmod 2 + sh * (k : Int) * (k : Int)
theorem spreadL_succ (n : Nat) (sh : Int) : spreadL (n + 1) sh = spreadL n sh ++ [7 * (n : Int).fdiv 2 + (n : Int).fmod 2 + sh * (n : Int) * (n : Int)] := by unfold spreadL; rw [List.range_succ, List.map_append]; rfl
def sp_spread (K : PySem.W.Frag) : Sp := sp_f K (fun x : Int × Int => [.int x.1, .int x.2]) (fun x => (0 ≤ x.1 ∧ x.1 ≤ 800) ∧ 0 ≤ x.2 ∧ x.2 ≤ 10) (fun x => .tuple ((spreadL x.1.toNat x.2).map .int))
def sp_numR (K : PySem.W.Frag) : Sp := fun vs H Q _ => ∃ (Z : Hp) (p dl al : Addr) (x : V) (rs : List Run), vs = [.ref p, x] ∧ Iv (pot p dl al) Z 0 H ∧ Dq K (hid (pot p dl al) Z H) x (runsD rs) ∧ RunsUp (-1) rs ∧ rs.length ≤ 60 ∧ (∀ r ∈ rs, RunOk r) ∧
  ∀ (H' : Hp), Iv (pot p dl al) Z 0 H' → Kp (pot p dl al) Z H H' → Q (.bl true) H'
theorem ev_oddP {K : PySem.W.Frag} {Z H0 : Hp} {p dl al : Addr} {σ : L2.St} {i : Nat} (e : σ[i]? = some (some (.ref p))) : Ev (pot p dl al) Z 0 H0 σ (tCall (sp_oddP K) [] E0 (tCons (tVar i) tNil)) (DR K (Sm 60 3)) := fun H b Q P k q => ⟨_, e, Z, p, dl, al, rfl, P.less (Nat.zero_le _), fun x H' P' k' r => q x H' ⟨P'.src, P'.zz, P'.zo⟩ k' r⟩
end Lg

namespace Lg
open PySem PySem.Spec PyProof.Rows L2 Lm
theorem sumC_cons (r : Run) (rs : List Run) : sumC (r :: rs) = r.2.2 + sumC rs := by unfold sumC; rw [List.map_cons, List.sum_cons]
theorem sumC_le : ∀ {rs : List Run} {b : Int}, RunsUp b rs → sumC rs ≤ endL b rs - b ∧ 0 ≤ sumC rs
  | [], b, _ => by
    show (0 : Int) ≤ b - b ∧ (0 : Int) ≤ 0
    omega
  | r :: rs, b, ⟨u1, u2, u3, u4⟩ => by
    obtain ⟨i1, i2⟩ := sumC_le u4
    rw [sumC_cons]
    show r.2.2 + sumC rs ≤ endL (lastM r) rs - b ∧ _
    have : r.2.2 - 1 ≤ r.2.1 * (r.2.2 - 1) := by
      have := Int.mul_le_mul_of_nonneg_right u2 (show 0 ≤ r.2.2 - 1 by omega)
      omega
    unfold lastM at i1 ⊢
    omega
theorem endL_le : ∀ {rs : List Run} {b : Int}, b ≤ 1000000000 → (∀ r ∈ rs, RunOk r) → endL b rs ≤ 1000000000
  | [], b, h, _ => h
  | r :: rs, b, _, ok => show endL (lastM r) rs ≤ 1000000000 from endL_le (ok r List.mem_cons_self).l fun x hx => ok x (List.mem_cons_of_mem _ hx)
theorem motAt_none : ∀ {rs : List Run} {i : Int}, (∀ r ∈ rs, RunOk r) → sumC rs ≤ i → motAt rs i = none
  | [], _, _, _ => rfl
  | r :: rs, i, ok, h => by
    rw [sumC_cons] at h
    have nn : 0 ≤ sumC rs := by
      clear h
      have : ∀ {qs : List Run}, (∀ r ∈ qs, RunOk r) → 0 ≤ sumC qs := fun {qs} => by
        induction qs with
        | nil => exact fun _ => Int.le_refl 0
        | cons q t ih =>
          intro o
          have a := ih fun x hx => o x (List.mem_cons_of_mem _ hx)
          have b := (o q List.mem_cons_self).c
          rw [sumC_cons]; omega
      exact this fun x hx => ok x (List.mem_cons_of_mem _ hx)
    simp only [motAt]
    rw [if_neg (by omega)]
    exact motAt_none (fun x hx => ok x (List.mem_cons_of_mem _ hx)) (by omega)
/-- the law's own count of a run -/
def befG (m : Int) (r : Run) : Int := if (if -((r.1 - m).fdiv r.2.1) < r.2.2 then -((r.1 - m).fdiv r.2.1) else r.2.2) > 0 then (if -((r.1 - m).fdiv r.2.1) < r.2.2 then -((r.1 - m).fdiv r.2.1) else r.2.2) else 0
theorem befG_eq {m : Int} {r : Run} (ok : RunOk r) : befG m r = if r.1 < m then (if rup (m - r.1) r.2.1 < r.2.2 then rup (m - r.1) r.2.1 else r.2.2) else 0 := by
  have s := ok.s
  have c := ok.c
  unfold befG
  obtain ⟨n1, n2⟩ := neg_fdiv (x := m - r.1) (b := r.2.1) s.1
  rw [show -(m - r.1) = r.1 - m by omega] at n1 n2
  by_cases h : r.1 < m
  · have e := rup_uniq (by omega) s.1 n1 n2
    rw [if_pos h, ← e]
    have p := rup_one (n := m - r.1) (b := r.2.1) (by omega) s.1
    rw [if_pos (by split <;> omega)]
  · rw [if_neg h]
    have np : -((r.1 - m).fdiv r.2.1) ≤ 0 := by
      apply Classical.byContradiction
      intro z
      have := Int.mul_le_mul_of_nonneg_left (show 1 ≤ -((r.1 - m).fdiv r.2.1) by omega) (show 0 ≤ r.2.1 by omega)
      rw [Int.mul_one] at this
      omega
    rw [if_neg (by split <;> omega)]
theorem befs_sum {m : Int} : ∀ {rs : List Run}, (∀ r ∈ rs, RunOk r) → (rs.map (befG m)).sum = (befs rs m).sum
  | [], _ => rfl
  | r :: rs, ok => by
    have ih := befs_sum (m := m) (rs := rs) fun x hx => ok x (List.mem_cons_of_mem _ hx)
    rw [List.map_cons, List.sum_cons, ih, befG_eq (ok r List.mem_cons_self)]
    unfold befs
    by_cases h : r.1 < m
    · rw [if_pos h, List.filter_cons_of_pos (by rw [decide_eq_true h]), List.map_cons, List.sum_cons]
    · rw [if_neg h, List.filter_cons_of_neg (by rw [decide_eq_false h]; exact fun z => nomatch z), Int.zero_add]
theorem motAt_bd : ∀ {rs : List Run} {i m : Int}, (∀ r ∈ rs, RunOk r) → 0 ≤ i → motAt rs i = some m → 0 ≤ m ∧ m ≤ 1000000000
  | [], _, _, _, _, h => by cases h
  | r :: rs, i, m, ok, h0, h => by
    have o := ok r List.mem_cons_self
    obtain ⟨⟨f0, f1⟩, ⟨s0, s1⟩, ⟨c0, c1⟩, hl⟩ := o
    unfold lastM at hl
    simp only [motAt] at h
    by_cases g : i < r.2.2
    · rw [if_pos g] at h
      have e := Option.some.inj h
      have h1 : 0 ≤ r.2.1 * i := Int.mul_nonneg (by omega) h0
      have h2 : r.2.1 * i ≤ r.2.1 * (r.2.2 - 1) := Int.mul_le_mul_of_nonneg_left (by omega) (by omega)
      omega
    · rw [if_neg g] at h
      exact motAt_bd (fun x hx => ok x (List.mem_cons_of_mem _ hx)) (by omega) h
theorem befG_bd {m : Int} {r : Run} (ok : RunOk r) : 0 ≤ befG m r ∧ befG m r ≤ r.2.2 := by
  have c := ok.c
  unfold befG
  split <;> split <;> omega
theorem befs_bd {m : Int} : ∀ {rs : List Run}, (∀ r ∈ rs, RunOk r) → 0 ≤ (rs.map (befG m)).sum ∧ (rs.map (befG m)).sum ≤ sumC rs
  | [], _ => ⟨Int.le_refl 0, Int.le_refl 0⟩
  | r :: rs, ok => by
    obtain ⟨i1, i2⟩ := befs_bd (m := m) (rs := rs) fun x hx => ok x (List.mem_cons_of_mem _ hx)
    obtain ⟨b1, b2⟩ := befG_bd (m := m) (ok r List.mem_cons_self)
    rw [List.map_cons, List.sum_cons, sumC_cons]
    omega
def isLs : PyData → Bool | .list _ => true | _ => false
theorem kit_ls (d : PyData) : kitB (tyN d) "list" = some (isLs d) := by cases d <;> simp only [tyN, isLs] <;> decide +kernel
theorem told1_sm {w : Str} {d : PyData} {o : Option Int} (hw : Sm 60 3 (.str w)) (hd : Sm 60 3 d) (ho : ∀ m, o = some m → m.natAbs < 10 ^ 12) : Sm 127 4 (told1 w d o) := by
  cases o with
  | some m => exact (Sm.int (ho m rfl)).wide (by decide) (by decide)
  | none => exact Sm.list (c := 2) (n := 60) (k := 3) (ds := [.str w, d]) (fun x hx => by
      rcases List.mem_cons.mp hx with e | e
      · rw [e]; exact hw
      · rw [List.mem_singleton.mp e]; exact hd) (Nat.le_refl _)
section
variable {K : PySem.W.Frag} {S : Src} {Z H0 : Hp} {σ : L2.St} {te : TE} {n : Nat} {a b : Int}
theorem ev_irD (h : Ev S Z n H0 σ te (IR a b)) (ha : -100000000000 ≤ a := by omega) (hb : b ≤ 100000000000 := by omega) : Ev S Z n H0 σ te (DR K (Sm 60 3)) := h.imp fun v G ⟨i, e, i0, i1⟩ => ⟨.int i, by rw [e]; exact .int _, (Sm.int (by omega)).wide (by decide) (by decide)⟩
theorem ev_blD {c : Bool} : Ev S Z 0 H0 σ (tC (.bl c)) (DR K (Sm 60 3)) := ev_c.imp fun v G e => ⟨.bool c, by rw [e]; exact .bl _, (Sm.bool c).wide (by decide) (by decide)⟩
theorem ev_nonD : Ev S Z 0 H0 σ (tC .non) (DR K (Sm 60 3)) := ev_c.imp fun v G e => ⟨.none, by rw [e]; exact .non, sm_chk (by decide +kernel)⟩
end
end Lg

namespace Lg
open PySem PySem.Spec PyProof.Rows L2 Lm
theorem piled_mem : ∀ {ts : List Str} {t : Str}, t ∈ ts → t.length + 2 ≤ piled ts
  | x :: r, t, h => by
    rw [piled_cons]
    rcases List.mem_cons.mp h with e | e
    · rw [e]; omega
    · have := piled_mem e; omega
theorem piled_len : ∀ (ts : List Str), 2 * ts.length ≤ piled ts
  | [] => Nat.zero_le _
  | x :: r => by
    have := piled_len r
    rw [piled_cons, List.length_cons]
    omega
theorem tupText_ge (ts : List Str) : piled ts ≤ (tupleText ts).length + 2 := Nat.le_trans (piled_le_tupleText ts) (by omega)
theorem shown_mem : ∀ {ds : List PyData} {e : PyData}, e ∈ ds → e.shown ∈ PyData.shownAll ds
  | d :: r, e, h => by
    simp only [PyData.shownAll]
    rcases List.mem_cons.mp h with z | z
    · rw [z]; exact List.mem_cons_self
    · exact List.mem_cons_of_mem _ (shown_mem z)
theorem shown_len : ∀ (ds : List PyData), (PyData.shownAll ds).length = ds.length
  | [] => rfl
  | d :: r => by simp only [PyData.shownAll, List.length_cons, shown_len r]
theorem show_all : ∀ {ds : List PyData} {e : PyData}, PyData.showableAll ds = true → e ∈ ds → e.showable = true
  | d :: r, e, h, m => by
    simp only [PyData.showableAll, Bool.and_eq_true] at h
    rcases List.mem_cons.mp m with z | z
    · rw [z]; exact h.1
    · exact show_all h.2 z
theorem depth_all : ∀ {ds : List PyData} {e : PyData}, e ∈ ds → e.depth ≤ PyData.depthAll ds
  | d :: r, e, m => by
    simp only [PyData.depthAll]
    rcases List.mem_cons.mp m with z | z
    · rw [z]; exact Nat.le_max_left _ _
    · exact Nat.le_trans (depth_all z) (Nat.le_max_right _ _)
theorem item_sm {n k : Nat} {ds : List PyData} {e : PyData} (h : Sm n k (.tuple ds)) (m : e ∈ ds) : Sm n k e := by
  refine ⟨?_, ?_, ?_⟩
  · have := h.sh
    simp only [PyData.showable] at this
    exact show_all this m
  · have := h.dp
    simp only [PyData.depth] at this
    have := depth_all m
    omega
  · have := h.sz
    simp only [PyData.shown] at this
    have a := tupText_ge (PyData.shownAll ds)
    have b := piled_mem (shown_mem m)
    omega
theorem tup_len {n k : Nat} {ds : List PyData} (h : Sm n k (.tuple ds)) : 2 * ds.length ≤ n + 2 := by
  have := h.sz
  simp only [PyData.shown] at this
  have a := tupText_ge (PyData.shownAll ds)
  have b := piled_len (PyData.shownAll ds)
  rw [shown_len] at b
  omega
theorem minGo_mem : ∀ {ds : List PyData} {b : Int} {e : PyData}, minGo ds b = some e → e ∈ ds
  | .int m :: r, b, e, h => by
    simp only [minGo] at h
    split at h
    · exact List.mem_cons_of_mem _ (minGo_mem h)
    · cases h; exact List.mem_cons_self
  | .none :: _, _, _, h => by simp [minGo] at h; rw [← h]; exact List.mem_cons_self
  | .bool _ :: _, _, _, h => by simp [minGo] at h; rw [← h]; exact List.mem_cons_self
  | .str _ :: _, _, _, h => by simp [minGo] at h; rw [← h]; exact List.mem_cons_self
  | .list _ :: _, _, _, h => by simp [minGo] at h; rw [← h]; exact List.mem_cons_self
  | .tuple _ :: _, _, _, h => by simp [minGo] at h; rw [← h]; exact List.mem_cons_self
  | .dict _ :: _, _, _, h => by simp [minGo] at h; rw [← h]; exact List.mem_cons_self
theorem ginv_all {ms : List Int} (ha : Asc (-1) ms) (hb : ∀ m ∈ ms, 0 ≤ m ∧ m ≤ 1000000000) : ∀ i : Nat, i ≤ ms.length → GInv ms i ((ms.take i).foldl grpS [])
  | 0, _ => fun r hr => nomatch hr
  | i + 1, h => by
    have hm : ms[i]? = some (ms[i]'(by omega)) := List.getElem?_eq_getElem (by omega)
    rw [foldl_take grpS [] ms hm]
    exact ginv_step ha hb hm (ginv_all ha hb i (by omega))
theorem due_fine {n k : Nat} {d : PyData} (h : Sm n k d) (hn : n ≤ 100000) (hk : k ≤ 50) (hl : lenOk d) : Fine (dueOf d) := by
  have key : ∃ n' k', Sm n' k' (dueOf d) ∧ n' ≤ 16777216 ∧ k' ≤ 100 := by
    unfold dueOf
    cases he : minErr d with
    | some e =>
      have se : Sm n k e := by
        cases d with
        | tuple ds => exact item_sm h (minGo_mem (show minGo ds (-1) = some e from he))
        | _ => cases he; exact h
      refine ⟨2 * (n + 20 + 2) + 3, k + 1, Sm.list (c := 2) (n := n + 20) (k := k) (ds := [.str "minute", e]) (fun x hx => ?_) (Nat.le_refl _), by omega, by omega⟩
      rcases List.mem_cons.mp hx with z | z
      · rw [z]; exact (show Sm 20 0 (.str "minute") from sm_chk (by decide +kernel)).wide (by omega) (Nat.zero_le _)
      · rw [List.mem_singleton.mp z]; exact se.wide (by omega) (Nat.le_refl _)
    | none =>
      simp only [dueGo]
      split
      · exact ⟨60, 3, sm_chk (by decide +kernel), by decide, by decide⟩
      · rename_i g
        have hds : ∃ ds, d = .tuple ds := by
          cases d with
          | tuple ds => exact ⟨ds, rfl⟩
          | _ => cases he
        obtain ⟨ds, rfl⟩ := hds
        obtain ⟨ms, rfl, ha, hb⟩ := minGo_ints (show minGo ds (-1) = none from he)
        have hl : (ms.map PyData.int).length ≤ 800 := hl
        rw [List.length_map] at hl
        rw [grpOf_ints] at g ⊢
        have gi := ginv_all ha hb ms.length (Nat.le_refl _)
        rw [List.take_length] at gi
        refine ⟨360 * (48 + 2) + 3, 2, Sm.tuple (c := 360) (n := 48) (k := 1) (fun x hx => ?_) (by rw [List.length_map]; omega), by decide, by decide⟩
        obtain ⟨r, hr, rfl⟩ := List.mem_map.mp hx
        have hr' : r ∈ ms.foldl grpS [] := List.mem_reverse.mp hr
        obtain ⟨g1, g2, g3, g4⟩ := gi r hr'
        have b1 := hb _ (List.mem_of_mem_take g1)
        refine Sm.tuple (c := 3) (n := 13) (k := 0) (ds := [.int r.1, .int r.2.1, .int r.2.2]) (fun y hy => ?_) (Nat.le_refl _)
        rcases List.mem_cons.mp hy with e | e
        · rw [e]; exact Sm.int (by omega)
        · rcases List.mem_cons.mp e with e | e
          · rw [e]; exact Sm.int (by omega)
          · rw [List.mem_singleton.mp e]; exact Sm.int (by omega)
  obtain ⟨n', k', s, h1, h2⟩ := key
  exact s.fine h1 h2
def Val (d : PyData) : Prop := Sm 60000 4 d ∧ lenOk d
theorem dr_all {K : PySem.W.Frag} {G : Hp} {φ : PyData → Prop} : ∀ {xs : List V}, (∀ x ∈ xs, DR K φ x G) → ∃ ds, Dqs K G xs ds ∧ ∀ d ∈ ds, φ d
  | [], _ => ⟨[], .nil, fun d h => nomatch h⟩
  | x :: r, h => by
    obtain ⟨d, hd, sd⟩ := h x List.mem_cons_self
    obtain ⟨ds, hds, sds⟩ := dr_all (xs := r) fun y hy => h y (List.mem_cons_of_mem _ hy)
    exact ⟨d :: ds, .cons hd hds, fun e he => by
      rcases List.mem_cons.mp he with z | z
      · rw [z]; exact sd
      · exact sds e z⟩
theorem tp_val {K : PySem.W.Frag} {a c : Nat} {G : Hp} {v : V} (hc : c ≤ 800) (h : TpR K a c (DR K (Sm 60 3)) v G) : DR K Val v G := by
  obtain ⟨l, xs, rfl, g, _, lc, hx⟩ := h
  obtain ⟨ds, hds, sds⟩ := dr_all hx
  have len := hds.len
  refine ⟨.tuple ds, .tup g hds, (Sm.tuple (c := c) (n := 60) (k := 3) sds (by omega)).wide (by omega) (Nat.le_refl _), ?_⟩
  show ds.length ≤ 800
  omega
theorem ls_val {K : PySem.W.Frag} {a c : Nat} {G : Hp} {v : V} (hc : c ≤ 800) (h : LsR a c (DR K (Sm 60 3)) v G) : DR K Val v G := by
  obtain ⟨l, xs, rfl, g, _, lc, hx⟩ := h
  obtain ⟨ds, hds, sds⟩ := dr_all hx
  have len := hds.len
  exact ⟨.list ds, .lst (.inl (.inl g)) hds, (Sm.list (c := c) (n := 60) (k := 3) sds (by omega)).wide (by omega) (Nat.le_refl _), trivial⟩
theorem odd_val {K : PySem.W.Frag} {G : Hp} {v : V} (h : DR K (Sm 60 3) v G) : DR K Val v G := by
  obtain ⟨d, hd, sd⟩ := h
  refine ⟨d, hd, sd.wide (by decide) (by decide), ?_⟩
  cases d with
  | tuple ds =>
    have := tup_len sd
    show ds.length ≤ 800
    omega
  | _ => trivial
/-- minutes as a tuple of small numbers -/
theorem mins_tp {K : PySem.W.Frag} {G : Hp} {v : V} {ms : List Int} (h : Dq K G v (intsT ms)) (hm : MinsP ms) : TpR K 0 60 (DR K (Sm 60 3)) v G := by
  obtain ⟨a, xs, rfl, g, hd⟩ := dq_tup h
  obtain rfl := dqs_ints hd
  refine ⟨a, _, rfl, g, Nat.zero_le _, by rw [List.length_map]; exact hm.2.1, fun x hx => ?_⟩
  obtain ⟨z, hz, rfl⟩ := List.mem_map.mp hx
  have := hm.2.2 z hz
  exact ⟨.int z, .int z, (Sm.int (by omega)).wide (by decide) (by decide)⟩
section
variable {K : PySem.W.Frag} {S : Src} {Z H0 : Hp} {σ : L2.St} {te : TE} {n : Nat} {R : VR}
theorem ev_revT {a b : Nat} (hm : Mo R) (h : Ev S Z n H0 σ te (TpR K a b R)) : Ev S Z n H0 σ (tRevT K te) (TpR K a b R) :=
  fun H bb Q P k q => h H bb _ P k fun x H1 P1 k1 r1 => by
    obtain ⟨l, xs, rfl, g, a1, a2, a3⟩ := r1
    refine ⟨l, xs, rfl, Same.seqT hid_same g, fun t nt => ?_⟩
    obtain ⟨P4, k4, e4⟩ := laid (o := .tup xs.reverse) P1 nt
    exact q _ _ P4 (k1.trans k4) ⟨t, _, rfl, .inl (.inl e4), by rw [List.length_reverse]; exact a1, by rw [List.length_reverse]; exact a2, fun v hv => hm _ _ _ k4 (a3 v (List.mem_reverse.mp hv))⟩
theorem ev_val {a c : Nat} (hc : c ≤ 800) (h : Ev S Z n H0 σ te (TpR K a c (DR K (Sm 60 3)))) : Ev S Z n H0 σ te (DR K Val) := h.imp fun v G r => tp_val hc r
theorem ev_strD {x : Str} (hx : Sm 60 3 (.str x)) : Ev S Z 0 H0 σ (tC (.str x)) (DR K (Sm 60 3)) := ev_c.imp fun v G e => ⟨.str x, by rw [e]; exact .str _, hx⟩
theorem spreadL_bd {n : Nat} {sh : Int} (h0 : 0 ≤ sh) (h1 : sh ≤ 10) (hn : n ≤ 800) : ∀ z ∈ spreadL n sh, 0 ≤ z ∧ z < 100000000 := fun z hz => by
  obtain ⟨k, hk, rfl⟩ := List.mem_map.mp hz
  have hk := List.mem_range.mp hk
  rw [Int.fdiv_eq_ediv_of_nonneg _ (by decide), Int.fmod_eq_emod_of_nonneg _ (by decide)]
  have a1 : sh * (k : Int) ≤ 10 * 800 := Int.mul_le_mul h1 (by omega) (by omega) (by decide)
  have a0 : 0 ≤ sh * (k : Int) := Int.mul_nonneg h0 (by omega)
  have b1 : sh * (k : Int) * (k : Int) ≤ 8000 * 800 := Int.mul_le_mul a1 (by omega) (by omega) (by decide)
  have b0 : 0 ≤ sh * (k : Int) * (k : Int) := Int.mul_nonneg a0 (by omega)
  omega
theorem ev_spread {c sh : Int} (hc : 0 ≤ c) (hc1 : c ≤ 800) (h0 : 0 ≤ sh) (h1 : sh ≤ 10) : Ev S Z 0 H0 σ (tCall (sp_spread K) [] E0 (tCons (tC (.int c)) (tCons (tC (.int sh)) tNil))) (TpR K 0 c.toNat (DR K (Sm 60 3))) := fun H b Q P k q =>
  ⟨NZ S Z, (c, sh), P.occ, .cons (.int _) (.cons (.int _) .nil), ⟨⟨hc, hc1⟩, h0, h1⟩, fun r H' s d => by
    have d : Dq K (cut (NZ S Z) H') r (.tuple ((spreadL c.toNat sh).map .int)) := d
    obtain ⟨a, xs, rfl, g, hd⟩ := dq_tup d
    obtain rfl := dqs_ints hd
    refine q _ _ ((P.less (by omega)).keep s) (Kp.of s) ⟨a, _, rfl, g, Nat.zero_le _, by rw [List.length_map]; unfold spreadL; rw [List.length_map, List.length_range]; exact Nat.le_refl _, fun x hx => ?_⟩
    obtain ⟨z, hz, rfl⟩ := List.mem_map.mp hx
    have := spreadL_bd h0 h1 (by omega) z hz
    exact ⟨.int z, .int z, (Sm.int (by omega)).wide (by decide) (by decide)⟩⟩
theorem ev_zeros : Ev S Z 0 H0 σ (tOp (rRepT K) (tTup (tCons (tC (.int 0)) tNil)) (tC (.int 700))) (TpR K 0 700 (DR K (Sm 60 3))) := fun H b Q P k q =>
  ⟨Nat.le_of_lt (small1000 (Nat.le_add_left 1 999)), fun t nt => ⟨t, 700, [.int 0], rfl, rfl, .inl (.inl upd_same), by simp, by decide, by decide, by decide, fun p np => by
    obtain ⟨P1, k1, e1⟩ := laid (o := .tup [.int 0]) (P.less (c := b) (by omega)) nt
    obtain ⟨P2, k2, e2⟩ := laid (o := .tup (List.replicate (700 : Int).toNat [V.int 0]).flatten) P1 np
    refine q _ _ P2 (k1.trans k2) ⟨p, _, rfl, .inl (.inl e2), Nat.zero_le _, by simp, fun x hx => ?_⟩
    obtain ⟨l, hl, hx⟩ := List.mem_flatten.mp hx
    rw [List.eq_of_mem_replicate hl] at hx
    rw [List.mem_singleton.mp hx]
    exact ⟨.int 0, .int 0, (Sm.int (by decide)).wide (by decide) (by decide)⟩⟩⟩
end
end Lg

namespace Lg
open PySem PySem.Spec PyProof.Rows L2 Lm
def topS (i : Nat) : Stmt := PySem.Challenge.pw_lampstays_k06_motions_numbered.main.body.getD i (.Pass ⟨0, 0, 0, 0⟩)
abbrev s_is_whole : Stmt := topS 3
abbrev n_is_whole : List Str := ["value"]
theorem sc_is_whole : FnScope n_is_whole ["value"] (defScope s_is_whole) := ⟨rfl, rfl, rfl, by decide +kernel, rfl, by decide +kernel, by decide +kernel⟩
abbrev s_is_minute : Stmt := topS 4
abbrev n_is_minute : List Str := ["value"]
theorem sc_is_minute : FnScope n_is_minute ["value"] (defScope s_is_minute) := ⟨rfl, rfl, rfl, by decide +kernel, rfl, by decide +kernel, by decide +kernel⟩
abbrev s_rounded_up : Stmt := topS 15
abbrev n_rounded_up : List Str := ["number", "by"]
theorem sc_rounded_up : FnScope n_rounded_up ["number", "by"] (defScope s_rounded_up) := ⟨rfl, rfl, rfl, by decide +kernel, rfl, by decide +kernel, by decide +kernel⟩
abbrev s_at_most : Stmt := topS 16
abbrev n_at_most : List Str := ["limit", "parts"]
theorem sc_at_most : FnScope n_at_most ["limit", "parts"] (defScope s_at_most) := ⟨rfl, rfl, rfl, by decide +kernel, rfl, by decide +kernel, by decide +kernel⟩
abbrev s_motions_of : Stmt := topS 17
abbrev n_motions_of : List Str := ["value", "before", "item", "minute"]
theorem sc_motions_of : FnScope n_motions_of ["value"] (defScope s_motions_of) := ⟨rfl, rfl, rfl, by decide +kernel, rfl, by decide +kernel, by decide +kernel⟩
abbrev s_runs_of : Stmt := topS 18
abbrev n_runs_of : List Str := ["pieces", "runs", "first", "step", "count", "taken", "begin", "_", "many", "apart", "left"]
theorem sc_runs_of : FnScope n_runs_of ["pieces"] (defScope s_runs_of) := ⟨rfl, rfl, rfl, by decide +kernel, rfl, by decide +kernel, by decide +kernel⟩
abbrev s_follows : Stmt := topS 19
abbrev n_follows : List Str := ["minute", "run", "first", "step", "count"]
theorem sc_follows : FnScope n_follows ["minute", "run"] (defScope s_follows) := ⟨rfl, rfl, rfl, by decide +kernel, rfl, by decide +kernel, by decide +kernel⟩
abbrev s_count_motions : Stmt := topS 20
abbrev n_count_motions : List Str := ["motions", "run"]
theorem sc_count_motions : FnScope n_count_motions ["motions"] (defScope s_count_motions) := ⟨rfl, rfl, rfl, by decide +kernel, rfl, by decide +kernel, by decide +kernel⟩
abbrev s_motion_at : Stmt := topS 21
abbrev n_motion_at : List Str := ["motions", "index", "before", "first", "step", "count"]
theorem sc_motion_at : FnScope n_motion_at ["motions", "index"] (defScope s_motion_at) := ⟨rfl, rfl, rfl, by decide +kernel, rfl, by decide +kernel, by decide +kernel⟩
abbrev s_motions_before : Stmt := topS 22
abbrev n_motions_before : List Str := ["motions", "minute", "first", "step", "count"]
theorem sc_motions_before : FnScope n_motions_before ["motions", "minute"] (defScope s_motions_before) := ⟨rfl, rfl, rfl, by decide +kernel, rfl, by decide +kernel, by decide +kernel⟩
abbrev s_l_opened : Stmt := topS 24
abbrev n_l_opened : List Str := ["script", "cell", "cells"]
theorem sc_l_opened : FnScope n_l_opened ["script"] (defScope s_l_opened) := ⟨rfl, rfl, rfl, by decide +kernel, rfl, by decide +kernel, by decide +kernel⟩
abbrev s_l_draw : Stmt := topS 25
abbrev n_l_draw : List Str := ["pot", "many", "rest", "times", "cells", "seed"]
theorem sc_l_draw : FnScope n_l_draw ["pot", "many"] (defScope s_l_draw) := ⟨rfl, rfl, rfl, by decide +kernel, rfl, by decide +kernel, by decide +kernel⟩
abbrev s_l_one : Stmt := topS 26
abbrev n_l_one : List Str := ["pot", "items"]
theorem sc_l_one : FnScope n_l_one ["pot", "items"] (defScope s_l_one) := ⟨rfl, rfl, rfl, by decide +kernel, rfl, by decide +kernel, by decide +kernel⟩
abbrev s_l_minutes : Stmt := topS 27
abbrev n_l_minutes : List Str := ["pot", "upto", "found", "here", "k", "near"]
theorem sc_l_minutes : FnScope n_l_minutes ["pot", "upto"] (defScope s_l_minutes) := ⟨rfl, rfl, rfl, by decide +kernel, rfl, by decide +kernel, by decide +kernel⟩
abbrev s_l_far_runs : Stmt := topS 28
abbrev n_l_far_runs : List Str := ["pot", "upto", "found", "here", "most", "k", "step", "count", "pause"]
theorem sc_l_far_runs : FnScope n_l_far_runs ["pot", "upto"] (defScope s_l_far_runs) := ⟨rfl, rfl, rfl, by decide +kernel, rfl, by decide +kernel, by decide +kernel⟩
abbrev s_l_odd : Stmt := topS 29
abbrev n_l_odd : List Str := ["pot", "items"]
theorem sc_l_odd : FnScope n_l_odd ["pot"] (defScope s_l_odd) := ⟨rfl, rfl, rfl, by decide +kernel, rfl, by decide +kernel, by decide +kernel⟩
abbrev s_l_whole : Stmt := topS 30
abbrev n_l_whole : List Str := ["value", "low", "high"]
theorem sc_l_whole : FnScope n_l_whole ["value", "low", "high"] (defScope s_l_whole) := ⟨rfl, rfl, rfl, by decide +kernel, rfl, by decide +kernel, by decide +kernel⟩
abbrev s_l_told : Stmt := topS 31
abbrev n_l_told : List Str := ["way", "one", "other", "found", "error", "kinds", "alone"]
theorem sc_l_told : FnScope n_l_told ["way", "one", "other"] (defScope s_l_told) := ⟨rfl, rfl, rfl, by decide +kernel, rfl, by decide +kernel, by decide +kernel⟩
abbrev s_l_due : Stmt := topS 32
abbrev n_l_due : List Str := ["value", "k", "minute", "found", "rest", "size"]
theorem sc_l_due : FnScope n_l_due ["value"] (defScope s_l_due) := ⟨rfl, rfl, rfl, by decide +kernel, rfl, by decide +kernel, by decide +kernel⟩
abbrev s_l_spread_out : Stmt := topS 33
abbrev n_l_spread_out : List Str := ["count", "shift", "k"]
theorem sc_l_spread_out : FnScope n_l_spread_out ["count", "shift"] (defScope s_l_spread_out) := ⟨rfl, rfl, rfl, by decide +kernel, rfl, by decide +kernel, by decide +kernel⟩
abbrev s_l_numbers_right : Stmt := topS 34
abbrev n_l_numbers_right : List Str := ["pot", "runs", "run", "total", "index", "due", "left", "first", "step", "count", "near", "minute"]
theorem sc_l_numbers_right : FnScope n_l_numbers_right ["pot", "runs"] (defScope s_l_numbers_right) := ⟨rfl, rfl, rfl, by decide +kernel, rfl, by decide +kernel, by decide +kernel⟩
abbrev s_law : Stmt := topS 35
abbrev n_law : List Str := ["script", "pot", "turn", "minutes", "at", "new", "values", "value", "shown", "late"]
theorem sc_law : FnScope n_law ["script"] (defScope s_law) := ⟨rfl, rfl, rfl, by decide +kernel, rfl, by decide +kernel, by decide +kernel⟩
abbrev s_X_BadLamp : Stmt := inClass (topS 7) 0
abbrev n_X_BadLamp : List Str := ["self", "value"]
theorem sc_X_BadLamp : FnScope n_X_BadLamp ["self", "value"] (defScope s_X_BadLamp) := ⟨rfl, rfl, rfl, by decide +kernel, rfl, by decide +kernel, by decide +kernel⟩
abbrev s_X_BadMotions : Stmt := inClass (topS 8) 0
abbrev n_X_BadMotions : List Str := ["self", "error"]
theorem sc_X_BadMotions : FnScope n_X_BadMotions ["self", "error"] (defScope s_X_BadMotions) := ⟨rfl, rfl, rfl, by decide +kernel, rfl, by decide +kernel, by decide +kernel⟩
abbrev s_X_NoCount : Stmt := inClass (topS 9) 0
abbrev n_X_NoCount : List Str := ["self", "value"]
theorem sc_X_NoCount : FnScope n_X_NoCount ["self", "value"] (defScope s_X_NoCount) := ⟨rfl, rfl, rfl, by decide +kernel, rfl, by decide +kernel, by decide +kernel⟩
abbrev s_X_NoIndex : Stmt := inClass (topS 10) 0
abbrev n_X_NoIndex : List Str := ["self", "index"]
theorem sc_X_NoIndex : FnScope n_X_NoIndex ["self", "index"] (defScope s_X_NoIndex) := ⟨rfl, rfl, rfl, by decide +kernel, rfl, by decide +kernel, by decide +kernel⟩
abbrev s_X_NoMinute : Stmt := inClass (topS 11) 0
abbrev n_X_NoMinute : List Str := ["self", "value"]
theorem sc_X_NoMinute : FnScope n_X_NoMinute ["self", "value"] (defScope s_X_NoMinute) := ⟨rfl, rfl, rfl, by decide +kernel, rfl, by decide +kernel, by decide +kernel⟩
abbrev s_X_TooLarge : Stmt := inClass (topS 12) 0
abbrev n_X_TooLarge : List Str := ["self", "limit"]
theorem sc_X_TooLarge : FnScope n_X_TooLarge ["self", "limit"] (defScope s_X_TooLarge) := ⟨rfl, rfl, rfl, by decide +kernel, rfl, by decide +kernel, by decide +kernel⟩
abbrev s_X_TooMany : Stmt := inClass (topS 13) 0
abbrev n_X_TooMany : List Str := ["self", "limit"]
theorem sc_X_TooMany : FnScope n_X_TooMany ["self", "limit"] (defScope s_X_TooMany) := ⟨rfl, rfl, rfl, by decide +kernel, rfl, by decide +kernel, by decide +kernel⟩
structure All (K : PySem.W.Frag) (mg : Str → Option Value) where
  f_is_whole : Addr
  fd_is_whole : FuncData
  D_is_whole : Def K mg "is_whole" s_is_whole ["value"] f_is_whole fd_is_whole
  f_is_minute : Addr
  fd_is_minute : FuncData
  D_is_minute : Def K mg "is_minute" s_is_minute ["value"] f_is_minute fd_is_minute
  f_rounded_up : Addr
  fd_rounded_up : FuncData
  D_rounded_up : Def K mg "rounded_up" s_rounded_up ["number", "by"] f_rounded_up fd_rounded_up
  f_at_most : Addr
  fd_at_most : FuncData
  D_at_most : Def K mg "at_most" s_at_most ["limit", "parts"] f_at_most fd_at_most
  f_motions_of : Addr
  fd_motions_of : FuncData
  D_motions_of : Def K mg "motions_of" s_motions_of ["value"] f_motions_of fd_motions_of
  f_runs_of : Addr
  fd_runs_of : FuncData
  D_runs_of : Def K mg "runs_of" s_runs_of ["pieces"] f_runs_of fd_runs_of
  f_follows : Addr
  fd_follows : FuncData
  D_follows : Def K mg "follows" s_follows ["minute", "run"] f_follows fd_follows
  f_count_motions : Addr
  fd_count_motions : FuncData
  D_count_motions : Def K mg "count_motions" s_count_motions ["motions"] f_count_motions fd_count_motions
  f_motion_at : Addr
  fd_motion_at : FuncData
  D_motion_at : Def K mg "motion_at" s_motion_at ["motions", "index"] f_motion_at fd_motion_at
  f_motions_before : Addr
  fd_motions_before : FuncData
  D_motions_before : Def K mg "motions_before" s_motions_before ["motions", "minute"] f_motions_before fd_motions_before
  f_l_opened : Addr
  fd_l_opened : FuncData
  D_l_opened : Def K mg "_law_opened" s_l_opened ["script"] f_l_opened fd_l_opened
  f_l_draw : Addr
  fd_l_draw : FuncData
  D_l_draw : Def K mg "_law_draw" s_l_draw ["pot", "many"] f_l_draw fd_l_draw
  f_l_one : Addr
  fd_l_one : FuncData
  D_l_one : Def K mg "_law_one" s_l_one ["pot", "items"] f_l_one fd_l_one
  f_l_minutes : Addr
  fd_l_minutes : FuncData
  D_l_minutes : Def K mg "_law_minutes" s_l_minutes ["pot", "upto"] f_l_minutes fd_l_minutes
  f_l_far_runs : Addr
  fd_l_far_runs : FuncData
  D_l_far_runs : Def K mg "_law_far_runs" s_l_far_runs ["pot", "upto"] f_l_far_runs fd_l_far_runs
  f_l_odd : Addr
  fd_l_odd : FuncData
  D_l_odd : Def K mg "_law_odd" s_l_odd ["pot"] f_l_odd fd_l_odd
  f_l_whole : Addr
  fd_l_whole : FuncData
  D_l_whole : Def K mg "_law_whole" s_l_whole ["value", "low", "high"] f_l_whole fd_l_whole
  f_l_told : Addr
  fd_l_told : FuncData
  D_l_told : Def K mg "_law_told" s_l_told ["way", "one", "other"] f_l_told fd_l_told
  f_l_due : Addr
  fd_l_due : FuncData
  D_l_due : Def K mg "_law_due" s_l_due ["value"] f_l_due fd_l_due
  f_l_spread_out : Addr
  fd_l_spread_out : FuncData
  D_l_spread_out : Def K mg "_law_spread_out" s_l_spread_out ["count", "shift"] f_l_spread_out fd_l_spread_out
  f_l_numbers_right : Addr
  fd_l_numbers_right : FuncData
  D_l_numbers_right : Def K mg "_law_numbers_right" s_l_numbers_right ["pot", "runs"] f_l_numbers_right fd_l_numbers_right
  f_law : Addr
  fd_law : FuncData
  D_law : Def K mg "law" s_law ["script"] f_law fd_law
  C_LampError : Addr
  g_LampError : mg "LampError" = some (.ref C_LampError)
  C_BadLamp : Addr
  g_BadLamp : mg "BadLamp" = some (.ref C_BadLamp)
  fI_BadLamp : Addr
  fdI_BadLamp : FuncData
  X_BadLamp : ExC K mg "BadLamp" "BadLamp.__init__" "value" C_BadLamp fI_BadLamp fdI_BadLamp s_X_BadLamp
  C_BadMotions : Addr
  g_BadMotions : mg "BadMotions" = some (.ref C_BadMotions)
  fI_BadMotions : Addr
  fdI_BadMotions : FuncData
  X_BadMotions : ExC K mg "BadMotions" "BadMotions.__init__" "error" C_BadMotions fI_BadMotions fdI_BadMotions s_X_BadMotions
  C_NoCount : Addr
  g_NoCount : mg "NoCount" = some (.ref C_NoCount)
  fI_NoCount : Addr
  fdI_NoCount : FuncData
  X_NoCount : ExC K mg "NoCount" "NoCount.__init__" "value" C_NoCount fI_NoCount fdI_NoCount s_X_NoCount
  C_NoIndex : Addr
  g_NoIndex : mg "NoIndex" = some (.ref C_NoIndex)
  fI_NoIndex : Addr
  fdI_NoIndex : FuncData
  X_NoIndex : ExC K mg "NoIndex" "NoIndex.__init__" "index" C_NoIndex fI_NoIndex fdI_NoIndex s_X_NoIndex
  C_NoMinute : Addr
  g_NoMinute : mg "NoMinute" = some (.ref C_NoMinute)
  fI_NoMinute : Addr
  fdI_NoMinute : FuncData
  X_NoMinute : ExC K mg "NoMinute" "NoMinute.__init__" "value" C_NoMinute fI_NoMinute fdI_NoMinute s_X_NoMinute
  C_TooLarge : Addr
  g_TooLarge : mg "TooLarge" = some (.ref C_TooLarge)
  fI_TooLarge : Addr
  fdI_TooLarge : FuncData
  X_TooLarge : ExC K mg "TooLarge" "TooLarge.__init__" "limit" C_TooLarge fI_TooLarge fdI_TooLarge s_X_TooLarge
  C_TooMany : Addr
  g_TooMany : mg "TooMany" = some (.ref C_TooMany)
  fI_TooMany : Addr
  fdI_TooMany : FuncData
  X_TooMany : ExC K mg "TooMany" "TooMany.__init__" "limit" C_TooMany fI_TooMany fdI_TooMany s_X_TooMany
  kit0 : PySem.W.exmOne K (.ref C_NoMinute) (.ref C_LampError) = some true
  kit1 : PySem.W.exmOne K (.ref C_NoIndex) (.ref C_LampError) = some true
  kit2 : PySem.W.exmOne K (.ref C_TooLarge) (.ref C_LampError) = some true
  kit3 : PySem.W.kitOne K (.ref C_NoMinute) (.ref C_NoMinute) = some true
  kit4 : PySem.W.kitOne K (.ref C_NoMinute) (.ref C_NoIndex) = some false
  kit5 : PySem.W.kitOne K (.ref C_NoMinute) (.ref C_TooLarge) = some false
  kit6 : PySem.W.kitOne K (.ref C_NoIndex) (.ref C_NoMinute) = some false
  kit7 : PySem.W.kitOne K (.ref C_NoIndex) (.ref C_NoIndex) = some true
  kit8 : PySem.W.kitOne K (.ref C_NoIndex) (.ref C_TooLarge) = some false
  kit9 : PySem.W.kitOne K (.ref C_TooLarge) (.ref C_NoMinute) = some false
  kit10 : PySem.W.kitOne K (.ref C_TooLarge) (.ref C_NoIndex) = some false
  kit11 : PySem.W.kitOne K (.ref C_TooLarge) (.ref C_TooLarge) = some true
  kit12 : PySem.W.kitOne K (.ref C_NoMinute) (.type "ValueError") = some true
  kit13 : PySem.W.kitOne K (.ref C_NoIndex) (.type "ValueError") = some true
  kit14 : PySem.W.kitOne K (.ref C_TooLarge) (.type "ValueError") = some true
  kit15 : PySem.W.kitAny K (.ref C_NoMinute) ([C_BadLamp, C_BadMotions, C_NoCount, C_TooMany].map Value.ref) = some false
  kit16 : PySem.W.kitAny K (.ref C_NoIndex) ([C_BadLamp, C_BadMotions, C_NoCount, C_TooMany].map Value.ref) = some false
  kit17 : PySem.W.kitAny K (.ref C_TooLarge) ([C_BadLamp, C_BadMotions, C_NoCount, C_TooMany].map Value.ref) = some false
  z_ValueError : mg "ValueError" = none
  z_abs : mg "abs" = none
  z_bool : mg "bool" = none
  z_enumerate : mg "enumerate" = none
  z_int : mg "int" = none
  z_isinstance : mg "isinstance" = none
  z_len : mg "len" = none
  z_list : mg "list" = none
  z_max : mg "max" = none
  z_min : mg "min" = none
  z_range : mg "range" = none
  z_repr : mg "repr" = none
  z_sum : mg "sum" = none
  z_tuple : mg "tuple" = none
  t_MAX_MINUTE : Tok
  c_MAX_MINUTE : mg "MAX_MINUTE" = some (.int 1000000000 t_MAX_MINUTE)
  t_MAX_RUNS : Tok
  c_MAX_RUNS : mg "MAX_RUNS" = some (.int 360 t_MAX_RUNS)
section
variable {P : Program} {w : World} {K : PySem.W.Frag} {mg : Str → Option Value} {base : Heap}
theorem ok_X_BadLamp (T : All K mg) : FnOk P w K mg base CX0 1 T.fI_BadLamp T.fdI_BadLamp ["self", "value"] (sp_init K "value") := by
  have nd := sc_X_BadLamp.nd
  refine T.X_BadLamp.F.ok sc_X_BadLamp (fun vs H Q E h => ?_) (fun cdv A outer s H vs Q E hr h => ?_)
  · obtain ⟨a, C, v, rfl, _⟩ := h
    rfl
  · obtain ⟨a, C, v, rfl, ox, no, ha, q⟩ := h
    refine ⟨_, pss_one (ps_ost (pv 0) (pv 1)), ?_⟩
    exact ⟨v, rfl, .ref a, rfl, a, C, rfl, ox, no, .inl ⟨ha, fun dx n ne => q dx n ne⟩⟩
theorem ok_X_BadMotions (T : All K mg) : FnOk P w K mg base CX0 1 T.fI_BadMotions T.fdI_BadMotions ["self", "error"] (sp_init K "error") := by
  have nd := sc_X_BadMotions.nd
  refine T.X_BadMotions.F.ok sc_X_BadMotions (fun vs H Q E h => ?_) (fun cdv A outer s H vs Q E hr h => ?_)
  · obtain ⟨a, C, v, rfl, _⟩ := h
    rfl
  · obtain ⟨a, C, v, rfl, ox, no, ha, q⟩ := h
    refine ⟨_, pss_one (ps_ost (pv 0) (pv 1)), ?_⟩
    exact ⟨v, rfl, .ref a, rfl, a, C, rfl, ox, no, .inl ⟨ha, fun dx n ne => q dx n ne⟩⟩
theorem ok_X_NoCount (T : All K mg) : FnOk P w K mg base CX0 1 T.fI_NoCount T.fdI_NoCount ["self", "value"] (sp_init K "value") := by
  have nd := sc_X_NoCount.nd
  refine T.X_NoCount.F.ok sc_X_NoCount (fun vs H Q E h => ?_) (fun cdv A outer s H vs Q E hr h => ?_)
  · obtain ⟨a, C, v, rfl, _⟩ := h
    rfl
  · obtain ⟨a, C, v, rfl, ox, no, ha, q⟩ := h
    refine ⟨_, pss_one (ps_ost (pv 0) (pv 1)), ?_⟩
    exact ⟨v, rfl, .ref a, rfl, a, C, rfl, ox, no, .inl ⟨ha, fun dx n ne => q dx n ne⟩⟩
theorem ok_X_NoIndex (T : All K mg) : FnOk P w K mg base CX0 1 T.fI_NoIndex T.fdI_NoIndex ["self", "index"] (sp_init K "index") := by
  have nd := sc_X_NoIndex.nd
  refine T.X_NoIndex.F.ok sc_X_NoIndex (fun vs H Q E h => ?_) (fun cdv A outer s H vs Q E hr h => ?_)
  · obtain ⟨a, C, v, rfl, _⟩ := h
    rfl
  · obtain ⟨a, C, v, rfl, ox, no, ha, q⟩ := h
    refine ⟨_, pss_one (ps_ost (pv 0) (pv 1)), ?_⟩
    exact ⟨v, rfl, .ref a, rfl, a, C, rfl, ox, no, .inl ⟨ha, fun dx n ne => q dx n ne⟩⟩
theorem ok_X_NoMinute (T : All K mg) : FnOk P w K mg base CX0 1 T.fI_NoMinute T.fdI_NoMinute ["self", "value"] (sp_init K "value") := by
  have nd := sc_X_NoMinute.nd
  refine T.X_NoMinute.F.ok sc_X_NoMinute (fun vs H Q E h => ?_) (fun cdv A outer s H vs Q E hr h => ?_)
  · obtain ⟨a, C, v, rfl, _⟩ := h
    rfl
  · obtain ⟨a, C, v, rfl, ox, no, ha, q⟩ := h
    refine ⟨_, pss_one (ps_ost (pv 0) (pv 1)), ?_⟩
    exact ⟨v, rfl, .ref a, rfl, a, C, rfl, ox, no, .inl ⟨ha, fun dx n ne => q dx n ne⟩⟩
theorem ok_X_TooLarge (T : All K mg) : FnOk P w K mg base CX0 1 T.fI_TooLarge T.fdI_TooLarge ["self", "limit"] (sp_init K "limit") := by
  have nd := sc_X_TooLarge.nd
  refine T.X_TooLarge.F.ok sc_X_TooLarge (fun vs H Q E h => ?_) (fun cdv A outer s H vs Q E hr h => ?_)
  · obtain ⟨a, C, v, rfl, _⟩ := h
    rfl
  · obtain ⟨a, C, v, rfl, ox, no, ha, q⟩ := h
    refine ⟨_, pss_one (ps_ost (pv 0) (pv 1)), ?_⟩
    exact ⟨v, rfl, .ref a, rfl, a, C, rfl, ox, no, .inl ⟨ha, fun dx n ne => q dx n ne⟩⟩
theorem ok_X_TooMany (T : All K mg) : FnOk P w K mg base CX0 1 T.fI_TooMany T.fdI_TooMany ["self", "limit"] (sp_init K "limit") := by
  have nd := sc_X_TooMany.nd
  refine T.X_TooMany.F.ok sc_X_TooMany (fun vs H Q E h => ?_) (fun cdv A outer s H vs Q E hr h => ?_)
  · obtain ⟨a, C, v, rfl, _⟩ := h
    rfl
  · obtain ⟨a, C, v, rfl, ox, no, ha, q⟩ := h
    refine ⟨_, pss_one (ps_ost (pv 0) (pv 1)), ?_⟩
    exact ⟨v, rfl, .ref a, rfl, a, C, rfl, ox, no, .inl ⟨ha, fun dx n ne => q dx n ne⟩⟩
theorem ok_is_whole (T : All K mg) : FnOk P w K mg base CX0 1 T.f_is_whole T.fd_is_whole ["value"] (sp_is_whole K) := by
  have nd := sc_is_whole.nd
  refine T.D_is_whole.F.ok sc_is_whole (fun vs H Q E h => ?_) (fun cdv A outer s H vs Q E hr h => ?_)
  · obtain ⟨v, d, rfl, _⟩ := h
    rfl
  · obtain ⟨v, d, rfl, hd, q⟩ := h
    refine ⟨_, (pss_one (ps_ret (pe_and (pe_callB call_isi (by rfl) T.z_isinstance (by decide +kernel) (pa_cons (pv 0) (pa_cons (pe_bltn (v := .ty "int") (by rfl) T.z_int (by decide +kernel) rfl) pa_nil))) (pe_one (pe_not (pe_callB call_isi (by rfl) T.z_isinstance (by decide +kernel) (pa_cons (pv 0) (pa_cons (pe_bltn (v := .ty "bool") (by rfl) T.z_bool (by decide +kernel) rfl) pa_nil)))))))), ?_⟩
    rw [wh_eq] at q
    refine ⟨v, rfl, v, .ty "int", _, _, _, rfl, .ty "int", hd.ty, kit_ty (kit_i d), _, rfl, ?_⟩
    cases hi : isI d with
    | false =>
      rw [hi] at q
      exact iteF q
    | true =>
      refine iteT ⟨v, rfl, v, .ty "bool", _, _, _, rfl, .ty "bool", hd.ty, kit_ty (kit_b d), _, rfl, ?_⟩
      rw [hi, Bool.true_and] at q
      exact q
theorem ok_is_minute (T : All K mg) : FnOk P w K mg base CX0 2 T.f_is_minute T.fd_is_minute ["value"] (sp_isMin K) := by
  have nd := sc_is_minute.nd
  refine T.D_is_minute.F.ok sc_is_minute (fun vs H Q E h => ?_) (fun cdv A outer s H vs Q E hr h => ?_)
  · obtain ⟨v, d, rfl, _⟩ := h
    rfl
  · obtain ⟨v, d, rfl, hd, q⟩ := h
    refine ⟨_, (pss_one (ps_ret (pe_and (pe_call (ok_is_whole T) (hr.mono (by decide)) (by rfl) T.D_is_whole.g T.D_is_whole.F.kp T.D_is_whole.b .nil pass0 (pa_cons (pv 0) pa_nil)) (pe_one (pe_chain op_le op_le pe_int (pv 0) (pe_glob (v := .int 1000000000) (by rfl) T.c_MAX_MINUTE ⟨_, rfl⟩)))))), ?_⟩
    refine ⟨v, rfl, v, d, rfl, hd, wh d, rfl, ?_⟩
    cases d with
    | int i =>
      obtain rfl := dq_int hd
      have q : Q (.bl (decide (0 ≤ i) && decide (i ≤ 1000000000))) H := q
      refine iteT ⟨.int i, rfl, 0, i, rfl, rfl, _, rfl, ?_⟩
      by_cases h1 : 0 ≤ i
      · rw [decide_eq_true h1] at q ⊢
        exact iteT ⟨i, 1000000000, rfl, rfl, q⟩
      · rw [decide_eq_false h1] at q ⊢
        exact iteF q
    | _ => exact iteF q
theorem ok_rounded_up (T : All K mg) : FnOk P w K mg base CX0 1 T.f_rounded_up T.fd_rounded_up ["number", "by"] (sp_rup K) := by
  have nd := sc_rounded_up.nd
  refine T.D_rounded_up.F.ok sc_rounded_up (fun vs H Q E h => ?_) (fun cdv A outer s H vs Q E hr h => ?_)
  · obtain ⟨N, x, _, hd, _⟩ := h
    exact hd.len
  · obtain ⟨N, ⟨n, b⟩, O, hd, ⟨h1, h2⟩, qq⟩ := h
    have h1 : 1 ≤ b := h1
    have h2 : b < 1073741824 := h2
    obtain ⟨v1, _, rfl, hd1, hd⟩ := dqs_cons hd
    obtain ⟨v2, _, rfl, hd2, hd⟩ := dqs_cons hd
    obtain rfl := dqs_nil hd
    obtain rfl := dq_int hd1
    obtain rfl := dq_int hd2
    refine ⟨_, (pss_one (ps_ret (pe_op op_fdivN (pe_op op_sub (pe_op op_add (pv 0) (pv 1)) pe_int) (pv 1)))), ?_⟩
    exact ⟨.int n, rfl, .int b, rfl, n, b, rfl, rfl, _, _, rfl, rfl, .int b, rfl, _, _, rfl, rfl, ⟨by omega, by omega⟩, qq _ _ (Same.refl _) (.int _)⟩
theorem ok_at_most (T : All K mg) {n : Int} : FnOk P w K mg base (L2.CX P w) 3 T.f_at_most T.fd_at_most ["limit", "parts"] (sp_most K T.C_TooLarge n) := by
  have nd := sc_at_most.nd
  refine T.D_at_most.F.okX sc_at_most (fun vs H Q E h => ?_) (fun cdv A outer s H vs Q E hr h => ?_)
  · obtain ⟨N, x, _, hd, _⟩ := h
    exact hd.len
  · obtain ⟨N, ds, O, hd, _, q1, q2⟩ := h
    obtain ⟨v1, _, rfl, hd1, hd⟩ := dqs_cons hd
    obtain ⟨v2, _, rfl, hd2, hd⟩ := dqs_cons hd
    obtain rfl := dqs_nil hd
    obtain rfl := dq_int hd1
    obtain ⟨a, ys, rfl, g, hy⟩ := dq_tup hd2
    have len := hy.len
    refine ⟨_, (pss_cons (ps_if (pt_cmpR op_gt (pe_callB call_len_seq (by rfl) T.z_len (by decide +kernel) (pa_cons (pv 1) pa_nil)) (pv 0) (nomark _))
    (pss_one (ps_raise rfl (takes_of rfl rfl rfl rfl) (pmk_oex T.X_TooLarge.ox T.X_TooLarge.iC T.X_TooLarge.tI (ok_X_TooLarge T) (hr.mono (by decide)) T.X_TooLarge.b .nil pass0 (by rfl) T.X_TooLarge.g (pa_cons (pv 0) pa_nil))))
    pss_nil)
  (pss_one (ps_ret (pv 1)))), ?_⟩
    refine ⟨.ref a, rfl, a, ys, rfl, .inr (Same.seqT cut_same g), .int n, rfl, _, n, rfl, rfl, _, rfl, ite2 (fun h1 => ?_) (fun h1 => ?_)⟩
    · have h1' : n < (ys.length : Int) := of_decide_eq_true h1
      exact ⟨.int n, rfl, mkO_run T.X_TooLarge.ox T.X_TooLarge.no fun d H' s1 nd hd => q2 (decide_eq_true (by rw [← len]; exact h1')) d H' s1 hd nd⟩
    · have h1' : ¬ n < (ys.length : Int) := fun z => h1 (decide_eq_true z)
      exact ⟨.ref a, rfl, q1 (decide_eq_false (by rw [← len]; exact h1')) _ _ (Same.refl _) hd2⟩
theorem ok_follows (T : All K mg) : FnOk P w K mg base CX0 1 T.f_follows T.fd_follows ["minute", "run"] (sp_foll K) := by
  have nd := sc_follows.nd
  refine T.D_follows.F.ok sc_follows (fun vs H Q E h => ?_) (fun cdv A outer s H vs Q E hr h => ?_)
  · obtain ⟨N, x, _, hd, _⟩ := h
    exact hd.len
  · obtain ⟨N, ⟨m, f, st, c⟩, O, hd, ⟨c0, c1, t0, t1⟩, qq⟩ := h
    have c0 : 1 ≤ c := c0
    have t0 : 0 ≤ st := t0
    have t1 : st ≤ 10000000000 := t1
    obtain ⟨v1, _, rfl, hd1, hd⟩ := dqs_cons hd
    obtain ⟨v2, _, rfl, hd2, hd⟩ := dqs_cons hd
    obtain rfl := dqs_nil hd
    obtain rfl := dq_int hd1
    obtain ⟨a, rfl, g⟩ := dq_run hd2
    refine ⟨_, (pss_cons (ps_asg (pv 1) (pg_tup rfl (pgs_cons (pg_name (i := 2) nd rfl (by first | exact Or.inl rfl | exact Or.inr rfl)) (pgs_cons (pg_name (i := 3) nd rfl (by first | exact Or.inl rfl | exact Or.inr rfl)) (pgs_cons (pg_name (i := 4) nd rfl (by first | exact Or.inl rfl | exact Or.inr rfl)) pgs_nil)))))
  (pss_one (ps_ret (pe_or (pe_cmpR op_eq (pv 4) pe_int (nomark _)) (pe_one (pe_cmpR op_eq (pv 0) (pe_op op_add (pv 2) (pe_op op_mul (pv 3) (pv 4))) (nomark _))))))), ?_⟩
    refine ⟨.ref a, rfl, a, _, rfl, Same.seqT cut_same g, rfl, _, _, rfl, _, _, rfl, _, _, rfl, rfl, ?_⟩
    have fin : ∀ z : Bool, z = (decide (c = 1) || decide (m = f + st * c)) → Q (.bl z) H := fun z e => qq _ _ (Same.refl _) (by rw [e]; exact .bl _)
    refine ⟨.int c, rfl, rfl, _, rfl, ite2 (fun g1 => ?_) (fun g1 => ?_)⟩
    · have g1' : c = 1 := V.int.inj (of_decide_eq_true g1)
      exact fin true (by rw [decide_eq_true g1']; rfl)
    · have g1' : ¬ c = 1 := fun z => g1 (decide_eq_true (by rw [z]))
      refine ⟨.int m, rfl, .int f, rfl, .int st, rfl, .int c, rfl, st, c, rfl, rfl, .inl ⟨by omega, by omega⟩, f, _, rfl, rfl, rfl, fin _ ?_⟩
      rw [decide_eq_false g1', Bool.false_or]
      by_cases h : m = f + st * c
      · rw [decide_eq_true h, decide_eq_true (show V.int m = V.int (f + st * c) by rw [h])]
      · rw [decide_eq_false h, decide_eq_false (show ¬ V.int m = V.int (f + st * c) from fun z => h (V.int.inj z))]
theorem ok_runs_of (T : All K mg) : FnOk P w K mg base CX0 2 T.f_runs_of T.fd_runs_of ["pieces"] (sp_runsOf K) := by
  have nd := sc_runs_of.nd
  refine T.D_runs_of.F.ok sc_runs_of (fun vs H Q E h => ?_) (fun cdv A outer s H vs Q E hr h => ?_)
  · obtain ⟨N, x, _, hd, _⟩ := h
    exact hd.len
  · obtain ⟨N, ms, O, hd, ⟨hl, hasc, hb⟩, qq⟩ := h
    obtain ⟨v1, _, rfl, hd1, hd⟩ := dqs_cons hd
    obtain rfl := dqs_nil hd
    obtain ⟨a, ys, rfl, g, hy⟩ := dq_lst hd1
    have len := hy.len
    rw [List.length_map] at len
    refine ⟨_, (pss_cons (ps_set (i := 1) nd rfl (by first | exact Or.inl rfl | exact Or.inr rfl) (pe_lst pa_nil))
  (pss_cons (ps_for PassesOwn.never rfl (pi_list (pv 0)) (pg_tup rfl (pgs_cons (pg_name (i := 2) nd rfl (by first | exact Or.inl rfl | exact Or.inr rfl)) (pgs_cons (pg_name (i := 3) nd rfl (by first | exact Or.inl rfl | exact Or.inr rfl)) (pgs_cons (pg_name (i := 4) nd rfl (by first | exact Or.inl rfl | exact Or.inr rfl)) pgs_nil))))
    (pss_cons (ps_set (i := 5) nd rfl (by first | exact Or.inl rfl | exact Or.inr rfl) pe_int)
  (pss_cons (ps_if (PW.pt (pw_and (pt_truth (pv 1) (by intro _; rfl)) (pw_and1 (pt_val (pe_call (ok_follows T) (hr.mono (by decide)) (by rfl) T.D_follows.g T.D_follows.F.kp T.D_follows.b .nil pass0 (pa_cons (pv 2) (pa_cons (pe_ix ix_list (pv 1) (pe_un un_neg pe_int) (fun _ _ => rfl)) pa_nil)))))))
    (pss_cons (ps_asg (pe_ix ix_list (pv 1) (pe_un un_neg pe_int) (fun _ _ => rfl)) (pg_tup rfl (pgs_cons (pg_name (i := 6) nd rfl (by first | exact Or.inl rfl | exact Or.inr rfl)) (pgs_cons (pg_name (i := 7) nd rfl (by first | exact Or.inl rfl | exact Or.inr rfl)) (pgs_cons (pg_name (i := 8) nd rfl (by first | exact Or.inl rfl | exact Or.inr rfl)) pgs_nil)))))
  (pss_cons (ps_set (i := 9) nd rfl (by first | exact Or.inl rfl | exact Or.inr rfl) (pe_op op_fdivN (pe_op op_sub (pv 2) (pv 6)) (pv 8)))
  (pss_cons (ps_set (i := 5) nd rfl (by first | exact Or.inl rfl | exact Or.inr rfl) (pe_ifExp (pt_cmpR op_eq (pv 3) (pv 9) (nomark _)) (pv 4) pe_int))
  (pss_one (ps_asg (pe_tup (pa_cons (pv 6) (pa_cons (pv 9) (pa_cons (pe_op op_add (pv 8) (pv 5)) pa_nil)))) (pg_sub (pv 1) (pe_un un_neg pe_int) set_list))))))
    pss_nil)
  (pss_one (ps_if (pt_cmpR op_lt (pv 5) (pv 4) (nomark _))
    (pss_cons (ps_set (i := 10) nd rfl (by first | exact Or.inl rfl | exact Or.inr rfl) (pe_op op_sub (pv 4) (pv 5)))
  (pss_one (ps_expr (pe_bm PySem.F.plainAttrs_list PySem.F.slot_list_append PySem.F.type_list_append mt_append (pv 1) (pa_cons (pe_tup (pa_cons (pe_op op_add (pv 2) (pe_op op_mul (pv 3) (pv 5))) (pa_cons (pe_ifExp (pt_cmpR op_gt (pv 10) pe_int (nomark _)) (pv 3) pe_int) (pa_cons (pv 10) pa_nil)))) pa_nil)))))
    pss_nil)))))
  (pss_one (ps_ret (pe_callTy call_tuple_of (by rfl) T.z_tuple (by decide +kernel) (pa_cons (pv 1) pa_nil)))))), ?_⟩
    refine s_set ⟨Nat.zero_le _, fun f nf => ?_⟩
    have sf : Same H (upd H f (.lst [])) := same_new nf
    refine s_lst ⟨.ref a, rfl, a, rfl, ⟨_, Same.seqL (cut_same.trans sf) g⟩, for_it walk_list (fun i σ Hi => (∃ y2 y3 y4 y5 y6 y7 y8 y9 y10, σ = [some (.ref a), some (.ref f), y2, y3, y4, y5, y6, y7, y8, y9, y10]) ∧ GrowG K N H f runD ((ms.take i).foldl grpS []).reverse Hi ∧ GInv ms i ((ms.take i).foldl grpS [])) ⟨⟨_, _, _, _, _, _, _, _, _, rfl⟩, GrowG.start nf, fun r hr => nomatch hr⟩ (fun i σ H1 _ h => by
        obtain ⟨_, ⟨_, s1, _⟩, _⟩ := h
        exact Same.seqL (cut_same.trans s1) g) ?_ ?_⟩
    · rintro i x σ Hi H' hi ⟨⟨y2, y3, y4, y5, y6, y7, y8, y9, y10, rfl⟩, ⟨xs, si, ei, hx⟩, gi⟩ ⟨rfl, hxi⟩
      obtain ⟨rn, hq, dq⟩ := dqs_get hy hxi
      obtain ⟨m, hm, rfl⟩ : ∃ m, ms[i]? = some m ∧ rn = (m, 1, 1) := by
        unfold ones at hq
        rw [List.getElem?_map] at hq
        cases e : ms[i]? with
        | none => rw [e] at hq; cases hq
        | some m => rw [e] at hq; exact ⟨m, rfl, (Option.some.inj hq).symm⟩
      have nx := foldl_take grpS [] ms hm
      have gn := ginv_step hasc hb hm gi
      have gl := grp_fold_len (ms.take i) []
      rw [List.length_take] at gl
      have li : i < ms.length := (List.getElem?_eq_some_iff.mp hm).1
      have lx := hx.len
      rw [List.length_map, List.length_reverse] at lx
      have m01 := hb m (List.mem_of_getElem? hm)
      have blt : ∀ x ∈ ms.take i, x < m := fun x hx => asc_lt hasc hm hx
      generalize (ms.take i).foldl grpS [] = qs at hx nx gi gn gl lx
      rw [← nx] at gn
      have lz : xs.length ≤ 1000 := by
        simp at gl
        omega
      obtain ⟨ra, rfl, gr⟩ := dq_run dq
      refine ⟨ra, _, rfl, Same.seqT (cut_same.trans si) gr, rfl, _, _, rfl, _, _, rfl, _, _, rfl, rfl, ?_⟩
      dsimp only
      refine s_set ?_
      have O' := O.keep si
      refine s_ifn' (fun σ' G => (∃ y6 y7 y8 y9, σ' = [some (.ref a), some (.ref f), some (.int m), some (.int 1), some (.int 1), some (.int 1), y6, y7, y8, y9, y10] ∧ GrowG K N H f runD (grpS qs m).reverse G) ∨ (σ' = [some (.ref a), some (.ref f), some (.int m), some (.int 1), some (.int 1), some (.int 0), y6, y7, y8, y9, y10] ∧ Same H' G ∧ grpS qs m = (m, 1, 1) :: qs)) ?rest ?two
      case two =>
        intro X hX
        refine ⟨.ref f, rfl, _, .inl ⟨xs, .inl (.inl ei), rfl⟩, ?_⟩
        cases qs with
        | nil =>
          obtain rfl := dqs_nil hx
          refine iteF ?_
          exact hX _ _ (.inr ⟨rfl, Same.refl _, rfl⟩)
        | cons q r =>
          rw [List.reverse_cons, List.map_append] at hx
          obtain ⟨zs, v, rfl, hz, hv⟩ := dqs_snoc_inv hx
          obtain ⟨tq, rfl, gq⟩ := dq_run hv
          obtain ⟨q1, q2, q3, q4⟩ := gi q List.mem_cons_self
          have lt := blt _ q1
          have b1 := hb _ (List.mem_of_mem_take q1)
          refine iteT_e (by simp) ?_
          refine ⟨.int m, rfl, .ref f, rfl, 1, rfl, f, _, -1, .ref tq, rfl, rfl, .inl (.inl ei), atI_last _ _, NP N f, (m, q), np_occ O' ei, .cons (.int _) (.cons (by rw [np_cut1]; exact hv) .nil), ⟨q3, by show q.2.2 ≤ 10000000000; omega, q2.1, by show q.2.1 ≤ 10000000000; omega⟩, fun rr G sG hr => ?_⟩
          obtain rfl := dq_bool hr
          have eG := sG _ _ ei
          have gq' := Same.seqT ((cut_same.trans cut_same).trans sG) gq
          refine ⟨_, rfl, ite_b (fun hk => ?_) (fun hk => ?_)⟩
          · have hk' : q.2.2 = 1 ∨ m = q.1 + q.2.1 * q.2.2 := by
              rcases (Bool.or_eq_true _ _).mp hk with h | h
              · exact .inl (of_decide_eq_true h)
              · exact .inr (of_decide_eq_true h)
            refine ⟨.ref f, rfl, 1, rfl, f, _, -1, .ref tq, rfl, rfl, .inl (.inl eG), atI_last _ _, tq, _, rfl, gq', rfl, _, _, rfl, _, _, rfl, _, _, rfl, rfl, ?_⟩
            dsimp only
            refine s_set ⟨.int m, rfl, .int q.1, rfl, m, q.1, rfl, rfl, .int q.2.2, rfl, _, _, rfl, rfl, ⟨by omega, by omega⟩, ?_⟩
            refine s_set (te_of (fun v G' => v = .int 1 ∧ G' = G) ?_ ?_)
            · rintro _ Gc ⟨rfl, rfl⟩
              refine ⟨.int q.1, rfl, .int ((m - q.1).fdiv q.2.2), rfl, .int q.2.2, rfl, .int 1, rfl, q.2.2, 1, rfl, rfl, Nat.le_of_lt (small1000 (show 3 ≤ 1000 by decide)), fun t nt => ?_⟩
              have tf : f ≠ t := fun e => by rw [← e, eG] at nt; cases nt
              have put := GrowG.put (D := runD) (x := (q.1, (m - q.1).fdiv q.2.2, q.2.2 + 1)) (vs := [.int q.1, .int ((m - q.1).fdiv q.2.2), .int (q.2.2 + 1)]) (t := t) (G := Gc) (fun G' h => dq_runT h) nf O si sG eG hz nt
              refine ⟨.ref f, rfl, 1, rfl, f, _, -1, zs.length, rfl, rfl, by rw [upd_ne tf]; exact eG, ixN_last, ?_⟩
              rw [set_last]
              refine hX _ _ (.inl ⟨_, _, _, _, rfl, ?_⟩)
              simp only [grpS]
              rw [if_pos hk', List.reverse_cons]
              exact put
            · intro Q' hQ
              exact ⟨.int 1, rfl, .int ((m - q.1).fdiv q.2.2), rfl, rfl, _, rfl, ite2 (fun _ => ⟨.int 1, rfl, hQ _ _ ⟨rfl, rfl⟩⟩) (fun _ => hQ _ _ ⟨rfl, rfl⟩)⟩
          · have hk' : ¬ (q.2.2 = 1 ∨ m = q.1 + q.2.1 * q.2.2) := fun z => by
              have : (decide (q.2.2 = 1) || decide (m = q.1 + q.2.1 * q.2.2)) = true := by
                rcases z with h | h
                · rw [decide_eq_true h]; rfl
                · rw [decide_eq_true h, Bool.or_true]
              rw [show (decide (q.2.2 = 1) || decide (m = q.1 + q.2.1 * q.2.2)) = false from hk] at this
              cases this
            refine hX _ _ (.inr ⟨rfl, sG, ?_⟩)
            simp only [grpS]
            rw [if_neg hk']
      rintro σ' G hG
      rcases hG with ⟨y6, y7, y8, y9, rfl, hG⟩ | ⟨rfl, sG, eS⟩
      · refine s_if1 ⟨.int 1, rfl, .int 1, rfl, 1, 1, rfl, rfl, _, rfl, iteF ?_⟩
        exact ⟨⟨_, _, _, _, _, _, _, _, _, rfl⟩, by rw [nx]; exact hG, gn⟩
      · have eG := sG _ _ ei
        refine s_if1 ⟨.int 0, rfl, .int 1, rfl, 0, 1, rfl, rfl, _, rfl, iteT ?_⟩
        refine s_set ⟨.int 1, rfl, .int 0, rfl, 1, 0, rfl, rfl, ?_⟩
        refine ⟨.ref f, rfl, .inl ⟨rfl, _, .inl (.inl eG)⟩, .int m, rfl, .int 1, rfl, .int 0, rfl, 1, 0, rfl, rfl, .inl ⟨by decide, by decide⟩, m, _, rfl, rfl, ?_⟩
        refine te_of (fun v G' => v = .int 1 ∧ G' = G) ?_ ?_
        · rintro _ Gc ⟨rfl, rfl⟩
          refine ⟨.int (1 - 0), rfl, Nat.le_of_lt (small1000 (show 3 ≤ 1000 by decide)), fun t nt => ?_⟩
          have tf : f ≠ t := fun e => by rw [← e, eG] at nt; cases nt
          refine ⟨f, xs, _, rfl, rfl, by rw [upd_ne tf]; exact eG, small1000 (by omega), ⟨_, _, _, _, _, _, _, _, _, rfl⟩, ?_, gn⟩
          rw [nx, eS, List.reverse_cons]
          have put := GrowG.put (D := runD) (x := (m + 1 * 0, 1, 1 - 0)) (vs := [.int (m + 1 * 0), .int 1, .int (1 - 0)]) (t := t) (G := Gc) (fun G' h => dq_runT h) nf O si sG eG hx nt
          rw [show (m, (1 : Int), (1 : Int)) = (m + 1 * 0, 1, 1 - 0) by simp]
          exact put
        · intro Q' hQ
          exact ⟨.int (1 - 0), rfl, _, 1, rfl, rfl, _, rfl, ite2 (fun z => absurd (of_decide_eq_true z) (by decide)) (fun _ => hQ _ _ ⟨rfl, rfl⟩)⟩
    · rintro σ Hi ⟨⟨y2, y3, y4, y5, y6, y7, y8, y9, y10, rfl⟩, ⟨xs, si, ei, hx⟩, gi⟩
      have ll : ms.length = ys.length := by rw [len]; unfold ones; rw [List.length_map]
      rw [← ll, List.take_length] at hx
      refine ⟨.ref f, rfl, f, xs, rfl, .inl ⟨.inl (.inl ei), fun t nt => ?_⟩⟩
      exact qq _ _ (si.trans (same_new nt)) (GrowAt.tup O si hx nt)
theorem ok_motions_of (T : All K mg) : FnOk P w K mg base (L2.CX P w) 4 T.f_motions_of T.fd_motions_of ["value"] (sp_motsOf K T.C_NoMinute T.C_TooLarge) := by
  have nd := sc_motions_of.nd
  refine T.D_motions_of.F.okX sc_motions_of (fun vs H Q E h => ?_) (fun cdv A outer s H vs Q E hr h => ?_)
  · obtain ⟨N, x, _, hd, _⟩ := h
    exact hd.len
  · obtain ⟨N, d, O, hd, hl, q1, q2⟩ := h
    obtain ⟨v1, _, rfl, hd1, hd⟩ := dqs_cons hd
    obtain rfl := dqs_nil hd
    refine ⟨_, (pss_cons (ps_if (pt_not (pt_val (pe_callB call_isi (by rfl) T.z_isinstance (by decide +kernel) (pa_cons (pv 0) (pa_cons (pe_bltn (v := .ty "tuple") (by rfl) T.z_tuple (by decide +kernel) rfl) pa_nil)))))
    (pss_one (ps_raise rfl (takes_of rfl rfl rfl rfl) (pmk_oex T.X_NoMinute.ox T.X_NoMinute.iC T.X_NoMinute.tI (ok_X_NoMinute T) (hr.mono (by decide)) T.X_NoMinute.b .nil pass0 (by rfl) T.X_NoMinute.g (pa_cons (pv 0) pa_nil))))
    pss_nil)
  (pss_cons (ps_set (i := 1) nd rfl (by first | exact Or.inl rfl | exact Or.inr rfl) (pe_un un_neg pe_int))
  (pss_cons (ps_for (passes_of rfl) rfl (pi_tup (pv 0)) (pg_name (i := 2) nd rfl (by first | exact Or.inl rfl | exact Or.inr rfl))
    (pss_cons (ps_if (PW.pt (pw_or (pt_not (pt_val (pe_call (ok_is_minute T) (hr.mono (by decide)) (by rfl) T.D_is_minute.g T.D_is_minute.F.kp T.D_is_minute.b .nil pass0 (pa_cons (pv 2) pa_nil)))) (pw_or1 (pt_cmpR op_le (pv 2) (pv 1) (nomark _)))))
    (pss_one (ps_raise rfl (takes_of rfl rfl rfl rfl) (pmk_oex T.X_NoMinute.ox T.X_NoMinute.iC T.X_NoMinute.tI (ok_X_NoMinute T) (hr.mono (by decide)) T.X_NoMinute.b .nil pass0 (by rfl) T.X_NoMinute.g (pa_cons (pv 2) pa_nil))))
    pss_nil)
  (pss_one (ps_set (i := 1) nd rfl (by first | exact Or.inl rfl | exact Or.inr rfl) (pv 2)))))
  (pss_one (ps_ret (pe_call (E := E) (ok_at_most T (n := 360)) (hr.mono (by decide)) (by rfl) T.D_at_most.g T.D_at_most.F.kp T.D_at_most.b .nil (passes_call (takes_of rfl rfl rfl rfl) (fun _ _ _ _ h => h)) (pa_cons (pe_glob (v := .int 360) (by rfl) T.c_MAX_RUNS ⟨_, rfl⟩) (pa_cons (pe_call (ok_runs_of T) (hr.mono (by decide)) (by rfl) T.D_runs_of.g T.D_runs_of.F.kp T.D_runs_of.b .nil pass0 (pa_cons (pe_lc (own := [("minute", 3)]) rfl nd (pi_tup (pv 0)) (blkOk_by (own := [("minute", 3)]) (N := n_motions_of) (sc := defScope s_motions_of) (by decide +kernel)) (fun _ _ _ _ _ => (pg_name (i := 3) nd rfl (by first | exact Or.inl rfl | exact Or.inr rfl))) (fun _ _ _ _ _ => pts_nil) (fun _ _ _ _ _ => (pe_tup (pa_cons (pv 3) (pa_cons pe_int (pa_cons pe_int pa_nil)))))) pa_nil)) pa_nil)))))))), ?_⟩
    have raise : ∀ (σ : L2.St) (i : Nat) (x : V) (e : PyData), σ[i]? = some (some x) → Dq K (cut N H) x e → minErr d = some e → tMkO T.C_NoMinute (sp_init K (Str.ofString "value")) [] (tCons (tVar i) tNil) σ H fun cls d H' => E cls d H' := fun σ i x e hσ hx he =>
      ⟨x, hσ, mkO_run T.X_NoMinute.ox T.X_NoMinute.no fun dd H' s1 nd hd => q2 _ _ _ (by show motsErr T.C_NoMinute T.C_TooLarge d = _; unfold motsErr; rw [he]) dd _ H' s1 nd hd (hx.mono (cut_mono s1))⟩
    refine s_ifn ⟨v1, rfl, v1, .ty "tuple", _, _, _, rfl, .ty "tuple", (hd1.mono cut_same).ty, kit_ty (kit_t d), _, rfl, ?_⟩
    by_cases ht : ∃ ds, d = .tuple ds
    case neg =>
      have er : minErr d = some d := by
        cases d with
        | tuple ds => exact absurd ⟨ds, rfl⟩ ht
        | _ => rfl
      have e1 : tMkO T.C_NoMinute (sp_init K (Str.ofString "value")) [] (tCons (tVar 0) tNil) (L2.start n_motions_of [v1]) H fun cls d H' => E cls d H' := raise _ 0 v1 d rfl hd1 er
      cases d with
      | tuple ds => exact absurd ⟨ds, rfl⟩ ht
      | _ => exact iteT e1
    case pos =>
      obtain ⟨ds, rfl⟩ := ht
      have hl : ds.length ≤ 800 := hl
      obtain ⟨a, ys, rfl, g, hy⟩ := dq_tup hd1
      have len := hy.len
      refine iteF ⟨1, rfl, ?_⟩
      refine ⟨.ref a, rfl, a, rfl, ⟨_, Same.seqT cut_same g⟩, for_it walk_tup (fun i σ Hi => ∃ b y2 y3, σ = [some (.ref a), some (.int b), y2, y3] ∧ Hi = H ∧ minGo ds (-1) = minGo (ds.drop i) b) ⟨-1, _, _, rfl, rfl, rfl⟩ (fun i σ H1 _ h => by
        obtain ⟨_, _, _, _, rfl, _⟩ := h
        exact Same.seqT cut_same g) ?_ ?_⟩
      · rintro i x σ Hi H' hi ⟨b, y2, y3, rfl, eH, em⟩ ⟨eH2, hxi⟩
        obtain ⟨e, he, hq⟩ := hy.get hxi
        rw [drop_get he] at em
        subst eH
        subst eH2
        have em' : minErr (.tuple ds) = minGo (e :: ds.drop (i + 1)) b := em
        refine s_ifn ⟨x, rfl, x, e, rfl, hq.mono cut_same, isMin e, rfl, ?_⟩
        cases hm : isMin e with
        | false =>
          refine iteT (raise _ 2 x e rfl hq ?_)
          rw [em']
          cases e with
          | int m =>
            have hm : (decide (0 ≤ m) && decide (m ≤ 1000000000)) = false := hm
            simp only [minGo]
            refine if_neg fun z => ?_
            rw [decide_eq_true z.1, decide_eq_true z.2.1] at hm
            cases hm
          | _ => rfl
        | true =>
          obtain ⟨m, rfl, m0, m1⟩ : ∃ m, e = .int m ∧ 0 ≤ m ∧ m ≤ 1000000000 := by
            cases e with
            | int m =>
              have hm : (decide (0 ≤ m) && decide (m ≤ 1000000000)) = true := hm
              obtain ⟨h1, h2⟩ := (Bool.and_eq_true _ _).mp hm
              exact ⟨m, rfl, of_decide_eq_true h1, of_decide_eq_true h2⟩
            | _ => cases hm
          obtain rfl := dq_int hq
          refine iteF ⟨.int m, rfl, .int b, rfl, m, b, rfl, rfl, _, rfl, ite2 (fun g1 => ?_) (fun g1 => ?_)⟩
          · have g1' : m ≤ b := of_decide_eq_true g1
            refine raise _ 2 (.int m) (.int m) rfl (.int m) ?_
            rw [em']
            simp only [minGo]
            exact if_neg fun z => by omega
          · have g1' : ¬ m ≤ b := fun z => g1 (decide_eq_true z)
            refine ⟨.int m, rfl, m, _, _, rfl, rfl, ?_⟩
            rw [em]
            simp only [minGo]
            rw [if_pos ⟨m0, m1, by omega⟩]
      · rintro σ Hi ⟨b, y2, y3, rfl, eH, em⟩
        subst eH
        rw [len, List.drop_length] at em
        have em0 : minGo ds (-1) = none := em
        obtain ⟨ms, rfl, hasc, hb⟩ := minGo_ints em0
        rw [List.length_map] at hl
        obtain rfl := dqs_ints hy
        have eE : minErr (.tuple (ms.map .int)) = none := em0
        refine ⟨.ref a, rfl, a, rfl, ⟨_, Same.seqT cut_same g⟩, fun D nD => ?_⟩
        refine lc_map (K := K) (D := PyData.int) (F := fun m => runD (m, 1, 1)) (as := ms) (N := N) (walk_tup (K := K) (a := a) (xs := ms.map V.int)) (fun H' s => Same.seqT (cut_same.trans s) g) nD O hy (Nat.le_trans hl (by decide)) ?_ ?_
        · intro G x y Q' _ OG sG sH hx q'
          obtain rfl := dq_int hx
          refine ⟨.int y, rfl, Nat.le_of_lt (small1000 (show 3 ≤ 1000 by decide)), fun t nt => q' _ _ (same_new nt) ?_⟩
          exact dq_runT (q := (y, 1, 1)) (.inl (.inl (cut_new OG nt)))
        intro H8 acc s8 e8 O8 dacc
        have dl : Dq K (cut N H8) (.ref D) (.list ((ones ms).map runD)) := by
          refine .lst (xs := acc) (.inl (.inl ?_)) ?_
          · rw [cut_at (fun z => O D z nD)]; exact e8
          · unfold ones
            rw [List.map_map]
            exact dacc.mono np_le
        refine ⟨N, ms, O.keep s8, .cons dl .nil, ⟨Nat.le_trans hl (by decide), hasc, hb⟩, fun r H9 s9 d9 => ?_⟩
        have d9 : Dq K (cut N H9) r (runsD (grpF ms)) := d9
        have eG : grpOf (.tuple (ms.map .int)) = grpF ms := grpOf_ints ms
        refine ⟨N, (grpF ms).map runD, (O.keep s8).keep s9, .cons (.int 360) (.cons d9 .nil), trivial, fun hB r6 H6 s6 d6 => ?_, fun hB d H6 s6 e6 n6 => ?_⟩
        · have hB := of_decide_eq_false hB
          rw [List.length_map] at hB
          refine q1 (by show motsErr _ _ _ = none; unfold motsErr; rw [eE, eG]; exact if_neg (by omega)) r6 H6 (s8.trans (s9.trans s6)) ?_
          show Dq K _ _ (runsD (grpOf (.tuple (ms.map .int))))
          rw [eG]
          exact d6
        · have hB := of_decide_eq_true hB
          rw [List.length_map] at hB
          exact q2 T.C_TooLarge "limit" (.int 360) (by show motsErr _ _ _ = _; unfold motsErr; rw [eE, eG]; exact if_pos (by omega)) d (.int 360) H6 (s8.trans (s9.trans s6)) ((s8.trans s9).free n6) e6 (.int 360)
theorem ok_count_motions (T : All K mg) : FnOk P w K mg base CX0 1 T.f_count_motions T.fd_count_motions ["motions"] (sp_count K) := by
  have nd := sc_count_motions.nd
  refine T.D_count_motions.F.ok sc_count_motions (fun vs H Q E h => ?_) (fun cdv A outer s H vs Q E hr h => ?_)
  · obtain ⟨N, x, _, hd, _⟩ := h
    exact hd.len
  · obtain ⟨N, rs, O, hd, hl, qq⟩ := h
    have hl : rs.length ≤ 900 := hl
    obtain ⟨v1, _, rfl, hd1, hd⟩ := dqs_cons hd
    obtain rfl := dqs_nil hd
    obtain ⟨a, ys, rfl, g, hy⟩ := dq_tup hd1
    refine ⟨_, (pss_one (ps_ret (pe_callB (cr_sum rfl) (by rfl) T.z_sum (by decide +kernel) (pa_cons (pe_lc (own := [("run", 1)]) rfl nd (pi_tup (pv 0)) (blkOk_by (own := [("run", 1)]) (N := n_count_motions) (sc := defScope s_count_motions) (by decide +kernel)) (fun _ _ _ _ _ => (pg_name (i := 1) nd rfl (by first | exact Or.inl rfl | exact Or.inr rfl))) (fun _ _ _ _ _ => pts_nil) (fun _ _ _ _ _ => (pe_ix (ixK (K := K) rfl) (pv 1) pe_int (fun _ _ => rfl)))) pa_nil)))), ?_⟩
    refine ⟨.ref a, rfl, a, rfl, ⟨_, Same.seqT cut_same g⟩, fun D nD => ?_⟩
    refine lc_map (K := K) (D := runD) (F := fun r => .int r.2.2) (as := rs) (N := N) (walk_tup (K := K) (a := a) (xs := ys)) (fun H' s => Same.seqT (cut_same.trans s) g) nD O hy hl ?_ ?_
    · intro G x y Q' _ OG sG sH hx q'
      obtain ⟨ra, rfl, gr⟩ := dq_run hx
      exact ⟨.ref ra, rfl, ra, _, 2, .int y.2.2, rfl, rfl, Same.seqT cut_same gr, atI_nat (j := 2) rfl, q' _ _ (Same.refl _) (.int _)⟩
    · intro H' acc s e OH' hacc
      have hacc' : Dqs K (cut (NP N D) H') acc ((rs.map fun r => r.2.2).map .int) := by rw [List.map_map]; exact hacc
      obtain rfl := dqs_ints hacc'
      exact ⟨D, _, rfl, .inl (.inl e), qq _ _ s (.int _)⟩
theorem ok_motion_at (T : All K mg) : FnOk P w K mg base (L2.CX P w) 3 T.f_motion_at T.fd_motion_at ["motions", "index"] (sp_motAt K T.C_NoIndex) := by
  have nd := sc_motion_at.nd
  refine T.D_motion_at.F.okX sc_motion_at (fun vs H Q E h => ?_) (fun cdv A outer s H vs Q E hr h => ?_)
  · obtain ⟨N, x, _, hd, _⟩ := h
    exact hd.len
  · obtain ⟨N, ⟨rs, d⟩, O, hd, ⟨hl, hok⟩, q1, q2⟩ := h
    obtain ⟨v1, _, rfl, hd1, hd⟩ := dqs_cons hd
    obtain ⟨v2, _, rfl, hd2, hd⟩ := dqs_cons hd
    obtain rfl := dqs_nil hd
    obtain ⟨a, ys, rfl, g, hy⟩ := dq_tup hd1
    refine ⟨_, (pss_cons (ps_if (PW.pt (pw_and (pt_val (pe_call (ok_is_whole T) (hr.mono (by decide)) (by rfl) T.D_is_whole.g T.D_is_whole.F.kp T.D_is_whole.b .nil pass0 (pa_cons (pv 1) pa_nil))) (pw_and1 (pt_cmpR op_ge (pv 1) pe_int (nomark _)))))
    (pss_cons (ps_set (i := 2) nd rfl (by first | exact Or.inl rfl | exact Or.inr rfl) pe_int)
  (pss_one (ps_for (passes_of rfl) rfl (pi_tup (pv 0)) (pg_tup rfl (pgs_cons (pg_name (i := 3) nd rfl (by first | exact Or.inl rfl | exact Or.inr rfl)) (pgs_cons (pg_name (i := 4) nd rfl (by first | exact Or.inl rfl | exact Or.inr rfl)) (pgs_cons (pg_name (i := 5) nd rfl (by first | exact Or.inl rfl | exact Or.inr rfl)) pgs_nil))))
    (pss_cons (ps_if (pt_cmpR op_lt (pv 1) (pe_op op_add (pv 2) (pv 5)) (nomark _))
    (pss_one (ps_ret (pe_op op_add (pv 3) (pe_op op_mul (pv 4) (pe_op op_sub (pv 1) (pv 2))))))
    pss_nil)
  (pss_one (ps_aug (i := 2) nd rfl (by first | exact Or.inl rfl | exact Or.inr rfl) (pv 5) ip_add))))))
    pss_nil)
  (pss_one (ps_raise rfl (takes_of rfl rfl rfl rfl) (pmk_oex T.X_NoIndex.ox T.X_NoIndex.iC T.X_NoIndex.tI (ok_X_NoIndex T) (hr.mono (by decide)) T.X_NoIndex.b .nil pass0 (by rfl) T.X_NoIndex.g (pa_cons (pv 1) pa_nil))))), ?_⟩
    have gone : ∀ (σ : L2.St) (tk : TE), motAtD rs d = none → σ[1]? = some (some v2) → tMkO T.C_NoIndex (sp_init K (Str.ofString "index")) [] (tCons (tVar 1) tNil) σ H fun cls d H' => E cls d H' := fun σ tk h e =>
      ⟨v2, e, mkO_run T.X_NoIndex.ox T.X_NoIndex.no fun dd H' s1 nd hd => q2 _ _ _ (by show erD T.C_NoIndex "index" d (motAtD rs d) = _; rw [h]; rfl) dd _ H' s1 nd hd (hd2.mono (cut_mono s1))⟩
    refine s_ifn ⟨v2, rfl, v2, d, rfl, hd2.mono cut_same, wh d, rfl, ?_⟩
    cases d with
    | int i =>
      obtain rfl := dq_int hd2
      refine iteT ⟨.int i, rfl, i, 0, rfl, rfl, _, rfl, ite2 (fun g1 => ?_) (fun g1 => ?_)⟩
      · have g1' : 0 ≤ i := of_decide_eq_true g1
        have eD : motAtD rs (.int i) = motAt rs i := if_pos g1'
        refine s_set ?_
        refine ⟨.ref a, rfl, a, rfl, ⟨_, Same.seqT cut_same g⟩, for_it walk_tup (fun k σ Hi => ∃ b y3 y4 y5, σ = [some (.ref a), some (.int i), some (.int b), y3, y4, y5] ∧ Hi = H ∧ motAt rs i = motAt (rs.drop k) (i - b)) ⟨0, _, _, _, rfl, rfl, by simp⟩ (fun k σ H1 _ h => by
          obtain ⟨_, _, _, _, _, rfl, _⟩ := h
          exact Same.seqT cut_same g) ?_ ?_⟩
        · rintro k x σ Hi H' hi ⟨b, y3, y4, y5, rfl, eH, em⟩ ⟨eH2, hxi⟩
          obtain ⟨rn, hq, dq⟩ := dqs_get hy hxi
          have ro := hok rn (List.mem_of_getElem? hq)
          rw [drop_get hq] at em
          obtain ⟨ra, rfl, gr⟩ := dq_run dq
          subst eH
          subst eH2
          have bs := ro.s
          refine ⟨ra, _, rfl, Same.seqT cut_same gr, rfl, _, _, rfl, _, _, rfl, _, _, rfl, rfl, ?_⟩
          dsimp only
          refine s_ifn ⟨.int i, rfl, .int b, rfl, .int rn.2.2, rfl, b, rn.2.2, rfl, rfl, i, _, rfl, rfl, _, rfl, ite2 (fun g2 => ?_) (fun g2 => ?_)⟩
          · have g2' : i < b + rn.2.2 := of_decide_eq_true g2
            simp only [motAt] at em
            rw [if_pos (by omega)] at em
            refine s_ret ⟨.int rn.1, rfl, .int rn.2.1, rfl, .int i, rfl, .int b, rfl, i, b, rfl, rfl, rn.2.1, _, rfl, rfl, .inl ⟨by omega, by omega⟩, rn.1, _, rfl, rfl, ?_⟩
            refine q1 (by show erD T.C_NoIndex "index" (.int i) (motAtD rs (.int i)) = _; rw [eD, em]; rfl) _ _ (Same.refl _) ?_
            show Dq K _ _ (okD (motAtD rs (.int i)))
            rw [eD, em]
            exact .int _
          · have g2' : ¬ i < b + rn.2.2 := fun z => g2 (decide_eq_true z)
            simp only [motAt] at em
            rw [if_neg (by omega)] at em
            exact ⟨.int b, rfl, .int rn.2.2, rfl, b, rn.2.2, rfl, rfl, b + rn.2.2, _, _, _, rfl, rfl, by rw [em, show i - (b + rn.2.2) = i - b - rn.2.2 by omega]⟩
        · rintro σ Hi ⟨b, y3, y4, y5, rfl, eH, em⟩
          subst eH
          have ll := hy.len
          rw [List.length_map] at ll
          rw [ll, List.drop_length] at em
          exact gone _ (tVar 0) (by rw [eD, em]; rfl) rfl
      · have g1' : ¬ 0 ≤ i := fun z => g1 (decide_eq_true z)
        exact gone _ (tVar 0) (if_neg g1') rfl
    | _ => exact iteF (gone _ (tVar 0) rfl rfl)
theorem ok_motions_before (T : All K mg) : FnOk P w K mg base (L2.CX P w) 3 T.f_motions_before T.fd_motions_before ["motions", "minute"] (sp_before K T.C_NoMinute) := by
  have nd := sc_motions_before.nd
  refine T.D_motions_before.F.okX sc_motions_before (fun vs H Q E h => ?_) (fun cdv A outer s H vs Q E hr h => ?_)
  · obtain ⟨N, x, _, hd, _⟩ := h
    exact hd.len
  · obtain ⟨N, ⟨rs, d⟩, O, hd, ⟨hl, hok⟩, q1, q2⟩ := h
    have hl : rs.length ≤ 900 := hl
    obtain ⟨v1, _, rfl, hd1, hd⟩ := dqs_cons hd
    obtain ⟨v2, _, rfl, hd2, hd⟩ := dqs_cons hd
    obtain rfl := dqs_nil hd
    obtain ⟨a, ys, rfl, g, hy⟩ := dq_tup hd1
    have lys := hy.len
    rw [List.length_map] at lys
    refine ⟨_, (pss_cons (ps_if (pt_not (pt_val (pe_call (ok_is_minute T) (hr.mono (by decide)) (by rfl) T.D_is_minute.g T.D_is_minute.F.kp T.D_is_minute.b .nil pass0 (pa_cons (pv 1) pa_nil))))
    (pss_one (ps_raise rfl (takes_of rfl rfl rfl rfl) (pmk_oex T.X_NoMinute.ox T.X_NoMinute.iC T.X_NoMinute.tI (ok_X_NoMinute T) (hr.mono (by decide)) T.X_NoMinute.b .nil pass0 (by rfl) T.X_NoMinute.g (pa_cons (pv 1) pa_nil))))
    pss_nil)
  (pss_one (ps_ret (pe_callB (cr_sum rfl) (by rfl) T.z_sum (by decide +kernel) (pa_cons (pe_lc (own := [("first", 2), ("step", 3), ("count", 4)]) rfl nd (pi_tup (pv 0)) (blkOk_by (own := [("first", 2), ("step", 3), ("count", 4)]) (N := n_motions_before) (sc := defScope s_motions_before) (by decide +kernel)) (fun _ _ _ _ _ => (pg_tupK (K := K) (n := 3) rfl rfl (pgs_cons (pg_name (i := 2) nd rfl (by first | exact Or.inl rfl | exact Or.inr rfl)) (pgs_cons (pg_name (i := 3) nd rfl (by first | exact Or.inl rfl | exact Or.inr rfl)) (pgs_cons (pg_name (i := 4) nd rfl (by first | exact Or.inl rfl | exact Or.inr rfl)) pgs_nil))))) (fun _ _ _ _ _ => (pts_one (pt_cmpR op_lt (pv 2) (pv 1) (nomark _)))) (fun _ _ _ _ _ => (pe_callB (call_min2 rfl) (by rfl) T.z_min (by decide +kernel) (pa_cons (pv 4) (pa_cons (pe_call (ok_rounded_up T) (hr.mono (by decide)) (by rfl) T.D_rounded_up.g T.D_rounded_up.F.kp T.D_rounded_up.b .nil pass0 (pa_cons (pe_op op_sub (pv 1) (pv 2)) (pa_cons (pv 3) pa_nil))) pa_nil))))) pa_nil))))), ?_⟩
    refine s_ifn ⟨v2, rfl, v2, d, rfl, hd2.mono cut_same, ?_⟩
    refine ⟨isMin d, rfl, ?_⟩
    cases hm : isMin d with
    | false =>
      have e : befD rs d = none := by
        cases d with
        | int m =>
          have hm : (decide (0 ≤ m) && decide (m ≤ 1000000000)) = false := hm
          refine if_neg fun z => ?_
          rw [decide_eq_true z.1, decide_eq_true z.2] at hm
          cases hm
        | _ => rfl
      refine iteT ⟨v2, rfl, mkO_run T.X_NoMinute.ox T.X_NoMinute.no fun dd H' s1 nd hd => q2 _ _ _ (by show erD T.C_NoMinute "value" d (befD rs d) = _; rw [e]; rfl) dd _ H' s1 nd hd (hd2.mono (cut_mono s1))⟩
    | true =>
      obtain ⟨m, rfl, m0, m1⟩ : ∃ m, d = .int m ∧ 0 ≤ m ∧ m ≤ 1000000000 := by
        cases d with
        | int m =>
          have hm : (decide (0 ≤ m) && decide (m ≤ 1000000000)) = true := hm
          obtain ⟨h1, h2⟩ := (Bool.and_eq_true _ _).mp hm
          exact ⟨m, rfl, of_decide_eq_true h1, of_decide_eq_true h2⟩
        | _ => cases hm
      obtain rfl := dq_int hd2
      have e : befD rs (.int m) = some (befs rs m).sum := if_pos ⟨m0, m1⟩
      refine iteF ?_
      refine s_ret ⟨.ref a, rfl, a, rfl, ⟨_, Same.seqT cut_same g⟩, fun D nD => ?_⟩
      refine lc_tup (K := K) (a := a) (xs := ys) (fun i Hi => Same H Hi ∧ Hi D = some (.lst ((befs (rs.take i) m).map V.int))) ⟨same_new nD, upd_same⟩ (fun i Hi _ h => Same.seqT (cut_same.trans h.1) g) ?_ ?_
      · rintro i x Hi hxi ⟨si, ei⟩
        obtain ⟨rn, hq, dq⟩ := dqs_get hy hxi
        have ro := hok rn (List.mem_of_getElem? hq)
        have bt := befs_take (m := m) hq
        have bl := befs_len (rs.take i) m
        rw [List.length_take] at bl
        obtain ⟨ra, rfl, gr⟩ := dq_run dq
        have bs := ro.s
        have bf := ro.f
        refine ⟨ra, _, rfl, Same.seqT (cut_same.trans si) gr, rfl, _, _, rfl, _, _, rfl, _, _, rfl, rfl, ?_⟩
        refine ⟨by first | rfl | simp only [wipe, List.set_set], .int rn.1, rfl, .int m, rfl, rn.1, m, rfl, rfl, _, rfl, ite2 (fun g1 => ?_) (fun g1 => ?_)⟩
        · have g1' : rn.1 < m := of_decide_eq_true g1
          rw [if_pos g1'] at bt
          refine ⟨.int rn.2.2, rfl, .int m, rfl, .int rn.1, rfl, m, rn.1, rfl, rfl, .int rn.2.1, rfl, N, (m - rn.1, rn.2.1), O.keep si, .cons (.int _) (.cons (.int _) .nil), ⟨bs.1, by show rn.2.1 < 1073741824; omega⟩, fun r G sG hr => ?_⟩
          obtain rfl := dq_int hr
          refine ⟨_, _, rfl, _, sG _ _ ei, small1000 (by rw [List.length_map]; omega), same_upd (si.trans sG) nD, ?_⟩
          rw [upd_same, bt, List.map_append]
          rfl
        · have g1' : ¬ rn.1 < m := fun z => g1 (decide_eq_true z)
          rw [if_neg g1', List.append_nil] at bt
          rw [bt]
          exact ⟨si, ei⟩
      · rintro Hn ⟨sn, en⟩
        rw [lys, List.take_length] at en
        refine ⟨D, _, rfl, .inl (.inl en), q1 (by show erD T.C_NoMinute "value" (.int m) (befD rs (.int m)) = _; rw [e]; rfl) _ _ sn ?_⟩
        show Dq K _ _ (okD (befD rs (.int m)))
        rw [e]
        exact .int _
theorem ok_l_opened0 (T : All K mg) : FnOk P w K mg base CX0 1 T.f_l_opened T.fd_l_opened ["script"] (Lm.sp_opened K) := by
  have nd := sc_l_opened.nd
  refine T.D_l_opened.F.ok sc_l_opened (fun vs H Q E h => ?_) (fun cdv A outer s H vs Q E hr h => ?_)
  · obtain ⟨a, ns, rfl, _⟩ := h
    rfl
  · obtain ⟨a, ns, rfl, hS, hl, q⟩ := h
    refine ⟨_, (pss_cons (ps_setLc (i := 2) (own := [("cell", 1)]) rfl nd rfl rfl (sw_true rfl rfl rfl (by decide +kernel)) (pi_list (pe_slice sl_list (pv 0) po_none (po_some pe_int))) (blkOk_by (own := [("cell", 1)]) (N := n_l_opened) (sc := defScope s_l_opened) (by decide +kernel)) (fun _ _ _ _ _ => (pg_name (i := 1) nd rfl (by first | exact Or.inl rfl | exact Or.inr rfl))) (fun _ _ _ _ _ => pts_nil) (fun _ _ _ _ _ => (pe_callB call_abs (by rfl) T.z_abs (by decide +kernel) (pa_cons (pv 1) pa_nil))))
  (pss_one (ps_ret (pe_disp (pps_cons pe_str (pe_lc (own := [("cell", 1)]) rfl nd (pi_list (pv 2)) (blkOk_by (own := [("cell", 1)]) (N := n_l_opened) (sc := defScope s_l_opened) (by decide +kernel)) (fun _ _ _ _ _ => (pg_name (i := 1) nd rfl (by first | exact Or.inl rfl | exact Or.inr rfl))) (fun _ _ _ _ _ => (pts_one (pt_cmpR op_ge (pv 1) (pe_op op_pow pe_int pe_int) (nomark _)))) (fun _ _ _ _ _ => (pv 1))) (pps_cons pe_str (pe_op op_cat (pv 2) (pe_op op_rep (pe_lst (pa_cons pe_int pa_nil)) (pe_callTy call_int1 (by rfl) T.z_int (by decide +kernel) (pa_cons (pe_cmpR (op_eqE hr.units0) (pv 2) (pe_lst pa_nil) (nomark _)) pa_nil)))) (pps_cons pe_str pe_int pps_nil))) (by rfl) (by rfl) (fun z => by cases z) (by decide))))), ?_⟩
    have cut : cutV (ns.map V.int) none (some 64) = ns.map V.int := cut_all (by rw [List.length_map]; omega)
    -- cells
    refine ⟨.ref a, rfl, 64, rfl, a, _, rfl, hS, fun c nc => ⟨c, rfl, ⟨_, .inl (.inl upd_same)⟩, fun D nD => ?_⟩⟩
    rw [cut] at nD ⊢
    have nDc : D ≠ c := (ne_of_none upd_same nD).symm
    have nD0 : H D = none := (Lm.same_new (o := .lst (ns.map V.int)) nc).free nD
    refine lc_list (K := K) (a := c) (xs := ns.map V.int) (fun i H1 => H1 D = some (.lst ((ns.take i).map fun n => V.int (if n < 0 then -n else n))) ∧ H1 c = some (.lst (ns.map V.int)) ∧ Same H H1)
      ⟨upd_same, by rw [upd_ne nDc.symm]; exact upd_same, same_upd2 (Lm.same_new nc) nD0⟩ (fun i H1 _ h => .inl (.inl h.2.1)) ?_ ?_
    · rintro i x H1 hx ⟨eD, ec, s1⟩
      obtain ⟨n, hn, rfl⟩ : ∃ n, ns[i]? = some n ∧ x = V.int n := by
        rw [List.getElem?_map] at hx
        cases e : ns[i]? with
        | none => rw [e] at hx; cases hx
        | some n => rw [e] at hx; exact ⟨n, rfl, (Option.some.inj hx).symm⟩
      have hi : i < ns.length := (List.getElem?_eq_some_iff.mp hn).1
      refine ⟨rfl, yes_if ?_⟩
      refine ⟨.int n, rfl, n, rfl, _, eD, small1000 (by simp; omega), ?_, ?_, same_upd2 s1 nD0⟩
      · rw [upd_same, List.take_add_one, hn, List.map_append]
        rfl
      · rw [upd_ne nDc.symm]
        exact ec
    · rintro H1 ⟨eD, ec, s1⟩
      rw [List.length_map, List.take_length] at eD
      generalize hcs : (ns.map fun n => if n < 0 then -n else n) = cs
      have eD : H1 D = some (.lst (cs.map V.int)) := by
        rw [eD, ← hcs, List.map_map]
        rfl
      have lcs : cs.length ≤ 63 := by rw [← hcs, List.length_map]; exact hl
      -- {'deep': .., 'all': .., 'times': 0}
      intro pp np
      have nDp : D ≠ pp := ne_of_none eD np
      have np0 : H pp = none := s1.free np
      -- [cell for cell in cells if ..]
      refine ⟨.ref D, rfl, D, rfl, ⟨cs.map V.int, .inl (.inl (by rw [upd_ne nDp]; exact eD))⟩, fun E2 nE => ?_⟩
      have nEp : E2 ≠ pp := (ne_of_none upd_same nE).symm
      have nE1 : H1 E2 = none := (Lm.same_new (o := .dK []) np).free nE
      have nED : E2 ≠ D := (ne_of_none eD nE1).symm
      have nE0 : H E2 = none := s1.free nE1
      refine lc_list (K := K) (a := D) (xs := cs.map V.int) (fun i H2 => (∃ ds : List Int, H2 E2 = some (.lst (ds.map V.int)) ∧ ds.length ≤ i) ∧ H2 D = some (.lst (cs.map V.int)) ∧ H2 pp = some (.dK []) ∧ Same H H2)
        ⟨⟨[], upd_same, Nat.le_refl _⟩, by rw [upd_ne nED.symm, upd_ne nDp]; exact eD, by rw [upd_ne nEp.symm]; exact upd_same, same_upd2 (same_upd2 s1 np0) nE0⟩ (fun i H2 _ h => .inl (.inl h.2.1)) ?_ ?_
      · rintro i x H2 hx ⟨⟨ds, eE, ld⟩, eD2, ep2, s2⟩
        obtain ⟨n, hn, rfl⟩ : ∃ n, cs[i]? = some n ∧ x = V.int n := by
          rw [List.getElem?_map] at hx
          cases e : cs[i]? with
          | none => rw [e] at hx; cases hx
          | some n => rw [e] at hx; exact ⟨n, rfl, (Option.some.inj hx).symm⟩
        have hi : i < cs.length := (List.getElem?_eq_some_iff.mp hn).1
        refine ⟨rfl, .int n, rfl, 10, 18, rfl, rfl, ⟨by decide, by decide, by decide⟩, n, _, rfl, rfl, _, rfl, ite2 (fun _ => ?_) (fun _ => ?_)⟩
        · refine ⟨.int n, rfl, _, eE, small1000 (by simp; omega), ⟨ds ++ [n], ?_, by simp; omega⟩, ?_, ?_, same_upd2 s2 nE0⟩
          · rw [upd_same, List.map_append]
            rfl
          · rw [upd_ne nED.symm]; exact eD2
          · rw [upd_ne nEp.symm]; exact ep2
        · exact ⟨⟨ds, eE, by omega⟩, eD2, ep2, s2⟩
      · rintro H2 ⟨⟨ds, eE, ld⟩, eD2, ep2, s2⟩
        rw [List.length_map] at ld
        -- cells + [53] * int(cells == [])
        refine ⟨.ref D, rfl, Nat.le_of_lt (small1000 (by decide)), fun f nf => ⟨.ref D, rfl, Nat.zero_le _, fun g ng => ?_⟩⟩
        have s3 : Same H2 (upd H2 f (.lst [V.int 53])) := Lm.same_new nf
        have s4 : Same (upd H2 f (.lst [V.int 53])) (upd (upd H2 f (.lst [V.int 53])) g (.lst [])) := Lm.same_new ng
        have ef : (upd (upd H2 f (.lst [V.int 53])) g (.lst [])) f = some (.lst [V.int 53]) := s4 _ _ upd_same
        have eD4 : (upd (upd H2 f (.lst [V.int 53])) g (.lst [])) D = some (.lst (cs.map V.int)) := s4 _ _ (s3 _ _ eD2)
        refine ⟨D, g, _, rfl, rfl, .inl (.inl eD4), .inl (.inl upd_same), .inr ⟨_, rfl, f, _, [V.int 53], rfl, rfl, ef, ?_, ?_, ?_, fun r nr => ?_⟩⟩
        · split <;> decide
        · split <;> decide
        · split <;> exact Nat.le_of_lt (small1000 (by decide))
        have s5 := Lm.same_new (o := .lst (List.replicate (if (cs.map V.int).isEmpty = true then (1 : Int) else 0).toNat [V.int 53]).flatten) nr
        refine ⟨D, r, _, _, rfl, rfl, s5 _ _ eD4, upd_same, Nat.le_of_lt (small1000 ?_), fun al na => ?_⟩
        · cases cs with
          | nil => decide
          | cons x xs => simp at lcs ⊢; omega
        have s6 := Lm.same_new (o := .lst (cs.map V.int ++ (List.replicate (if (cs.map V.int).isEmpty = true then (1 : Int) else 0).toNat [V.int 53]).flatten)) na
        have s7 : Same H2 _ := ((s3.trans s4).trans s5).trans s6
        refine ⟨s7 _ _ ep2, [(Sum.inr "deep", V.ref E2), (Sum.inr "all", V.ref al), (Sum.inr "times", V.int 0)], rfl, Nat.le_add_left 3 12, ?_⟩
        have nal : al ≠ pp := (ne_of_none (((s3.trans s4).trans s5) _ _ ep2) na).symm
        have nalE : al ≠ E2 := (ne_of_none (((s3.trans s4).trans s5) _ _ eE) na).symm
        refine q pp E2 al _ ⟨⟨0, upd_same⟩, ⟨ds, by rw [upd_ne nEp]; exact s7 _ _ eE, by omega⟩, ?_, nalE, (fun b x e => nomatch e), rfl, rfl⟩ (same_upd2 (s2.trans s7) np0)
        cases cs with
        | nil => exact ⟨[53], by rw [upd_ne nal, upd_same]; rfl, by simp, by decide⟩
        | cons x xs =>
          refine ⟨x :: xs, by rw [upd_ne nal, upd_same]; simp, by simp, by simp at lcs ⊢; omega⟩
theorem ok_l_opened (T : All K mg) : FnOk P w K mg base CX0 1 T.f_l_opened T.fd_l_opened ["script"] (sp_opened K) := (ok_l_opened0 T).imp (opened_imp K)
theorem ok_l_draw0 (T : All K mg) : FnOk P w K mg base CX0 1 T.f_l_draw T.fd_l_draw ["pot", "many"] Lm.sp_draw := by
  have nd := sc_l_draw.nd
  refine T.D_l_draw.F.ok sc_l_draw (fun vs H Q E h => ?_) (fun cdv A outer s H vs Q E hr h => ?_)
  · obtain ⟨Z, p, dl, al, n, rfl, _⟩ := h
    rfl
  · obtain ⟨Z, p, dl, al, n, rfl, hP, n0, n1, q⟩ := h
    have hu := hu_of hr
    refine ⟨_, (pss_cons (ps_while PassesOwn.never (pt_cmpR (op_neE hr.units0) (pe_dget hu (pv 0) pe_str (fun _ _ => rfl)) (pe_lst pa_nil) (nomark _))
    (pss_cons (ps_set (i := 2) nd rfl (by first | exact Or.inl rfl | exact Or.inr rfl) (pe_bm PySem.F.plainAttrs_list PySem.F.slot_list_pop PySem.F.type_list_pop mt_popAt (pe_dget hu (pv 0) pe_str (fun _ _ => rfl)) (pa_cons pe_int pa_nil)))
  (pss_one (ps_if (pt_cmpR op_gt (pv 2) pe_int (nomark _))
    (pss_cons (ps_expr (pe_bm PySem.F.plainAttrs_list PySem.F.slot_list_insert PySem.F.type_list_insert mt_insert (pe_dget hu (pv 0) pe_str (fun _ _ => rfl)) (pa_cons pe_int (pa_cons (pe_op op_fdivN (pv 2) (pv 1)) pa_nil))))
  (pss_one (ps_ret (pe_op op_modN (pv 2) (pv 1)))))
    pss_nil))))
  (pss_cons (ps_par (i := 3) (j := 4) (by rfl) nd rfl rfl (by decide) rfl rfl (pa_cons (pe_dget hu (pv 0) pe_str (fun _ _ => rfl)) (pa_cons (pe_dget hu (pv 0) pe_str (fun _ _ => rfl)) pa_nil)) (by rfl))
  (pss_cons (ps_dput hu (pv 0) pe_str (pe_op op_add (pv 3) pe_int) rfl)
  (pss_cons (ps_set (i := 5) nd rfl (by first | exact Or.inl rfl | exact Or.inr rfl) (pe_op op_add (pe_op op_modN (pe_ix ix_list (pv 4) (pe_op op_modN (pv 3) (pe_callB call_len_seq (by rfl) T.z_len (by decide +kernel) (pa_cons (pv 4) pa_nil))) (fun _ _ => rfl)) pe_int) (pe_op op_mul pe_int (pe_op op_add (pv 3) pe_int))))
  (pss_cons (ps_set (i := 5) nd rfl (by first | exact Or.inl rfl | exact Or.inr rfl) (pe_op op_modN (pe_op op_mul (pe_op op_modN (pv 5) pe_int) (pe_op op_add (pe_op op_modN (pv 5) pe_int) pe_int)) pe_int))
  (pss_cons (ps_set (i := 5) nd rfl (by first | exact Or.inl rfl | exact Or.inr rfl) (pe_op op_modN (pe_op op_mul (pe_op op_modN (pe_op op_add (pe_op op_mul (pv 5) (pv 5)) (pe_op op_mul pe_int (pv 3))) pe_int) pe_int) pe_int))
  (pss_one (ps_ret (pe_op op_modN (pe_op op_fdivN (pv 5) pe_int) (pv 1)))))))))), ?_⟩
    refine ⟨fun m σ H' => (∃ y2, σ = [some (.ref p), some (.int n), y2, none, none, none]) ∧ PotAt Z H' p dl al ∧ (∃ ns : List Int, H' dl = some (.lst (ns.map V.int)) ∧ ns.length = m) ∧ Lm.Kp Z p dl H H', ?_, ?_⟩
    · obtain ⟨ns, e, _⟩ := hP.de
      exact ⟨ns.length, ⟨_, rfl⟩, hP, ⟨ns, e, rfl⟩, Lm.Kp.refl _ _ _⟩
    · rintro m σ H1 ⟨⟨y2, rfl⟩, P1, ⟨ns, ed, em⟩, k1⟩
      obtain ⟨t, ep⟩ := P1.ob
      have npd := P1.pd
      refine ⟨_, rfl, p, .ref dl, rfl, DGet.k (k := Sum.inr "deep") ep, Nat.zero_le _, fun l nl => ?_⟩
      have fr := P1.free nl
      have ed1 : (upd H1 l (.lst [])) dl = some (.lst (ns.map V.int)) := by rw [upd_ne fr.2.1.symm]; exact ed
      have ep1 : (upd H1 l (.lst [])) p = some (.dK [(.inr "deep", .ref dl), (.inr "all", .ref al), (.inr "times", .int t)]) := by rw [upd_ne fr.1.symm]; exact ep
      have P2 := P1.new (o := .lst []) nl
      have k2 : Lm.Kp Z p dl H (upd H1 l (.lst [])) := k1.trans (Lm.Kp.new nl)
      refine ⟨dl, l, _, rfl, rfl, .inl (.inl ed1), .inl (.inl upd_same), _, rfl, ?_⟩
      cases ns with
      | cons x r =>
        refine iteT ⟨_, fun σ' H' z => z, ?_⟩
        have eP : ∀ o, (upd (upd H1 l (.lst [])) dl o) p = some (.dK [(.inr "deep", .ref dl), (.inr "all", .ref al), (.inr "times", .int t)]) := fun o => by rw [upd_ne npd]; exact ep1
        obtain ⟨ns2, e2, l2⟩ := P1.de
        have lr : r.length ≤ 63 := by
          rw [ed] at e2
          have q2 : (x :: r).map V.int = ns2.map V.int := HO.lst.inj (Option.some.inj e2)
          have q3 := congrArg List.length q2
          simp at q3
          omega
        have P3 : ∀ r' : List Int, r'.length ≤ 64 → PotAt Z (upd (upd H1 l (.lst [])) dl (.lst (r'.map V.int))) p dl al := fun r' hr' => by
          obtain ⟨ns3, e3, h3⟩ := P2.li
          exact ⟨⟨t, eP _⟩, ⟨r', upd_same, hr'⟩, ⟨ns3, by rw [upd_ne P1.ne]; exact e3, h3⟩, P1.ne, Lm.zz_upd P2.zz P2.zd, P2.zp, P2.zd⟩
        have k3 : ∀ H2 o, Lm.Kp Z p dl H2 (upd H2 dl o) := fun H2 o b u e => by
          have nn := Lm.hid_some e
          rw [Lm.hid_at nn.1 nn.2] at e ⊢
          rw [upd_ne nn.2.1]
          exact e
        refine ⟨_, rfl, p, .ref dl, rfl, DGet.k (k := Sum.inr "deep") ep1, .inl ⟨rfl, _, .inl (.inl ed1)⟩, dl, _, 0, 0, .int x, rfl, rfl, ed1, by decide, by decide, seq0 (by simp), rfl, ?_⟩
        refine ⟨_, rfl, x, 0, rfl, rfl, _, rfl, ite2 (fun gx => ?_) (fun gx => ?_)⟩
        · refine ⟨_, rfl, p, .ref dl, rfl, DGet.k (k := Sum.inr "deep") (eP _), .inl ⟨rfl, _, .inl (.inl upd_same)⟩, _, rfl, _, rfl, x, n, rfl, rfl, ⟨by omega, by omega⟩, dl, _, 0, _, rfl, rfl, upd_same, small1000 (by simp; omega), by decide, by decide, ?_⟩
          refine ⟨_, rfl, _, rfl, x, n, rfl, rfl, by omega, ?_⟩
          rw [upd_upd]
          refine q _ _ ?_ (k2.trans (k3 _ _)) (fmodB n0).1 (fmodB n0).2
          exact P3 (x.fdiv n :: r) (by simp; omega)
        · refine ⟨r.length, by rw [← em]; exact Nat.lt_succ_self _, ⟨_, rfl⟩, P3 r (by omega), ⟨r, upd_same, rfl⟩, k2.trans (k3 _ _)⟩
      | nil =>
        refine iteF ?_
        obtain ⟨cs, ec, nc, lc⟩ := P2.li
        have nal : al ≠ p := P1.pa
        refine ⟨_, rfl, p, .int t, rfl, DGet.k (k := Sum.inr "times") ep1, _, rfl, p, .ref al, rfl, DGet.k (k := Sum.inr "all") ep1, _, _, rfl, ?_⟩
        refine ⟨_, rfl, t, 1, rfl, rfl, _, rfl, p, _, rfl, DPut.k (k := Sum.inr "times") ep1 (small1000 (by simp)), ?_⟩
        have eal : ∀ o, (upd (upd H1 l (.lst [])) p o) al = some (.lst (cs.map V.int)) := fun o => by rw [upd_ne nal]; exact ec
        have lpos : (0 : Int) < ((cs.map V.int).length : Int) := by
          cases cs with
          | nil => exact absurd rfl nc
          | cons c r => simp
        have bx := fmodB (a := t) lpos
        obtain ⟨c, hc⟩ : ∃ c, cs[(t.fmod ((cs.map V.int).length : Int)).toNat]? = some c := by
          have hb : (t.fmod ((cs.map V.int).length : Int)).toNat < cs.length := by
            rw [List.length_map] at bx ⊢
            omega
          exact ⟨_, List.getElem?_eq_getElem hb⟩
        refine ⟨_, rfl, _, rfl, _, rfl, al, _, rfl, .inl (.inl (.inl (eal _))), t, _, rfl, rfl, by omega, al, _, _, .int c, rfl, rfl, .inl (.inl (eal _)), at_of (j := (t.fmod ((cs.map V.int).length : Int)).toNat) (by omega) (by rw [List.getElem?_map, hc]; rfl), c, 4294967291, rfl, rfl, (show (4294967291 : Int) ≠ 0 by decide), ?_⟩
        have m2 : ∀ z : Int, 0 ≤ z.fmod 4294967291 ∧ z.fmod 4294967291 < 4294967291 := fun z => fmodB (by decide)
        refine ⟨_, rfl, t, 1, rfl, rfl, 2246822519, _, rfl, rfl, .inl ⟨by decide, by decide⟩, _, _, rfl, rfl, ?_⟩
        have w1 : (4294967291 : Int) ≠ 0 := by decide
        have w2 : (50021 : Int) ≠ 0 := by decide
        refine ⟨_, rfl, _, _, rfl, rfl, w1, _, rfl, _, _, rfl, rfl, w2, _, _, rfl, rfl, _, _, rfl, rfl, .inl ⟨by have := (m2 (c.fmod 4294967291 + 2246822519 * (t + 1))).1; omega, by have := (m2 (c.fmod 4294967291 + 2246822519 * (t + 1))).2; omega⟩, _, _, rfl, rfl, w1, ?_⟩
        dsimp only [gName, List.set]
        generalize hz : ((c.fmod 4294967291 + 2246822519 * (t + 1)).fmod 4294967291 * ((c.fmod 4294967291 + 2246822519 * (t + 1)).fmod 50021 + 13)).fmod 4294967291 = z
        have bz : 0 ≤ z ∧ z < 4294967291 := by rw [← hz]; exact m2 _
        refine ⟨_, rfl, _, rfl, z, z, rfl, rfl, .inl ⟨by omega, by omega⟩, _, rfl, 668265263, t, rfl, rfl, .inl ⟨by decide, by decide⟩, _, _, rfl, rfl, _, _, rfl, rfl, w1, _, _, rfl, rfl, .inr ⟨by decide, by decide⟩, _, _, rfl, rfl, w1, ?_⟩
        refine ⟨_, rfl, _, _, rfl, rfl, ⟨by decide, by decide⟩, _, rfl, _, _, rfl, rfl, by omega, ?_⟩
        refine q _ _ ?_ ?_ (fmodB n0).1 (fmodB n0).2
        · exact ⟨⟨t + 1, upd_same⟩, ⟨[], by rw [upd_ne npd.symm]; exact ed1, by decide⟩, ⟨cs, eal _, nc, lc⟩, P1.ne, Lm.zz_upd P2.zz P2.zp, P2.zp, P2.zd⟩
        · refine k2.trans fun b u e => ?_
          have nn := Lm.hid_some e
          rw [Lm.hid_at nn.1 nn.2] at e ⊢
          rw [upd_ne nn.1]
          exact e
theorem ok_l_draw (T : All K mg) : FnOk P w K mg base CX0 1 T.f_l_draw T.fd_l_draw ["pot", "many"] sp_draw := (ok_l_draw0 T).imp draw_imp
theorem ok_l_one0 (T : All K mg) : FnOk P w K mg base CX0 2 T.f_l_one T.fd_l_one ["pot", "items"] Lm.sp_one := by
  have nd := sc_l_one.nd
  refine T.D_l_one.F.ok sc_l_one (fun vs H Q E h => ?_) (fun cdv A outer s H vs Q E hr h => ?_)
  · obtain ⟨Z, p, dl, al, l, xs, rfl, _⟩ := h
    rfl
  · obtain ⟨Z, p, dl, al, l, xs, rfl, hP, hl, ne, hn, q⟩ := h
    refine ⟨_, (pss_one (ps_ret (pe_ix ix_list (pv 1) (pe_call (ok_l_draw0 T) (hr.mono (by decide)) (by rfl) T.D_l_draw.g T.D_l_draw.F.kp T.D_l_draw.b .nil pass0 (pa_cons (pv 0) (pa_cons (pe_callB call_len_seq (by rfl) T.z_len (by decide +kernel) (pa_cons (pv 1) pa_nil)) pa_nil))) (fun _ _ => rfl)))), ?_⟩
    have pos : 0 < xs.length := by
      cases xs with
      | nil => exact absurd rfl ne
      | cons x r => simp
    refine ⟨.ref l, rfl, .ref p, rfl, .ref l, rfl, l, xs, rfl, .inl (.inl (.inl (Lm.hid_same _ _ _ _ _ hl))), Z, p, dl, al, (xs.length : Int), rfl, hP, by omega, by omega, fun r H2 P2 k2 r0 r1 => ?_⟩
    have hb : r.toNat < xs.length := by omega
    refine ⟨l, xs, r, xs[r.toNat], rfl, rfl, .inl (.inl (Lm.hid_same _ _ _ _ _ (k2 _ _ hl))), at_of (j := r.toNat) (by omega) (List.getElem?_eq_getElem hb), ?_⟩
    exact q _ _ (List.getElem_mem hb) P2 k2
theorem ok_l_one (T : All K mg) : FnOk P w K mg base CX0 2 T.f_l_one T.fd_l_one ["pot", "items"] sp_one := (ok_l_one0 T).imp one_imp
theorem ok_l_minutes (T : All K mg) : FnOk P w K mg base CX0 3 T.f_l_minutes T.fd_l_minutes ["pot", "upto"] (sp_minsP K) := by
  have nd := sc_l_minutes.nd
  refine T.D_l_minutes.F.ok sc_l_minutes (fun vs H Q E h => ?_) (fun cdv A outer s H vs Q E hr h => ?_)
  · obtain ⟨Z, p, dl, al, u, rfl, _⟩ := h
    rfl
  · obtain ⟨Z, p, dl, al, u, rfl, hP, u0, u1, q⟩ := h
    refine ⟨_, (pss_cons (ps_par (i := 2) (j := 3) (by rfl) nd rfl rfl (by decide) rfl rfl (pa_cons (pe_lst pa_nil) (pa_cons (pe_call (ok_l_one T) (hr.mono (by decide)) (by rfl) T.D_l_one.g T.D_l_one.F.kp T.D_l_one.b .nil pass0 (pa_cons (pv 0) (pa_cons (pe_lst (pa_cons pe_int (pa_cons pe_int (pa_cons (pe_call (ok_l_draw T) (hr.mono (by decide)) (by rfl) T.D_l_draw.g T.D_l_draw.F.kp T.D_l_draw.b .nil pass0 (pa_cons (pv 0) (pa_cons pe_int pa_nil))) pa_nil)))) pa_nil))) pa_nil)) (by rfl))
  (pss_cons (ps_for PassesOwn.never rfl (pi_range1 (by rfl) T.z_range (pa_cons (pe_call (ok_l_draw T) (hr.mono (by decide)) (by rfl) T.D_l_draw.g T.D_l_draw.F.kp T.D_l_draw.b .nil pass0 (pa_cons (pv 0) (pa_cons (pe_op op_add (pv 1) pe_int) pa_nil))) pa_nil)) (pg_name (i := 4) nd rfl (by first | exact Or.inl rfl | exact Or.inr rfl))
    (pss_cons (ps_expr (pe_bm PySem.F.plainAttrs_list PySem.F.slot_list_append PySem.F.type_list_append mt_append (pv 2) (pa_cons (pv 3) pa_nil)))
  (pss_cons (ps_set (i := 5) nd rfl (by first | exact Or.inl rfl | exact Or.inr rfl) (pe_call (ok_l_one T) (hr.mono (by decide)) (by rfl) T.D_l_one.g T.D_l_one.F.kp T.D_l_one.b .nil pass0 (pa_cons (pv 0) (pa_cons (pe_lst (pa_cons pe_int (pa_cons pe_int (pa_cons pe_int (pa_cons pe_int (pa_cons (pe_op op_add pe_int (pe_call (ok_l_draw T) (hr.mono (by decide)) (by rfl) T.D_l_draw.g T.D_l_draw.F.kp T.D_l_draw.b .nil pass0 (pa_cons (pv 0) (pa_cons pe_int pa_nil)))) (pa_cons (pe_op op_add pe_int (pe_call (ok_l_draw T) (hr.mono (by decide)) (by rfl) T.D_l_draw.g T.D_l_draw.F.kp T.D_l_draw.b .nil pass0 (pa_cons (pv 0) (pa_cons pe_int pa_nil)))) pa_nil))))))) pa_nil))))
  (pss_cons (ps_if (PW.pt (pw_and (pt_cmpR op_gt (pe_callB call_len_seq (by rfl) T.z_len (by decide +kernel) (pa_cons (pv 2) pa_nil)) pe_int (nomark _)) (pw_and1 (pt_cmpR op_gt (pe_call (ok_l_draw T) (hr.mono (by decide)) (by rfl) T.D_l_draw.g T.D_l_draw.F.kp T.D_l_draw.b .nil pass0 (pa_cons (pv 0) (pa_cons pe_int pa_nil))) pe_int (nomark _)))))
    (pss_one (ps_set (i := 5) nd rfl (by first | exact Or.inl rfl | exact Or.inr rfl) (pe_op op_sub (pe_ix ix_list (pv 2) (pe_un un_neg pe_int) (fun _ _ => rfl)) (pe_ix ix_list (pv 2) (pe_un un_neg pe_int) (fun _ _ => rfl)))))
    pss_nil)
  (pss_one (ps_set (i := 3) nd rfl (by first | exact Or.inl rfl | exact Or.inr rfl) (pe_op op_add (pv 3) (pv 5))))))))
  (pss_one (ps_ret (pe_callTy call_tuple_of (by rfl) T.z_tuple (by decide +kernel) (pa_cons (pv 2) pa_nil)))))), ?_⟩
    refine s_par ⟨Nat.zero_le _, fun f nf => ?_⟩
    obtain ⟨P1, k1, e1⟩ := laid (o := .lst []) hP nf
    have ff := hP.free nf
    refine r_cons ?_
    refine (ev_one (m0 := 2) (m := 3) (R := IR 0 49) (by rfl) (by decide) IR.mo (ev_lst (by decide) IR.mo
      (eall_cons IR.mo (ev_int.wide (by decide) (by decide)) (eall_cons IR.mo (ev_int.wide (by decide) (by decide))
      (eall_cons IR.mo (ev_drawC (m := 50)) eall_nil))))).run P1 (b := 0) (by omega) fun v H2 P2 k2 r2 => ?_
    obtain ⟨h, rfl, h0, h1⟩ := r2
    refine ⟨_, _, rfl, ?_⟩
    refine s_rng ?_
    refine (eva_cons IR.mo (ev_draw (b := u + 1) (by rfl) (by omega) ((ev_add (ev_ivar (lo := u) (hi := u) (by rfl) (Int.le_refl _) (Int.le_refl _)) (ev_int (i := 1))).wide (by omega) (by omega))) eva_nil).run P2 (b := 0) (by omega) fun vs H3 P3 k3 r3 => ?_
    obtain ⟨_, _, rfl, ⟨n, rfl, n0, n1⟩, rfl⟩ := r3
    refine ⟨n, rfl, by omega, by omega, for_it walk_range (fun i σ Hi => ∃ ms x y4 y5, σ = [some (.ref p), some (.int u), some (.ref f), some (.int x), y4, y5] ∧ Iv (pot p dl al) Z 0 Hi ∧ Kp (pot p dl al) Z H Hi ∧ Hi f = some (.lst (ms.map V.int)) ∧
      ms.length = i ∧ Asc (-1) ms ∧ (∀ y ∈ ms, 0 ≤ y ∧ y < x) ∧ (∀ y, ms.getLast? = some y → x - 60 ≤ y) ∧ 0 ≤ x ∧ x ≤ 50 + (i : Int) * 60) ⟨[], h, _, _, rfl, P3, (k1.trans k2).trans k3, k3.at_ ff (k2.at_ ff upd_same), rfl, trivial, (fun y hy => nomatch hy), (fun y hy => nomatch hy), h0, by omega⟩ (fun i σ H1 _ h => trivial) ?_ ?_⟩
    · rintro i x σ Hi H' hi ⟨ms, x, y4, y5, rfl, Pi, ki, ei, hl, ha, hb, hn, x0, x1⟩ ⟨rfl, rfl⟩
      have hi' : i < 60 := by
        have : i < n.toNat := hi
        omega
      refine s_expr ⟨.ref f, rfl, .inl ⟨rfl, _, .inl (.inl ei)⟩, .int x, rfl, f, _, _, rfl, rfl, ei, small1000 (by rw [List.length_map]; omega), ?_⟩
      obtain ⟨P6, k6⟩ := set_iv (o := .lst (ms.map V.int ++ [.int x])) hP nf Pi ki
      refine s_set ?_
      refine (ev_one (m0 := 5) (m := 6) (R := IR 1 60) (by rfl) (by decide) IR.mo (ev_lst (by decide) IR.mo
        (eall_cons IR.mo (ev_int.wide (by decide) (by decide)) (eall_cons IR.mo (ev_int.wide (by decide) (by decide)) (eall_cons IR.mo (ev_int.wide (by decide) (by decide)) (eall_cons IR.mo (ev_int.wide (by decide) (by decide))
        (eall_cons IR.mo ((ev_add (a := 1) (b := 1) ev_int (ev_drawC (m := 12))).wide (by decide) (by decide))
        (eall_cons IR.mo ((ev_add (a := 1) (b := 1) ev_int (ev_drawC (m := 60))).wide (by decide) (by decide)) eall_nil)))))))).run P6 (b := 0) (by omega) fun v H7 P7 k7 r7 => ?_
      obtain ⟨ne, rfl, ne0, ne1⟩ := r7
      have f7 := k7.at_ ff upd_same
      have e8 : ∀ {Hk : Hp}, Kp (pot p dl al) Z H7 Hk → Hk f = some (.lst ((ms ++ [x]).map V.int)) := fun k => by
        rw [List.map_append]
        exact k.at_ ff f7
      have fin : ∀ (z : Int) (y5 : Option V) (Hk : Hp), x < z → z ≤ x + 60 → Iv (pot p dl al) Z 0 Hk → Kp (pot p dl al) Z H7 Hk → _ := fun z y5 Hk z0 z1 Pk kk =>
        (⟨ms ++ [x], z, some (.int (0 + (i : Int))), y5, rfl, Pk, (k6.trans k7).trans kk, e8 kk, by rw [List.length_append, hl]; rfl, Asc.snoc ha (by omega) fun y hy => (hb y hy).2, fun y hy => by
          rcases List.mem_append.mp hy with e | e
          · have := hb y e; omega
          · rw [List.mem_singleton.mp e]; omega, fun y hy => by
          rw [List.getLast?_concat] at hy
          cases hy
          omega, by omega, by omega⟩ : ∃ ms x y4' y5', ([some (.ref p), some (.int u), some (.ref f), some (.int z), some (.int (0 + (i : Int))), y5] : L2.St) = [some (.ref p), some (.int u), some (.ref f), some (.int x), y4', y5'] ∧ Iv (pot p dl al) Z 0 Hk ∧ Kp (pot p dl al) Z H Hk ∧ Hk f = some (.lst (ms.map V.int)) ∧
      ms.length = i + 1 ∧ Asc (-1) ms ∧ (∀ y ∈ ms, 0 ≤ y ∧ y < x) ∧ (∀ y, ms.getLast? = some y → x - 60 ≤ y) ∧ 0 ≤ x ∧ x ≤ 50 + ((i + 1 : Nat) : Int) * 60)
      have fin1 : ∀ (Hk : Hp) (D : Ends) (z : Int), 1 ≤ z → z ≤ 60 → Iv (pot p dl al) Z 0 Hk → Kp (pot p dl al) Z H7 Hk → D.nx = (fun σ Hi => ∃ ms x y4 y5, σ = [some (.ref p), some (.int u), some (.ref f), some (.int x), y4, y5] ∧ Iv (pot p dl al) Z 0 Hi ∧ Kp (pot p dl al) Z H Hi ∧ Hi f = some (.lst (ms.map V.int)) ∧
          ms.length = i + 1 ∧ Asc (-1) ms ∧ (∀ y ∈ ms, 0 ≤ y ∧ y < x) ∧ (∀ y, ms.getLast? = some y → x - 60 ≤ y) ∧ 0 ≤ x ∧ x ≤ 50 + ((i + 1 : Nat) : Int) * 60) → tAsg (tOp (rI0 fun i j => V.int (i + j)) (tVar 3) (tVar 5)) (gName 3) D [some (.ref p), some (.int u), some (.ref f), some (.int x), some (.int (0 + (i : Int))), some (.int z)] Hk := fun Hk D z z0 z1 Pk kk hD => by
        refine s_set1 ⟨.int x, rfl, .int z, rfl, x, z, rfl, rfl, ?_⟩
        rw [hD]
        exact fin (x + z) _ Hk (by omega) (by omega) Pk kk
      refine s_ifn ⟨.ref f, rfl, f, _, rfl, .inl (.inl (.inl f7)), _, 1, rfl, rfl, _, rfl, ite2 (fun g1 => ?_) (fun g1 => ?_)⟩
      · refine (ev_drawC (m := 3)).run P7 (b := 0) (by omega) fun v H8 P8 k8 r8 => ?_
        obtain ⟨d3, rfl, _, _⟩ := r8
        refine ⟨_, _, rfl, rfl, _, rfl, ite2 (fun g2 => ?_) (fun g2 => ?_)⟩
        · have g1' := of_decide_eq_true g1
          rcases List.eq_nil_or_concat ms with e | ⟨ms', y, e⟩
          · subst e
            exact absurd g1' (by simp)
          · have f8 := k8.at_ ff f7
            rw [List.concat_eq_append] at e
            have hy := hb y (by rw [e]; simp)
            have hny := hn y (by rw [e, List.getLast?_concat])
            have eL : List.map V.int ms ++ [V.int x] = List.map V.int ms' ++ [V.int y] ++ [V.int x] := by rw [e, List.map_append]; rfl
            rw [eL] at f8
            refine ⟨_, rfl, 1, rfl, f, _, -1, .int x, rfl, rfl, .inl (.inl f8), atI_last _ _, _, rfl, 2, rfl, f, _, -2, .int y, rfl, rfl, .inl (.inl f8), atI_pre2, x, y, rfl, rfl, ?_⟩
            exact fin1 H8 _ (x - y) (by omega) (by omega) P8 k8 rfl
        · exact fin1 H8 _ ne ne0 ne1 P8 k8 rfl
      · exact fin1 H7 _ ne ne0 ne1 P7 Kp.refl rfl
    · rintro σ Hi ⟨ms, x, y4, y5, rfl, Pi, ki, ei, hl, ha, hb, hn, x0, x1⟩
      refine ⟨.ref f, rfl, f, _, rfl, .inl ⟨.inl (.inl ei), fun t nt => ?_⟩⟩
      obtain ⟨P7, k7, e7⟩ := laid (o := .tup (ms.map V.int)) Pi nt
      have hn60 : ms.length ≤ 60 := by rw [hl]; omega
      refine q _ _ ms P7 (ki.trans k7) (.tup (.inl (.inl e7)) ints_dqs) ⟨ha, hn60, fun y hy => ?_⟩
      have := hb y hy
      omega
theorem ok_l_far_runs (T : All K mg) : FnOk P w K mg base CX0 3 T.f_l_far_runs T.fd_l_far_runs ["pot", "upto"] (sp_farP K) := by
  have nd := sc_l_far_runs.nd
  refine T.D_l_far_runs.F.ok sc_l_far_runs (fun vs H Q E h => ?_) (fun cdv A outer s H vs Q E hr h => ?_)
  · obtain ⟨Z, p, dl, al, u, rfl, _⟩ := h
    rfl
  · obtain ⟨Z, p, dl, al, u, rfl, hP, u0, u1, q⟩ := h
    refine ⟨_, (pss_cons (ps_par3 (i := 2) (j := 3) (l := 4) (by rfl) nd rfl rfl rfl (by decide) (by decide) (by decide) rfl rfl rfl (pa_cons (pe_lst pa_nil) (pa_cons (pe_call (ok_l_one T) (hr.mono (by decide)) (by rfl) T.D_l_one.g T.D_l_one.F.kp T.D_l_one.b .nil pass0 (pa_cons (pv 0) (pa_cons (pe_lst (pa_cons pe_int (pa_cons (pe_call (ok_l_draw T) (hr.mono (by decide)) (by rfl) T.D_l_draw.g T.D_l_draw.F.kp T.D_l_draw.b .nil pass0 (pa_cons (pv 0) (pa_cons pe_int pa_nil))) (pa_cons (pe_call (ok_l_draw T) (hr.mono (by decide)) (by rfl) T.D_l_draw.g T.D_l_draw.F.kp T.D_l_draw.b .nil pass0 (pa_cons (pv 0) (pa_cons (pe_op op_pow pe_int pe_int) pa_nil))) pa_nil)))) pa_nil))) (pa_cons (pe_op op_pow pe_int pe_int) pa_nil))) (by rfl))
  (pss_cons (ps_for PassesOwn.never rfl (pi_range1 (by rfl) T.z_range (pa_cons (pe_call (ok_l_draw T) (hr.mono (by decide)) (by rfl) T.D_l_draw.g T.D_l_draw.F.kp T.D_l_draw.b .nil pass0 (pa_cons (pv 0) (pa_cons (pe_op op_add (pv 1) pe_int) pa_nil))) pa_nil)) (pg_name (i := 5) nd rfl (by first | exact Or.inl rfl | exact Or.inr rfl))
    (pss_cons (ps_set (i := 6) nd rfl (by first | exact Or.inl rfl | exact Or.inr rfl) (pe_call (ok_l_one T) (hr.mono (by decide)) (by rfl) T.D_l_one.g T.D_l_one.F.kp T.D_l_one.b .nil pass0 (pa_cons (pv 0) (pa_cons (pe_lst (pa_cons pe_int (pa_cons pe_int (pa_cons (pe_op op_add pe_int (pe_call (ok_l_draw T) (hr.mono (by decide)) (by rfl) T.D_l_draw.g T.D_l_draw.F.kp T.D_l_draw.b .nil pass0 (pa_cons (pv 0) (pa_cons pe_int pa_nil)))) (pa_cons (pe_op op_add pe_int (pe_call (ok_l_draw T) (hr.mono (by decide)) (by rfl) T.D_l_draw.g T.D_l_draw.F.kp T.D_l_draw.b .nil pass0 (pa_cons (pv 0) (pa_cons (pe_op op_pow pe_int pe_int) pa_nil)))) (pa_cons (pe_op op_pow pe_int pe_int) pa_nil)))))) pa_nil))))
  (pss_cons (ps_set (i := 7) nd rfl (by first | exact Or.inl rfl | exact Or.inr rfl) (pe_op op_add pe_int (pe_callB (call_min2 rfl) (by rfl) T.z_min (by decide +kernel) (pa_cons (pe_op op_fdivN (pe_op op_sub (pv 4) (pv 3)) (pv 6)) (pa_cons (pe_call (ok_l_one T) (hr.mono (by decide)) (by rfl) T.D_l_one.g T.D_l_one.F.kp T.D_l_one.b .nil pass0 (pa_cons (pv 0) (pa_cons (pe_lst (pa_cons pe_int (pa_cons pe_int (pa_cons (pe_call (ok_l_draw T) (hr.mono (by decide)) (by rfl) T.D_l_draw.g T.D_l_draw.F.kp T.D_l_draw.b .nil pass0 (pa_cons (pv 0) (pa_cons pe_int pa_nil))) (pa_cons (pe_call (ok_l_draw T) (hr.mono (by decide)) (by rfl) T.D_l_draw.g T.D_l_draw.F.kp T.D_l_draw.b .nil pass0 (pa_cons (pv 0) (pa_cons (pe_op op_pow pe_int pe_int) pa_nil))) (pa_cons (pv 4) pa_nil)))))) pa_nil))) pa_nil)))))
  (pss_one (ps_if (pt_cmpR op_le (pv 3) (pv 4) (nomark _))
    (pss_cons (ps_expr (pe_bm PySem.F.plainAttrs_list PySem.F.slot_list_append PySem.F.type_list_append mt_append (pv 2) (pa_cons (pe_tup (pa_cons (pv 3) (pa_cons (pe_ifExp (pt_cmpR op_gt (pv 7) pe_int (nomark _)) (pv 6) pe_int) (pa_cons (pv 7) pa_nil)))) pa_nil)))
  (pss_cons (ps_set (i := 8) nd rfl (by first | exact Or.inl rfl | exact Or.inr rfl) (pe_call (ok_l_one T) (hr.mono (by decide)) (by rfl) T.D_l_one.g T.D_l_one.F.kp T.D_l_one.b .nil pass0 (pa_cons (pv 0) (pa_cons (pe_lst (pa_cons pe_int (pa_cons pe_int (pa_cons (pe_op op_add pe_int (pe_call (ok_l_draw T) (hr.mono (by decide)) (by rfl) T.D_l_draw.g T.D_l_draw.F.kp T.D_l_draw.b .nil pass0 (pa_cons (pv 0) (pa_cons pe_int pa_nil)))) (pa_cons (pe_op op_add pe_int (pe_call (ok_l_draw T) (hr.mono (by decide)) (by rfl) T.D_l_draw.g T.D_l_draw.F.kp T.D_l_draw.b .nil pass0 (pa_cons (pv 0) (pa_cons (pe_op op_pow pe_int pe_int) pa_nil)))) pa_nil))))) pa_nil))))
  (pss_one (ps_set (i := 3) nd rfl (by first | exact Or.inl rfl | exact Or.inr rfl) (pe_op op_add (pe_op op_add (pv 3) (pe_op op_mul (pv 6) (pe_op op_sub (pv 7) pe_int))) (pv 8))))))
    pss_nil)))))
  (pss_one (ps_ret (pe_callTy call_tuple_of (by rfl) T.z_tuple (by decide +kernel) (pa_cons (pv 2) pa_nil)))))), ?_⟩
    refine s_par3 ⟨Nat.zero_le _, fun f nf => ?_⟩
    obtain ⟨P1, k1, e1⟩ := laid (o := .lst []) hP nf
    have ff := hP.free nf
    refine (eva_cons IR.mo (ev_one (m0 := 2) (m := 3) (R := IR 0 100000000) (by rfl) (by decide) IR.mo (ev_lst (by decide) IR.mo (eall_cons IR.mo (ev_int.wide (by decide) (by decide)) (eall_cons IR.mo ((ev_drawC (m := 100)).wide (by decide) (by decide))
      (eall_cons IR.mo ((ev_draw (b := 100000000) (by rfl) (by decide) ((ev_pow (by decide)).wide (by decide) (by decide))).wide (by decide) (by decide)) eall_nil))))) (eva_cons IR.mo (ev_pow (by decide)) eva_nil)).run P1 (b := 0) (by omega) fun vs H2 P2 k2 r2 => ?_
    obtain ⟨_, _, rfl, ⟨b, rfl, b0, b1⟩, _, _, rfl, ⟨mm, rfl, m0, m1⟩, rfl⟩ := r2
    have em : mm = 1000000000 := by
      have a : (10 : Int) ^ (9 : Int).toNat = 1000000000 := by decide
      omega
    subst em
    clear m0 m1
    refine ⟨_, _, _, rfl, ?_⟩
    refine s_rng ?_
    refine (eva_cons IR.mo (ev_draw (b := u + 1) (by rfl) (by omega) ((ev_add (ev_ivar (lo := u) (hi := u) (by rfl) (Int.le_refl _) (Int.le_refl _)) (ev_int (i := 1))).wide (by omega) (by omega))) eva_nil).run P2 (b := 0) (by omega) fun vs H3 P3 k3 r3 => ?_
    obtain ⟨_, _, rfl, ⟨n, rfl, n0, n1⟩, rfl⟩ := r3
    refine ⟨n, rfl, by omega, by omega, for_it walk_range (fun i σ Hi => ∃ rs xs b y5 y6 y7 y8, σ = [some (.ref p), some (.int u), some (.ref f), some (.int b), some (.int 1000000000), y5, y6, y7, y8] ∧ Iv (pot p dl al) Z 0 Hi ∧ Kp (pot p dl al) Z H Hi ∧ Hi f = some (.lst xs) ∧ Dqs K (cut1 f (hid (pot p dl al) Z Hi)) xs (rs.map runD) ∧
      rs.length ≤ i ∧ 0 ≤ b ∧ b ≤ 1010000000 ∧ RunsUp (-1) rs ∧ endL (-1) rs < b ∧ ∀ r ∈ rs, RunOk r) ⟨[], [], b, _, _, _, _, rfl, P3, (k1.trans k2).trans k3, k3.at_ ff (k2.at_ ff upd_same), .nil, Nat.le_refl _, b0, by omega, trivial, by show (-1 : Int) < b; omega, (fun r hr => nomatch hr)⟩ (fun i σ H1 _ h => trivial) ?_ ?_⟩
    · rintro i x σ Hi H' hi ⟨rs, xs, b, y5, y6, y7, y8, rfl, Pi, ki, ei, hx, la, b0, b1, up, eb, ok⟩ ⟨rfl, rfl⟩
      have hi' : i < 60 := by
        have : i < n.toNat := hi
        omega
      refine s_set ?_
      refine (ev_one (m0 := 4) (m := 5) (R := IR 1 100000000) (by rfl) (by decide) IR.mo (ev_lst (by decide) IR.mo (eall_cons IR.mo (ev_int.wide (by decide) (by decide)) (eall_cons IR.mo (ev_int.wide (by decide) (by decide))
        (eall_cons IR.mo ((ev_add (a := 1) (b := 1) ev_int (ev_drawC (m := 30))).wide (by decide) (by decide))
        (eall_cons IR.mo ((ev_add (a := 1) (b := 1) ev_int (ev_draw (b := 1000000) (by rfl) (by decide) ((ev_pow (by decide)).wide (by decide) (by decide)))).wide (by decide) (by decide))
        (eall_cons IR.mo ((ev_pow (by decide)).wide (by decide) (by decide)) eall_nil))))))).run Pi (b := 0) (by omega) fun v H4 P4 k4 r4 => ?_
      obtain ⟨st, rfl, s0, s1⟩ := r4
      refine s_set ⟨.int 1000000000, rfl, .int b, rfl, _, _, rfl, rfl, .int st, rfl, _, _, rfl, rfl, ⟨by omega, by omega⟩, ?_⟩
      refine (eva_cons IR.mo (ev_one (m0 := 4) (m := 5) (R := IR 0 1000000000) (by rfl) (by decide) IR.mo (ev_lst (by decide) IR.mo (eall_cons IR.mo (ev_int.wide (by decide) (by decide)) (eall_cons IR.mo (ev_int.wide (by decide) (by decide))
        (eall_cons IR.mo ((ev_drawC (m := 6)).wide (by decide) (by decide))
        (eall_cons IR.mo ((ev_draw (b := 10000000) (by rfl) (by decide) ((ev_pow (by decide)).wide (by decide) (by decide))).wide (by decide) (by decide))
        (eall_cons IR.mo (ev_ivar (g := 1000000000) (lo := 0) (hi := 1000000000) (by rfl) (by decide) (Int.le_refl _)) eall_nil))))))) eva_nil).run P4 (b := 0) (by omega) fun vs H5 P5 k5 r5 => ?_
      obtain ⟨_, _, rfl, ⟨x, rfl, x0, x1⟩, rfl⟩ := r5
      refine ⟨_, _, rfl, 1, _, rfl, rfl, ?_⟩
      have f5 := k5.at_ ff (k4.at_ ff ei)
      have k45 : Kp (pot p dl al) Z H' H5 := Kp.trans k4 k5
      have hx5 : Dqs K (cut1 f (hid (pot p dl al) Z H5)) xs (rs.map runD) := hx.mono (cut_mono k45)
      have k05 := ki.trans k45
      refine s_if1 ?_
      refine ⟨.int b, rfl, .int 1000000000, rfl, _, _, rfl, rfl, _, rfl, ite2 (fun g => ?_) (fun g => ?_)⟩
      · have g' : b ≤ 1000000000 := of_decide_eq_true g
        have F := far_step (m := 1000000000 - b) (st := st) (x := x) (by omega) s0 x0
        generalize (if x < (1000000000 - b).fdiv st then x else (1000000000 - b).fdiv st) = kk at F ⊢
        obtain ⟨F0, F1, F2, F3⟩ := F
        refine s_expr ⟨.ref f, rfl, .inl ⟨rfl, _, .inl (.inl f5)⟩, ?_⟩
        refine r_cons (r_tup ⟨.int b, rfl, ?_⟩)
        refine te_of (fun v G => G = H5 ∧ ∃ s2 : Int, v = .int s2 ∧ 1 ≤ s2 ∧ s2 ≤ 100000000 ∧ s2 * kk = st * kk) ?_ ?_
        · rintro _ G ⟨eG, s2, rfl, s20, s21, s22⟩
          subst eG
          refine ⟨.int (1 + kk), rfl, Nat.le_of_lt (small1000 (show 3 ≤ 1000 by decide)), fun t nt => ?_⟩
          have tf : f ≠ t := fun e => by rw [← e, f5] at nt; cases nt
          have lx := hx5.len
          rw [List.length_map] at lx
          refine ⟨f, xs, _, rfl, rfl, by rw [upd_ne tf]; exact f5, small1000 (by omega), ?_⟩
          obtain ⟨P6, k6⟩ := app_iv (vs := [.int b, .int s2, .int (1 + kk)]) (o := .lst (xs ++ [.ref t])) hP nf P5 k05 nt
          obtain ⟨s5, e5⟩ := app_cut (vs := [.int b, .int s2, .int (1 + kk)]) (o' := .lst (xs ++ [.ref t])) P5.occ f5 nt
          have f6 : (upd (upd G t (.tup [.int b, .int s2, .int (1 + kk)])) f (.lst (xs ++ [.ref t]))) f = some (.lst (xs ++ [.ref t])) := upd_same
          have hx6 : Dqs K (cut1 f (hid (pot p dl al) Z (upd (upd G t (.tup [.int b, .int s2, .int (1 + kk)])) f (.lst (xs ++ [.ref t]))))) (xs ++ [.ref t]) ((rs ++ [(b, s2, 1 + kk)]).map runD) := by
            rw [List.map_append]
            exact dqs_snoc (hx5.mono s5) (dq_runT (q := (b, s2, 1 + kk)) (.inl (.inl e5)))
          generalize upd (upd G t (.tup [.int b, .int s2, .int (1 + kk)])) f (.lst (xs ++ [.ref t])) = H6 at P6 k6 f6 hx6 ⊢
          refine s_set ?_
          refine (ev_one (m0 := 3) (m := 4) (R := IR 1 10000000) (by rfl) (by decide) IR.mo (ev_lst (by decide) IR.mo (eall_cons IR.mo (ev_int.wide (by decide) (by decide)) (eall_cons IR.mo (ev_int.wide (by decide) (by decide))
            (eall_cons IR.mo ((ev_add (a := 1) (b := 1) ev_int (ev_drawC (m := 99))).wide (by decide) (by decide))
            (eall_cons IR.mo ((ev_add (a := 1) (b := 1) ev_int (ev_draw (b := 10000000) (by rfl) (by decide) ((ev_pow (by decide)).wide (by decide) (by decide)))).wide (by decide) (by decide)) eall_nil)))))).run P6 (b := 0) (by omega) fun v H8 P8 k8 r8 => ?_
          obtain ⟨pz, rfl, z0, z1⟩ := r8
          have ek : (1 + kk - 1) = kk := by omega
          have eL : lastM (b, s2, 1 + kk) = b + st * kk := by
            unfold lastM
            show b + s2 * (1 + kk - 1) = _
            rw [ek, s22]
          obtain ⟨up2, eb2⟩ := runsUp_snoc (x := (b, s2, 1 + kk)) up eb s20 (by show 1 ≤ 1 + kk; omega)
          refine s_set1 ⟨.int b, rfl, .int st, rfl, .int (1 + kk), rfl, _, _, rfl, rfl, st, _, rfl, rfl, .inl ⟨by omega, by omega⟩, b, _, rfl, rfl, .int pz, rfl, _, _, rfl, rfl, rs ++ [(b, s2, 1 + kk)], xs ++ [.ref t], _, _, _, _, _, rfl, P8, k6.trans k8, k8.at_ ff f6, hx6.mono (cut_mono k8), ?_, ?_, ?_, up2, ?_, ?_⟩
          · rw [List.length_append]; show rs.length + 1 ≤ i + 1; omega
          · rw [ek]; omega
          · rw [ek]; omega
          · rw [eb2, eL, ek]; omega
          · intro r hr
            rcases List.mem_append.mp hr with h | h
            · exact ok r h
            · rw [List.mem_singleton.mp h]
              exact ⟨⟨b0, g'⟩, ⟨s20, by show s2 ≤ 1000000000; omega⟩, ⟨by show 1 ≤ 1 + kk; omega, by show 1 + kk ≤ 1000000001; omega⟩, by rw [eL]; omega⟩
        · intro Q' hQ
          refine ⟨.int (1 + kk), rfl, _, 1, rfl, rfl, _, rfl, ite2 (fun g2 => ?_) (fun g2 => ?_)⟩
          · exact ⟨.int st, rfl, hQ _ _ ⟨rfl, st, rfl, s0, s1, rfl⟩⟩
          · have g2' : ¬ 1 < 1 + kk := fun z => g2 (decide_eq_true z)
            obtain rfl : kk = 0 := by omega
            exact hQ _ _ ⟨rfl, 1, rfl, by decide, by decide, by simp⟩
      · exact ⟨rs, xs, b, _, _, _, _, rfl, P5, k05, f5, hx5, by omega, b0, b1, up, eb, ok⟩
    · rintro σ Hi ⟨rs, xs, b, y5, y6, y7, y8, rfl, Pi, ki, ei, hx, la, b0, b1, up, eb, ok⟩
      refine ⟨.ref f, rfl, f, xs, rfl, .inl ⟨.inl (.inl ei), fun t nt => ?_⟩⟩
      obtain ⟨P7, k7, e7⟩ := laid (o := .tup xs) Pi nt
      exact q _ _ rs P7 (ki.trans k7) (.tup (.inl (.inl e7)) (hx.mono (cut_same.trans k7))) up (by omega) ok
end
end Lg
namespace Lm
open PySem PySem.Spec PyProof.Rows L2 Lg
section
variable {P : Program} {w : World} {K : PySem.W.Frag} {mg : Str → Option Value} {base : Heap}
theorem ok_l_odd0 (T : All K mg) : FnOk P w K mg base CX0 3 T.f_l_odd T.fd_l_odd ["pot"] (Lm.sp_odd K) := by
  have nd := sc_l_odd.nd
  refine T.D_l_odd.F.ok sc_l_odd (fun vs H Q E h => ?_) (fun cdv A outer s H vs Q E hr h => ?_)
  · obtain ⟨Z, p, dl, al, rfl, _⟩ := h
    rfl
  · obtain ⟨Z, p, dl, al, rfl, hP, q⟩ := h
    refine ⟨_, (pss_cons (ps_set (i := 1) nd rfl (by first | exact Or.inl rfl | exact Or.inr rfl) (pe_lst (pa_cons pe_non (pa_cons pe_bl (pa_cons pe_bl (pa_cons (pe_un un_neg pe_int) (pa_cons pe_int (pa_cons pe_int (pa_cons pe_int (pa_cons (pe_op op_pow pe_int pe_int) (pa_cons (pe_op op_add (pe_op op_pow pe_int pe_int) pe_int) (pa_cons (pe_op op_pow pe_int pe_int) (pa_cons pe_str (pa_cons pe_str (pa_cons pe_str (pa_cons (pe_tup pa_nil) (pa_cons (pe_lst pa_nil) (pa_cons pe_dnewK (pa_cons (pe_tup (pa_cons pe_int pa_nil)) (pa_cons (pe_lst (pa_cons pe_int pa_nil)) pa_nil))))))))))))))))))))
  (pss_cons (ps_set (i := 1) nd rfl (by first | exact Or.inl rfl | exact Or.inr rfl) (pe_op op_cat (pv 1) (pe_lst (pa_cons (pe_tup (pa_cons pe_bl pa_nil)) (pa_cons (pe_tup (pa_cons pe_int (pa_cons pe_int pa_nil))) (pa_cons (pe_tup (pa_cons pe_int (pa_cons pe_int (pa_cons pe_int pa_nil)))) (pa_cons (pe_tup (pa_cons pe_str (pa_cons pe_int pa_nil))) (pa_cons pe_str (pa_cons (pe_disp (pps_cons pe_str pe_int pps_nil) (by rfl) (by rfl) (fun z => by cases z) (by decide)) pa_nil)))))))))
  (pss_one (ps_ret (pe_call (ok_l_one0 T) (hr.mono (by decide)) (by rfl) T.D_l_one.g T.D_l_one.F.kp T.D_l_one.b .nil pass0 (pa_cons (pv 0) (pa_cons (pe_op op_cat (pv 1) (pe_lst (pa_cons (pe_tup (pa_cons (pe_tup (pa_cons pe_str (pa_cons pe_int pa_nil))) pa_nil)) pa_nil))) pa_nil))))))), ?_⟩
    refine s_set ?_
    refine (ev_lst (m := 18) (n := 18) (R := DR K (Sm 60 3)) (by decide) DR.mo ?a1) H _ hP (Kp.refl _ _ _) fun v H1 P1 k1 r1 => ?_
    case a1 => exact (eall_cons DR.mo (ev_d (fun _ => .non) (sm_chk (by decide +kernel))) (eall_cons DR.mo (ev_d (fun _ => .bl _) (sm_chk (by decide +kernel))) (eall_cons DR.mo (ev_d (fun _ => .bl _) (sm_chk (by decide +kernel))) (eall_cons DR.mo (ei_d (ei_neg ei_c) (sm_chk (by decide +kernel))) (eall_cons DR.mo (ei_d ei_c (sm_chk (by decide +kernel))) (eall_cons DR.mo (ei_d ei_c (sm_chk (by decide +kernel))) (eall_cons DR.mo (ei_d ei_c (sm_chk (by decide +kernel))) (eall_cons DR.mo (ei_d (ei_pow (by decide)) (sm_chk (by decide +kernel))) (eall_cons DR.mo (ei_d (ei_add (ei_pow (by decide)) ei_c) (sm_chk (by decide +kernel))) (eall_cons DR.mo (ei_d (ei_pow (by decide)) (sm_chk (by decide +kernel))) (eall_cons DR.mo (ev_d (fun _ => .str _) (sm_chk (by decide +kernel))) (eall_cons DR.mo (ev_d (fun _ => .str _) (sm_chk (by decide +kernel))) (eall_cons DR.mo (ev_d (fun _ => .str _) (sm_chk (by decide +kernel))) (eall_cons DR.mo (ev_wide (ev_tupD (n := 10) (k := 0) (by decide) eall_nil) (by decide) (by decide)) (eall_cons DR.mo (ev_wide (ev_lstD (n := 10) (k := 0) (by decide) eall_nil) (by decide) (by decide)) (eall_cons DR.mo (ev_wide ev_dnew (by decide) (by decide)) (eall_cons DR.mo (ev_wide (ev_tupD (n := 10) (k := 0) (by decide) (eall_cons DR.mo (ei_d ei_c (sm_chk (by decide +kernel))) eall_nil)) (by decide) (by decide)) (eall_cons DR.mo (ev_wide (ev_lstD (n := 10) (k := 0) (by decide) (eall_cons DR.mo (ei_d ei_c (sm_chk (by decide +kernel))) eall_nil)) (by decide) (by decide)) eall_nil))))))))))))))))))
    refine s_set ?_
    refine (ev_cat (a := 18) (b := 18) (c := 6) (d := 6) (R := DR K (Sm 60 3)) (by decide) DR.mo (ev_var (v := v) rfl (LsR.mo DR.mo) ?a2) (ev_lst (by decide) DR.mo ?a3)) H1 _ P1 (Kp.refl _ _ _) fun v2 H2 P2 k2 r2 => ?_
    case a2 => exact r1
    case a3 => exact (eall_cons DR.mo (ev_wide (ev_tupD (n := 10) (k := 0) (by decide) (eall_cons DR.mo (ev_d (fun _ => .bl _) (sm_chk (by decide +kernel))) eall_nil)) (by decide) (by decide)) (eall_cons DR.mo (ev_wide (ev_tupD (n := 10) (k := 0) (by decide) (eall_cons DR.mo (ei_d ei_c (sm_chk (by decide +kernel))) (eall_cons DR.mo (ei_d ei_c (sm_chk (by decide +kernel))) eall_nil))) (by decide) (by decide)) (eall_cons DR.mo (ev_wide (ev_tupD (n := 10) (k := 0) (by decide) (eall_cons DR.mo (ei_d ei_c (sm_chk (by decide +kernel))) (eall_cons DR.mo (ei_d ei_c (sm_chk (by decide +kernel))) (eall_cons DR.mo (ei_d ei_c (sm_chk (by decide +kernel))) eall_nil)))) (by decide) (by decide)) (eall_cons DR.mo (ev_wide (ev_tupD (n := 10) (k := 0) (by decide) (eall_cons DR.mo (ev_d (fun _ => .str _) (sm_chk (by decide +kernel))) (eall_cons DR.mo (ei_d ei_c (sm_chk (by decide +kernel))) eall_nil))) (by decide) (by decide)) (eall_cons DR.mo (ev_d (fun _ => .str _) (sm_chk (by decide +kernel))) (eall_cons DR.mo (ev_disp1 rfl (sm_chk (by decide +kernel))) eall_nil))))))
    refine s_ret ?_
    refine (ev_one (m := 24) (n := 25) (R := DR K (Sm 60 3)) rfl (by decide) DR.mo (ev_cat (a := 24) (b := 24) (c := 1) (d := 1) (by decide) DR.mo (ev_var (v := v2) rfl (LsR.mo DR.mo) ?a4) (ev_lst (by decide) DR.mo ?a5))) H2 _ P2 (Kp.refl _ _ _) fun x H3 P3 k3 r3 => ?_
    case a4 => exact r2
    case a5 => exact (eall_cons DR.mo (ev_wide (ev_tupD (n := 27) (k := 1) (by decide) (eall_cons DR.mo (ev_wide (ev_tupD (n := 10) (k := 0) (by decide) (eall_cons DR.mo (ev_d (fun _ => .str _) (sm_chk (by decide +kernel))) (eall_cons DR.mo (ei_d ei_c (sm_chk (by decide +kernel))) eall_nil))) (by decide) (by decide)) eall_nil)) (by decide) (by decide)) eall_nil)
    exact q _ _ P3 (k1.trans (k2.trans k3)) r3
end
end Lm
namespace Lg
open PySem PySem.Spec PyProof.Rows L2 Lm
section
variable {P : Program} {w : World} {K : PySem.W.Frag} {mg : Str → Option Value} {base : Heap}
theorem ok_l_odd (T : All K mg) : FnOk P w K mg base CX0 3 T.f_l_odd T.fd_l_odd ["pot"] (sp_oddP K) := (Lm.ok_l_odd0 T).imp (odd_imp K)
theorem ok_l_whole (T : All K mg) : FnOk P w K mg base CX0 1 T.f_l_whole T.fd_l_whole ["value", "low", "high"] (sp_whole K) := by
  have nd := sc_l_whole.nd
  refine T.D_l_whole.F.ok sc_l_whole (fun vs H Q E h => ?_) (fun cdv A outer s H vs Q E hr h => ?_)
  · obtain ⟨v, d, lo, hi, rfl, _⟩ := h
    rfl
  · obtain ⟨v, d, lo, hi, rfl, hd, q⟩ := h
    refine ⟨_, (pss_one (ps_ret (pe_and (pe_callB call_isi (by rfl) T.z_isinstance (by decide +kernel) (pa_cons (pv 0) (pa_cons (pe_bltn (v := .ty "int") (by rfl) T.z_int (by decide +kernel) rfl) pa_nil))) (pe_and (pe_not (pe_callB call_isi (by rfl) T.z_isinstance (by decide +kernel) (pa_cons (pv 0) (pa_cons (pe_bltn (v := .ty "bool") (by rfl) T.z_bool (by decide +kernel) rfl) pa_nil)))) (pe_one (pe_chain op_le op_le (pv 1) (pv 0) (pv 2))))))), ?_⟩
    refine ⟨v, rfl, v, .ty "int", _, _, _, rfl, .ty "int", hd.ty, kit_ty (kit_i d), _, rfl, ?_⟩
    cases hd with
    | int i =>
      have q : Q (.bl (decide (lo ≤ i) && decide (i ≤ hi))) H := q
      refine iteT ⟨_, rfl, _, .ty "bool", _, _, _, rfl, .ty "bool", (Dq.int (K := K) (H := H) i).ty, kit_ty (kit_b _), _, rfl, _, rfl, iteT ?_⟩
      refine ⟨_, rfl, _, rfl, lo, i, rfl, rfl, _, rfl, ?_⟩
      by_cases h1 : lo ≤ i
      · rw [decide_eq_true h1] at q ⊢
        refine iteT ⟨_, rfl, i, hi, rfl, rfl, ?_⟩
        rw [Bool.true_and] at q
        exact q
      · rw [decide_eq_false h1] at q ⊢
        exact iteF q
    | bl b => exact iteT ⟨_, rfl, _, .ty "bool", _, _, _, rfl, .ty "bool", (Dq.bl (K := K) (H := H) b).ty, kit_ty (kit_b _), _, rfl, _, rfl, iteF q⟩
    | _ => exact iteF q
theorem ok_l_told (T : All K mg) : FnOk P w K mg base CX0 6 T.f_l_told T.fd_l_told ["way", "one", "other"] (sp_told6 K) := by
  have nd := sc_l_told.nd
  refine T.D_l_told.F.ok sc_l_told (fun vs H Q E h => ?_) (fun cdv A outer s H vs Q E hr h => ?_)
  · obtain ⟨N, way, v1, v2, rfl, _⟩ := h
    rfl
  · obtain ⟨N, way, v1, v2, rfl, O, hw⟩ := h
    refine ⟨_, (pss_cons (ps_set (i := 3) nd rfl (by first | exact Or.inl rfl | exact Or.inr rfl) pe_non)
  (pss_cons (ps_try_as (i := 4) rfl rfl nd rfl rfl ⟨rfl, by decide, .inl T.g_LampError⟩ takes0 (fun W pn xe tk _ => (pss_one (ps_if (pt_cmpR op_eq (pv 0) pe_int (nomark _))
    (pss_one (ps_set (i := 3) nd rfl (by first | exact Or.inl rfl | exact Or.inr rfl) (pe_callS (ok_motions_of T) (hr.mono (by decide)) (by rfl) T.D_motions_of.g T.D_motions_of.F.kp T.D_motions_of.b (fun σ => passAt tk σ) (pa_cons (pv 1) pa_nil))))
    (pss_one (ps_set (i := 3) nd rfl (by first | exact Or.inl rfl | exact Or.inr rfl) (pe_ifExp (pt_cmpR op_eq (pv 0) pe_int (nomark _)) (pe_callS (ok_motion_at T) (hr.mono (by decide)) (by rfl) T.D_motion_at.g T.D_motion_at.F.kp T.D_motion_at.b (fun σ => passAt tk σ) (pa_cons (pv 1) (pa_cons (pv 2) pa_nil))) (pe_callS (ok_motions_before T) (hr.mono (by decide)) (by rfl) T.D_motions_before.g T.D_motions_before.F.kp T.D_motions_before.b (fun σ => passAt tk σ) (pa_cons (pv 1) (pa_cons (pv 2) pa_nil))))))))) (fun a oe cls d pn hz hf => (pss_cons (ps_set (i := 5) nd rfl (by first | exact Or.inl rfl | exact Or.inr rfl) (pe_lst (pa_cons (pe_callB (call_isX hz hf) (by rfl) T.z_isinstance (by decide +kernel) (pa_cons (pv 4) (pa_cons (pe_glob (v := .ref T.C_NoMinute) (by rfl) T.g_NoMinute rfl) pa_nil))) (pa_cons (pe_callB (call_isX hz hf) (by rfl) T.z_isinstance (by decide +kernel) (pa_cons (pv 4) (pa_cons (pe_glob (v := .ref T.C_NoIndex) (by rfl) T.g_NoIndex rfl) pa_nil))) (pa_cons (pe_callB (call_isX hz hf) (by rfl) T.z_isinstance (by decide +kernel) (pa_cons (pv 4) (pa_cons (pe_glob (v := .ref T.C_TooLarge) (by rfl) T.g_TooLarge rfl) pa_nil))) pa_nil)))))
  (pss_cons (ps_set (i := 3) nd rfl (by first | exact Or.inl rfl | exact Or.inr rfl) pe_str)
  (pss_cons (ps_set (i := 6) nd rfl (by first | exact Or.inl rfl | exact Or.inr rfl) (pe_and (pe_callB (call_isX hz hf) (by rfl) T.z_isinstance (by decide +kernel) (pa_cons (pv 4) (pa_cons (pe_bltn (v := .ty "ValueError") (by rfl) T.z_ValueError (by decide +kernel) rfl) pa_nil))) (pe_one (pe_not (pe_callB (call_isX hz hf) (by rfl) T.z_isinstance (by decide +kernel) (pa_cons (pv 4) (pa_cons (pe_tup (pa_cons (pe_glob (v := .ref T.C_BadLamp) (by rfl) T.g_BadLamp rfl) (pa_cons (pe_glob (v := .ref T.C_BadMotions) (by rfl) T.g_BadMotions rfl) (pa_cons (pe_glob (v := .ref T.C_NoCount) (by rfl) T.g_NoCount rfl) (pa_cons (pe_glob (v := .ref T.C_TooMany) (by rfl) T.g_TooMany rfl) pa_nil))))) pa_nil)))))))
  (pss_cons (ps_if (PW.pt (pw_and (pt_cmpR (op_eqDK (K := K) rfl hr.units) (pv 5) (pe_lst (pa_cons pe_bl (pa_cons pe_bl (pa_cons pe_bl pa_nil)))) (nomark _)) (pw_and1 (pt_val (pv 6)))))
    (pss_one (ps_set (i := 3) nd rfl (by first | exact Or.inl rfl | exact Or.inr rfl) (pe_lst (pa_cons pe_str (pa_cons (pe_xf T.X_NoMinute.xf T.X_NoMinute.no hz hf (pv 4)) pa_nil)))))
    pss_nil)
  (pss_cons (ps_if (PW.pt (pw_and (pt_cmpR (op_eqDK (K := K) rfl hr.units) (pv 5) (pe_lst (pa_cons pe_bl (pa_cons pe_bl (pa_cons pe_bl pa_nil)))) (nomark _)) (pw_and1 (pt_val (pv 6)))))
    (pss_one (ps_set (i := 3) nd rfl (by first | exact Or.inl rfl | exact Or.inr rfl) (pe_lst (pa_cons pe_str (pa_cons (pe_xf T.X_NoIndex.xf T.X_NoIndex.no hz hf (pv 4)) pa_nil)))))
    pss_nil)
  (pss_one (ps_if (PW.pt (pw_and (pt_cmpR (op_eqDK (K := K) rfl hr.units) (pv 5) (pe_lst (pa_cons pe_bl (pa_cons pe_bl (pa_cons pe_bl pa_nil)))) (nomark _)) (pw_and1 (pt_val (pv 6)))))
    (pss_one (ps_set (i := 3) nd rfl (by first | exact Or.inl rfl | exact Or.inr rfl) (pe_lst (pa_cons pe_str (pa_cons (pe_xf T.X_TooLarge.xf T.X_TooLarge.no hz hf (pv 4)) pa_nil)))))
    pss_nil)))))))))
  (pss_one (ps_ret (pv 3))))), ?_⟩
    refine s_set ?_
    refine ⟨.int way, rfl, rfl, _, rfl, ?_⟩
    rcases hw with ⟨rfl, d, hd, hl, qq⟩ | ⟨rfl, rs, d, hd1, hd2, hl, hok, qq⟩ | ⟨rfl, rs, d, hd1, hd2, hl, hok, qq⟩
    · refine iteT_e (decide_eq_true rfl) ?_
      refine ⟨v1, rfl, N, d, O, .cons hd .nil, hl, fun hB r H1 s1 d1 => ?_, fun C f e hB dd vv H1 s1 n1 e1 dv => ?_⟩
      · refine ⟨r, rfl, qq r H1 s1 ?_⟩
        unfold motsErr at hB
        have d1 : Dq K (cut N H1) r (runsD (grpOf d)) := d1
        unfold dueOf
        cases hm : minErr d with
        | some x => rw [hm] at hB; cases hB
        | none =>
          rw [hm] at hB
          have hB : (if 360 < (grpOf d).length then some (T.C_TooLarge, ("limit" : Str), PyData.int 360) else none) = none := hB
          simp only [dueGo]
          split at hB
          · cases hB
          · rename_i z
            rw [if_neg z]
            exact d1
      · unfold motsErr at hB
        cases hm : minErr d with
        | some x =>
          rw [hm] at hB
          obtain ⟨rfl, hB2⟩ := Prod.mk.inj (Option.some.inj hB)
          obtain ⟨rfl, rfl⟩ := Prod.mk.inj hB2
          refine ⟨true, T.kit0, fun _ a na => ?_, fun z => Bool.noConfusion z⟩
          refine ⟨.ref a, rfl, T.C_NoMinute, _, dd, _, true, rfl, rfl, rfl, e1, T.X_NoMinute.xf, T.X_NoMinute.is, .inl ⟨_, fun u z => z, T.kit3⟩, .ref a, rfl, T.C_NoMinute, _, dd, _, false, rfl, rfl, rfl, e1, T.X_NoMinute.xf, T.X_NoMinute.is, .inl ⟨_, fun u z => z, T.kit4⟩, .ref a, rfl, T.C_NoMinute, _, dd, _, false, rfl, rfl, rfl, e1, T.X_NoMinute.xf, T.X_NoMinute.is, .inl ⟨_, fun u z => z, T.kit5⟩, Nat.le_of_lt (small1000 (show 3 ≤ 1000 by decide)), fun t nt => ?_⟩
          have h1 := same_new (o := .lst [.bl true, .bl false, .bl false]) nt
          have f1 := h1 _ _ e1
          have g1 : (upd H1 t (.lst [.bl true, .bl false, .bl false])) t = some (.lst [.bl true, .bl false, .bl false]) := upd_same
          generalize upd H1 t (.lst [.bl true, .bl false, .bl false]) = G1 at h1 f1 g1 ⊢
          refine ⟨.ref a, rfl, T.C_NoMinute, _, dd, _, true, rfl, rfl, rfl, f1, T.X_NoMinute.xf, T.X_NoMinute.is, .inl ⟨_, fun u z => z, T.kit12⟩, true, rfl, iteT ⟨.ref a, rfl, Nat.le_of_lt (small1000 (show 4 ≤ 1000 by decide)), fun t2 nt2 => ?_⟩⟩
          have h2 := same_new (o := .tup [.ref T.C_BadLamp, .ref T.C_BadMotions, .ref T.C_NoCount, .ref T.C_TooMany]) nt2
          have f2 := h2 _ _ f1
          have g2 := h2 _ _ g1
          have u2 : (upd G1 t2 (.tup [.ref T.C_BadLamp, .ref T.C_BadMotions, .ref T.C_NoCount, .ref T.C_TooMany])) t2 = some (.tup [.ref T.C_BadLamp, .ref T.C_BadMotions, .ref T.C_NoCount, .ref T.C_TooMany]) := upd_same
          generalize upd G1 t2 (.tup [.ref T.C_BadLamp, .ref T.C_BadMotions, .ref T.C_NoCount, .ref T.C_TooMany]) = G2 at h2 f2 g2 u2 ⊢
          refine ⟨T.C_NoMinute, _, dd, _, false, rfl, rfl, rfl, f2, T.X_NoMinute.xf, T.X_NoMinute.is, .inr ⟨t2, [T.C_BadLamp, T.C_BadMotions, T.C_NoCount, T.C_TooMany], rfl, u2, T.kit15⟩, false, rfl, ?_⟩
          refine ⟨.ref t, rfl, Nat.le_of_lt (small1000 (show 3 ≤ 1000 by decide)), fun u nu => ?_⟩
          have h3 := same_new (o := .lst [.bl true, .bl false, .bl false]) nu
          have f3 := h3 _ _ f2
          have g3 := h3 _ _ g2
          have p3 : (upd G2 u (.lst [.bl true, .bl false, .bl false])) u = some (.lst [.bl true, .bl false, .bl false]) := upd_same
          generalize upd G2 u (.lst [.bl true, .bl false, .bl false]) = G3 at h3 f3 g3 p3 ⊢
          refine ⟨.list [.bool true, .bool false, .bool false], .list [.bool true, .bool false, .bool false], .lst (.inl (.inl g3)) (.cons (.bl _) (.cons (.bl _) (.cons (.bl _) .nil))), .lst (.inl (.inl p3)) (.cons (.bl _) (.cons (.bl _) (.cons (.bl _) .nil))), by decide, by decide, true, rfl, iteT ⟨.bl true, rfl, true, rfl, iteT ⟨.ref a, rfl, rfl, rfl, dd, _, _, rfl, f3, rfl, sz2, fun w nw => ?_⟩⟩⟩
          have h4 := same_new (o := .lst [.str "minute", vv]) nw
          have f4 := h4 _ _ f3
          have g4 := h4 _ _ g3
          have w4 : (upd G3 w (.lst [.str "minute", vv])) w = some (.lst [.str "minute", vv]) := upd_same
          have nw0 := nw
          generalize upd G3 w (.lst [.str "minute", vv]) = G4 at h4 f4 g4 w4 ⊢
          refine ⟨.ref t, rfl, Nat.le_of_lt (small1000 (show 3 ≤ 1000 by decide)), fun u nu => ?_⟩
          have h5 := same_new (o := .lst [.bl false, .bl true, .bl false]) nu
          have f5 := h5 _ _ f4
          have g5 := h5 _ _ g4
          have w5 := h5 _ _ w4
          have p5 : (upd G4 u (.lst [.bl false, .bl true, .bl false])) u = some (.lst [.bl false, .bl true, .bl false]) := upd_same
          generalize upd G4 u (.lst [.bl false, .bl true, .bl false]) = G5 at h5 f5 g5 p5 w5 ⊢
          refine ⟨.list [.bool true, .bool false, .bool false], .list [.bool false, .bool true, .bool false], .lst (.inl (.inl g5)) (.cons (.bl _) (.cons (.bl _) (.cons (.bl _) .nil))), .lst (.inl (.inl p5)) (.cons (.bl _) (.cons (.bl _) (.cons (.bl _) .nil))), by decide, by decide, false, rfl, iteF ?_⟩
          refine ⟨.ref t, rfl, Nat.le_of_lt (small1000 (show 3 ≤ 1000 by decide)), fun u nu => ?_⟩
          have h6 := same_new (o := .lst [.bl false, .bl false, .bl true]) nu
          have f6 := h6 _ _ f5
          have g6 := h6 _ _ g5
          have w6 := h6 _ _ w5
          have p6 : (upd G5 u (.lst [.bl false, .bl false, .bl true])) u = some (.lst [.bl false, .bl false, .bl true]) := upd_same
          generalize upd G5 u (.lst [.bl false, .bl false, .bl true]) = G6 at h6 f6 g6 p6 w6 ⊢
          refine ⟨.list [.bool true, .bool false, .bool false], .list [.bool false, .bool false, .bool true], .lst (.inl (.inl g6)) (.cons (.bl _) (.cons (.bl _) (.cons (.bl _) .nil))), .lst (.inl (.inl p6)) (.cons (.bl _) (.cons (.bl _) (.cons (.bl _) .nil))), by decide, by decide, false, rfl, iteF ?_⟩
          have sE := s1.trans (h1.trans (h2.trans (h3.trans (h4.trans (h5.trans (h6))))))
          have sF := h1.trans (h2.trans (h3.trans (h4.trans (h5.trans (h6)))))
          have nN : ¬ N w := fun z => O w z ((s1.trans (h1.trans (h2.trans (h3)))).free nw0)
          exact ⟨.ref w, rfl, qq _ _ sE (by rw [show dueOf d = .list [.str "minute", x] by unfold dueOf; rw [hm]; rfl]; exact .lst (xs := [.str "minute", vv]) (.inl (.inl (by rw [cut_at nN]; exact w6))) (.cons (.str _) (.cons (dv.mono (cut_mono sF)) .nil)))⟩
        | none =>
          rw [hm] at hB
          have hB : (if 360 < (grpOf d).length then some (T.C_TooLarge, ("limit" : Str), PyData.int 360) else none) = some (C, f, e) := hB
          split at hB
          case isFalse => cases hB
          case isTrue z =>
          obtain ⟨rfl, hB2⟩ := Prod.mk.inj (Option.some.inj hB)
          obtain ⟨rfl, rfl⟩ := Prod.mk.inj hB2
          refine ⟨true, T.kit2, fun _ a na => ?_, fun z => Bool.noConfusion z⟩
          refine ⟨.ref a, rfl, T.C_TooLarge, _, dd, _, false, rfl, rfl, rfl, e1, T.X_TooLarge.xf, T.X_TooLarge.is, .inl ⟨_, fun u z => z, T.kit9⟩, .ref a, rfl, T.C_TooLarge, _, dd, _, false, rfl, rfl, rfl, e1, T.X_TooLarge.xf, T.X_TooLarge.is, .inl ⟨_, fun u z => z, T.kit10⟩, .ref a, rfl, T.C_TooLarge, _, dd, _, true, rfl, rfl, rfl, e1, T.X_TooLarge.xf, T.X_TooLarge.is, .inl ⟨_, fun u z => z, T.kit11⟩, Nat.le_of_lt (small1000 (show 3 ≤ 1000 by decide)), fun t nt => ?_⟩
          have h1 := same_new (o := .lst [.bl false, .bl false, .bl true]) nt
          have f1 := h1 _ _ e1
          have g1 : (upd H1 t (.lst [.bl false, .bl false, .bl true])) t = some (.lst [.bl false, .bl false, .bl true]) := upd_same
          generalize upd H1 t (.lst [.bl false, .bl false, .bl true]) = G1 at h1 f1 g1 ⊢
          refine ⟨.ref a, rfl, T.C_TooLarge, _, dd, _, true, rfl, rfl, rfl, f1, T.X_TooLarge.xf, T.X_TooLarge.is, .inl ⟨_, fun u z => z, T.kit14⟩, true, rfl, iteT ⟨.ref a, rfl, Nat.le_of_lt (small1000 (show 4 ≤ 1000 by decide)), fun t2 nt2 => ?_⟩⟩
          have h2 := same_new (o := .tup [.ref T.C_BadLamp, .ref T.C_BadMotions, .ref T.C_NoCount, .ref T.C_TooMany]) nt2
          have f2 := h2 _ _ f1
          have g2 := h2 _ _ g1
          have u2 : (upd G1 t2 (.tup [.ref T.C_BadLamp, .ref T.C_BadMotions, .ref T.C_NoCount, .ref T.C_TooMany])) t2 = some (.tup [.ref T.C_BadLamp, .ref T.C_BadMotions, .ref T.C_NoCount, .ref T.C_TooMany]) := upd_same
          generalize upd G1 t2 (.tup [.ref T.C_BadLamp, .ref T.C_BadMotions, .ref T.C_NoCount, .ref T.C_TooMany]) = G2 at h2 f2 g2 u2 ⊢
          refine ⟨T.C_TooLarge, _, dd, _, false, rfl, rfl, rfl, f2, T.X_TooLarge.xf, T.X_TooLarge.is, .inr ⟨t2, [T.C_BadLamp, T.C_BadMotions, T.C_NoCount, T.C_TooMany], rfl, u2, T.kit17⟩, false, rfl, ?_⟩
          refine ⟨.ref t, rfl, Nat.le_of_lt (small1000 (show 3 ≤ 1000 by decide)), fun u nu => ?_⟩
          have h3 := same_new (o := .lst [.bl true, .bl false, .bl false]) nu
          have f3 := h3 _ _ f2
          have g3 := h3 _ _ g2
          have p3 : (upd G2 u (.lst [.bl true, .bl false, .bl false])) u = some (.lst [.bl true, .bl false, .bl false]) := upd_same
          generalize upd G2 u (.lst [.bl true, .bl false, .bl false]) = G3 at h3 f3 g3 p3 ⊢
          refine ⟨.list [.bool false, .bool false, .bool true], .list [.bool true, .bool false, .bool false], .lst (.inl (.inl g3)) (.cons (.bl _) (.cons (.bl _) (.cons (.bl _) .nil))), .lst (.inl (.inl p3)) (.cons (.bl _) (.cons (.bl _) (.cons (.bl _) .nil))), by decide, by decide, false, rfl, iteF ?_⟩
          refine ⟨.ref t, rfl, Nat.le_of_lt (small1000 (show 3 ≤ 1000 by decide)), fun u nu => ?_⟩
          have h4 := same_new (o := .lst [.bl false, .bl true, .bl false]) nu
          have f4 := h4 _ _ f3
          have g4 := h4 _ _ g3
          have p4 : (upd G3 u (.lst [.bl false, .bl true, .bl false])) u = some (.lst [.bl false, .bl true, .bl false]) := upd_same
          generalize upd G3 u (.lst [.bl false, .bl true, .bl false]) = G4 at h4 f4 g4 p4 ⊢
          refine ⟨.list [.bool false, .bool false, .bool true], .list [.bool false, .bool true, .bool false], .lst (.inl (.inl g4)) (.cons (.bl _) (.cons (.bl _) (.cons (.bl _) .nil))), .lst (.inl (.inl p4)) (.cons (.bl _) (.cons (.bl _) (.cons (.bl _) .nil))), by decide, by decide, false, rfl, iteF ?_⟩
          refine ⟨.ref t, rfl, Nat.le_of_lt (small1000 (show 3 ≤ 1000 by decide)), fun u nu => ?_⟩
          have h5 := same_new (o := .lst [.bl false, .bl false, .bl true]) nu
          have f5 := h5 _ _ f4
          have g5 := h5 _ _ g4
          have p5 : (upd G4 u (.lst [.bl false, .bl false, .bl true])) u = some (.lst [.bl false, .bl false, .bl true]) := upd_same
          generalize upd G4 u (.lst [.bl false, .bl false, .bl true]) = G5 at h5 f5 g5 p5 ⊢
          refine ⟨.list [.bool false, .bool false, .bool true], .list [.bool false, .bool false, .bool true], .lst (.inl (.inl g5)) (.cons (.bl _) (.cons (.bl _) (.cons (.bl _) .nil))), .lst (.inl (.inl p5)) (.cons (.bl _) (.cons (.bl _) (.cons (.bl _) .nil))), by decide, by decide, true, rfl, iteT ⟨.bl true, rfl, true, rfl, iteT ⟨.ref a, rfl, rfl, rfl, dd, _, _, rfl, f5, rfl, sz2, fun w nw => ?_⟩⟩⟩
          have h6 := same_new (o := .lst [.str "large", vv]) nw
          have f6 := h6 _ _ f5
          have g6 := h6 _ _ g5
          have w6 : (upd G5 w (.lst [.str "large", vv])) w = some (.lst [.str "large", vv]) := upd_same
          have nw0 := nw
          generalize upd G5 w (.lst [.str "large", vv]) = G6 at h6 f6 g6 w6 ⊢
          have sE := s1.trans (h1.trans (h2.trans (h3.trans (h4.trans (h5.trans (h6))))))
          have sF := h1.trans (h2.trans (h3.trans (h4.trans (h5.trans (h6)))))
          have nN : ¬ N w := fun z => O w z ((s1.trans (h1.trans (h2.trans (h3.trans (h4.trans (h5)))))).free nw0)
          exact ⟨.ref w, rfl, qq _ _ sE (by rw [show dueOf d = .list [.str "large", .int 360] by unfold dueOf; rw [hm]; exact if_pos z]; exact .lst (xs := [.str "large", vv]) (.inl (.inl (by rw [cut_at nN]; exact w6))) (.cons (.str _) (.cons (dv.mono (cut_mono sF)) .nil)))⟩
    · refine iteF_e (decide_eq_false (by intro z; cases z)) ?_
      refine ⟨.int 1, rfl, rfl, _, rfl, ?_⟩
      refine iteT_e (decide_eq_true rfl) ?_
      refine ⟨v1, rfl, v2, rfl, N, (rs, d), O, .cons hd1 (.cons hd2 .nil), ⟨hl, hok⟩, fun hB r H1 s1 d1 => ?_, fun C f e hB dd vv H1 s1 n1 e1 dv => ?_⟩
      · refine ⟨r, rfl, qq r H1 s1 ?_⟩
        have d1 : Dq K (cut N H1) r (okD (motAtD rs d)) := d1
        cases hm : motAtD rs d with
        | some m => rw [hm] at d1; exact d1
        | none =>
          have hB : erD _ _ d (motAtD rs d) = none := hB
          rw [hm] at hB
          cases hB
      · have hB : erD _ _ d (motAtD rs d) = some (C, f, e) := hB
        cases hm : motAtD rs d with
        | some m => rw [hm] at hB; cases hB
        | none =>
          rw [hm] at hB
          obtain ⟨rfl, hB2⟩ := Prod.mk.inj (Option.some.inj hB)
          obtain ⟨rfl, rfl⟩ := Prod.mk.inj hB2
          refine ⟨true, T.kit1, fun _ a na => ?_, fun z => Bool.noConfusion z⟩
          refine ⟨.ref a, rfl, T.C_NoIndex, _, dd, _, false, rfl, rfl, rfl, e1, T.X_NoIndex.xf, T.X_NoIndex.is, .inl ⟨_, fun u z => z, T.kit6⟩, .ref a, rfl, T.C_NoIndex, _, dd, _, true, rfl, rfl, rfl, e1, T.X_NoIndex.xf, T.X_NoIndex.is, .inl ⟨_, fun u z => z, T.kit7⟩, .ref a, rfl, T.C_NoIndex, _, dd, _, false, rfl, rfl, rfl, e1, T.X_NoIndex.xf, T.X_NoIndex.is, .inl ⟨_, fun u z => z, T.kit8⟩, Nat.le_of_lt (small1000 (show 3 ≤ 1000 by decide)), fun t nt => ?_⟩
          have h1 := same_new (o := .lst [.bl false, .bl true, .bl false]) nt
          have f1 := h1 _ _ e1
          have g1 : (upd H1 t (.lst [.bl false, .bl true, .bl false])) t = some (.lst [.bl false, .bl true, .bl false]) := upd_same
          generalize upd H1 t (.lst [.bl false, .bl true, .bl false]) = G1 at h1 f1 g1 ⊢
          refine ⟨.ref a, rfl, T.C_NoIndex, _, dd, _, true, rfl, rfl, rfl, f1, T.X_NoIndex.xf, T.X_NoIndex.is, .inl ⟨_, fun u z => z, T.kit13⟩, true, rfl, iteT ⟨.ref a, rfl, Nat.le_of_lt (small1000 (show 4 ≤ 1000 by decide)), fun t2 nt2 => ?_⟩⟩
          have h2 := same_new (o := .tup [.ref T.C_BadLamp, .ref T.C_BadMotions, .ref T.C_NoCount, .ref T.C_TooMany]) nt2
          have f2 := h2 _ _ f1
          have g2 := h2 _ _ g1
          have u2 : (upd G1 t2 (.tup [.ref T.C_BadLamp, .ref T.C_BadMotions, .ref T.C_NoCount, .ref T.C_TooMany])) t2 = some (.tup [.ref T.C_BadLamp, .ref T.C_BadMotions, .ref T.C_NoCount, .ref T.C_TooMany]) := upd_same
          generalize upd G1 t2 (.tup [.ref T.C_BadLamp, .ref T.C_BadMotions, .ref T.C_NoCount, .ref T.C_TooMany]) = G2 at h2 f2 g2 u2 ⊢
          refine ⟨T.C_NoIndex, _, dd, _, false, rfl, rfl, rfl, f2, T.X_NoIndex.xf, T.X_NoIndex.is, .inr ⟨t2, [T.C_BadLamp, T.C_BadMotions, T.C_NoCount, T.C_TooMany], rfl, u2, T.kit16⟩, false, rfl, ?_⟩
          refine ⟨.ref t, rfl, Nat.le_of_lt (small1000 (show 3 ≤ 1000 by decide)), fun u nu => ?_⟩
          have h3 := same_new (o := .lst [.bl true, .bl false, .bl false]) nu
          have f3 := h3 _ _ f2
          have g3 := h3 _ _ g2
          have p3 : (upd G2 u (.lst [.bl true, .bl false, .bl false])) u = some (.lst [.bl true, .bl false, .bl false]) := upd_same
          generalize upd G2 u (.lst [.bl true, .bl false, .bl false]) = G3 at h3 f3 g3 p3 ⊢
          refine ⟨.list [.bool false, .bool true, .bool false], .list [.bool true, .bool false, .bool false], .lst (.inl (.inl g3)) (.cons (.bl _) (.cons (.bl _) (.cons (.bl _) .nil))), .lst (.inl (.inl p3)) (.cons (.bl _) (.cons (.bl _) (.cons (.bl _) .nil))), by decide, by decide, false, rfl, iteF ?_⟩
          refine ⟨.ref t, rfl, Nat.le_of_lt (small1000 (show 3 ≤ 1000 by decide)), fun u nu => ?_⟩
          have h4 := same_new (o := .lst [.bl false, .bl true, .bl false]) nu
          have f4 := h4 _ _ f3
          have g4 := h4 _ _ g3
          have p4 : (upd G3 u (.lst [.bl false, .bl true, .bl false])) u = some (.lst [.bl false, .bl true, .bl false]) := upd_same
          generalize upd G3 u (.lst [.bl false, .bl true, .bl false]) = G4 at h4 f4 g4 p4 ⊢
          refine ⟨.list [.bool false, .bool true, .bool false], .list [.bool false, .bool true, .bool false], .lst (.inl (.inl g4)) (.cons (.bl _) (.cons (.bl _) (.cons (.bl _) .nil))), .lst (.inl (.inl p4)) (.cons (.bl _) (.cons (.bl _) (.cons (.bl _) .nil))), by decide, by decide, true, rfl, iteT ⟨.bl true, rfl, true, rfl, iteT ⟨.ref a, rfl, rfl, rfl, dd, _, _, rfl, f4, rfl, sz2, fun w nw => ?_⟩⟩⟩
          have h5 := same_new (o := .lst [.str "index", vv]) nw
          have f5 := h5 _ _ f4
          have g5 := h5 _ _ g4
          have w5 : (upd G4 w (.lst [.str "index", vv])) w = some (.lst [.str "index", vv]) := upd_same
          have nw0 := nw
          generalize upd G4 w (.lst [.str "index", vv]) = G5 at h5 f5 g5 w5 ⊢
          refine ⟨.ref t, rfl, Nat.le_of_lt (small1000 (show 3 ≤ 1000 by decide)), fun u nu => ?_⟩
          have h6 := same_new (o := .lst [.bl false, .bl false, .bl true]) nu
          have f6 := h6 _ _ f5
          have g6 := h6 _ _ g5
          have w6 := h6 _ _ w5
          have p6 : (upd G5 u (.lst [.bl false, .bl false, .bl true])) u = some (.lst [.bl false, .bl false, .bl true]) := upd_same
          generalize upd G5 u (.lst [.bl false, .bl false, .bl true]) = G6 at h6 f6 g6 p6 w6 ⊢
          refine ⟨.list [.bool false, .bool true, .bool false], .list [.bool false, .bool false, .bool true], .lst (.inl (.inl g6)) (.cons (.bl _) (.cons (.bl _) (.cons (.bl _) .nil))), .lst (.inl (.inl p6)) (.cons (.bl _) (.cons (.bl _) (.cons (.bl _) .nil))), by decide, by decide, false, rfl, iteF ?_⟩
          have sE := s1.trans (h1.trans (h2.trans (h3.trans (h4.trans (h5.trans (h6))))))
          have sF := h1.trans (h2.trans (h3.trans (h4.trans (h5.trans (h6)))))
          have nN : ¬ N w := fun z => O w z ((s1.trans (h1.trans (h2.trans (h3.trans (h4))))).free nw0)
          exact ⟨.ref w, rfl, qq _ _ sE (by rw [show told1 "index" d (motAtD rs d) = .list [.str "index", d] by rw [hm]; rfl]; exact .lst (xs := [.str "index", vv]) (.inl (.inl (by rw [cut_at nN]; exact w6))) (.cons (.str _) (.cons (dv.mono (cut_mono sF)) .nil)))⟩
    · refine iteF_e (decide_eq_false (by intro z; cases z)) ?_
      refine ⟨.int 2, rfl, rfl, _, rfl, ?_⟩
      refine iteF_e (decide_eq_false (by intro z; cases z)) ?_
      refine ⟨v1, rfl, v2, rfl, N, (rs, d), O, .cons hd1 (.cons hd2 .nil), ⟨hl, hok⟩, fun hB r H1 s1 d1 => ?_, fun C f e hB dd vv H1 s1 n1 e1 dv => ?_⟩
      · refine ⟨r, rfl, qq r H1 s1 ?_⟩
        have d1 : Dq K (cut N H1) r (okD (befD rs d)) := d1
        cases hm : befD rs d with
        | some m => rw [hm] at d1; exact d1
        | none =>
          have hB : erD _ _ d (befD rs d) = none := hB
          rw [hm] at hB
          cases hB
      · have hB : erD _ _ d (befD rs d) = some (C, f, e) := hB
        cases hm : befD rs d with
        | some m => rw [hm] at hB; cases hB
        | none =>
          rw [hm] at hB
          obtain ⟨rfl, hB2⟩ := Prod.mk.inj (Option.some.inj hB)
          obtain ⟨rfl, rfl⟩ := Prod.mk.inj hB2
          refine ⟨true, T.kit0, fun _ a na => ?_, fun z => Bool.noConfusion z⟩
          refine ⟨.ref a, rfl, T.C_NoMinute, _, dd, _, true, rfl, rfl, rfl, e1, T.X_NoMinute.xf, T.X_NoMinute.is, .inl ⟨_, fun u z => z, T.kit3⟩, .ref a, rfl, T.C_NoMinute, _, dd, _, false, rfl, rfl, rfl, e1, T.X_NoMinute.xf, T.X_NoMinute.is, .inl ⟨_, fun u z => z, T.kit4⟩, .ref a, rfl, T.C_NoMinute, _, dd, _, false, rfl, rfl, rfl, e1, T.X_NoMinute.xf, T.X_NoMinute.is, .inl ⟨_, fun u z => z, T.kit5⟩, Nat.le_of_lt (small1000 (show 3 ≤ 1000 by decide)), fun t nt => ?_⟩
          have h1 := same_new (o := .lst [.bl true, .bl false, .bl false]) nt
          have f1 := h1 _ _ e1
          have g1 : (upd H1 t (.lst [.bl true, .bl false, .bl false])) t = some (.lst [.bl true, .bl false, .bl false]) := upd_same
          generalize upd H1 t (.lst [.bl true, .bl false, .bl false]) = G1 at h1 f1 g1 ⊢
          refine ⟨.ref a, rfl, T.C_NoMinute, _, dd, _, true, rfl, rfl, rfl, f1, T.X_NoMinute.xf, T.X_NoMinute.is, .inl ⟨_, fun u z => z, T.kit12⟩, true, rfl, iteT ⟨.ref a, rfl, Nat.le_of_lt (small1000 (show 4 ≤ 1000 by decide)), fun t2 nt2 => ?_⟩⟩
          have h2 := same_new (o := .tup [.ref T.C_BadLamp, .ref T.C_BadMotions, .ref T.C_NoCount, .ref T.C_TooMany]) nt2
          have f2 := h2 _ _ f1
          have g2 := h2 _ _ g1
          have u2 : (upd G1 t2 (.tup [.ref T.C_BadLamp, .ref T.C_BadMotions, .ref T.C_NoCount, .ref T.C_TooMany])) t2 = some (.tup [.ref T.C_BadLamp, .ref T.C_BadMotions, .ref T.C_NoCount, .ref T.C_TooMany]) := upd_same
          generalize upd G1 t2 (.tup [.ref T.C_BadLamp, .ref T.C_BadMotions, .ref T.C_NoCount, .ref T.C_TooMany]) = G2 at h2 f2 g2 u2 ⊢
          refine ⟨T.C_NoMinute, _, dd, _, false, rfl, rfl, rfl, f2, T.X_NoMinute.xf, T.X_NoMinute.is, .inr ⟨t2, [T.C_BadLamp, T.C_BadMotions, T.C_NoCount, T.C_TooMany], rfl, u2, T.kit15⟩, false, rfl, ?_⟩
          refine ⟨.ref t, rfl, Nat.le_of_lt (small1000 (show 3 ≤ 1000 by decide)), fun u nu => ?_⟩
          have h3 := same_new (o := .lst [.bl true, .bl false, .bl false]) nu
          have f3 := h3 _ _ f2
          have g3 := h3 _ _ g2
          have p3 : (upd G2 u (.lst [.bl true, .bl false, .bl false])) u = some (.lst [.bl true, .bl false, .bl false]) := upd_same
          generalize upd G2 u (.lst [.bl true, .bl false, .bl false]) = G3 at h3 f3 g3 p3 ⊢
          refine ⟨.list [.bool true, .bool false, .bool false], .list [.bool true, .bool false, .bool false], .lst (.inl (.inl g3)) (.cons (.bl _) (.cons (.bl _) (.cons (.bl _) .nil))), .lst (.inl (.inl p3)) (.cons (.bl _) (.cons (.bl _) (.cons (.bl _) .nil))), by decide, by decide, true, rfl, iteT ⟨.bl true, rfl, true, rfl, iteT ⟨.ref a, rfl, rfl, rfl, dd, _, _, rfl, f3, rfl, sz2, fun w nw => ?_⟩⟩⟩
          have h4 := same_new (o := .lst [.str "minute", vv]) nw
          have f4 := h4 _ _ f3
          have g4 := h4 _ _ g3
          have w4 : (upd G3 w (.lst [.str "minute", vv])) w = some (.lst [.str "minute", vv]) := upd_same
          have nw0 := nw
          generalize upd G3 w (.lst [.str "minute", vv]) = G4 at h4 f4 g4 w4 ⊢
          refine ⟨.ref t, rfl, Nat.le_of_lt (small1000 (show 3 ≤ 1000 by decide)), fun u nu => ?_⟩
          have h5 := same_new (o := .lst [.bl false, .bl true, .bl false]) nu
          have f5 := h5 _ _ f4
          have g5 := h5 _ _ g4
          have w5 := h5 _ _ w4
          have p5 : (upd G4 u (.lst [.bl false, .bl true, .bl false])) u = some (.lst [.bl false, .bl true, .bl false]) := upd_same
          generalize upd G4 u (.lst [.bl false, .bl true, .bl false]) = G5 at h5 f5 g5 p5 w5 ⊢
          refine ⟨.list [.bool true, .bool false, .bool false], .list [.bool false, .bool true, .bool false], .lst (.inl (.inl g5)) (.cons (.bl _) (.cons (.bl _) (.cons (.bl _) .nil))), .lst (.inl (.inl p5)) (.cons (.bl _) (.cons (.bl _) (.cons (.bl _) .nil))), by decide, by decide, false, rfl, iteF ?_⟩
          refine ⟨.ref t, rfl, Nat.le_of_lt (small1000 (show 3 ≤ 1000 by decide)), fun u nu => ?_⟩
          have h6 := same_new (o := .lst [.bl false, .bl false, .bl true]) nu
          have f6 := h6 _ _ f5
          have g6 := h6 _ _ g5
          have w6 := h6 _ _ w5
          have p6 : (upd G5 u (.lst [.bl false, .bl false, .bl true])) u = some (.lst [.bl false, .bl false, .bl true]) := upd_same
          generalize upd G5 u (.lst [.bl false, .bl false, .bl true]) = G6 at h6 f6 g6 p6 w6 ⊢
          refine ⟨.list [.bool true, .bool false, .bool false], .list [.bool false, .bool false, .bool true], .lst (.inl (.inl g6)) (.cons (.bl _) (.cons (.bl _) (.cons (.bl _) .nil))), .lst (.inl (.inl p6)) (.cons (.bl _) (.cons (.bl _) (.cons (.bl _) .nil))), by decide, by decide, false, rfl, iteF ?_⟩
          have sE := s1.trans (h1.trans (h2.trans (h3.trans (h4.trans (h5.trans (h6))))))
          have sF := h1.trans (h2.trans (h3.trans (h4.trans (h5.trans (h6)))))
          have nN : ¬ N w := fun z => O w z ((s1.trans (h1.trans (h2.trans (h3)))).free nw0)
          exact ⟨.ref w, rfl, qq _ _ sE (by rw [show told1 "minute" d (befD rs d) = .list [.str "minute", d] by rw [hm]; rfl]; exact .lst (xs := [.str "minute", vv]) (.inl (.inl (by rw [cut_at nN]; exact w6))) (.cons (.str _) (.cons (dv.mono (cut_mono sF)) .nil)))⟩
theorem ok_l_due (T : All K mg) : FnOk P w K mg base CX0 2 T.f_l_due T.fd_l_due ["value"] (sp_due6 K) := by
  have nd := sc_l_due.nd
  refine T.D_l_due.F.ok sc_l_due (fun vs H Q E h => ?_) (fun cdv A outer s H vs Q E hr h => ?_)
  · obtain ⟨N, x, _, hd, _⟩ := h
    exact hd.len
  · obtain ⟨N, d, O, hd, hl, qq⟩ := h
    obtain ⟨v1, _, rfl, hd1, hd⟩ := dqs_cons hd
    obtain rfl := dqs_nil hd
    refine ⟨_, (pss_cons (ps_if (pt_not (pt_val (pe_callB call_isi (by rfl) T.z_isinstance (by decide +kernel) (pa_cons (pv 0) (pa_cons (pe_bltn (v := .ty "tuple") (by rfl) T.z_tuple (by decide +kernel) rfl) pa_nil)))))
    (pss_one (ps_ret (pe_lst (pa_cons pe_str (pa_cons (pv 0) pa_nil)))))
    pss_nil)
  (pss_cons (ps_for PassesOwn.never rfl (pi_enumT (by rfl) T.z_enumerate (pa_cons (pv 0) pa_nil)) (pg_tup rfl (pgs_cons (pg_name (i := 1) nd rfl (by first | exact Or.inl rfl | exact Or.inr rfl)) (pgs_cons (pg_name (i := 2) nd rfl (by first | exact Or.inl rfl | exact Or.inr rfl)) pgs_nil)))
    (pss_one (ps_if (PW.pt (pw_or (pt_not (pt_val (pe_call (ok_l_whole T) (hr.mono (by decide)) (by rfl) T.D_l_whole.g T.D_l_whole.F.kp T.D_l_whole.b .nil pass0 (pa_cons (pv 2) (pa_cons pe_int (pa_cons (pe_op op_pow pe_int pe_int) pa_nil)))))) (pw_or1 (PW.pt (pw_and (pt_cmpR op_gt (pv 1) pe_int (nomark _)) (pw_and1 (pt_cmpR op_le (pv 2) (pe_ix ix_tup (pv 0) (pe_op op_sub (pv 1) pe_int) (fun _ _ => rfl)) (nomark _))))))))
    (pss_one (ps_ret (pe_lst (pa_cons pe_str (pa_cons (pv 2) pa_nil)))))
    pss_nil)))
  (pss_cons (ps_par (i := 3) (j := 4) (by rfl) nd rfl rfl (by decide) rfl rfl (pa_cons (pe_lst pa_nil) (pa_cons (pe_callTy call_list_of (by rfl) T.z_list (by decide +kernel) (pa_cons (pv 0) pa_nil)) pa_nil)) (by rfl))
  (pss_cons (ps_while PassesOwn.never (pt_cmpR (op_neE hr.units0) (pv 4) (pe_lst pa_nil) (nomark _))
    (pss_cons (ps_set (i := 5) nd rfl (by first | exact Or.inl rfl | exact Or.inr rfl) (pe_callB (call_min2 rfl) (by rfl) T.z_min (by decide +kernel) (pa_cons pe_int (pa_cons (pe_callB call_len_seq (by rfl) T.z_len (by decide +kernel) (pa_cons (pv 4) pa_nil)) pa_nil))))
  (pss_cons (ps_while PassesOwn.never (PW.pt (pw_and (pt_cmpR op_lt (pv 5) (pe_callB call_len_seq (by rfl) T.z_len (by decide +kernel) (pa_cons (pv 4) pa_nil)) (nomark _)) (pw_and1 (pt_cmpR op_eq (pe_op op_sub (pe_ix ix_list (pv 4) (pv 5) (fun _ _ => rfl)) (pe_ix ix_list (pv 4) (pe_op op_sub (pv 5) pe_int) (fun _ _ => rfl))) (pe_op op_sub (pe_ix ix_list (pv 4) pe_int (fun _ _ => rfl)) (pe_ix ix_list (pv 4) pe_int (fun _ _ => rfl))) (nomark _)))))
    (pss_one (ps_set (i := 5) nd rfl (by first | exact Or.inl rfl | exact Or.inr rfl) (pe_op op_add (pv 5) pe_int))))
  (pss_cons (ps_expr (pe_bm PySem.F.plainAttrs_list PySem.F.slot_list_append PySem.F.type_list_append mt_append (pv 3) (pa_cons (pe_tup (pa_cons (pe_ix ix_list (pv 4) pe_int (fun _ _ => rfl)) (pa_cons (pe_ifExp (pt_cmpR op_gt (pv 5) pe_int (nomark _)) (pe_op op_sub (pe_ix ix_list (pv 4) pe_int (fun _ _ => rfl)) (pe_ix ix_list (pv 4) pe_int (fun _ _ => rfl))) pe_int) (pa_cons (pv 5) pa_nil)))) pa_nil)))
  (pss_one (ps_set (i := 4) nd rfl (by first | exact Or.inl rfl | exact Or.inr rfl) (pe_slice sl_list (pv 4) (po_some (pv 5)) po_none)))))))
  (pss_one (ps_ret (pe_ifExp (pt_cmpR op_le (pe_callB call_len_seq (by rfl) T.z_len (by decide +kernel) (pa_cons (pv 3) pa_nil)) pe_int (nomark _)) (pe_callTy call_tuple_of (by rfl) T.z_tuple (by decide +kernel) (pa_cons (pv 3) pa_nil)) (pe_lst (pa_cons pe_str (pa_cons pe_int pa_nil)))))))))), ?_⟩
    have pw : (10 : Int) ^ (9 : Int).toNat = 1000000000 := by decide
    have bad : ∀ (G : Hp) (x : V) (e : PyData), Same H G → Dq K (cut N G) x e → minErr d = some e → ([V.str "minute", x] : List V).length ≤ sizeLine ∧ ∀ u, G u = none → Q (.ref u) (upd G u (.lst [.str "minute", x])) := fun G x e sG hx he => ⟨sz2, fun u nu => qq _ _ (sG.trans (same_new nu)) (by
      show Dq K _ _ (dueOf d)
      unfold dueOf
      rw [he]
      exact .lst (.inl (.inl (cut_new (O.keep sG) nu))) (.cons (.str _) (.cons (hx.mono (cut_mono (same_new nu))) .nil)))⟩
    refine s_ifn ⟨v1, rfl, v1, .ty "tuple", _, _, _, rfl, .ty "tuple", (hd1.mono cut_same).ty, kit_ty (kit_t d), _, rfl, ?_⟩
    by_cases ht : ∃ ds, d = .tuple ds
    case neg =>
      have er : minErr d = some d := by
        cases d with
        | tuple ds => exact absurd ⟨ds, rfl⟩ ht
        | _ => rfl
      have b1 := bad H v1 d (Same.refl _) hd1 er
      cases d with
      | tuple ds => exact absurd ⟨ds, rfl⟩ ht
      | _ => exact iteT (s_ret ⟨v1, rfl, b1⟩)
    case pos =>
      obtain ⟨ds, rfl⟩ := ht
      have hl : ds.length ≤ 800 := hl
      obtain ⟨a, ys, rfl, g, hy⟩ := dq_tup hd1
      have len := hy.len
      refine iteF ?_
      refine ⟨.ref a, rfl, a, ys, rfl, Same.seqT cut_same g, for_it walk_enumT (fun i σ Hi => (∃ b y1 y2 y3 y4 y5, σ = [some (.ref a), y1, y2, y3, y4, y5] ∧ minGo ds (-1) = minGo (ds.drop i) b ∧ (i = 0 → b = -1) ∧ (0 < i → ds[i - 1]? = some (.int b))) ∧ Same H Hi) ⟨⟨-1, _, _, _, _, _, rfl, rfl, fun _ => rfl, fun h => absurd h (Nat.lt_irrefl 0)⟩, Same.refl H⟩ (fun i σ H1 _ h => Same.seqT (cut_same.trans h.2) g) ?_ ?_⟩
      · rintro i x σ H1 H2 hi ⟨⟨b, y1, y2, y3, y4, y5, rfl, em, hb0, hb1⟩, s1⟩ ⟨t, z, rfl, nt, rfl, hz⟩
        obtain ⟨e, he, hq⟩ := hy.get hz
        have s2 : Same H (upd H1 t (.tup [.int (i : Nat), z])) := s1.trans (same_new nt)
        rw [drop_get he] at em
        have em' : minErr (.tuple ds) = minGo (e :: ds.drop (i + 1)) b := em
        refine ⟨t, _, rfl, .inl (.inl upd_same), rfl, _, _, rfl, _, _, rfl, rfl, ?_⟩
        dsimp only
        generalize upd H1 t (.tup [.int (i : Nat), z]) = G at s2 ⊢
        refine ⟨z, rfl, 10, 9, rfl, rfl, ⟨by decide, by decide, by decide⟩, z, e, 0, _, rfl, hq.mono (cut_same.trans s2), inW 0 1000000000 e, by rw [pw], ?_⟩
        cases hm : inW 0 1000000000 e with
        | false =>
          refine iteT ?_
          refine ⟨z, rfl, bad G z e s2 (hq.mono (cut_mono s2)) ?_⟩
          rw [em']
          cases e with
          | int m =>
            have hm : (decide (0 ≤ m) && decide (m ≤ 1000000000)) = false := hm
            simp only [minGo]
            refine if_neg fun w => ?_
            rw [decide_eq_true w.1, decide_eq_true w.2.1] at hm
            cases hm
          | _ => rfl
        | true =>
          obtain ⟨m, rfl, m0, m1⟩ : ∃ m, e = .int m ∧ 0 ≤ m ∧ m ≤ 1000000000 := by
            cases e with
            | int m =>
              have hm : (decide (0 ≤ m) && decide (m ≤ 1000000000)) = true := hm
              obtain ⟨h1, h2⟩ := (Bool.and_eq_true _ _).mp hm
              exact ⟨m, rfl, of_decide_eq_true h1, of_decide_eq_true h2⟩
            | _ => cases hm
          obtain rfl := dq_int hq
          have next : b < m → ∃ b' y1 y2 y3' y4' y5', ([some (.ref a), some (.int (i : Nat)), some (.int m), y3, y4, y5] : L2.St) = [some (.ref a), y1, y2, y3', y4', y5'] ∧ minGo ds (-1) = minGo (ds.drop (i + 1)) b' ∧ (i + 1 = 0 → b' = -1) ∧ (0 < i + 1 → ds[i + 1 - 1]? = some (.int b')) := fun lt => ⟨m, _, _, _, _, _, rfl, by
            rw [em]
            simp only [minGo]
            rw [if_pos ⟨m0, m1, lt⟩], fun h => absurd h (Nat.succ_ne_zero i), fun _ => he⟩
          refine iteF ⟨.int (i : Nat), rfl, ((i : Nat) : Int), 0, rfl, rfl, _, rfl, ite2 (fun g1 => ?_) (fun g1 => ?_)⟩
          · have g1' : (0 : Int) < (i : Int) := of_decide_eq_true g1
            have hb2 := hb1 (by omega)
            obtain ⟨u, hu, hdu⟩ : ∃ u, ys[i - 1]? = some u ∧ Dq K (cut N H) u (.int b) := by
              have hlt : i - 1 < ys.length := by
                have := (List.getElem?_eq_some_iff.mp hz).1
                omega
              obtain ⟨e2, h2, h3⟩ := hy.get (List.getElem?_eq_getElem hlt)
              rw [hb2] at h2
              cases h2
              exact ⟨_, List.getElem?_eq_getElem hlt, h3⟩
            obtain rfl := dq_int hdu
            refine ⟨.int m, rfl, .ref a, rfl, .int (i : Nat), rfl, _, 1, rfl, rfl, a, ys, ((i : Nat) : Int) - 1, .int b, rfl, rfl, Same.seqT (cut_same.trans s2) g, (by rw [show ((i : Nat) : Int) - 1 = ((i - 1 : Nat) : Int) by omega]; exact atI_nat hu), m, b, rfl, rfl, _, rfl, ite2 (fun g2 => ?_) (fun g2 => ?_)⟩
            · have g2' : m ≤ b := of_decide_eq_true g2
              refine s_ret ⟨.int m, rfl, bad G (.int m) (.int m) s2 (.int m) ?_⟩
              rw [em']
              simp only [minGo]
              exact if_neg fun z => by omega
            · have g2' : ¬ m ≤ b := fun z => g2 (decide_eq_true z)
              exact ⟨next (by omega), s2⟩
          · have g1' : ¬ (0 : Int) < (i : Int) := fun z => g1 (decide_eq_true z)
            have := hb0 (by omega)
            exact ⟨next (by omega), s2⟩
      · rintro σ H1 ⟨⟨b, y1, y2, y3, y4, y5, rfl, em, _, _⟩, s1⟩
        rw [len, List.drop_length] at em
        have em0 : minGo ds (-1) = none := em
        obtain ⟨ms, rfl, hasc, hb⟩ := minGo_ints em0
        rw [List.length_map] at hl
        obtain rfl := dqs_ints hy
        have eE : minErr (.tuple (ms.map .int)) = none := em0
        have eG : grpOf (.tuple (ms.map .int)) = grpF ms := grpOf_ints ms
        have O1 := O.keep s1
        dsimp only
        refine s_par ⟨Nat.zero_le _, fun f nf => ?_⟩
        have sf : Same H1 (upd H1 f (.lst [])) := same_new nf
        refine r_cons ⟨.ref a, rfl, a, _, rfl, .inr (Same.seqT (cut_same.trans (s1.trans sf)) g), fun l nl => ?_⟩
        have lf : l ≠ f := fun e => by rw [e, upd_same] at nl; cases nl
        refine ⟨_, _, rfl, ?_⟩
        have sl : Same (upd H1 f (.lst [])) (upd (upd H1 f (.lst [])) l (.lst (ms.map V.int))) := same_new nl
        refine ⟨fun m σ Hi => ∃ qs rem ra y5, σ = [some (.ref a), y1, y2, some (.ref f), some (.ref ra), y5] ∧ GrowG K N H1 f runD qs.reverse Hi ∧ Hi ra = some (.lst (rem.map V.int)) ∧ ra ≠ f ∧ ms.foldl grpS [] = rem.foldl grpS qs ∧ (∃ pre, ms = pre ++ rem) ∧ (∀ r0, rem.head? = some r0 → Shut qs r0) ∧ qs.length + rem.length ≤ 800 ∧ rem.length = m, ?_, ?_⟩
        · refine ⟨ms.length, [], ms, l, _, rfl, ?_, upd_same, lf, rfl, ⟨[], rfl⟩, fun r0 _ => rfl, by simpa using hl, rfl⟩
          obtain ⟨zs, p1, p2, p3⟩ := GrowG.start (K := K) (N := N) (D := runD) nf
          exact ⟨zs, p1.trans sl, sl _ _ p2, p3.mono (cut_mono (cut_mono sl))⟩
        · rintro m σ Hi ⟨qs, rem, ra, y5, rfl, ⟨xs, si, ef, hx⟩, er, nrf, eF, ⟨pre, epre⟩, hsh, hlen, hm⟩
          refine ⟨.ref ra, rfl, Nat.zero_le _, fun ga ng => ⟨ra, ga, _, rfl, rfl, .inl (.inl (same_new ng _ _ er)), .inl (.inl upd_same), _, rfl, ?_⟩⟩
          have sg : Same Hi (upd Hi ga (.lst [])) := same_new ng
          have er1 := sg _ _ er
          have ef1 := sg _ _ ef
          have hx1 : Dqs K (cut1 f (cut N (upd Hi ga (.lst [])))) xs (qs.reverse.map runD) := hx.mono (cut_mono (cut_mono sg))
          have si1 := si.trans sg
          generalize upd Hi ga (.lst []) = G1 at sg er1 ef1 hx1 si1 ⊢
          have lxs := hx1.len
          rw [List.length_map, List.length_reverse] at lxs
          cases rem with
          | nil =>
            refine iteF ?_
            have eF : ms.foldl grpS [] = qs := eF
            have eq : grpF ms = qs.reverse := by unfold grpF; rw [eF]
            refine ⟨.ref f, rfl, f, xs, rfl, .inl (.inl (.inl ef1)), _, 360, rfl, rfl, _, rfl, ite2 (fun g1 => ?_) (fun g1 => ?_)⟩
            · have g1' := of_decide_eq_true g1
              refine ⟨.ref f, rfl, f, xs, rfl, .inl ⟨.inl (.inl ef1), fun t nt => qq _ _ ((s1.trans si1).trans (same_new nt)) ?_⟩⟩
              show Dq K _ _ (dueOf _)
              unfold dueOf
              rw [eE, eG, eq]
              simp only [dueGo]
              rw [if_neg (by rw [List.length_reverse]; omega)]
              exact GrowAt.tup O1 si1 hx1 nt
            · have g1' : ¬ (xs.length : Int) ≤ 360 := fun z => g1 (decide_eq_true z)
              refine ⟨sz2, fun t nt => qq _ _ ((s1.trans si1).trans (same_new nt)) ?_⟩
              show Dq K _ _ (dueOf _)
              unfold dueOf
              rw [eE, eG, eq]
              simp only [dueGo]
              rw [if_pos (by rw [List.length_reverse]; omega)]
              exact .lst (.inl (.inl (cut_new (O1.keep si1) nt))) (.cons (.str _) (.cons (.int _) .nil))
          | cons r0 rt =>
            have hr0 : Shut qs r0 := hsh r0 rfl
            refine iteT ⟨_, fun σ' H' z => z, ?_⟩
            have e0 : ((r0 :: rt).map V.int)[0]? = some (.int r0) := rfl
            obtain ⟨d, hd1, hdd⟩ : ∃ d : Int, 1 ≤ d ∧ (2 ≤ (r0 :: rt).length → (r0 :: rt)[1]? = some (r0 + d)) := by
              cases rt with
              | nil => exact ⟨1, by decide, fun z => by simp at z⟩
              | cons r1 t =>
                have pw := (asc_app (show Asc (-1) (pre ++ r0 :: r1 :: t) by rw [← epre]; exact hasc)).2.2.2.2
                have lt := (List.pairwise_cons.mp pw).1 r1 List.mem_cons_self
                exact ⟨r1 - r0, by omega, fun _ => by show some r1 = _; congr 1; omega⟩
            obtain ⟨s0, es0, pr0⟩ : ∃ s0 : Nat, (if (((r0 :: rt).map V.int).length : Int) < 2 then (((r0 :: rt).map V.int).length : Int) else 2) = (s0 : Int) ∧ PreR (r0 :: rt) r0 d s0 := by
              cases rt with
              | nil => exact ⟨1, rfl, Nat.le_refl _, Nat.le_refl _, fun j hj => by
                  obtain rfl : j = 0 := by omega
                  simp, fun z => by simp at z⟩
              | cons r1 t =>
                refine ⟨2, by rw [if_neg (by simp; omega)]; rfl, by decide, by simp, fun j hj => ?_, fun _ => Nat.le_refl _⟩
                have := hdd (by simp)
                rcases (show j = 0 ∨ j = 1 by omega) with rfl | rfl
                · simp
                · rw [this]; simp
            refine s_set ⟨.ref ra, rfl, ra, _, rfl, .inl (.inl (.inl er1)), _, _, rfl, ?_⟩
            rw [es0]
            refine ⟨fun k σ G => ∃ s : Nat, σ = [some (.ref a), y1, y2, some (.ref f), some (.ref ra), some (.int s)] ∧ G = G1 ∧ PreR (r0 :: rt) r0 d s ∧ (r0 :: rt).length - s = k, ⟨_, s0, rfl, rfl, pr0, rfl⟩, ?_⟩
            rintro k σ G ⟨s, rfl, rfl, ⟨p1, p2, p3, p4⟩, rfl⟩
            refine tst_of (fun b H' => H' = G ∧ (b = true → s + 1 ≤ (r0 :: rt).length ∧ (r0 :: rt)[s]? = some (r0 + d * (s : Int))) ∧ (b = false → s < (r0 :: rt).length → 2 ≤ s ∧ ∀ z, (r0 :: rt)[s]? = some z → z ≠ r0 + d * (s : Int))) ?_ ?_
            · rintro b Gb ⟨eG, hbt, hbf⟩
              subst eG
              cases b with
              | true =>
                obtain ⟨p5, p6⟩ := hbt rfl
                refine iteT ⟨_, fun σ' H' z => z, ?_⟩
                refine s_set1 ⟨.int s, rfl, (s : Int), 1, rfl, rfl, ?_⟩
                refine ⟨(r0 :: rt).length - (s + 1), by omega, s + 1, rfl, rfl, ⟨by omega, p5, fun j hj => ?_, fun z => by omega⟩, rfl⟩
                rcases (show j < s ∨ j = s by omega) with h | rfl
                · exact p3 j h
                · exact p6
              | false =>
                have hstop := hbf rfl
                refine iteF ?_
                dsimp only
                have e0' : atI ((r0 :: rt).map V.int) 0 = some (.int r0) := atI_nat (j := 0) e0
                refine ⟨.ref f, rfl, .inl ⟨rfl, _, .inl (.inl ef1)⟩, .ref ra, rfl, ra, _, 0, .int r0, rfl, rfl, .inl (.inl er1), e0', ?_⟩
                refine te_of (fun v H' => H' = Gb ∧ v = .int (if 1 < s then d else 1)) ?_ ?_
                · rintro _ Hc ⟨eH, rfl⟩
                  subst eH
                  refine ⟨.int s, rfl, Nat.le_of_lt (small1000 (show 3 ≤ 1000 by decide)), fun t nt => ?_⟩
                  have tf : f ≠ t := fun e => by rw [← e, ef1] at nt; cases nt
                  have tr : ra ≠ t := fun e => by rw [← e, er1] at nt; cases nt
                  have l0 : qs.length + (r0 :: rt).length ≤ 800 := hlen
                  refine ⟨f, xs, _, rfl, rfl, by rw [upd_ne tf]; exact ef1, small1000 (by simp at l0; omega), ?_⟩
                  have put := GrowG.put (D := runD) (x := (r0, (if 1 < s then d else 1), (s : Int))) (vs := [.int r0, .int (if 1 < s then d else 1), .int s]) (t := t) (G := Hc) (fun G' h => dq_runT h) nf O1 si1 (Same.refl _) ef1 hx1 nt
                  have er9 : (upd (upd Hc t (.tup [.int r0, .int (if 1 < s then d else 1), .int s])) f (.lst (xs ++ [.ref t]))) ra = some (.lst ((r0 :: rt).map V.int)) := by rw [upd_ne nrf, upd_ne tr]; exact er1
                  generalize upd (upd Hc t (.tup [.int r0, .int (if 1 < s then d else 1), .int s])) f (.lst (xs ++ [.ref t])) = H9 at put er9 ⊢
                  obtain ⟨zs, q1, q2, q3⟩ := put
                  refine ⟨.ref ra, rfl, .int s, rfl, s, rfl, ra, _, rfl, .inl (.inl er9), fun c nc => ?_⟩
                  have sc : Same H9 (upd H9 c (.lst (cutV ((r0 :: rt).map V.int) (some (s : Int)) none))) := same_new nc
                  refine ⟨((r0 :: rt).drop s).length, by rw [← hm, List.length_drop]; omega, (r0, (if 1 < s then d else 1), (s : Int)) :: qs, (r0 :: rt).drop s, c, _, rfl, ⟨zs, q1.trans sc, sc _ _ q2, ?_⟩, ?_, (fun e => by rw [e, q2] at nc; cases nc), ?_, ⟨pre ++ (r0 :: rt).take s, ?_⟩, ?_, ?_, rfl⟩
                  · rw [List.reverse_cons]
                    exact q3.mono (cut_mono (cut_mono sc))
                  · rw [upd_same, cutV_drop _ (by rw [List.length_map]; exact p2), List.map_drop]
                  · rw [eF]
                    exact grp_take hd1 hr0 p1 p2 p3
                  · rw [List.append_assoc, List.take_append_drop]
                    exact epre
                  · intro m' hm'
                    rw [List.head?_drop] at hm'
                    have hlt : s < (r0 :: rt).length := (List.getElem?_eq_some_iff.mp hm').1
                    obtain ⟨h2, h3⟩ := hstop hlt
                    exact shut_next h2 (h3 m' hm')
                  · rw [List.length_cons, List.length_drop]
                    omega
                · intro Q' hQ
                  refine ⟨.int s, rfl, (s : Int), 1, rfl, rfl, _, rfl, ite2 (fun g1 => ?_) (fun g1 => ?_)⟩
                  · have g1' := of_decide_eq_true g1
                    have l2 : 2 ≤ (r0 :: rt).length := by omega
                    have e1 : ((r0 :: rt).map V.int)[1]? = some (.int (r0 + d)) := by rw [List.getElem?_map, hdd l2]; rfl
                    refine ⟨.ref ra, rfl, ra, _, 1, _, rfl, rfl, .inl (.inl er1), atI_nat (j := 1) e1, .ref ra, rfl, ra, _, 0, _, rfl, rfl, .inl (.inl er1), e0', _, _, rfl, rfl, ?_⟩
                    exact hQ _ _ ⟨rfl, by rw [if_pos (by omega)]; show V.int (r0 + d - r0) = _; congr 1; omega⟩
                  · have g1' : ¬ (1 : Int) < (s : Int) := fun h => g1 (decide_eq_true h)
                    exact hQ _ _ ⟨rfl, by rw [if_neg (by omega)]⟩
            · intro Q' hQ
              refine ⟨.int s, rfl, .ref ra, rfl, ra, _, rfl, .inl (.inl (.inl er1)), (s : Int), _, rfl, rfl, _, rfl, ite2 (fun g1 => ?_) (fun g1 => ?_)⟩
              · have g1' := of_decide_eq_true g1
                rw [List.length_map] at g1'
                have l2 : 2 ≤ (r0 :: rt).length := by omega
                have s2 := p4 l2
                obtain ⟨z, hz⟩ : ∃ z, (r0 :: rt)[s]? = some z := ⟨_, List.getElem?_eq_getElem (by omega)⟩
                have hy := p3 (s - 1) (by omega)
                have ez : ((r0 :: rt).map V.int)[s]? = some (.int z) := by rw [List.getElem?_map, hz]; rfl
                have ey : ((r0 :: rt).map V.int)[s - 1]? = some (.int (r0 + d * ((s - 1 : Nat) : Int))) := by rw [List.getElem?_map, hy]; rfl
                have e1 : ((r0 :: rt).map V.int)[1]? = some (.int (r0 + d)) := by rw [List.getElem?_map, hdd l2]; rfl
                have e9 : d * ((s - 1 : Nat) : Int) = d * (s : Int) - d := by
                  rw [show ((s - 1 : Nat) : Int) = (s : Int) - 1 by omega, Int.mul_sub, Int.mul_one]
                refine ⟨.ref ra, rfl, .int s, rfl, ra, _, (s : Int), .int z, rfl, rfl, .inl (.inl er1), atI_nat ez, .ref ra, rfl, .int s, rfl, (s : Int), 1, rfl, rfl, ra, _, (s : Int) - 1, _, rfl, rfl, .inl (.inl er1), (by rw [show (s : Int) - 1 = ((s - 1 : Nat) : Int) by omega]; exact atI_nat ey), _, _, rfl, rfl, .ref ra, rfl, ra, _, 1, _, rfl, rfl, .inl (.inl er1), atI_nat (j := 1) e1, .ref ra, rfl, ra, _, 0, _, rfl, rfl, .inl (.inl er1), atI_nat (j := 0) e0, _, _, rfl, rfl, rfl, _, rfl, ?_⟩
                refine hQ _ _ ⟨rfl, fun hb' => ⟨by omega, ?_⟩, fun hb' _ => ⟨s2, fun z' hz' => ?_⟩⟩
                · have h' := of_decide_eq_true hb'
                  have h'' : z - (r0 + d * ((s - 1 : Nat) : Int)) = r0 + d - r0 := V.int.inj h'
                  rw [hz]
                  congr 1
                  rw [e9] at h''
                  omega
                · have h' := of_decide_eq_false hb'
                  rw [hz] at hz'
                  cases hz'
                  intro e
                  apply h'
                  show V.int (z - (r0 + d * ((s - 1 : Nat) : Int))) = V.int (r0 + d - r0)
                  congr 1
                  rw [e9]
                  omega
              · have g1' : ¬ (s : Int) < (((r0 :: rt).map V.int).length : Int) := fun z => g1 (decide_eq_true z)
                rw [List.length_map] at g1'
                exact hQ _ _ ⟨rfl, (fun z => Bool.noConfusion z), fun _ h => by omega⟩
theorem ok_l_spread_out (T : All K mg) : FnOk P w K mg base CX0 1 T.f_l_spread_out T.fd_l_spread_out ["count", "shift"] (sp_spread K) := by
  have nd := sc_l_spread_out.nd
  refine T.D_l_spread_out.F.ok sc_l_spread_out (fun vs H Q E h => ?_) (fun cdv A outer s H vs Q E hr h => ?_)
  · obtain ⟨N, x, _, hd, _⟩ := h
    exact hd.len
  · obtain ⟨N, ⟨c, sh⟩, O, hd, ⟨⟨c0, c1⟩, s0, s1⟩, qq⟩ := h
    have c0 : 0 ≤ c := c0
    have c1 : c ≤ 800 := c1
    have s0 : 0 ≤ sh := s0
    have s1 : sh ≤ 10 := s1
    obtain ⟨v1, _, rfl, hd1, hd⟩ := dqs_cons hd
    obtain ⟨v2, _, rfl, hd2, hd⟩ := dqs_cons hd
    obtain rfl := dqs_nil hd
    obtain rfl := dq_int hd1
    obtain rfl := dq_int hd2
    refine ⟨_, (pss_one (ps_ret (pe_callTy call_tuple_of (by rfl) T.z_tuple (by decide +kernel) (pa_cons (pe_lc (own := [("k", 2)]) rfl nd (pi_range1 (by rfl) T.z_range (pa_cons (pv 0) pa_nil)) (blkOk_by (own := [("k", 2)]) (N := n_l_spread_out) (sc := defScope s_l_spread_out) (by decide +kernel)) (fun _ _ _ _ _ => (pg_name (i := 2) nd rfl (by first | exact Or.inl rfl | exact Or.inr rfl))) (fun _ _ _ _ _ => pts_nil) (fun _ _ _ _ _ => (pe_op op_add (pe_op op_add (pe_op op_mul pe_int (pe_op op_fdivN (pv 2) pe_int)) (pe_op op_modN (pv 2) pe_int)) (pe_op op_mul (pe_op op_mul (pv 1) (pv 2)) (pv 2))))) pa_nil)))), ?_⟩
    refine s_ret ⟨.int c, rfl, c, rfl, by omega, by omega, fun D nD => ?_⟩
    refine lc_range (fun k Hk => Same H Hk ∧ Hk D = some (.lst ((spreadL k sh).map V.int))) ⟨same_new nD, upd_same⟩ ?_ ?_
    · rintro k Hk hk ⟨sk, ek⟩
      have hk' : k < c.toNat := hk
      refine ⟨by first | rfl | simp only [wipe, List.set_set], yes_if ?_⟩
      refine ⟨.int (0 + (k : Int)), rfl, _, _, rfl, rfl, ⟨by omega, by omega⟩, 7, _, rfl, rfl, .inl ⟨by omega, by omega⟩, .int (0 + (k : Int)), rfl, _, 2, rfl, rfl, (by show (2 : Int) ≠ 0; decide), _, _, rfl, rfl, .int sh, rfl, .int (0 + (k : Int)), rfl, sh, _, rfl, rfl, .inl ⟨by omega, by omega⟩, .int (0 + (k : Int)), rfl, _, _, rfl, rfl, .inr ⟨by omega, by omega⟩, _, _, rfl, rfl, _, ek, small1000 (by rw [List.length_map]; unfold spreadL; rw [List.length_map, List.length_range]; omega), same_upd sk nD, ?_⟩
      rw [upd_same, spreadL_succ, List.map_append, Int.zero_add]
      rfl
    rintro Hn ⟨sn, en⟩
    refine ⟨D, _, rfl, .inl ⟨.inl (.inl en), fun t nt => qq _ _ (sn.trans (same_new nt)) ?_⟩⟩
    exact .tup (.inl (.inl (cut_new (O.keep sn) nt))) ints_dqs
theorem ok_l_numbers_right (T : All K mg) : FnG P w K mg base CX0 7 T.f_l_numbers_right T.fd_l_numbers_right ["pot", "runs"] (sp_numR K) := by
  have nd := sc_l_numbers_right.nd
  refine Lm.Fun.okG T.D_l_numbers_right.F sc_l_numbers_right (fun vs H Q E h => ?_) (fun cdv A outer s H vs Q E hgd hr h => ?_)
  · obtain ⟨Z, p, dl, al, x, rs, rfl, _⟩ := h
    rfl
  · obtain ⟨Z, p, dl, al, x, rs, rfl, hP, hd, hup, hl, hok, q⟩ := h
    refine ⟨_, (pss_cons (ps_set (i := 3) nd rfl (by first | exact Or.inl rfl | exact Or.inr rfl) (pe_callB (cr_sum rfl) (by rfl) T.z_sum (by decide +kernel) (pa_cons (pe_lc (own := [("run", 2)]) rfl nd (pi_tup (pv 1)) (blkOk_by (own := [("run", 2)]) (N := n_l_numbers_right) (sc := defScope s_l_numbers_right) (by decide +kernel)) (fun _ _ _ _ _ => (pg_name (i := 2) nd rfl (by first | exact Or.inl rfl | exact Or.inr rfl))) (fun _ _ _ _ _ => pts_nil) (fun _ _ _ _ _ => (pe_ix (ixK (K := K) rfl) (pv 2) pe_int (fun _ _ => rfl)))) pa_nil)))
  (pss_cons (ps_if (pt_cmpR op_ne (pe_callB (call_reprD hgd hr) (by rfl) T.z_repr (by decide +kernel) (pa_cons (pe_call (ok_count_motions T) (hr.mono (by decide)) (by rfl) T.D_count_motions.g T.D_count_motions.F.kp T.D_count_motions.b .nil pass0 (pa_cons (pv 1) pa_nil)) pa_nil)) (pe_callB (call_reprD hgd hr) (by rfl) T.z_repr (by decide +kernel) (pa_cons (pv 3) pa_nil)) (nomark _))
    (pss_one (ps_ret pe_bl))
    pss_nil)
  (pss_cons (ps_for PassesOwn.never rfl (pi_list (pe_lst (pa_cons pe_int (pa_cons (pe_op op_sub (pv 3) pe_int) (pa_cons (pv 3) (pa_cons (pe_un un_neg pe_int) (pa_cons pe_bl (pa_cons pe_non (pa_cons (pe_call (ok_l_draw T) (hr.mono (by decide)) (by rfl) T.D_l_draw.g T.D_l_draw.F.kp T.D_l_draw.b .nil pass0 (pa_cons (pv 0) (pa_cons (pe_op op_add (pv 3) pe_int) pa_nil))) (pa_cons (pe_call (ok_l_odd T) (hr.mono (by decide)) (by rfl) T.D_l_odd.g T.D_l_odd.F.kp T.D_l_odd.b .nil pass0 (pa_cons (pv 0) pa_nil)) pa_nil)))))))))) (pg_name (i := 4) nd rfl (by first | exact Or.inl rfl | exact Or.inr rfl))
    (pss_cons (ps_par (i := 5) (j := 6) (by rfl) nd rfl rfl (by decide) rfl rfl (pa_cons (pe_lst (pa_cons pe_str (pa_cons (pv 4) pa_nil))) (pa_cons (pv 4) pa_nil)) (by rfl))
  (pss_cons (ps_for PassesOwn.never rfl (pi_tup (pe_ifExp (pt_val (pe_call (ok_l_whole T) (hr.mono (by decide)) (by rfl) T.D_l_whole.g T.D_l_whole.F.kp T.D_l_whole.b .nil pass0 (pa_cons (pv 4) (pa_cons pe_int (pa_cons (pe_op op_sub (pv 3) pe_int) pa_nil))))) (pv 1) (pe_tup pa_nil))) (pg_tup rfl (pgs_cons (pg_name (i := 7) nd rfl (by first | exact Or.inl rfl | exact Or.inr rfl)) (pgs_cons (pg_name (i := 8) nd rfl (by first | exact Or.inl rfl | exact Or.inr rfl)) (pgs_cons (pg_name (i := 9) nd rfl (by first | exact Or.inl rfl | exact Or.inr rfl)) pgs_nil))))
    (pss_cons (ps_if (PW.pt (pw_and (pt_val (pe_callB call_isi (by rfl) T.z_isinstance (by decide +kernel) (pa_cons (pv 5) (pa_cons (pe_bltn (v := .ty "list") (by rfl) T.z_list (by decide +kernel) rfl) pa_nil)))) (pw_and1 (pt_cmpR op_lt (pv 6) (pv 9) (nomark _)))))
    (pss_one (ps_set (i := 5) nd rfl (by first | exact Or.inl rfl | exact Or.inr rfl) (pe_op op_add (pv 7) (pe_op op_mul (pv 8) (pv 6)))))
    pss_nil)
  (pss_one (ps_set (i := 6) nd rfl (by first | exact Or.inl rfl | exact Or.inr rfl) (pe_op op_sub (pv 6) (pv 9))))))
  (pss_one (ps_if (pt_cmpR op_ne (pe_callB (call_reprD hgd hr) (by rfl) T.z_repr (by decide +kernel) (pa_cons (pe_call (ok_l_told T) (hr.mono (by decide)) (by rfl) T.D_l_told.g T.D_l_told.F.kp T.D_l_told.b .nil pass0 (pa_cons pe_int (pa_cons (pv 1) (pa_cons (pv 4) pa_nil)))) pa_nil)) (pe_callB (call_reprD hgd hr) (by rfl) T.z_repr (by decide +kernel) (pa_cons (pv 5) pa_nil)) (nomark _))
    (pss_one (ps_ret pe_bl))
    pss_nil)))))
  (pss_cons (ps_setLc (i := 10) (own := [("run", 2)]) rfl nd rfl rfl (sw_true rfl rfl rfl (by decide +kernel)) (pi_tup (pv 1)) (blkOk_by (own := [("run", 2)]) (N := n_l_numbers_right) (sc := defScope s_l_numbers_right) (by decide +kernel)) (fun _ _ _ _ _ => (pg_name (i := 2) nd rfl (by first | exact Or.inl rfl | exact Or.inr rfl))) (fun _ _ _ _ _ => pts_nil) (fun _ _ _ _ _ => (pe_op op_add (pe_op op_add (pe_ix (ixK (K := K) rfl) (pv 2) pe_int (fun _ _ => rfl)) (pe_op op_mul (pe_ix (ixK (K := K) rfl) (pv 2) pe_int (fun _ _ => rfl)) (pe_call (ok_l_draw T) (hr.mono (by decide)) (by rfl) T.D_l_draw.g T.D_l_draw.F.kp T.D_l_draw.b .nil pass0 (pa_cons (pv 0) (pa_cons (pe_ix (ixK (K := K) rfl) (pv 2) pe_int (fun _ _ => rfl)) pa_nil))))) (pe_call (ok_l_one T) (hr.mono (by decide)) (by rfl) T.D_l_one.g T.D_l_one.F.kp T.D_l_one.b .nil pass0 (pa_cons (pv 0) (pa_cons (pe_lst (pa_cons (pe_un un_neg pe_int) (pa_cons pe_int (pa_cons pe_int pa_nil)))) pa_nil))))))
  (pss_cons (ps_for PassesOwn.never rfl (pi_list (pe_op op_cat (pv 10) (pe_lst (pa_cons pe_int (pa_cons (pe_op op_pow pe_int pe_int) (pa_cons (pe_op op_add (pe_op op_pow pe_int pe_int) pe_int) (pa_cons (pe_un un_neg pe_int) (pa_cons pe_bl (pa_cons (pe_call (ok_l_draw T) (hr.mono (by decide)) (by rfl) T.D_l_draw.g T.D_l_draw.F.kp T.D_l_draw.b .nil pass0 (pa_cons (pv 0) (pa_cons (pe_op op_pow pe_int pe_int) pa_nil))) (pa_cons (pe_call (ok_l_odd T) (hr.mono (by decide)) (by rfl) T.D_l_odd.g T.D_l_odd.F.kp T.D_l_odd.b .nil pass0 (pa_cons (pv 0) pa_nil)) pa_nil)))))))))) (pg_name (i := 11) nd rfl (by first | exact Or.inl rfl | exact Or.inr rfl))
    (pss_cons (ps_set (i := 5) nd rfl (by first | exact Or.inl rfl | exact Or.inr rfl) (pe_lst (pa_cons pe_str (pa_cons (pv 11) pa_nil))))
  (pss_cons (ps_if (pt_val (pe_call (ok_l_whole T) (hr.mono (by decide)) (by rfl) T.D_l_whole.g T.D_l_whole.F.kp T.D_l_whole.b .nil pass0 (pa_cons (pv 11) (pa_cons pe_int (pa_cons (pe_op op_pow pe_int pe_int) pa_nil)))))
    (pss_one (ps_set (i := 5) nd rfl (by first | exact Or.inl rfl | exact Or.inr rfl) (pe_callB (cr_sum rfl) (by rfl) T.z_sum (by decide +kernel) (pa_cons (pe_lc (own := [("run", 2)]) rfl nd (pi_tup (pv 1)) (blkOk_by (own := [("run", 2)]) (N := n_l_numbers_right) (sc := defScope s_l_numbers_right) (by decide +kernel)) (fun _ _ _ _ _ => (pg_name (i := 2) nd rfl (by first | exact Or.inl rfl | exact Or.inr rfl))) (fun _ _ _ _ _ => pts_nil) (fun _ _ _ _ _ => (pe_callB (call_max2 rfl) (by rfl) T.z_max (by decide +kernel) (pa_cons pe_int (pa_cons (pe_callB (call_min2 rfl) (by rfl) T.z_min (by decide +kernel) (pa_cons (pe_ix (ixK (K := K) rfl) (pv 2) pe_int (fun _ _ => rfl)) (pa_cons (pe_un un_neg (pe_op op_fdivN (pe_op op_sub (pe_ix (ixK (K := K) rfl) (pv 2) pe_int (fun _ _ => rfl)) (pv 11)) (pe_ix (ixK (K := K) rfl) (pv 2) pe_int (fun _ _ => rfl)))) pa_nil))) pa_nil))))) pa_nil))))
    pss_nil)
  (pss_one (ps_if (pt_cmpR op_ne (pe_callB (call_reprD hgd hr) (by rfl) T.z_repr (by decide +kernel) (pa_cons (pe_call (ok_l_told T) (hr.mono (by decide)) (by rfl) T.D_l_told.g T.D_l_told.F.kp T.D_l_told.b .nil pass0 (pa_cons pe_int (pa_cons (pv 1) (pa_cons (pv 11) pa_nil)))) pa_nil)) (pe_callB (call_reprD hgd hr) (by rfl) T.z_repr (by decide +kernel) (pa_cons (pv 5) pa_nil)) (nomark _))
    (pss_one (ps_ret pe_bl))
    pss_nil)))))
  (pss_one (ps_ret pe_bl))))))), ?_⟩
    obtain ⟨a3, ys, rfl, g, hy⟩ := dq_tup hd
    have lys := hy.len
    rw [List.length_map] at lys
    obtain ⟨c1, c0⟩ := sumC_le hup
    have c2 := endL_le (b := -1) (by decide) hok
    have tb : 0 ≤ sumC rs ∧ sumC rs ≤ 1000000001 := ⟨c0, by omega⟩
    have smT : Sm 13 0 (.int (sumC rs)) := Sm.int (by omega)
    -- total
    refine s_set ⟨.ref a3, rfl, a3, rfl, ⟨_, Same.seqT hid_same g⟩, fun D nD => ?_⟩
    refine lc_map (K := K) (D := runD) (F := fun r => .int r.2.2) (as := rs) (N := NZ (pot p dl al) Z) (walk_tup (K := K) (a := a3) (xs := ys)) (fun H' s => Same.seqT (hid_same.trans s) g) nD hP.occ hy (Nat.le_trans hl (by decide)) ?_ ?_
    · intro G x y Q' _ OG sG sH hx q'
      obtain ⟨ra, rfl, gr⟩ := dq_run hx
      exact ⟨.ref ra, rfl, ra, _, 2, .int y.2.2, rfl, rfl, Same.seqT cut_same gr, atI_nat (j := 2) rfl, q' _ _ (Same.refl _) (.int _)⟩
    intro H1 acc s1 e1 O1 dacc
    have dacc' : Dqs K (cut (NP (NZ (pot p dl al) Z) D) H1) acc ((rs.map fun r => r.2.2).map .int) := by rw [List.map_map]; exact dacc
    obtain rfl := dqs_ints dacc'
    refine ⟨D, _, rfl, .inl (.inl e1), ?_⟩
    show _
    have P1 := hP.keep s1
    have d1 := hd.mono (cut_mono (N := NZ (pot p dl al) Z) s1)
    have k1 : Kp (pot p dl al) Z H H1 := Kp.of s1
    -- count_motions
    have eT : (rs.map fun r => r.2.2).sum = sumC rs := rfl
    rw [eT]
    refine s_ifn ⟨.ref a3, rfl, NZ (pot p dl al) Z, rs, P1.occ, .cons d1 .nil, Nat.le_trans hl (by decide), fun r H2 s2 dr => ?_⟩
    obtain rfl := dq_int dr
    refine ⟨.int (sumC rs), .int (sumC rs), rfl, .int _, smT.fine (by decide) (by decide), .int (sumC rs), rfl, .int (sumC rs), .int (sumC rs), rfl, .int _, smT.fine (by decide) (by decide), rfl, false, ne_self, iteF ?_⟩
    have P2 := P1.keep s2
    have k2 := k1.trans (Kp.of s2)
    have d2 := hd.mono k2
    -- indexes
    refine s_lst ?_
    refine (ev_lst (m := 8) (n' := 8) (R := DR K (Sm 60 3)) (by decide) DR.mo (eall_cons DR.mo (ev_irD (ev_int)) (eall_cons DR.mo (ev_irD (ev_sub (ev_ivar (lo := sumC rs) (hi := sumC rs) (by rfl) (Int.le_refl _) (Int.le_refl _)) (ev_int (i := 1)))) (eall_cons DR.mo (ev_irD (ev_ivar (lo := sumC rs) (hi := sumC rs) (by rfl) (Int.le_refl _) (Int.le_refl _)))
      (eall_cons DR.mo (ev_irD (ev_neg (ev_int (i := 1)))) (eall_cons DR.mo ev_blD (eall_cons DR.mo ev_nonD (eall_cons DR.mo (ev_irD (ev_draw (b := sumC rs + 1) (by rfl) (by omega) ((ev_add (ev_ivar (lo := sumC rs) (hi := sumC rs) (by rfl) (Int.le_refl _) (Int.le_refl _)) (ev_int (i := 1))).wide (by omega) (by omega))))
      (eall_cons DR.mo (ev_oddP (by rfl)) eall_nil))))))))).run P2 (b := 0) (by omega) fun v H3 P3 k3 r3 => ?_
    obtain ⟨L, xs, rfl, gL, _, _, hxs⟩ := r3
    have d3 := d2.mono k3
    refine ⟨L, rfl, ⟨_, .inl (.inl (hid_same _ _ gL))⟩, for_it (walk_list (K := K) (a := L) (xs := xs)) (fun m σ Hm => ∃ y2 y4 y5 y6 y7 y8 y9 y10 y11, σ = [some (.ref p), some (.ref a3), y2, some (.int (sumC rs)), y4, y5, y6, y7, y8, y9, y10, y11] ∧ Iv (pot p dl al) Z 0 Hm ∧ Kp (pot p dl al) Z H3 Hm) ⟨_, _, _, _, _, _, _, _, _, rfl, P3, Kp.refl⟩ (fun m σ Hm _ h => by
      obtain ⟨_, _, _, _, _, _, _, _, _, _, _, k⟩ := h
      exact .inl (.inl (hid_same _ _ (k _ _ gL)))) ?_ ?_⟩
    · rintro m x4 σ _ Hm hm ⟨y2, y4, y5, y6, y7, y8, y9, y10, y11, rfl, Pm, km⟩ ⟨rfl, hx4⟩
      obtain ⟨d, hd4, sd⟩ := DR.mo _ _ _ km (hxs x4 (List.mem_of_getElem? hx4))
      have dm := d3.mono km
      have sD : Sm 127 4 (told1 "index" d (motAtD rs d)) := told1_sm (sm_chk (by decide +kernel)) sd fun mm h => by
        cases d with
        | int i =>
          have h : (if 0 ≤ i then motAt rs i else none) = some mm := h
          by_cases i0 : 0 ≤ i
          · rw [if_pos i0] at h
            have := motAt_bd hok i0 h
            omega
          · rw [if_neg i0] at h
            cases h
        | _ => cases h
      have fineD := sD.fine (by decide) (by decide)
      have Om := Pm.occ
      have fin : ∀ (D : Ends) (v5 : V) (y6 y7 y8 y9 : Option V) (G : Hp), Same Hm G → Dq K (cut (NZ (pot p dl al) Z) G) v5 (told1 "index" d (motAtD rs d)) → D.nx = (fun σ Hm => ∃ y2 y4 y5 y6 y7 y8 y9 y10 y11, σ = [some (.ref p), some (.ref a3), y2, some (.int (sumC rs)), y4, y5, y6, y7, y8, y9, y10, y11] ∧ Iv (pot p dl al) Z 0 Hm ∧ Kp (pot p dl al) Z H3 Hm) →
          tIfS (tTest (tOp rNe (tCB (rRepr K) (tCons (tCall (sp_told6 K) [] E0 (tCons (tC (V.int 1)) (tCons (tVar 1) (tCons (tVar 4) tNil)))) tNil)) (tCB (rRepr K) (tCons (tVar 5) tNil)))) (tRet (tC (V.bl false))) tNext D [some (.ref p), some (.ref a3), y2, some (.int (sumC rs)), some x4, some v5, y6, y7, y8, y9, y10, y11] G := by
        intro D v5 y6 y7 y8 y9 G sG h5 hD
        refine ⟨.ref a3, rfl, x4, rfl, NZ (pot p dl al) Z, 1, .ref a3, x4, rfl, Om.keep sG, .inr (.inl ⟨rfl, rs, d, dm.mono (cut_mono sG), hd4.mono (cut_mono sG), Nat.le_trans hl (by decide), hok, fun r G2 s2 dr => ?_⟩)⟩
        have sG2 := sG.trans s2
        refine ⟨r, _, rfl, dr.mono cut_same, fineD, v5, rfl, v5, _, rfl, (h5.mono (cut_mono s2)).mono cut_same, fineD, rfl, false, ne_self, iteF ?_⟩
        show D.nx _ _
        rw [hD]
        exact ⟨_, _, _, _, _, _, _, _, _, rfl, Pm.keep sG2, km.trans (Kp.of sG2)⟩
      refine s_par ⟨x4, rfl, sz2, fun t nt => ⟨x4, rfl, _, _, rfl, ?_⟩⟩
      have st : Same Hm (upd Hm t (.lst [.str "index", x4])) := same_new nt
      have dt : Dq K (cut (NZ (pot p dl al) Z) (upd Hm t (.lst [.str "index", x4]))) (.ref t) (.list [.str "index", d]) := .lst (.inl (.inl (cut_new Om nt))) (.cons (.str _) (.cons (hd4.mono (cut_mono st)) .nil))
      generalize upd Hm t (.lst [.str "index", x4]) = G0 at st dt ⊢
      refine ⟨x4, rfl, .int (sumC rs), rfl, sumC rs, 1, rfl, rfl, x4, d, 0, sumC rs - 1, rfl, (hd4.mono (cut_mono st)).mono cut_same, inW 0 (sumC rs - 1) d, rfl, ?_⟩
      cases hw : inW 0 (sumC rs - 1) d with
      | true =>
        obtain ⟨i, rfl, i0, i1⟩ : ∃ i, d = .int i ∧ 0 ≤ i ∧ i ≤ sumC rs - 1 := by
          cases d with
          | int i =>
            have hw : (decide (0 ≤ i) && decide (i ≤ sumC rs - 1)) = true := hw
            obtain ⟨h1, h2⟩ := (Bool.and_eq_true _ _).mp hw
            exact ⟨i, rfl, of_decide_eq_true h1, of_decide_eq_true h2⟩
          | _ => cases hw
        obtain rfl := dq_int hd4
        have eD : motAtD rs (.int i) = motAt rs i := if_pos i0
        have hg : SqT K G0 a3 ys := Same.seqT (Same.trans (((k2.trans k3).trans km).trans (Kp.of st)) hid_same) g
        have hyG : Dqs K (hid (pot p dl al) Z G0) ys (rs.map runD) := hy.mono (((k2.trans k3).trans km).trans (Kp.of st))
        refine iteT ⟨.ref a3, rfl, a3, rfl, ⟨_, hg⟩, ?_⟩
        refine for_it (walk_tup (K := K) (a := a3) (xs := ys)) (fun k σ Hk => ∃ v5 left y7 y8 y9, σ = [some (.ref p), some (.ref a3), y2, some (.int (sumC rs)), some (.int i), some v5, some (.int left), y7, y8, y9, y10, y11] ∧ Hk = G0 ∧ ((v5 = .ref t ∧ 0 ≤ left ∧ motAt rs i = motAt (rs.drop k) left) ∨ (∃ mm, v5 = .int mm ∧ motAt rs i = some mm))) ⟨.ref t, i, _, _, _, rfl, rfl, .inl ⟨rfl, i0, rfl⟩⟩ (fun k σ Hk _ h => by
          obtain ⟨_, _, _, _, _, _, rfl, _⟩ := h
          exact hg) ?_ ?_
        · rintro k x σ Hk Hk' hk ⟨v5, left, y7, y8, y9, rfl, eH, inv⟩ ⟨eH2, hxi⟩
          obtain ⟨rn, hq, dq⟩ := dqs_get hyG hxi
          have ro := hok rn (List.mem_of_getElem? hq)
          have bs := ro.s
          obtain ⟨ra, rfl, gr⟩ := dq_run dq
          subst eH
          subst eH2
          refine ⟨ra, _, rfl, Same.seqT hid_same gr, rfl, _, _, rfl, _, _, rfl, _, _, rfl, rfl, ?_⟩
          dsimp only
          rcases inv with ⟨rfl, l0, em⟩ | ⟨mm, rfl, em⟩
          · rw [drop_get hq] at em
            simp only [motAt] at em
            refine ⟨.ref t, rfl, .ref t, .ty "list", _, _, _, rfl, .ty "list", (dt.mono cut_same).ty, kit_ty (kit_ls _), _, rfl, iteT ?_⟩
            refine ⟨.int left, rfl, .int rn.2.2, rfl, left, rn.2.2, rfl, rfl, _, rfl, ite2 (fun g2 => ?_) (fun g2 => ?_)⟩
            · have g2' : left < rn.2.2 := of_decide_eq_true g2
              rw [if_pos g2'] at em
              refine ⟨.int rn.1, rfl, .int rn.2.1, rfl, .int left, rfl, rn.2.1, left, rfl, rfl, .inl ⟨by omega, by omega⟩, rn.1, _, rfl, rfl, ?_⟩
              refine ⟨.int left, rfl, .int rn.2.2, rfl, left, rn.2.2, rfl, rfl, ?_⟩
              exact ⟨_, _, _, _, _, rfl, rfl, .inr ⟨_, rfl, em⟩⟩
            · have g2' : ¬ left < rn.2.2 := fun z => g2 (decide_eq_true z)
              rw [if_neg g2'] at em
              refine ⟨.int left, rfl, .int rn.2.2, rfl, left, rn.2.2, rfl, rfl, ?_⟩
              exact ⟨_, _, _, _, _, rfl, rfl, .inl ⟨rfl, by omega, em⟩⟩
          · refine ⟨.int mm, rfl, .int mm, .ty "list", _, _, _, rfl, .ty "list", (Dq.int (K := K) (H := Hk') mm).ty, kit_ty (kit_ls _), _, rfl, iteF ?_⟩
            refine ⟨.int left, rfl, .int rn.2.2, rfl, left, rn.2.2, rfl, rfl, ?_⟩
            exact ⟨_, _, _, _, _, rfl, rfl, .inr ⟨mm, rfl, em⟩⟩
        · rintro σ Hk ⟨v5, left, y7, y8, y9, rfl, rfl, inv⟩
          have ed : Dq K (cut (NZ (pot p dl al) Z) Hk) v5 (told1 "index" (.int i) (motAtD rs (.int i))) := by
            rw [eD]
            rcases inv with ⟨rfl, l0, em⟩ | ⟨mm, rfl, em⟩
            · rw [lys, List.drop_length] at em
              rw [em]
              exact dt
            · rw [em]
              exact .int _
          exact fin _ _ _ _ _ _ _ st ed rfl
      | false =>
        have eN : motAtD rs d = none := by
          cases d with
          | int i =>
            have hw : (decide (0 ≤ i) && decide (i ≤ sumC rs - 1)) = false := hw
            show (if 0 ≤ i then motAt rs i else none) = none
            by_cases i0 : 0 ≤ i
            · rw [if_pos i0]
              rw [decide_eq_true i0, Bool.true_and] at hw
              have := of_decide_eq_false hw
              exact motAt_none hok (by omega)
            · exact if_neg i0
          | _ => rfl
        refine iteF ⟨Nat.zero_le _, fun u nu => ⟨u, rfl, ⟨[], .inl (.inl upd_same)⟩, ?_⟩⟩
        have su : Same G0 (upd G0 u (.tup [])) := same_new nu
        refine for_it (walk_tup (K := K) (a := u) (xs := [])) (fun k σ Hk => σ = [some (.ref p), some (.ref a3), y2, some (.int (sumC rs)), some x4, some (.ref t), some x4, y7, y8, y9, y10, y11] ∧ Hk = upd G0 u (.tup [])) ⟨rfl, rfl⟩ (fun k σ Hk _ h => by rw [h.2]; exact .inl (.inl upd_same)) ?_ ?_
        · rintro k x σ Hk Hk' hk _ _
          exact absurd hk (Nat.not_lt_zero k)
        · rintro σ Hk ⟨rfl, rfl⟩
          refine fin _ _ _ _ _ _ _ (st.trans su) ?_ rfl
          rw [eN]
          exact dt.mono (cut_mono su)
    · rintro σ Hm ⟨y2, y4, y5, y6, y7, y8, y9, y10, y11, rfl, Pm, km⟩
      dsimp only
      have dm := d3.mono km
      have kH : Kp (pot p dl al) Z H Hm := (k2.trans k3).trans km
      -- near
      have hgm : SqT K (hid (pot p dl al) Z Hm) a3 ys := Same.seqT kH g
      have hym : Dqs K (hid (pot p dl al) Z Hm) ys (rs.map runD) := hy.mono kH
      refine s_set ⟨.ref a3, rfl, a3, rfl, ⟨_, Same.seqT hid_same hgm⟩, fun D nD => ?_⟩
      have oD := Pm.free nD
      refine lc_tup (K := K) (a := a3) (xs := ys) (fun k Hk => ∃ ns : List Int, Iv (pot p dl al) Z 0 Hk ∧ Kp (pot p dl al) Z Hm Hk ∧ Hk D = some (.lst (ns.map V.int)) ∧ ns.length = k ∧ ∀ z ∈ ns, -1 ≤ z ∧ z ≤ 1000000001) ⟨[], Pm.new nD, Kp.new nD, upd_same, rfl, fun z hz => nomatch hz⟩ (fun k Hk _ h => by
        obtain ⟨_, _, kk, _⟩ := h
        exact Same.seqT (Same.trans kk hid_same) hgm) ?_ ?_
      · rintro k x Hk hxi ⟨ns, Pk, kk, ek, lk, bk⟩
        have hk' : k < ys.length := (List.getElem?_eq_some_iff.mp hxi).1
        obtain ⟨rn, hq, dq⟩ := dqs_get hym hxi
        have ro := hok rn (List.mem_of_getElem? hq)
        have bs := ro.s
        have bc := ro.c
        have bf := ro.f
        have bl := ro.l
        obtain ⟨ra, rfl, gr⟩ := dq_run dq
        have gk := Same.seqT kk gr
        refine ⟨by first | rfl | simp only [wipe, List.set_set], yes_if ?_⟩
        have gk0 := Same.seqT hid_same gk
        refine ⟨.ref ra, rfl, ra, _, 0, .int rn.1, rfl, rfl, gk0, atI_nat (j := 0) rfl, .ref ra, rfl, ra, _, 1, .int rn.2.1, rfl, rfl, gk0, atI_nat (j := 1) rfl, .ref p, rfl, .ref ra, rfl, ra, _, 2, .int rn.2.2, rfl, rfl, gk0, atI_nat (j := 2) rfl, Z, p, dl, al, rn.2.2, rfl, Pk, by omega, by omega, fun rr H4 P4 k4 r0 r1 => ⟨rn.2.1, rr, rfl, rfl, .inl ⟨by omega, by omega⟩, rn.1, _, rfl, rfl, ?_⟩⟩
        refine (ev_one (m0 := 2) (m := 3) (R := IR (-1) 1) (by rfl) (by decide) IR.mo (ev_lst (by decide) IR.mo (eall_cons IR.mo ((ev_neg (ev_int (i := 1))).wide (by decide) (by decide)) (eall_cons IR.mo (ev_int.wide (by decide) (by decide)) (eall_cons IR.mo (ev_int.wide (by decide) (by decide)) eall_nil))))).run P4 (b := 0) (by omega) fun v H5 P5 k5 r5 => ?_
        obtain ⟨z, rfl, z0, z1⟩ := r5
        have k45 : Kp (pot p dl al) Z Hk H5 := Kp.trans k4 k5
        have e5 := k45.at_ oD ek
        refine ⟨_, _, rfl, rfl, _, e5, small1000 (by rw [List.length_map]; omega), ns ++ [rn.1 + rn.2.1 * rr + z], ?_⟩
        obtain ⟨P6, k6⟩ := set_iv (o := .lst (ns.map V.int ++ [.int (rn.1 + rn.2.1 * rr + z)])) Pm nD P5 (kk.trans k45)
        refine ⟨P6, k6, by rw [upd_same, List.map_append]; rfl, by rw [List.length_append, lk]; rfl, fun y hy' => ?_⟩
        rcases List.mem_append.mp hy' with e | e
        · exact bk y e
        · rw [List.mem_singleton.mp e]
          have h1 : 0 ≤ rn.2.1 * rr := Int.mul_nonneg (by omega) r0
          have h2 : rn.2.1 * rr ≤ rn.2.1 * (rn.2.2 - 1) := Int.mul_le_mul_of_nonneg_left (by omega) (by omega)
          unfold lastM at bl
          omega
      rintro Hn ⟨ns, Pn, kn, en, ln, bn⟩
      have dn := dm.mono kn
      -- minutes
      refine s_lst ?_
      have hLs : LsR 0 60 (DR K (Sm 60 3)) (.ref D) (hid (pot p dl al) Z Hn) := ⟨D, _, rfl, hid_get oD en, Nat.zero_le _, by rw [List.length_map]; omega, fun x hx => by
        obtain ⟨z, hz, rfl⟩ := List.mem_map.mp hx
        have := bn z hz
        exact ⟨.int z, .int z, (Sm.int (by omega)).wide (by decide) (by decide)⟩⟩
      refine (ev_cat (a := 0) (b := 60) (c := 7) (d := 7) (R := DR K (Sm 60 3)) (by decide) DR.mo (ev_var (v := .ref D) (by rfl) (LsR.mo DR.mo) hLs) (ev_lst (m := 7) (n' := 7) (by decide) DR.mo (eall_cons DR.mo (ev_irD (ev_int)) (eall_cons DR.mo (ev_irD (Ev.wide (c := 1000000000) (d := 1000000000) (ev_pow (i := 10) (j := 9) (by decide)) (by decide) (by decide)))
        (eall_cons DR.mo (ev_irD (ev_add (Ev.wide (c := 1000000000) (d := 1000000000) (ev_pow (i := 10) (j := 9) (by decide)) (by decide) (by decide)) (ev_int (i := 1)))) (eall_cons DR.mo (ev_irD (ev_neg (ev_int (i := 1)))) (eall_cons DR.mo ev_blD
        (eall_cons DR.mo (ev_irD (ev_draw (b := 1000000000) (by rfl) (by decide) ((ev_pow (by decide)).wide (by decide) (by decide)))) (eall_cons DR.mo (ev_oddP (by rfl)) eall_nil))))))))).run Pn (b := 0) (by omega) fun v H6 P6 k6 r6 => ?_
      obtain ⟨B, zs, rfl, gB, _, _, hzs⟩ := r6
      have d6 := dn.mono k6
      have k06' : Kp (pot p dl al) Z Hm H6 := kn.trans k6
      have pw : (10 : Int) ^ (9 : Int).toNat = 1000000000 := by decide
      refine ⟨B, rfl, ⟨_, .inl (.inl (hid_same _ _ gB))⟩, for_it (walk_list (K := K) (a := B) (xs := zs)) (fun m σ Hk => ∃ y2 y4 y5 y6 y7 y8 y9 y10 y11, σ = [some (.ref p), some (.ref a3), y2, some (.int (sumC rs)), y4, y5, y6, y7, y8, y9, y10, y11] ∧ Iv (pot p dl al) Z 0 Hk ∧ Kp (pot p dl al) Z H6 Hk) ⟨_, _, _, _, _, _, _, _, _, rfl, P6, Kp.refl⟩ (fun m σ Hk _ h => by
        obtain ⟨_, _, _, _, _, _, _, _, _, _, _, k⟩ := h
        exact .inl (.inl (hid_same _ _ (k _ _ gB)))) ?_ ?_⟩
      · rintro j x σ _ Hk hk ⟨y2, y4, y5, y6, y7, y8, y9, y10, y11, rfl, Pk, kk⟩ ⟨rfl, hx⟩
        obtain ⟨d, hdx, sd⟩ := DR.mo _ _ _ kk (hzs x (List.mem_of_getElem? hx))
        have dk := d6.mono kk
        have Ok := Pk.occ
        have sD : Sm 127 4 (told1 "minute" d (befD rs d)) := told1_sm (sm_chk (by decide +kernel)) sd fun mm h => by
          cases d with
          | int m =>
            have h : (if 0 ≤ m ∧ m ≤ 1000000000 then some (befs rs m).sum else none) = some mm := h
            by_cases i0 : 0 ≤ m ∧ m ≤ 1000000000
            · rw [if_pos i0] at h
              have e := Option.some.inj h
              have b := befs_bd (m := m) hok
              rw [befs_sum hok] at b
              omega
            · rw [if_neg i0] at h
              cases h
          | _ => cases h
        have fineD := sD.fine (by decide) (by decide)
        refine s_set ⟨x, rfl, sz2, fun t nt => ?_⟩
        have st : Same Hk (upd Hk t (.lst [.str "minute", x])) := same_new nt
        have dt : Dq K (cut (NZ (pot p dl al) Z) (upd Hk t (.lst [.str "minute", x]))) (.ref t) (.list [.str "minute", d]) := .lst (.inl (.inl (cut_new Ok nt))) (.cons (.str _) (.cons (hdx.mono (cut_mono st)) .nil))
        generalize upd Hk t (.lst [.str "minute", x]) = G0 at st dt ⊢
        refine s_ifn' (fun σ' G => ∃ v5, σ' = [some (.ref p), some (.ref a3), y2, some (.int (sumC rs)), y4, some v5, y6, y7, y8, y9, y10, some x] ∧ Same Hk G ∧ Dq K (cut (NZ (pot p dl al) Z) G) v5 (told1 "minute" d (befD rs d))) ?rest ?two
        case two =>
          intro X hX
          refine ⟨x, rfl, 10, 9, rfl, rfl, ⟨by decide, by decide, by decide⟩, x, d, 0, _, rfl, (hdx.mono (cut_mono st)).mono cut_same, inW 0 1000000000 d, by rw [pw], ?_⟩
          cases hw : inW 0 1000000000 d with
          | true =>
            obtain ⟨m, rfl, m0, m1⟩ : ∃ m, d = .int m ∧ 0 ≤ m ∧ m ≤ 1000000000 := by
              cases d with
              | int m =>
                have hw : (decide (0 ≤ m) && decide (m ≤ 1000000000)) = true := hw
                obtain ⟨h1, h2⟩ := (Bool.and_eq_true _ _).mp hw
                exact ⟨m, rfl, of_decide_eq_true h1, of_decide_eq_true h2⟩
              | _ => cases hw
            obtain rfl := dq_int hdx
            have eB : befD rs (.int m) = some (befs rs m).sum := if_pos ⟨m0, m1⟩
            have kG : Kp (pot p dl al) Z H G0 := ((kH.trans k06').trans kk).trans (Kp.of st)
            have hgG : SqT K (hid (pot p dl al) Z G0) a3 ys := Same.seqT kG g
            have hyG : Dqs K (hid (pot p dl al) Z G0) ys (rs.map runD) := hy.mono kG
            refine iteT ?_
            refine ⟨.ref a3, rfl, a3, rfl, ⟨_, Same.seqT hid_same hgG⟩, fun D2 nD2 => ?_⟩
            refine lc_map (K := K) (D := runD) (F := fun r => .int (befG m r)) (as := rs) (N := NZ (pot p dl al) Z) (walk_tup (K := K) (a := a3) (xs := ys)) (fun H' s => Same.seqT (hid_same.trans s) hgG) nD2 (Ok.keep st) hyG (Nat.le_trans hl (by decide)) ?_ ?_
            · intro G xx y Q' hyy OG sG sH hx q'
              have bs := (hok y hyy).s
              obtain ⟨ra, rfl, gr⟩ := dq_run hx
              have gr0 := Same.seqT cut_same gr
              exact ⟨.ref ra, rfl, ra, _, 2, .int y.2.2, rfl, rfl, gr0, atI_nat (j := 2) rfl, .ref ra, rfl, ra, _, 0, .int y.1, rfl, rfl, gr0, atI_nat (j := 0) rfl, .int m, rfl, y.1, m, rfl, rfl, .ref ra, rfl, ra, _, 1, .int y.2.1, rfl, rfl, gr0, atI_nat (j := 1) rfl, _, _, rfl, rfl, ⟨by omega, by omega⟩, _, rfl, _, _, rfl, _, _, rfl, q' _ _ (Same.refl _) (.int _)⟩
            · intro H8 acc s8 e8 O8 dacc
              have dacc' : Dqs K (cut (NP (NZ (pot p dl al) Z) D2) H8) acc ((rs.map (befG m)).map .int) := by rw [List.map_map]; exact dacc
              obtain rfl := dqs_ints dacc'
              refine ⟨D2, _, rfl, .inl (.inl e8), ?_⟩
              refine hX _ _ ⟨.int (rs.map (befG m)).sum, rfl, st.trans s8, ?_⟩
              rw [eB, befs_sum hok]
              exact .int _
          | false =>
            have eN : befD rs d = none := by
              cases d with
              | int m =>
                have hw : (decide (0 ≤ m) && decide (m ≤ 1000000000)) = false := hw
                refine if_neg fun z => ?_
                rw [decide_eq_true z.1, decide_eq_true z.2] at hw
                cases hw
              | _ => rfl
            refine iteF (hX _ _ ⟨.ref t, rfl, st, ?_⟩)
            rw [eN]
            exact dt
        rintro _ G ⟨v5, rfl, sG, h5⟩
        refine s_if1 ⟨.ref a3, rfl, x, rfl, NZ (pot p dl al) Z, 2, .ref a3, x, rfl, Ok.keep sG, .inr (.inr ⟨rfl, rs, d, dk.mono (cut_mono sG), hdx.mono (cut_mono sG), Nat.le_trans hl (by decide), hok, fun r G2 s2 dr => ?_⟩)⟩
        have sG2 := sG.trans s2
        refine ⟨r, _, rfl, dr.mono cut_same, fineD, v5, rfl, v5, _, rfl, (h5.mono (cut_mono s2)).mono cut_same, fineD, rfl, false, ne_self, iteF ?_⟩
        exact ⟨_, _, _, _, _, _, _, _, _, rfl, Pk.keep sG2, kk.trans (Kp.of sG2)⟩
      · rintro σ Hk ⟨y2, y4, y5, y6, y7, y8, y9, y10, y11, rfl, Pk, kk⟩
        exact q _ Pk ((kH.trans k06').trans kk)
theorem ok_law (T : All K mg) : FnG P w K mg base CX0 8 T.f_law T.fd_law ["script"] (sp_law K) := by
  have nd := sc_law.nd
  refine Lm.Fun.okG T.D_law.F sc_law (fun vs H Q E h => ?_) (fun cdv A outer s H vs Q E hgd hr h => ?_)
  · obtain ⟨a, ns, rfl, _⟩ := h
    rfl
  · obtain ⟨a, ns, rfl, hS, hl, q⟩ := h
    refine ⟨_, (pss_cons (ps_set (i := 1) nd rfl (by first | exact Or.inl rfl | exact Or.inr rfl) (pe_call (ok_l_opened T) (hr.mono (by decide)) (by rfl) T.D_l_opened.g T.D_l_opened.F.kp T.D_l_opened.b .nil pass0 (pa_cons (pv 0) pa_nil)))
  (pss_cons (ps_for PassesOwn.never rfl (pi_range1 (by rfl) T.z_range (pa_cons pe_int pa_nil)) (pg_name (i := 2) nd rfl (by first | exact Or.inl rfl | exact Or.inr rfl))
    (pss_cons (ps_set (i := 3) nd rfl (by first | exact Or.inl rfl | exact Or.inr rfl) (pe_call (ok_l_minutes T) (hr.mono (by decide)) (by rfl) T.D_l_minutes.g T.D_l_minutes.F.kp T.D_l_minutes.b .nil pass0 (pa_cons (pv 1) (pa_cons pe_int pa_nil))))
  (pss_cons (ps_par (i := 4) (j := 5) (by rfl) nd rfl rfl (by decide) rfl rfl (pa_cons (pe_call (ok_l_draw T) (hr.mono (by decide)) (by rfl) T.D_l_draw.g T.D_l_draw.F.kp T.D_l_draw.b .nil pass0 (pa_cons (pv 1) (pa_cons (pe_op op_add (pe_callB call_len_seq (by rfl) T.z_len (by decide +kernel) (pa_cons (pv 3) pa_nil)) pe_int) pa_nil))) (pa_cons (pe_call (ok_l_one T) (hr.mono (by decide)) (by rfl) T.D_l_one.g T.D_l_one.F.kp T.D_l_one.b .nil pass0 (pa_cons (pv 1) (pa_cons (pe_lst (pa_cons (pe_un un_neg pe_int) (pa_cons pe_bl (pa_cons pe_non (pa_cons pe_str (pa_cons (pe_op op_add (pe_op op_pow pe_int pe_int) pe_int) (pa_cons pe_int (pa_cons (pe_call (ok_l_odd T) (hr.mono (by decide)) (by rfl) T.D_l_odd.g T.D_l_odd.F.kp T.D_l_odd.b .nil pass0 (pa_cons (pv 1) pa_nil)) pa_nil)))))))) pa_nil))) pa_nil)) (by rfl))
  (pss_cons (ps_set (i := 6) nd rfl (by first | exact Or.inl rfl | exact Or.inr rfl) (pe_lst (pa_cons (pv 3) (pa_cons (pe_op op_catA (pe_op op_catA (pe_slice sl_tupA (pv 3) po_none (po_some (pv 4))) (pe_tup (pa_cons (pv 5) pa_nil))) (pe_slice sl_tupA (pv 3) (po_some (pv 4)) po_none)) (pa_cons (pe_op op_catA (pe_slice sl_tupA (pv 3) po_none (po_some (pv 4))) (pe_slice sl_tupA (pv 3) (po_some (pe_op op_sub (pv 4) pe_int)) po_none)) (pa_cons (pe_callTy call_list_of (by rfl) T.z_list (by decide +kernel) (pa_cons (pv 3) pa_nil)) (pa_cons (pe_tup pa_nil) pa_nil)))))))
  (pss_cons (ps_for PassesOwn.never rfl (pi_list (pe_op op_cat (pv 6) (pe_lst (pa_cons (pe_call (ok_l_odd T) (hr.mono (by decide)) (by rfl) T.D_l_odd.g T.D_l_odd.F.kp T.D_l_odd.b .nil pass0 (pa_cons (pv 1) pa_nil)) (pa_cons (pe_revT (pv 3)) (pa_cons (pe_op op_catA (pv 3) (pe_tup (pa_cons (pe_op op_pow pe_int pe_int) pa_nil))) (pa_cons (pe_tup (pa_cons (pe_op op_pow pe_int pe_int) pa_nil)) pa_nil))))))) (pg_name (i := 7) nd rfl (by first | exact Or.inl rfl | exact Or.inr rfl))
    (pss_cons (ps_set (i := 8) nd rfl (by first | exact Or.inl rfl | exact Or.inr rfl) (pe_callB (call_reprD hgd hr) (by rfl) T.z_repr (by decide +kernel) (pa_cons (pv 7) pa_nil)))
  (pss_one (ps_if (PW.pt (pw_or (pt_cmpR op_ne (pe_callB (call_reprD hgd hr) (by rfl) T.z_repr (by decide +kernel) (pa_cons (pe_call (ok_l_told T) (hr.mono (by decide)) (by rfl) T.D_l_told.g T.D_l_told.F.kp T.D_l_told.b .nil pass0 (pa_cons pe_int (pa_cons (pv 7) (pa_cons pe_non pa_nil)))) pa_nil)) (pe_callB (call_reprD hgd hr) (by rfl) T.z_repr (by decide +kernel) (pa_cons (pe_call (ok_l_due T) (hr.mono (by decide)) (by rfl) T.D_l_due.g T.D_l_due.F.kp T.D_l_due.b .nil pass0 (pa_cons (pv 7) pa_nil)) pa_nil)) (nomark _)) (pw_or1 (pt_cmpR op_ne (pe_callB (call_reprD hgd hr) (by rfl) T.z_repr (by decide +kernel) (pa_cons (pv 7) pa_nil)) (pv 8) (nomark _)))))
    (pss_one (ps_ret pe_bl))
    pss_nil))))
  (pss_one (ps_if (pt_not (pt_val (pe_callG (E := E0) (ok_l_numbers_right T) hgd (hr.mono (by decide)) (by rfl) T.D_l_numbers_right.g T.D_l_numbers_right.F.kp T.D_l_numbers_right.b (pa_cons (pv 1) (pa_cons (pe_call (ok_l_far_runs T) (hr.mono (by decide)) (by rfl) T.D_l_far_runs.g T.D_l_far_runs.F.kp T.D_l_far_runs.b .nil pass0 (pa_cons (pv 1) (pa_cons pe_int pa_nil))) pa_nil)))))
    (pss_one (ps_ret pe_bl))
    pss_nil)))))))
  (pss_cons (ps_set (i := 9) nd rfl (by first | exact Or.inl rfl | exact Or.inr rfl) (pe_op op_catA (pe_call (ok_l_spread_out T) (hr.mono (by decide)) (by rfl) T.D_l_spread_out.g T.D_l_spread_out.F.kp T.D_l_spread_out.b .nil pass0 (pa_cons pe_int (pa_cons pe_int pa_nil))) (pe_tup (pa_cons pe_int pa_nil))))
  (pss_cons (ps_for PassesOwn.never rfl (pi_list (pe_lst (pa_cons (pe_call (ok_l_spread_out T) (hr.mono (by decide)) (by rfl) T.D_l_spread_out.g T.D_l_spread_out.F.kp T.D_l_spread_out.b .nil pass0 (pa_cons pe_int (pa_cons pe_int pa_nil))) (pa_cons (pe_call (ok_l_spread_out T) (hr.mono (by decide)) (by rfl) T.D_l_spread_out.g T.D_l_spread_out.F.kp T.D_l_spread_out.b .nil pass0 (pa_cons pe_int (pa_cons pe_int pa_nil))) (pa_cons (pe_call (ok_l_spread_out T) (hr.mono (by decide)) (by rfl) T.D_l_spread_out.g T.D_l_spread_out.F.kp T.D_l_spread_out.b .nil pass0 (pa_cons pe_int (pa_cons pe_int pa_nil))) (pa_cons (pe_op op_repT (pe_tup (pa_cons pe_int pa_nil)) pe_int) (pa_cons (pv 9) pa_nil))))))) (pg_name (i := 7) nd rfl (by first | exact Or.inl rfl | exact Or.inr rfl))
    (pss_one (ps_if (pt_cmpR op_ne (pe_callB (call_reprD hgd hr) (by rfl) T.z_repr (by decide +kernel) (pa_cons (pe_call (ok_l_told T) (hr.mono (by decide)) (by rfl) T.D_l_told.g T.D_l_told.F.kp T.D_l_told.b .nil pass0 (pa_cons pe_int (pa_cons (pv 7) (pa_cons pe_non pa_nil)))) pa_nil)) (pe_callB (call_reprD hgd hr) (by rfl) T.z_repr (by decide +kernel) (pa_cons (pe_call (ok_l_due T) (hr.mono (by decide)) (by rfl) T.D_l_due.g T.D_l_due.F.kp T.D_l_due.b .nil pass0 (pa_cons (pv 7) pa_nil)) pa_nil)) (nomark _))
    (pss_one (ps_ret pe_bl))
    pss_nil)))
  (pss_one (ps_ret pe_bl)))))), ?_⟩
    refine s_set ⟨.ref a, rfl, a, ns, rfl, hS, hl, fun p dl al H1 P1 s1 => ?_⟩
    generalize hZ : (fun _ => none : Hp) = Z at P1
    have MD : Mo (DR K (Sm 60 3)) := DR.mo
    have MV : Mo (DR K Val) := DR.mo
    refine s_rng ⟨8, rfl, by omega, by omega, for_it walk_range (fun i σ Hi => ∃ y2 y3 y4 y5 y6 y7 y8 y9, σ = [some (.ref a), some (.ref p), y2, y3, y4, y5, y6, y7, y8, y9] ∧ Iv (pot p dl al) Z 0 Hi) ⟨_, _, _, _, _, _, _, _, rfl, P1⟩ (fun _ _ _ _ _ => trivial) ?_ ?_⟩
    · rintro i _ σ _ Hi hi ⟨y2, y3, y4, y5, y6, y7, y8, y9, rfl, Pi⟩ ⟨rfl, rfl⟩
      refine s_set ⟨.ref p, rfl, Z, p, dl, al, 60, rfl, Pi, by decide, by decide, fun x3 H3 ms P3 k3 d3 hms => ?_⟩
      have t3 : TpR K 0 60 (DR K (Sm 60 3)) x3 (hid (pot p dl al) Z H3) := mins_tp d3 hms
      refine s_par ?_
      refine (eva_cons IR.mo (ev_draw (b := 61) (by rfl) (by decide) ((ev_add (ev_len (ev_var (v := x3) (by rfl) (TpR.mo MD) t3)) (ev_int (i := 1))).wide (by decide) (by decide))) (eva_cons MD (ev_one (m0 := 6) (m := 7) (R := DR K (Sm 60 3)) (by rfl) (by decide) MD (ev_lst (by decide) MD
        (eall_cons MD (ev_irD (ev_neg (ev_int (i := 1)))) (eall_cons MD ev_blD (eall_cons MD ev_nonD (eall_cons MD (ev_strD (sm_chk (by decide +kernel))) (eall_cons MD (ev_irD (ev_add (Ev.wide (c := 1000000000) (d := 1000000000) (ev_pow (i := 10) (j := 9) (by decide)) (by decide) (by decide)) (ev_int (i := 1))))
        (eall_cons MD (ev_irD ev_int) (eall_cons MD (ev_oddP (by rfl)) eall_nil))))))))) eva_nil)).run P3 (b := 0) (by omega) fun vs H4 P4 k4 r4 => ?_
      obtain ⟨_, _, rfl, ⟨at_, rfl, a0, a1⟩, xn, _, rfl, hn, rfl⟩ := r4
      refine ⟨_, _, rfl, ?_⟩
      have t4 := TpR.mo MD _ _ _ k4 t3
      -- values
      refine s_set ?_
      refine (ev_lst (m := 5) (n' := 5) (R := DR K Val) (by decide) MV (eall_cons MV (ev_val (by decide) (ev_var (v := x3) (by rfl) (TpR.mo MD) t4))
        (eall_cons MV (ev_val (by decide) (ev_catA (by decide) MD (ev_catA (by decide) MD (ev_slA MD (ev_var (v := x3) (by rfl) (TpR.mo MD) t4) any_none (any_some (ev_ivar (lo := at_) (hi := at_) (by rfl) (Int.le_refl _) (Int.le_refl _)).isInt)) (ev_tupR (m := 1) (n' := 1) (by decide) MD (eall_cons MD (ev_var (v := xn) (by rfl) MD hn) eall_nil))) (ev_slA MD (ev_var (v := x3) (by rfl) (TpR.mo MD) t4) (any_some (ev_ivar (lo := at_) (hi := at_) (by rfl) (Int.le_refl _) (Int.le_refl _)).isInt) any_none)))
        (eall_cons MV (ev_val (by decide) (ev_catA (by decide) MD (ev_slA MD (ev_var (v := x3) (by rfl) (TpR.mo MD) t4) any_none (any_some (ev_ivar (lo := at_) (hi := at_) (by rfl) (Int.le_refl _) (Int.le_refl _)).isInt)) (ev_slA MD (ev_var (v := x3) (by rfl) (TpR.mo MD) t4) (any_some (ev_sub (ev_ivar (lo := at_) (hi := at_) (by rfl) (Int.le_refl _) (Int.le_refl _)) (ev_int (i := 1))).isInt) any_none)))
        (eall_cons MV ((ev_listOf MD (ev_var (v := x3) (by rfl) (TpR.mo MD) t4)).imp fun v G r => ls_val (by decide) r)
        (eall_cons MV (ev_val (a := 0) (c := 0) (by decide) (ev_tupR (by decide) MD eall_nil)) eall_nil)))))).run P4 (b := 0) (by omega) fun x6 H5 P5 k5 r5 => ?_
      have t5 := TpR.mo MD _ _ _ k5 t4
      -- for value in
      refine s_lst ?_
      refine (ev_cat (a := 5) (b := 5) (c := 4) (d := 4) (R := DR K Val) (by decide) MV (ev_var (v := x6) (by rfl) (LsR.mo MV) r5) (ev_lst (m := 4) (n' := 4) (by decide) MV (eall_cons MV ((ev_oddP (by rfl)).imp fun v G r => odd_val r)
        (eall_cons MV (ev_val (by decide) (ev_revT MD (ev_var (v := x3) (by rfl) (TpR.mo MD) t5)))
        (eall_cons MV (ev_val (by decide) (ev_catA (by decide) MD (ev_var (v := x3) (by rfl) (TpR.mo MD) t5) (ev_tupR (m := 1) (n' := 1) (by decide) MD (eall_cons MD (ev_irD (Ev.wide (c := 1000000000) (d := 1000000000) (ev_pow (i := 10) (j := 9) (by decide)) (by decide) (by decide))) eall_nil))))
        (eall_cons MV (ev_val (by decide) (ev_tupR (m := 1) (n' := 1) (by decide) MD (eall_cons MD (ev_irD (Ev.wide (c := 1000000000) (d := 1000000000) (ev_pow (i := 10) (j := 9) (by decide)) (by decide) (by decide))) eall_nil))) eall_nil)))))).run P5 (b := 0) (by omega) fun v H6 P6 k6 r6 => ?_
      obtain ⟨B, zs, rfl, gB, _, _, hzs⟩ := r6
      refine ⟨B, rfl, ⟨_, .inl (.inl (hid_same _ _ gB))⟩, for_it (walk_list (K := K) (a := B) (xs := zs)) (fun m σ Hk => ∃ y7 y8, σ = [some (.ref a), some (.ref p), some (.int (0 + (i : Int))), some x3, some (.int at_), some xn, some x6, y7, y8, y9] ∧ Iv (pot p dl al) Z 0 Hk ∧ Kp (pot p dl al) Z H6 Hk) ⟨_, _, rfl, P6, Kp.refl⟩ (fun m σ Hk _ h => by
        obtain ⟨_, _, _, _, k⟩ := h
        exact .inl (.inl (hid_same _ _ (k _ _ gB)))) ?_ ?_⟩
      · rintro j x7 σ _ Hk hk ⟨y7, y8, rfl, Pk, kk⟩ ⟨rfl, hx⟩
        obtain ⟨d, hd, sd, ld⟩ := DR.mo _ _ _ kk (hzs x7 (List.mem_of_getElem? hx))
        have Ok := Pk.occ
        have fineV : Fine d := sd.fine (by decide) (by decide)
        have fineD : Fine (dueOf d) := due_fine sd (by decide) (by decide) ld
        refine s_set ⟨x7, rfl, x7, d, rfl, hd.mono hid_same, fineV, ?_⟩
        refine s_if1 ⟨x7, rfl, NZ (pot p dl al) Z, 0, x7, .non, rfl, Ok, .inl ⟨rfl, d, hd, ld, fun r G1 q1 dr => ⟨r, _, rfl, dr.mono cut_same, fineD, x7, rfl, NZ (pot p dl al) Z, d, Ok.keep q1, .cons (hd.mono (cut_mono q1)) .nil, ld, fun r2 G2 q2 dr2 => ⟨r2, _, rfl, dr2.mono cut_same, fineD, rfl, false, ne_self, iteF ⟨x7, rfl, x7, d, rfl, (hd.mono (cut_mono (q1.trans q2))).mono cut_same, fineV, _, rfl, rfl, false, ne_self, iteF ?_⟩⟩⟩⟩⟩
        have q12 := q1.trans q2
        exact ⟨_, _, rfl, Pk.keep q12, kk.trans (Kp.of q12)⟩
      · rintro σ Hk ⟨y7, y8, rfl, Pk, kk⟩
        refine ⟨.ref p, rfl, .ref p, rfl, Z, p, dl, al, 12, rfl, Pk, by decide, by decide, fun xr H8 rs P8 k8 d8 up l60 ok => ⟨Z, p, dl, al, xr, rs, rfl, P8, d8, up, l60, ok, fun H9 P9 k9 => ⟨true, rfl, iteF ?_⟩⟩⟩
        exact ⟨_, _, _, _, _, _, _, _, rfl, P9⟩
    · rintro σ Hi ⟨y2, y3, y4, y5, y6, y7, y8, y9, rfl, Pi⟩
      dsimp only
      refine s_set ?_
      refine (ev_catA (K := K) (a := 0) (b := 724) (c := 1) (d := 1) (by decide) MD (ev_spread (c := 724) (sh := 3) (by decide) (by decide) (by decide) (by decide)) (ev_tupR (m := 1) (n' := 1) (by decide) MD (eall_cons MD (ev_irD (ev_int (i := 0))) eall_nil))).run Pi (b := 0) (by omega) fun x9 H2 P2 k2 r2 => ?_
      refine s_lst ?_
      refine (ev_lst (m := 5) (n' := 5) (R := DR K Val) (by decide) MV (eall_cons MV (ev_val (by decide) (ev_spread (c := 720) (sh := 3) (by decide) (by decide) (by decide) (by decide))) (eall_cons MV (ev_val (by decide) (ev_spread (c := 722) (sh := 3) (by decide) (by decide) (by decide) (by decide)))
        (eall_cons MV (ev_val (by decide) (ev_spread (c := 721) (sh := 5) (by decide) (by decide) (by decide) (by decide))) (eall_cons MV (ev_val (by decide) ev_zeros) (eall_cons MV (ev_val (by decide) (ev_var (v := x9) (by rfl) (TpR.mo MD) r2)) eall_nil)))))).run P2 (b := 0) (by omega) fun v H3 P3 k3 r3 => ?_
      obtain ⟨B, zs, rfl, gB, _, _, hzs⟩ := r3
      refine ⟨B, rfl, ⟨_, .inl (.inl (hid_same _ _ gB))⟩, for_it (walk_list (K := K) (a := B) (xs := zs)) (fun m σ Hk => ∃ y7, σ = [some (.ref a), some (.ref p), y2, y3, y4, y5, y6, y7, y8, some x9] ∧ Iv (pot p dl al) Z 0 Hk ∧ Kp (pot p dl al) Z H3 Hk) ⟨_, rfl, P3, Kp.refl⟩ (fun m σ Hk _ h => by
        obtain ⟨_, _, _, k⟩ := h
        exact .inl (.inl (hid_same _ _ (k _ _ gB)))) ?_ ?_⟩
      · rintro j x7 σ _ Hk hk ⟨y7, rfl, Pk, kk⟩ ⟨rfl, hx⟩
        obtain ⟨d, hd, sd, ld⟩ := DR.mo _ _ _ kk (hzs x7 (List.mem_of_getElem? hx))
        have Ok := Pk.occ
        have fineD : Fine (dueOf d) := due_fine sd (by decide) (by decide) ld
        refine s_if1 ⟨x7, rfl, NZ (pot p dl al) Z, 0, x7, .non, rfl, Ok, .inl ⟨rfl, d, hd, ld, fun r G1 q1 dr => ⟨r, _, rfl, dr.mono cut_same, fineD, x7, rfl, NZ (pot p dl al) Z, d, Ok.keep q1, .cons (hd.mono (cut_mono q1)) .nil, ld, fun r2 G2 q2 dr2 => ⟨r2, _, rfl, dr2.mono cut_same, fineD, rfl, false, ne_self, iteF ?_⟩⟩⟩⟩
        have q12 := q1.trans q2
        exact ⟨_, rfl, Pk.keep q12, kk.trans (Kp.of q12)⟩
      · rintro σ Hk ⟨y7, rfl, Pk, kk⟩
        exact q Hk
end
theorem all_mk {K : PySem.W.Frag} {h : Heap} {mg : Str → Option Value} (X : K.In h) (G : h.Ns mainGlobals mg)
  {f0 : Addr} {od0 an0 : Option Addr} {sl0 : Array (Option Value)} {oc0 kV0 dc0 pm0 cd0 ct0 : Value}
  (a0 : PySem.W.nsIn K mainGlobals "is_whole" = some (some (.ref f0))) (l0 : K.lookup f0 = some ⟨oc0, od0, .func (PySem.W.fnOf "is_whole" "is_whole" (defArgs s_is_whole) (defBody s_is_whole) (defScope s_is_whole) .none kV0 dc0 pm0 an0 cd0 ct0), sl0⟩) (c0 : PySem.W.codeIn K cd0 "is_whole" = true) (k0 : PySem.W.keepIn K (.ref f0) = true)
  {f1 : Addr} {od1 an1 : Option Addr} {sl1 : Array (Option Value)} {oc1 kV1 dc1 pm1 cd1 ct1 : Value}
  (a1 : PySem.W.nsIn K mainGlobals "is_minute" = some (some (.ref f1))) (l1 : K.lookup f1 = some ⟨oc1, od1, .func (PySem.W.fnOf "is_minute" "is_minute" (defArgs s_is_minute) (defBody s_is_minute) (defScope s_is_minute) .none kV1 dc1 pm1 an1 cd1 ct1), sl1⟩) (c1 : PySem.W.codeIn K cd1 "is_minute" = true) (k1 : PySem.W.keepIn K (.ref f1) = true)
  {f2 : Addr} {od2 an2 : Option Addr} {sl2 : Array (Option Value)} {oc2 kV2 dc2 pm2 cd2 ct2 : Value}
  (a2 : PySem.W.nsIn K mainGlobals "rounded_up" = some (some (.ref f2))) (l2 : K.lookup f2 = some ⟨oc2, od2, .func (PySem.W.fnOf "rounded_up" "rounded_up" (defArgs s_rounded_up) (defBody s_rounded_up) (defScope s_rounded_up) .none kV2 dc2 pm2 an2 cd2 ct2), sl2⟩) (c2 : PySem.W.codeIn K cd2 "rounded_up" = true) (k2 : PySem.W.keepIn K (.ref f2) = true)
  {f3 : Addr} {od3 an3 : Option Addr} {sl3 : Array (Option Value)} {oc3 kV3 dc3 pm3 cd3 ct3 : Value}
  (a3 : PySem.W.nsIn K mainGlobals "at_most" = some (some (.ref f3))) (l3 : K.lookup f3 = some ⟨oc3, od3, .func (PySem.W.fnOf "at_most" "at_most" (defArgs s_at_most) (defBody s_at_most) (defScope s_at_most) .none kV3 dc3 pm3 an3 cd3 ct3), sl3⟩) (c3 : PySem.W.codeIn K cd3 "at_most" = true) (k3 : PySem.W.keepIn K (.ref f3) = true)
  {f4 : Addr} {od4 an4 : Option Addr} {sl4 : Array (Option Value)} {oc4 kV4 dc4 pm4 cd4 ct4 : Value}
  (a4 : PySem.W.nsIn K mainGlobals "motions_of" = some (some (.ref f4))) (l4 : K.lookup f4 = some ⟨oc4, od4, .func (PySem.W.fnOf "motions_of" "motions_of" (defArgs s_motions_of) (defBody s_motions_of) (defScope s_motions_of) .none kV4 dc4 pm4 an4 cd4 ct4), sl4⟩) (c4 : PySem.W.codeIn K cd4 "motions_of" = true) (k4 : PySem.W.keepIn K (.ref f4) = true)
  {f5 : Addr} {od5 an5 : Option Addr} {sl5 : Array (Option Value)} {oc5 kV5 dc5 pm5 cd5 ct5 : Value}
  (a5 : PySem.W.nsIn K mainGlobals "runs_of" = some (some (.ref f5))) (l5 : K.lookup f5 = some ⟨oc5, od5, .func (PySem.W.fnOf "runs_of" "runs_of" (defArgs s_runs_of) (defBody s_runs_of) (defScope s_runs_of) .none kV5 dc5 pm5 an5 cd5 ct5), sl5⟩) (c5 : PySem.W.codeIn K cd5 "runs_of" = true) (k5 : PySem.W.keepIn K (.ref f5) = true)
  {f6 : Addr} {od6 an6 : Option Addr} {sl6 : Array (Option Value)} {oc6 kV6 dc6 pm6 cd6 ct6 : Value}
  (a6 : PySem.W.nsIn K mainGlobals "follows" = some (some (.ref f6))) (l6 : K.lookup f6 = some ⟨oc6, od6, .func (PySem.W.fnOf "follows" "follows" (defArgs s_follows) (defBody s_follows) (defScope s_follows) .none kV6 dc6 pm6 an6 cd6 ct6), sl6⟩) (c6 : PySem.W.codeIn K cd6 "follows" = true) (k6 : PySem.W.keepIn K (.ref f6) = true)
  {f7 : Addr} {od7 an7 : Option Addr} {sl7 : Array (Option Value)} {oc7 kV7 dc7 pm7 cd7 ct7 : Value}
  (a7 : PySem.W.nsIn K mainGlobals "count_motions" = some (some (.ref f7))) (l7 : K.lookup f7 = some ⟨oc7, od7, .func (PySem.W.fnOf "count_motions" "count_motions" (defArgs s_count_motions) (defBody s_count_motions) (defScope s_count_motions) .none kV7 dc7 pm7 an7 cd7 ct7), sl7⟩) (c7 : PySem.W.codeIn K cd7 "count_motions" = true) (k7 : PySem.W.keepIn K (.ref f7) = true)
  {f8 : Addr} {od8 an8 : Option Addr} {sl8 : Array (Option Value)} {oc8 kV8 dc8 pm8 cd8 ct8 : Value}
  (a8 : PySem.W.nsIn K mainGlobals "motion_at" = some (some (.ref f8))) (l8 : K.lookup f8 = some ⟨oc8, od8, .func (PySem.W.fnOf "motion_at" "motion_at" (defArgs s_motion_at) (defBody s_motion_at) (defScope s_motion_at) .none kV8 dc8 pm8 an8 cd8 ct8), sl8⟩) (c8 : PySem.W.codeIn K cd8 "motion_at" = true) (k8 : PySem.W.keepIn K (.ref f8) = true)
  {f9 : Addr} {od9 an9 : Option Addr} {sl9 : Array (Option Value)} {oc9 kV9 dc9 pm9 cd9 ct9 : Value}
  (a9 : PySem.W.nsIn K mainGlobals "motions_before" = some (some (.ref f9))) (l9 : K.lookup f9 = some ⟨oc9, od9, .func (PySem.W.fnOf "motions_before" "motions_before" (defArgs s_motions_before) (defBody s_motions_before) (defScope s_motions_before) .none kV9 dc9 pm9 an9 cd9 ct9), sl9⟩) (c9 : PySem.W.codeIn K cd9 "motions_before" = true) (k9 : PySem.W.keepIn K (.ref f9) = true)
  {f10 : Addr} {od10 an10 : Option Addr} {sl10 : Array (Option Value)} {oc10 kV10 dc10 pm10 cd10 ct10 : Value}
  (a10 : PySem.W.nsIn K mainGlobals "_law_opened" = some (some (.ref f10))) (l10 : K.lookup f10 = some ⟨oc10, od10, .func (PySem.W.fnOf "_law_opened" "_law_opened" (defArgs s_l_opened) (defBody s_l_opened) (defScope s_l_opened) .none kV10 dc10 pm10 an10 cd10 ct10), sl10⟩) (c10 : PySem.W.codeIn K cd10 "_law_opened" = true) (k10 : PySem.W.keepIn K (.ref f10) = true)
  {f11 : Addr} {od11 an11 : Option Addr} {sl11 : Array (Option Value)} {oc11 kV11 dc11 pm11 cd11 ct11 : Value}
  (a11 : PySem.W.nsIn K mainGlobals "_law_draw" = some (some (.ref f11))) (l11 : K.lookup f11 = some ⟨oc11, od11, .func (PySem.W.fnOf "_law_draw" "_law_draw" (defArgs s_l_draw) (defBody s_l_draw) (defScope s_l_draw) .none kV11 dc11 pm11 an11 cd11 ct11), sl11⟩) (c11 : PySem.W.codeIn K cd11 "_law_draw" = true) (k11 : PySem.W.keepIn K (.ref f11) = true)
  {f12 : Addr} {od12 an12 : Option Addr} {sl12 : Array (Option Value)} {oc12 kV12 dc12 pm12 cd12 ct12 : Value}
  (a12 : PySem.W.nsIn K mainGlobals "_law_one" = some (some (.ref f12))) (l12 : K.lookup f12 = some ⟨oc12, od12, .func (PySem.W.fnOf "_law_one" "_law_one" (defArgs s_l_one) (defBody s_l_one) (defScope s_l_one) .none kV12 dc12 pm12 an12 cd12 ct12), sl12⟩) (c12 : PySem.W.codeIn K cd12 "_law_one" = true) (k12 : PySem.W.keepIn K (.ref f12) = true)
  {f13 : Addr} {od13 an13 : Option Addr} {sl13 : Array (Option Value)} {oc13 kV13 dc13 pm13 cd13 ct13 : Value}
  (a13 : PySem.W.nsIn K mainGlobals "_law_minutes" = some (some (.ref f13))) (l13 : K.lookup f13 = some ⟨oc13, od13, .func (PySem.W.fnOf "_law_minutes" "_law_minutes" (defArgs s_l_minutes) (defBody s_l_minutes) (defScope s_l_minutes) .none kV13 dc13 pm13 an13 cd13 ct13), sl13⟩) (c13 : PySem.W.codeIn K cd13 "_law_minutes" = true) (k13 : PySem.W.keepIn K (.ref f13) = true)
  {f14 : Addr} {od14 an14 : Option Addr} {sl14 : Array (Option Value)} {oc14 kV14 dc14 pm14 cd14 ct14 : Value}
  (a14 : PySem.W.nsIn K mainGlobals "_law_far_runs" = some (some (.ref f14))) (l14 : K.lookup f14 = some ⟨oc14, od14, .func (PySem.W.fnOf "_law_far_runs" "_law_far_runs" (defArgs s_l_far_runs) (defBody s_l_far_runs) (defScope s_l_far_runs) .none kV14 dc14 pm14 an14 cd14 ct14), sl14⟩) (c14 : PySem.W.codeIn K cd14 "_law_far_runs" = true) (k14 : PySem.W.keepIn K (.ref f14) = true)
  {f15 : Addr} {od15 an15 : Option Addr} {sl15 : Array (Option Value)} {oc15 kV15 dc15 pm15 cd15 ct15 : Value}
  (a15 : PySem.W.nsIn K mainGlobals "_law_odd" = some (some (.ref f15))) (l15 : K.lookup f15 = some ⟨oc15, od15, .func (PySem.W.fnOf "_law_odd" "_law_odd" (defArgs s_l_odd) (defBody s_l_odd) (defScope s_l_odd) .none kV15 dc15 pm15 an15 cd15 ct15), sl15⟩) (c15 : PySem.W.codeIn K cd15 "_law_odd" = true) (k15 : PySem.W.keepIn K (.ref f15) = true)
  {f16 : Addr} {od16 an16 : Option Addr} {sl16 : Array (Option Value)} {oc16 kV16 dc16 pm16 cd16 ct16 : Value}
  (a16 : PySem.W.nsIn K mainGlobals "_law_whole" = some (some (.ref f16))) (l16 : K.lookup f16 = some ⟨oc16, od16, .func (PySem.W.fnOf "_law_whole" "_law_whole" (defArgs s_l_whole) (defBody s_l_whole) (defScope s_l_whole) .none kV16 dc16 pm16 an16 cd16 ct16), sl16⟩) (c16 : PySem.W.codeIn K cd16 "_law_whole" = true) (k16 : PySem.W.keepIn K (.ref f16) = true)
  {f17 : Addr} {od17 an17 : Option Addr} {sl17 : Array (Option Value)} {oc17 kV17 dc17 pm17 cd17 ct17 : Value}
  (a17 : PySem.W.nsIn K mainGlobals "_law_told" = some (some (.ref f17))) (l17 : K.lookup f17 = some ⟨oc17, od17, .func (PySem.W.fnOf "_law_told" "_law_told" (defArgs s_l_told) (defBody s_l_told) (defScope s_l_told) .none kV17 dc17 pm17 an17 cd17 ct17), sl17⟩) (c17 : PySem.W.codeIn K cd17 "_law_told" = true) (k17 : PySem.W.keepIn K (.ref f17) = true)
  {f18 : Addr} {od18 an18 : Option Addr} {sl18 : Array (Option Value)} {oc18 kV18 dc18 pm18 cd18 ct18 : Value}
  (a18 : PySem.W.nsIn K mainGlobals "_law_due" = some (some (.ref f18))) (l18 : K.lookup f18 = some ⟨oc18, od18, .func (PySem.W.fnOf "_law_due" "_law_due" (defArgs s_l_due) (defBody s_l_due) (defScope s_l_due) .none kV18 dc18 pm18 an18 cd18 ct18), sl18⟩) (c18 : PySem.W.codeIn K cd18 "_law_due" = true) (k18 : PySem.W.keepIn K (.ref f18) = true)
  {f19 : Addr} {od19 an19 : Option Addr} {sl19 : Array (Option Value)} {oc19 kV19 dc19 pm19 cd19 ct19 : Value}
  (a19 : PySem.W.nsIn K mainGlobals "_law_spread_out" = some (some (.ref f19))) (l19 : K.lookup f19 = some ⟨oc19, od19, .func (PySem.W.fnOf "_law_spread_out" "_law_spread_out" (defArgs s_l_spread_out) (defBody s_l_spread_out) (defScope s_l_spread_out) .none kV19 dc19 pm19 an19 cd19 ct19), sl19⟩) (c19 : PySem.W.codeIn K cd19 "_law_spread_out" = true) (k19 : PySem.W.keepIn K (.ref f19) = true)
  {f20 : Addr} {od20 an20 : Option Addr} {sl20 : Array (Option Value)} {oc20 kV20 dc20 pm20 cd20 ct20 : Value}
  (a20 : PySem.W.nsIn K mainGlobals "_law_numbers_right" = some (some (.ref f20))) (l20 : K.lookup f20 = some ⟨oc20, od20, .func (PySem.W.fnOf "_law_numbers_right" "_law_numbers_right" (defArgs s_l_numbers_right) (defBody s_l_numbers_right) (defScope s_l_numbers_right) .none kV20 dc20 pm20 an20 cd20 ct20), sl20⟩) (c20 : PySem.W.codeIn K cd20 "_law_numbers_right" = true) (k20 : PySem.W.keepIn K (.ref f20) = true)
  {f21 : Addr} {od21 an21 : Option Addr} {sl21 : Array (Option Value)} {oc21 kV21 dc21 pm21 cd21 ct21 : Value}
  (a21 : PySem.W.nsIn K mainGlobals "law" = some (some (.ref f21))) (l21 : K.lookup f21 = some ⟨oc21, od21, .func (PySem.W.fnOf "law" "law" (defArgs s_law) (defBody s_law) (defScope s_law) .none kV21 dc21 pm21 an21 cd21 ct21), sl21⟩) (c21 : PySem.W.codeIn K cd21 "law" = true) (k21 : PySem.W.keepIn K (.ref f21) = true)
  {C_LampError : Addr} (gc_LampError : PySem.W.nsIn K mainGlobals "LampError" = some (some (.ref C_LampError)))
  {C_BadLamp : Addr} (gc_BadLamp : PySem.W.nsIn K mainGlobals "BadLamp" = some (some (.ref C_BadLamp)))
  {fI_BadLamp : Addr} {nm_BadLamp q_BadLamp : Str} {N_BadLamp : Addr} {bs_BadLamp : List Value} {sn_BadLamp : List Str} {sub_BadLamp : List Value} {ab_BadLamp : Bool} {col_BadLamp : Option Bool} {dd_BadLamp : Option Addr} {m0_BadLamp m1_BadLamp m2_BadLamp m3_BadLamp m5_BadLamp : Option Value} {od_BadLamp an_BadLamp : Option Addr} {sl_BadLamp : Array (Option Value)} {oc_BadLamp kV_BadLamp dc_BadLamp pm_BadLamp cd_BadLamp ct_BadLamp : Value}
  (xL_BadLamp : K.lookup C_BadLamp = some (PySem.excClassObj nm_BadLamp q_BadLamp C_BadLamp N_BadLamp bs_BadLamp [.ref C_LampError, .type "ValueError", .type "Exception", .type "BaseException", .type "object"] true sn_BadLamp sub_BadLamp ab_BadLamp col_BadLamp dd_BadLamp m0_BadLamp m1_BadLamp m2_BadLamp m3_BadLamp m5_BadLamp "ValueError.__new__"))
  (sa_BadLamp : PySem.W.findIn K (.ref C_BadLamp) "__setattr__" = some (some (.builtin "object.__setattr__")))
  (eC_BadLamp : PySem.W.subIn K (.ref C_BadLamp) (.type "BaseException") = some true)
  (tC_BadLamp : PySem.W.typeIn K (.ref C_BadLamp) = some (.type "type"))
  (kC_BadLamp : PySem.W.keepIn K (.ref C_BadLamp) = true)
  (iC_BadLamp : PySem.W.findIn K (.ref C_BadLamp) "__init__" = some (some (.ref fI_BadLamp)))
  (tI_BadLamp : PySem.W.typeIn K (.ref fI_BadLamp) = some (.type "function"))
  (no_BadLamp : PySem.W.findIn K (.ref C_BadLamp) "value" = some none)
  (ga_BadLamp : PySem.W.findIn K (.ref C_BadLamp) "__getattribute__" = some (some (.builtin "BaseException.__getattribute__")))
  (gg_BadLamp : PySem.W.findIn K (.ref C_BadLamp) "__getattr__" = some none)
  (hd_BadLamp : PySem.W.hasDictIn K C_BadLamp = true)
  (ha_BadLamp : PySem.W.findIn K (.ref C_BadLamp) "__class__" = some (some (.builtin "object.__class__")))
  (hn_BadLamp : PySem.W.specialIn K (.builtin "object.__class__") "__get__" = some (some (.builtin "getset_descriptor.__get__")))
  (ht_BadLamp : PySem.W.takesIn K (.builtin "object.__class__") = some true)
  (hm_BadLamp : PySem.W.mroIn K C_BadLamp (.type "object") = some true)
  (lI_BadLamp : K.lookup fI_BadLamp = some ⟨oc_BadLamp, od_BadLamp, .func (PySem.W.fnOf "__init__" "BadLamp.__init__" (defArgs s_X_BadLamp) (defBody s_X_BadLamp) (defScope s_X_BadLamp) .none kV_BadLamp dc_BadLamp pm_BadLamp an_BadLamp cd_BadLamp ct_BadLamp), sl_BadLamp⟩)
  (cI_BadLamp : PySem.W.codeIn K cd_BadLamp "BadLamp.__init__" = true)
  (kI_BadLamp : PySem.W.keepIn K (.ref fI_BadLamp) = true)
  {C_BadMotions : Addr} (gc_BadMotions : PySem.W.nsIn K mainGlobals "BadMotions" = some (some (.ref C_BadMotions)))
  {fI_BadMotions : Addr} {nm_BadMotions q_BadMotions : Str} {N_BadMotions : Addr} {bs_BadMotions : List Value} {sn_BadMotions : List Str} {sub_BadMotions : List Value} {ab_BadMotions : Bool} {col_BadMotions : Option Bool} {dd_BadMotions : Option Addr} {m0_BadMotions m1_BadMotions m2_BadMotions m3_BadMotions m5_BadMotions : Option Value} {od_BadMotions an_BadMotions : Option Addr} {sl_BadMotions : Array (Option Value)} {oc_BadMotions kV_BadMotions dc_BadMotions pm_BadMotions cd_BadMotions ct_BadMotions : Value}
  (xL_BadMotions : K.lookup C_BadMotions = some (PySem.excClassObj nm_BadMotions q_BadMotions C_BadMotions N_BadMotions bs_BadMotions [.ref C_LampError, .type "ValueError", .type "Exception", .type "BaseException", .type "object"] true sn_BadMotions sub_BadMotions ab_BadMotions col_BadMotions dd_BadMotions m0_BadMotions m1_BadMotions m2_BadMotions m3_BadMotions m5_BadMotions "ValueError.__new__"))
  (sa_BadMotions : PySem.W.findIn K (.ref C_BadMotions) "__setattr__" = some (some (.builtin "object.__setattr__")))
  (eC_BadMotions : PySem.W.subIn K (.ref C_BadMotions) (.type "BaseException") = some true)
  (tC_BadMotions : PySem.W.typeIn K (.ref C_BadMotions) = some (.type "type"))
  (kC_BadMotions : PySem.W.keepIn K (.ref C_BadMotions) = true)
  (iC_BadMotions : PySem.W.findIn K (.ref C_BadMotions) "__init__" = some (some (.ref fI_BadMotions)))
  (tI_BadMotions : PySem.W.typeIn K (.ref fI_BadMotions) = some (.type "function"))
  (no_BadMotions : PySem.W.findIn K (.ref C_BadMotions) "error" = some none)
  (ga_BadMotions : PySem.W.findIn K (.ref C_BadMotions) "__getattribute__" = some (some (.builtin "BaseException.__getattribute__")))
  (gg_BadMotions : PySem.W.findIn K (.ref C_BadMotions) "__getattr__" = some none)
  (hd_BadMotions : PySem.W.hasDictIn K C_BadMotions = true)
  (ha_BadMotions : PySem.W.findIn K (.ref C_BadMotions) "__class__" = some (some (.builtin "object.__class__")))
  (hn_BadMotions : PySem.W.specialIn K (.builtin "object.__class__") "__get__" = some (some (.builtin "getset_descriptor.__get__")))
  (ht_BadMotions : PySem.W.takesIn K (.builtin "object.__class__") = some true)
  (hm_BadMotions : PySem.W.mroIn K C_BadMotions (.type "object") = some true)
  (lI_BadMotions : K.lookup fI_BadMotions = some ⟨oc_BadMotions, od_BadMotions, .func (PySem.W.fnOf "__init__" "BadMotions.__init__" (defArgs s_X_BadMotions) (defBody s_X_BadMotions) (defScope s_X_BadMotions) .none kV_BadMotions dc_BadMotions pm_BadMotions an_BadMotions cd_BadMotions ct_BadMotions), sl_BadMotions⟩)
  (cI_BadMotions : PySem.W.codeIn K cd_BadMotions "BadMotions.__init__" = true)
  (kI_BadMotions : PySem.W.keepIn K (.ref fI_BadMotions) = true)
  {C_NoCount : Addr} (gc_NoCount : PySem.W.nsIn K mainGlobals "NoCount" = some (some (.ref C_NoCount)))
  {fI_NoCount : Addr} {nm_NoCount q_NoCount : Str} {N_NoCount : Addr} {bs_NoCount : List Value} {sn_NoCount : List Str} {sub_NoCount : List Value} {ab_NoCount : Bool} {col_NoCount : Option Bool} {dd_NoCount : Option Addr} {m0_NoCount m1_NoCount m2_NoCount m3_NoCount m5_NoCount : Option Value} {od_NoCount an_NoCount : Option Addr} {sl_NoCount : Array (Option Value)} {oc_NoCount kV_NoCount dc_NoCount pm_NoCount cd_NoCount ct_NoCount : Value}
  (xL_NoCount : K.lookup C_NoCount = some (PySem.excClassObj nm_NoCount q_NoCount C_NoCount N_NoCount bs_NoCount [.ref C_LampError, .type "ValueError", .type "Exception", .type "BaseException", .type "object"] true sn_NoCount sub_NoCount ab_NoCount col_NoCount dd_NoCount m0_NoCount m1_NoCount m2_NoCount m3_NoCount m5_NoCount "ValueError.__new__"))
  (sa_NoCount : PySem.W.findIn K (.ref C_NoCount) "__setattr__" = some (some (.builtin "object.__setattr__")))
  (eC_NoCount : PySem.W.subIn K (.ref C_NoCount) (.type "BaseException") = some true)
  (tC_NoCount : PySem.W.typeIn K (.ref C_NoCount) = some (.type "type"))
  (kC_NoCount : PySem.W.keepIn K (.ref C_NoCount) = true)
  (iC_NoCount : PySem.W.findIn K (.ref C_NoCount) "__init__" = some (some (.ref fI_NoCount)))
  (tI_NoCount : PySem.W.typeIn K (.ref fI_NoCount) = some (.type "function"))
  (no_NoCount : PySem.W.findIn K (.ref C_NoCount) "value" = some none)
  (ga_NoCount : PySem.W.findIn K (.ref C_NoCount) "__getattribute__" = some (some (.builtin "BaseException.__getattribute__")))
  (gg_NoCount : PySem.W.findIn K (.ref C_NoCount) "__getattr__" = some none)
  (hd_NoCount : PySem.W.hasDictIn K C_NoCount = true)
  (ha_NoCount : PySem.W.findIn K (.ref C_NoCount) "__class__" = some (some (.builtin "object.__class__")))
  (hn_NoCount : PySem.W.specialIn K (.builtin "object.__class__") "__get__" = some (some (.builtin "getset_descriptor.__get__")))
  (ht_NoCount : PySem.W.takesIn K (.builtin "object.__class__") = some true)
  (hm_NoCount : PySem.W.mroIn K C_NoCount (.type "object") = some true)
  (lI_NoCount : K.lookup fI_NoCount = some ⟨oc_NoCount, od_NoCount, .func (PySem.W.fnOf "__init__" "NoCount.__init__" (defArgs s_X_NoCount) (defBody s_X_NoCount) (defScope s_X_NoCount) .none kV_NoCount dc_NoCount pm_NoCount an_NoCount cd_NoCount ct_NoCount), sl_NoCount⟩)
  (cI_NoCount : PySem.W.codeIn K cd_NoCount "NoCount.__init__" = true)
  (kI_NoCount : PySem.W.keepIn K (.ref fI_NoCount) = true)
  {C_NoIndex : Addr} (gc_NoIndex : PySem.W.nsIn K mainGlobals "NoIndex" = some (some (.ref C_NoIndex)))
  {fI_NoIndex : Addr} {nm_NoIndex q_NoIndex : Str} {N_NoIndex : Addr} {bs_NoIndex : List Value} {sn_NoIndex : List Str} {sub_NoIndex : List Value} {ab_NoIndex : Bool} {col_NoIndex : Option Bool} {dd_NoIndex : Option Addr} {m0_NoIndex m1_NoIndex m2_NoIndex m3_NoIndex m5_NoIndex : Option Value} {od_NoIndex an_NoIndex : Option Addr} {sl_NoIndex : Array (Option Value)} {oc_NoIndex kV_NoIndex dc_NoIndex pm_NoIndex cd_NoIndex ct_NoIndex : Value}
  (xL_NoIndex : K.lookup C_NoIndex = some (PySem.excClassObj nm_NoIndex q_NoIndex C_NoIndex N_NoIndex bs_NoIndex [.ref C_LampError, .type "ValueError", .type "Exception", .type "BaseException", .type "object"] true sn_NoIndex sub_NoIndex ab_NoIndex col_NoIndex dd_NoIndex m0_NoIndex m1_NoIndex m2_NoIndex m3_NoIndex m5_NoIndex "ValueError.__new__"))
  (sa_NoIndex : PySem.W.findIn K (.ref C_NoIndex) "__setattr__" = some (some (.builtin "object.__setattr__")))
  (eC_NoIndex : PySem.W.subIn K (.ref C_NoIndex) (.type "BaseException") = some true)
  (tC_NoIndex : PySem.W.typeIn K (.ref C_NoIndex) = some (.type "type"))
  (kC_NoIndex : PySem.W.keepIn K (.ref C_NoIndex) = true)
  (iC_NoIndex : PySem.W.findIn K (.ref C_NoIndex) "__init__" = some (some (.ref fI_NoIndex)))
  (tI_NoIndex : PySem.W.typeIn K (.ref fI_NoIndex) = some (.type "function"))
  (no_NoIndex : PySem.W.findIn K (.ref C_NoIndex) "index" = some none)
  (ga_NoIndex : PySem.W.findIn K (.ref C_NoIndex) "__getattribute__" = some (some (.builtin "BaseException.__getattribute__")))
  (gg_NoIndex : PySem.W.findIn K (.ref C_NoIndex) "__getattr__" = some none)
  (hd_NoIndex : PySem.W.hasDictIn K C_NoIndex = true)
  (ha_NoIndex : PySem.W.findIn K (.ref C_NoIndex) "__class__" = some (some (.builtin "object.__class__")))
  (hn_NoIndex : PySem.W.specialIn K (.builtin "object.__class__") "__get__" = some (some (.builtin "getset_descriptor.__get__")))
  (ht_NoIndex : PySem.W.takesIn K (.builtin "object.__class__") = some true)
  (hm_NoIndex : PySem.W.mroIn K C_NoIndex (.type "object") = some true)
  (lI_NoIndex : K.lookup fI_NoIndex = some ⟨oc_NoIndex, od_NoIndex, .func (PySem.W.fnOf "__init__" "NoIndex.__init__" (defArgs s_X_NoIndex) (defBody s_X_NoIndex) (defScope s_X_NoIndex) .none kV_NoIndex dc_NoIndex pm_NoIndex an_NoIndex cd_NoIndex ct_NoIndex), sl_NoIndex⟩)
  (cI_NoIndex : PySem.W.codeIn K cd_NoIndex "NoIndex.__init__" = true)
  (kI_NoIndex : PySem.W.keepIn K (.ref fI_NoIndex) = true)
  {C_NoMinute : Addr} (gc_NoMinute : PySem.W.nsIn K mainGlobals "NoMinute" = some (some (.ref C_NoMinute)))
  {fI_NoMinute : Addr} {nm_NoMinute q_NoMinute : Str} {N_NoMinute : Addr} {bs_NoMinute : List Value} {sn_NoMinute : List Str} {sub_NoMinute : List Value} {ab_NoMinute : Bool} {col_NoMinute : Option Bool} {dd_NoMinute : Option Addr} {m0_NoMinute m1_NoMinute m2_NoMinute m3_NoMinute m5_NoMinute : Option Value} {od_NoMinute an_NoMinute : Option Addr} {sl_NoMinute : Array (Option Value)} {oc_NoMinute kV_NoMinute dc_NoMinute pm_NoMinute cd_NoMinute ct_NoMinute : Value}
  (xL_NoMinute : K.lookup C_NoMinute = some (PySem.excClassObj nm_NoMinute q_NoMinute C_NoMinute N_NoMinute bs_NoMinute [.ref C_LampError, .type "ValueError", .type "Exception", .type "BaseException", .type "object"] true sn_NoMinute sub_NoMinute ab_NoMinute col_NoMinute dd_NoMinute m0_NoMinute m1_NoMinute m2_NoMinute m3_NoMinute m5_NoMinute "ValueError.__new__"))
  (sa_NoMinute : PySem.W.findIn K (.ref C_NoMinute) "__setattr__" = some (some (.builtin "object.__setattr__")))
  (eC_NoMinute : PySem.W.subIn K (.ref C_NoMinute) (.type "BaseException") = some true)
  (tC_NoMinute : PySem.W.typeIn K (.ref C_NoMinute) = some (.type "type"))
  (kC_NoMinute : PySem.W.keepIn K (.ref C_NoMinute) = true)
  (iC_NoMinute : PySem.W.findIn K (.ref C_NoMinute) "__init__" = some (some (.ref fI_NoMinute)))
  (tI_NoMinute : PySem.W.typeIn K (.ref fI_NoMinute) = some (.type "function"))
  (no_NoMinute : PySem.W.findIn K (.ref C_NoMinute) "value" = some none)
  (ga_NoMinute : PySem.W.findIn K (.ref C_NoMinute) "__getattribute__" = some (some (.builtin "BaseException.__getattribute__")))
  (gg_NoMinute : PySem.W.findIn K (.ref C_NoMinute) "__getattr__" = some none)
  (hd_NoMinute : PySem.W.hasDictIn K C_NoMinute = true)
  (ha_NoMinute : PySem.W.findIn K (.ref C_NoMinute) "__class__" = some (some (.builtin "object.__class__")))
  (hn_NoMinute : PySem.W.specialIn K (.builtin "object.__class__") "__get__" = some (some (.builtin "getset_descriptor.__get__")))
  (ht_NoMinute : PySem.W.takesIn K (.builtin "object.__class__") = some true)
  (hm_NoMinute : PySem.W.mroIn K C_NoMinute (.type "object") = some true)
  (lI_NoMinute : K.lookup fI_NoMinute = some ⟨oc_NoMinute, od_NoMinute, .func (PySem.W.fnOf "__init__" "NoMinute.__init__" (defArgs s_X_NoMinute) (defBody s_X_NoMinute) (defScope s_X_NoMinute) .none kV_NoMinute dc_NoMinute pm_NoMinute an_NoMinute cd_NoMinute ct_NoMinute), sl_NoMinute⟩)
  (cI_NoMinute : PySem.W.codeIn K cd_NoMinute "NoMinute.__init__" = true)
  (kI_NoMinute : PySem.W.keepIn K (.ref fI_NoMinute) = true)
  {C_TooLarge : Addr} (gc_TooLarge : PySem.W.nsIn K mainGlobals "TooLarge" = some (some (.ref C_TooLarge)))
  {fI_TooLarge : Addr} {nm_TooLarge q_TooLarge : Str} {N_TooLarge : Addr} {bs_TooLarge : List Value} {sn_TooLarge : List Str} {sub_TooLarge : List Value} {ab_TooLarge : Bool} {col_TooLarge : Option Bool} {dd_TooLarge : Option Addr} {m0_TooLarge m1_TooLarge m2_TooLarge m3_TooLarge m5_TooLarge : Option Value} {od_TooLarge an_TooLarge : Option Addr} {sl_TooLarge : Array (Option Value)} {oc_TooLarge kV_TooLarge dc_TooLarge pm_TooLarge cd_TooLarge ct_TooLarge : Value}
  (xL_TooLarge : K.lookup C_TooLarge = some (PySem.excClassObj nm_TooLarge q_TooLarge C_TooLarge N_TooLarge bs_TooLarge [.ref C_LampError, .type "ValueError", .type "Exception", .type "BaseException", .type "object"] true sn_TooLarge sub_TooLarge ab_TooLarge col_TooLarge dd_TooLarge m0_TooLarge m1_TooLarge m2_TooLarge m3_TooLarge m5_TooLarge "ValueError.__new__"))
  (sa_TooLarge : PySem.W.findIn K (.ref C_TooLarge) "__setattr__" = some (some (.builtin "object.__setattr__")))
  (eC_TooLarge : PySem.W.subIn K (.ref C_TooLarge) (.type "BaseException") = some true)
  (tC_TooLarge : PySem.W.typeIn K (.ref C_TooLarge) = some (.type "type"))
  (kC_TooLarge : PySem.W.keepIn K (.ref C_TooLarge) = true)
  (iC_TooLarge : PySem.W.findIn K (.ref C_TooLarge) "__init__" = some (some (.ref fI_TooLarge)))
  (tI_TooLarge : PySem.W.typeIn K (.ref fI_TooLarge) = some (.type "function"))
  (no_TooLarge : PySem.W.findIn K (.ref C_TooLarge) "limit" = some none)
  (ga_TooLarge : PySem.W.findIn K (.ref C_TooLarge) "__getattribute__" = some (some (.builtin "BaseException.__getattribute__")))
  (gg_TooLarge : PySem.W.findIn K (.ref C_TooLarge) "__getattr__" = some none)
  (hd_TooLarge : PySem.W.hasDictIn K C_TooLarge = true)
  (ha_TooLarge : PySem.W.findIn K (.ref C_TooLarge) "__class__" = some (some (.builtin "object.__class__")))
  (hn_TooLarge : PySem.W.specialIn K (.builtin "object.__class__") "__get__" = some (some (.builtin "getset_descriptor.__get__")))
  (ht_TooLarge : PySem.W.takesIn K (.builtin "object.__class__") = some true)
  (hm_TooLarge : PySem.W.mroIn K C_TooLarge (.type "object") = some true)
  (lI_TooLarge : K.lookup fI_TooLarge = some ⟨oc_TooLarge, od_TooLarge, .func (PySem.W.fnOf "__init__" "TooLarge.__init__" (defArgs s_X_TooLarge) (defBody s_X_TooLarge) (defScope s_X_TooLarge) .none kV_TooLarge dc_TooLarge pm_TooLarge an_TooLarge cd_TooLarge ct_TooLarge), sl_TooLarge⟩)
  (cI_TooLarge : PySem.W.codeIn K cd_TooLarge "TooLarge.__init__" = true)
  (kI_TooLarge : PySem.W.keepIn K (.ref fI_TooLarge) = true)
  {C_TooMany : Addr} (gc_TooMany : PySem.W.nsIn K mainGlobals "TooMany" = some (some (.ref C_TooMany)))
  {fI_TooMany : Addr} {nm_TooMany q_TooMany : Str} {N_TooMany : Addr} {bs_TooMany : List Value} {sn_TooMany : List Str} {sub_TooMany : List Value} {ab_TooMany : Bool} {col_TooMany : Option Bool} {dd_TooMany : Option Addr} {m0_TooMany m1_TooMany m2_TooMany m3_TooMany m5_TooMany : Option Value} {od_TooMany an_TooMany : Option Addr} {sl_TooMany : Array (Option Value)} {oc_TooMany kV_TooMany dc_TooMany pm_TooMany cd_TooMany ct_TooMany : Value}
  (xL_TooMany : K.lookup C_TooMany = some (PySem.excClassObj nm_TooMany q_TooMany C_TooMany N_TooMany bs_TooMany [.ref C_LampError, .type "ValueError", .type "Exception", .type "BaseException", .type "object"] true sn_TooMany sub_TooMany ab_TooMany col_TooMany dd_TooMany m0_TooMany m1_TooMany m2_TooMany m3_TooMany m5_TooMany "ValueError.__new__"))
  (sa_TooMany : PySem.W.findIn K (.ref C_TooMany) "__setattr__" = some (some (.builtin "object.__setattr__")))
  (eC_TooMany : PySem.W.subIn K (.ref C_TooMany) (.type "BaseException") = some true)
  (tC_TooMany : PySem.W.typeIn K (.ref C_TooMany) = some (.type "type"))
  (kC_TooMany : PySem.W.keepIn K (.ref C_TooMany) = true)
  (iC_TooMany : PySem.W.findIn K (.ref C_TooMany) "__init__" = some (some (.ref fI_TooMany)))
  (tI_TooMany : PySem.W.typeIn K (.ref fI_TooMany) = some (.type "function"))
  (no_TooMany : PySem.W.findIn K (.ref C_TooMany) "limit" = some none)
  (ga_TooMany : PySem.W.findIn K (.ref C_TooMany) "__getattribute__" = some (some (.builtin "BaseException.__getattribute__")))
  (gg_TooMany : PySem.W.findIn K (.ref C_TooMany) "__getattr__" = some none)
  (hd_TooMany : PySem.W.hasDictIn K C_TooMany = true)
  (ha_TooMany : PySem.W.findIn K (.ref C_TooMany) "__class__" = some (some (.builtin "object.__class__")))
  (hn_TooMany : PySem.W.specialIn K (.builtin "object.__class__") "__get__" = some (some (.builtin "getset_descriptor.__get__")))
  (ht_TooMany : PySem.W.takesIn K (.builtin "object.__class__") = some true)
  (hm_TooMany : PySem.W.mroIn K C_TooMany (.type "object") = some true)
  (lI_TooMany : K.lookup fI_TooMany = some ⟨oc_TooMany, od_TooMany, .func (PySem.W.fnOf "__init__" "TooMany.__init__" (defArgs s_X_TooMany) (defBody s_X_TooMany) (defScope s_X_TooMany) .none kV_TooMany dc_TooMany pm_TooMany an_TooMany cd_TooMany ct_TooMany), sl_TooMany⟩)
  (cI_TooMany : PySem.W.codeIn K cd_TooMany "TooMany.__init__" = true)
  (kI_TooMany : PySem.W.keepIn K (.ref fI_TooMany) = true)
  (kit0 : PySem.W.exmOne K (.ref C_NoMinute) (.ref C_LampError) = some true)
  (kit1 : PySem.W.exmOne K (.ref C_NoIndex) (.ref C_LampError) = some true)
  (kit2 : PySem.W.exmOne K (.ref C_TooLarge) (.ref C_LampError) = some true)
  (kit3 : PySem.W.kitOne K (.ref C_NoMinute) (.ref C_NoMinute) = some true)
  (kit4 : PySem.W.kitOne K (.ref C_NoMinute) (.ref C_NoIndex) = some false)
  (kit5 : PySem.W.kitOne K (.ref C_NoMinute) (.ref C_TooLarge) = some false)
  (kit6 : PySem.W.kitOne K (.ref C_NoIndex) (.ref C_NoMinute) = some false)
  (kit7 : PySem.W.kitOne K (.ref C_NoIndex) (.ref C_NoIndex) = some true)
  (kit8 : PySem.W.kitOne K (.ref C_NoIndex) (.ref C_TooLarge) = some false)
  (kit9 : PySem.W.kitOne K (.ref C_TooLarge) (.ref C_NoMinute) = some false)
  (kit10 : PySem.W.kitOne K (.ref C_TooLarge) (.ref C_NoIndex) = some false)
  (kit11 : PySem.W.kitOne K (.ref C_TooLarge) (.ref C_TooLarge) = some true)
  (kit12 : PySem.W.kitOne K (.ref C_NoMinute) (.type "ValueError") = some true)
  (kit13 : PySem.W.kitOne K (.ref C_NoIndex) (.type "ValueError") = some true)
  (kit14 : PySem.W.kitOne K (.ref C_TooLarge) (.type "ValueError") = some true)
  (kit15 : PySem.W.kitAny K (.ref C_NoMinute) ([C_BadLamp, C_BadMotions, C_NoCount, C_TooMany].map Value.ref) = some false)
  (kit16 : PySem.W.kitAny K (.ref C_NoIndex) ([C_BadLamp, C_BadMotions, C_NoCount, C_TooMany].map Value.ref) = some false)
  (kit17 : PySem.W.kitAny K (.ref C_TooLarge) ([C_BadLamp, C_BadMotions, C_NoCount, C_TooMany].map Value.ref) = some false)
  (z_ValueError : PySem.W.nsIn K mainGlobals "ValueError" = some none)
  (z_abs : PySem.W.nsIn K mainGlobals "abs" = some none)
  (z_bool : PySem.W.nsIn K mainGlobals "bool" = some none)
  (z_enumerate : PySem.W.nsIn K mainGlobals "enumerate" = some none)
  (z_int : PySem.W.nsIn K mainGlobals "int" = some none)
  (z_isinstance : PySem.W.nsIn K mainGlobals "isinstance" = some none)
  (z_len : PySem.W.nsIn K mainGlobals "len" = some none)
  (z_list : PySem.W.nsIn K mainGlobals "list" = some none)
  (z_max : PySem.W.nsIn K mainGlobals "max" = some none)
  (z_min : PySem.W.nsIn K mainGlobals "min" = some none)
  (z_range : PySem.W.nsIn K mainGlobals "range" = some none)
  (z_repr : PySem.W.nsIn K mainGlobals "repr" = some none)
  (z_sum : PySem.W.nsIn K mainGlobals "sum" = some none)
  (z_tuple : PySem.W.nsIn K mainGlobals "tuple" = some none)
  {t_MAX_MINUTE : Tok} (c_MAX_MINUTE : PySem.W.nsIn K mainGlobals "MAX_MINUTE" = some (some (.int 1000000000 t_MAX_MINUTE)))
  {t_MAX_RUNS : Tok} (c_MAX_RUNS : PySem.W.nsIn K mainGlobals "MAX_RUNS" = some (some (.int 360 t_MAX_RUNS)))
  : ∃ (T : All K mg) (kV dc pm : Value) (an : Option Addr) (cd ct : Value), T.fd_law = PySem.W.fnOf "law" "law" (defArgs s_law) (defBody s_law) (defScope s_law) .none kV dc pm an cd ct :=
  ⟨{ f_is_whole := f0, fd_is_whole := _, D_is_whole := ⟨fun_mk (st := s_is_whole) l0 c0 k0, PySem.W.mg_of X G a0, (fun_mk (st := s_is_whole) l0 c0 k0).binds (ps := ["value"]) fun _ _ _ _ _ _ us hl => match us, hl with | [_], _ => rfl⟩,
     f_is_minute := f1, fd_is_minute := _, D_is_minute := ⟨fun_mk (st := s_is_minute) l1 c1 k1, PySem.W.mg_of X G a1, (fun_mk (st := s_is_minute) l1 c1 k1).binds (ps := ["value"]) fun _ _ _ _ _ _ us hl => match us, hl with | [_], _ => rfl⟩,
     f_rounded_up := f2, fd_rounded_up := _, D_rounded_up := ⟨fun_mk (st := s_rounded_up) l2 c2 k2, PySem.W.mg_of X G a2, (fun_mk (st := s_rounded_up) l2 c2 k2).binds (ps := ["number", "by"]) fun _ _ _ _ _ _ us hl => match us, hl with | [_, _], _ => rfl⟩,
     f_at_most := f3, fd_at_most := _, D_at_most := ⟨fun_mk (st := s_at_most) l3 c3 k3, PySem.W.mg_of X G a3, (fun_mk (st := s_at_most) l3 c3 k3).binds (ps := ["limit", "parts"]) fun _ _ _ _ _ _ us hl => match us, hl with | [_, _], _ => rfl⟩,
     f_motions_of := f4, fd_motions_of := _, D_motions_of := ⟨fun_mk (st := s_motions_of) l4 c4 k4, PySem.W.mg_of X G a4, (fun_mk (st := s_motions_of) l4 c4 k4).binds (ps := ["value"]) fun _ _ _ _ _ _ us hl => match us, hl with | [_], _ => rfl⟩,
     f_runs_of := f5, fd_runs_of := _, D_runs_of := ⟨fun_mk (st := s_runs_of) l5 c5 k5, PySem.W.mg_of X G a5, (fun_mk (st := s_runs_of) l5 c5 k5).binds (ps := ["pieces"]) fun _ _ _ _ _ _ us hl => match us, hl with | [_], _ => rfl⟩,
     f_follows := f6, fd_follows := _, D_follows := ⟨fun_mk (st := s_follows) l6 c6 k6, PySem.W.mg_of X G a6, (fun_mk (st := s_follows) l6 c6 k6).binds (ps := ["minute", "run"]) fun _ _ _ _ _ _ us hl => match us, hl with | [_, _], _ => rfl⟩,
     f_count_motions := f7, fd_count_motions := _, D_count_motions := ⟨fun_mk (st := s_count_motions) l7 c7 k7, PySem.W.mg_of X G a7, (fun_mk (st := s_count_motions) l7 c7 k7).binds (ps := ["motions"]) fun _ _ _ _ _ _ us hl => match us, hl with | [_], _ => rfl⟩,
     f_motion_at := f8, fd_motion_at := _, D_motion_at := ⟨fun_mk (st := s_motion_at) l8 c8 k8, PySem.W.mg_of X G a8, (fun_mk (st := s_motion_at) l8 c8 k8).binds (ps := ["motions", "index"]) fun _ _ _ _ _ _ us hl => match us, hl with | [_, _], _ => rfl⟩,
     f_motions_before := f9, fd_motions_before := _, D_motions_before := ⟨fun_mk (st := s_motions_before) l9 c9 k9, PySem.W.mg_of X G a9, (fun_mk (st := s_motions_before) l9 c9 k9).binds (ps := ["motions", "minute"]) fun _ _ _ _ _ _ us hl => match us, hl with | [_, _], _ => rfl⟩,
     f_l_opened := f10, fd_l_opened := _, D_l_opened := ⟨fun_mk (st := s_l_opened) l10 c10 k10, PySem.W.mg_of X G a10, (fun_mk (st := s_l_opened) l10 c10 k10).binds (ps := ["script"]) fun _ _ _ _ _ _ us hl => match us, hl with | [_], _ => rfl⟩,
     f_l_draw := f11, fd_l_draw := _, D_l_draw := ⟨fun_mk (st := s_l_draw) l11 c11 k11, PySem.W.mg_of X G a11, (fun_mk (st := s_l_draw) l11 c11 k11).binds (ps := ["pot", "many"]) fun _ _ _ _ _ _ us hl => match us, hl with | [_, _], _ => rfl⟩,
     f_l_one := f12, fd_l_one := _, D_l_one := ⟨fun_mk (st := s_l_one) l12 c12 k12, PySem.W.mg_of X G a12, (fun_mk (st := s_l_one) l12 c12 k12).binds (ps := ["pot", "items"]) fun _ _ _ _ _ _ us hl => match us, hl with | [_, _], _ => rfl⟩,
     f_l_minutes := f13, fd_l_minutes := _, D_l_minutes := ⟨fun_mk (st := s_l_minutes) l13 c13 k13, PySem.W.mg_of X G a13, (fun_mk (st := s_l_minutes) l13 c13 k13).binds (ps := ["pot", "upto"]) fun _ _ _ _ _ _ us hl => match us, hl with | [_, _], _ => rfl⟩,
     f_l_far_runs := f14, fd_l_far_runs := _, D_l_far_runs := ⟨fun_mk (st := s_l_far_runs) l14 c14 k14, PySem.W.mg_of X G a14, (fun_mk (st := s_l_far_runs) l14 c14 k14).binds (ps := ["pot", "upto"]) fun _ _ _ _ _ _ us hl => match us, hl with | [_, _], _ => rfl⟩,
     f_l_odd := f15, fd_l_odd := _, D_l_odd := ⟨fun_mk (st := s_l_odd) l15 c15 k15, PySem.W.mg_of X G a15, (fun_mk (st := s_l_odd) l15 c15 k15).binds (ps := ["pot"]) fun _ _ _ _ _ _ us hl => match us, hl with | [_], _ => rfl⟩,
     f_l_whole := f16, fd_l_whole := _, D_l_whole := ⟨fun_mk (st := s_l_whole) l16 c16 k16, PySem.W.mg_of X G a16, (fun_mk (st := s_l_whole) l16 c16 k16).binds (ps := ["value", "low", "high"]) fun _ _ _ _ _ _ us hl => match us, hl with | [_, _, _], _ => rfl⟩,
     f_l_told := f17, fd_l_told := _, D_l_told := ⟨fun_mk (st := s_l_told) l17 c17 k17, PySem.W.mg_of X G a17, (fun_mk (st := s_l_told) l17 c17 k17).binds (ps := ["way", "one", "other"]) fun _ _ _ _ _ _ us hl => match us, hl with | [_, _, _], _ => rfl⟩,
     f_l_due := f18, fd_l_due := _, D_l_due := ⟨fun_mk (st := s_l_due) l18 c18 k18, PySem.W.mg_of X G a18, (fun_mk (st := s_l_due) l18 c18 k18).binds (ps := ["value"]) fun _ _ _ _ _ _ us hl => match us, hl with | [_], _ => rfl⟩,
     f_l_spread_out := f19, fd_l_spread_out := _, D_l_spread_out := ⟨fun_mk (st := s_l_spread_out) l19 c19 k19, PySem.W.mg_of X G a19, (fun_mk (st := s_l_spread_out) l19 c19 k19).binds (ps := ["count", "shift"]) fun _ _ _ _ _ _ us hl => match us, hl with | [_, _], _ => rfl⟩,
     f_l_numbers_right := f20, fd_l_numbers_right := _, D_l_numbers_right := ⟨fun_mk (st := s_l_numbers_right) l20 c20 k20, PySem.W.mg_of X G a20, (fun_mk (st := s_l_numbers_right) l20 c20 k20).binds (ps := ["pot", "runs"]) fun _ _ _ _ _ _ us hl => match us, hl with | [_, _], _ => rfl⟩,
     f_law := f21, fd_law := _, D_law := ⟨fun_mk (st := s_law) l21 c21 k21, PySem.W.mg_of X G a21, (fun_mk (st := s_law) l21 c21 k21).binds (ps := ["script"]) fun _ _ _ _ _ _ us hl => match us, hl with | [_], _ => rfl⟩,
     C_LampError := C_LampError, g_LampError := PySem.W.mg_of X G gc_LampError,
     C_BadLamp := C_BadLamp, g_BadLamp := PySem.W.mg_of X G gc_BadLamp,
     fI_BadLamp := fI_BadLamp, fdI_BadLamp := _, X_BadLamp := ⟨PySem.W.mg_of X G gc_BadLamp, ⟨⟨_, _, _, _, _, _, _, _, _, _, _, _, _, _, _, xL_BadLamp, by rfl⟩, sa_BadLamp, eC_BadLamp, tC_BadLamp, kC_BadLamp⟩, iC_BadLamp, tI_BadLamp, no_BadLamp, ⟨ga_BadLamp, gg_BadLamp, eC_BadLamp, hd_BadLamp⟩, ⟨ha_BadLamp, hn_BadLamp, ht_BadLamp, hm_BadLamp⟩, fun_mk (st := s_X_BadLamp) lI_BadLamp cI_BadLamp kI_BadLamp, (fun_mk (st := s_X_BadLamp) lI_BadLamp cI_BadLamp kI_BadLamp).binds (ps := ["self", "value"]) fun _ _ _ _ _ _ us hl => match us, hl with | [_, _], _ => rfl⟩,
     C_BadMotions := C_BadMotions, g_BadMotions := PySem.W.mg_of X G gc_BadMotions,
     fI_BadMotions := fI_BadMotions, fdI_BadMotions := _, X_BadMotions := ⟨PySem.W.mg_of X G gc_BadMotions, ⟨⟨_, _, _, _, _, _, _, _, _, _, _, _, _, _, _, xL_BadMotions, by rfl⟩, sa_BadMotions, eC_BadMotions, tC_BadMotions, kC_BadMotions⟩, iC_BadMotions, tI_BadMotions, no_BadMotions, ⟨ga_BadMotions, gg_BadMotions, eC_BadMotions, hd_BadMotions⟩, ⟨ha_BadMotions, hn_BadMotions, ht_BadMotions, hm_BadMotions⟩, fun_mk (st := s_X_BadMotions) lI_BadMotions cI_BadMotions kI_BadMotions, (fun_mk (st := s_X_BadMotions) lI_BadMotions cI_BadMotions kI_BadMotions).binds (ps := ["self", "error"]) fun _ _ _ _ _ _ us hl => match us, hl with | [_, _], _ => rfl⟩,
     C_NoCount := C_NoCount, g_NoCount := PySem.W.mg_of X G gc_NoCount,
     fI_NoCount := fI_NoCount, fdI_NoCount := _, X_NoCount := ⟨PySem.W.mg_of X G gc_NoCount, ⟨⟨_, _, _, _, _, _, _, _, _, _, _, _, _, _, _, xL_NoCount, by rfl⟩, sa_NoCount, eC_NoCount, tC_NoCount, kC_NoCount⟩, iC_NoCount, tI_NoCount, no_NoCount, ⟨ga_NoCount, gg_NoCount, eC_NoCount, hd_NoCount⟩, ⟨ha_NoCount, hn_NoCount, ht_NoCount, hm_NoCount⟩, fun_mk (st := s_X_NoCount) lI_NoCount cI_NoCount kI_NoCount, (fun_mk (st := s_X_NoCount) lI_NoCount cI_NoCount kI_NoCount).binds (ps := ["self", "value"]) fun _ _ _ _ _ _ us hl => match us, hl with | [_, _], _ => rfl⟩,
     C_NoIndex := C_NoIndex, g_NoIndex := PySem.W.mg_of X G gc_NoIndex,
     fI_NoIndex := fI_NoIndex, fdI_NoIndex := _, X_NoIndex := ⟨PySem.W.mg_of X G gc_NoIndex, ⟨⟨_, _, _, _, _, _, _, _, _, _, _, _, _, _, _, xL_NoIndex, by rfl⟩, sa_NoIndex, eC_NoIndex, tC_NoIndex, kC_NoIndex⟩, iC_NoIndex, tI_NoIndex, no_NoIndex, ⟨ga_NoIndex, gg_NoIndex, eC_NoIndex, hd_NoIndex⟩, ⟨ha_NoIndex, hn_NoIndex, ht_NoIndex, hm_NoIndex⟩, fun_mk (st := s_X_NoIndex) lI_NoIndex cI_NoIndex kI_NoIndex, (fun_mk (st := s_X_NoIndex) lI_NoIndex cI_NoIndex kI_NoIndex).binds (ps := ["self", "index"]) fun _ _ _ _ _ _ us hl => match us, hl with | [_, _], _ => rfl⟩,
     C_NoMinute := C_NoMinute, g_NoMinute := PySem.W.mg_of X G gc_NoMinute,
     fI_NoMinute := fI_NoMinute, fdI_NoMinute := _, X_NoMinute := ⟨PySem.W.mg_of X G gc_NoMinute, ⟨⟨_, _, _, _, _, _, _, _, _, _, _, _, _, _, _, xL_NoMinute, by rfl⟩, sa_NoMinute, eC_NoMinute, tC_NoMinute, kC_NoMinute⟩, iC_NoMinute, tI_NoMinute, no_NoMinute, ⟨ga_NoMinute, gg_NoMinute, eC_NoMinute, hd_NoMinute⟩, ⟨ha_NoMinute, hn_NoMinute, ht_NoMinute, hm_NoMinute⟩, fun_mk (st := s_X_NoMinute) lI_NoMinute cI_NoMinute kI_NoMinute, (fun_mk (st := s_X_NoMinute) lI_NoMinute cI_NoMinute kI_NoMinute).binds (ps := ["self", "value"]) fun _ _ _ _ _ _ us hl => match us, hl with | [_, _], _ => rfl⟩,
     C_TooLarge := C_TooLarge, g_TooLarge := PySem.W.mg_of X G gc_TooLarge,
     fI_TooLarge := fI_TooLarge, fdI_TooLarge := _, X_TooLarge := ⟨PySem.W.mg_of X G gc_TooLarge, ⟨⟨_, _, _, _, _, _, _, _, _, _, _, _, _, _, _, xL_TooLarge, by rfl⟩, sa_TooLarge, eC_TooLarge, tC_TooLarge, kC_TooLarge⟩, iC_TooLarge, tI_TooLarge, no_TooLarge, ⟨ga_TooLarge, gg_TooLarge, eC_TooLarge, hd_TooLarge⟩, ⟨ha_TooLarge, hn_TooLarge, ht_TooLarge, hm_TooLarge⟩, fun_mk (st := s_X_TooLarge) lI_TooLarge cI_TooLarge kI_TooLarge, (fun_mk (st := s_X_TooLarge) lI_TooLarge cI_TooLarge kI_TooLarge).binds (ps := ["self", "limit"]) fun _ _ _ _ _ _ us hl => match us, hl with | [_, _], _ => rfl⟩,
     C_TooMany := C_TooMany, g_TooMany := PySem.W.mg_of X G gc_TooMany,
     fI_TooMany := fI_TooMany, fdI_TooMany := _, X_TooMany := ⟨PySem.W.mg_of X G gc_TooMany, ⟨⟨_, _, _, _, _, _, _, _, _, _, _, _, _, _, _, xL_TooMany, by rfl⟩, sa_TooMany, eC_TooMany, tC_TooMany, kC_TooMany⟩, iC_TooMany, tI_TooMany, no_TooMany, ⟨ga_TooMany, gg_TooMany, eC_TooMany, hd_TooMany⟩, ⟨ha_TooMany, hn_TooMany, ht_TooMany, hm_TooMany⟩, fun_mk (st := s_X_TooMany) lI_TooMany cI_TooMany kI_TooMany, (fun_mk (st := s_X_TooMany) lI_TooMany cI_TooMany kI_TooMany).binds (ps := ["self", "limit"]) fun _ _ _ _ _ _ us hl => match us, hl with | [_, _], _ => rfl⟩,
     kit0 := kit0,
     kit1 := kit1,
     kit2 := kit2,
     kit3 := kit3,
     kit4 := kit4,
     kit5 := kit5,
     kit6 := kit6,
     kit7 := kit7,
     kit8 := kit8,
     kit9 := kit9,
     kit10 := kit10,
     kit11 := kit11,
     kit12 := kit12,
     kit13 := kit13,
     kit14 := kit14,
     kit15 := kit15,
     kit16 := kit16,
     kit17 := kit17,
     z_ValueError := PySem.W.mg_none_of X G z_ValueError,
     z_abs := PySem.W.mg_none_of X G z_abs,
     z_bool := PySem.W.mg_none_of X G z_bool,
     z_enumerate := PySem.W.mg_none_of X G z_enumerate,
     z_int := PySem.W.mg_none_of X G z_int,
     z_isinstance := PySem.W.mg_none_of X G z_isinstance,
     z_len := PySem.W.mg_none_of X G z_len,
     z_list := PySem.W.mg_none_of X G z_list,
     z_max := PySem.W.mg_none_of X G z_max,
     z_min := PySem.W.mg_none_of X G z_min,
     z_range := PySem.W.mg_none_of X G z_range,
     z_repr := PySem.W.mg_none_of X G z_repr,
     z_sum := PySem.W.mg_none_of X G z_sum,
     z_tuple := PySem.W.mg_none_of X G z_tuple,
     t_MAX_MINUTE := t_MAX_MINUTE, c_MAX_MINUTE := PySem.W.mg_of X G c_MAX_MINUTE,
     t_MAX_RUNS := t_MAX_RUNS, c_MAX_RUNS := PySem.W.mg_of X G c_MAX_RUNS }, _, _, _, _, _, _, rfl⟩
theorem law_end {l : PySem.W.OpenLaw} {w : World} {K : PySem.W.Frag} {mg : Str → Option Value} {fa : Addr} (hmg : mg "law" = some (.ref fa))
    (M : ∃ (T : All K mg) (kV dc pm : Value) (an : Option Addr) (cd ct : Value), T.fd_law = PySem.W.fnOf "law" "law" (defArgs s_law) (defBody s_law) (defScope s_law) .none kV dc pm an cd ct) :
    ∃ fd : FuncData, (∀ (s : Shared) (u : Value), BindsTo s fd ⟨[u], []⟩ [("script", u)]) ∧ ∀ base : Heap, K.In base → base.Ns mainGlobals mg → FnG l.prog w K mg base CX0 8 fa fd ["script"] (sp_law K) := by
  obtain ⟨T, kV, dc, pm, an, cd, ct, hfd⟩ := M
  have e : T.f_law = fa := by
    have h := T.D_law.g
    rw [hmg] at h
    exact (Value.ref.inj (Option.some.inj h)).symm
  refine ⟨T.fd_law, fun s u => ?_, fun base _ _ => ?_⟩
  · rw [hfd]
    exact BindsTo.of_eq rfl
  · rw [← e]
    exact ok_law T
end Lg
open PySem PySem.W PyProof.Rows
set_option maxRecDepth 100000 in
set_option maxHeartbeats 0 in
theorem PySem.Challenge.cw_lampstays_k06_motions_numbered_holds : PySem.Challenge.rw_lampstays_k06_motions_numbered.Holds := by
  w_on; o_law; k_head; (case hw => w_witness2)
  k_fill
  refine Lm.walkG (l := PySem.Challenge.rw_lampstays_k06_motions_numbered) (n := 63) (k := 8) (sp := Lm.sp_law) (x := "script") rfl (by decide) rfl ⟨rfl, by decide, by decide⟩ (fun w h Y => PySem.W.kIn_of Y) ?F Lm.sp_law_ok
  case F =>
    intro w mg fa h KX G hmg
    refine Lg.law_end (l := PySem.Challenge.rw_lampstays_k06_motions_numbered) hmg ?lmT
    case lmT =>
      refine' Lg.all_mk KX G ?a0 ?l0 ?c0 ?k0 ?a1 ?l1 ?c1 ?k1 ?a2 ?l2 ?c2 ?k2 ?a3 ?l3 ?c3 ?k3 ?a4 ?l4 ?c4 ?k4 ?a5 ?l5 ?c5 ?k5 ?a6 ?l6 ?c6 ?k6 ?a7 ?l7 ?c7 ?k7 ?a8 ?l8 ?c8 ?k8 ?a9 ?l9 ?c9 ?k9 ?a10 ?l10 ?c10 ?k10 ?a11 ?l11 ?c11 ?k11 ?a12 ?l12 ?c12 ?k12 ?a13 ?l13 ?c13 ?k13 ?a14 ?l14 ?c14 ?k14 ?a15 ?l15 ?c15 ?k15 ?a16 ?l16 ?c16 ?k16 ?a17 ?l17 ?c17 ?k17 ?a18 ?l18 ?c18 ?k18 ?a19 ?l19 ?c19 ?k19 ?a20 ?l20 ?c20 ?k20 ?a21 ?l21 ?c21 ?k21 ?gc_LampError ?gc_BadLamp ?xL_BadLamp ?sa_BadLamp ?eC_BadLamp ?tC_BadLamp ?kC_BadLamp ?iC_BadLamp ?tI_BadLamp ?no_BadLamp ?ga_BadLamp ?gg_BadLamp ?hd_BadLamp ?ha_BadLamp ?hn_BadLamp ?ht_BadLamp ?hm_BadLamp ?lI_BadLamp ?cI_BadLamp ?kI_BadLamp ?gc_BadMotions ?xL_BadMotions ?sa_BadMotions ?eC_BadMotions ?tC_BadMotions ?kC_BadMotions ?iC_BadMotions ?tI_BadMotions ?no_BadMotions ?ga_BadMotions ?gg_BadMotions ?hd_BadMotions ?ha_BadMotions ?hn_BadMotions ?ht_BadMotions ?hm_BadMotions ?lI_BadMotions ?cI_BadMotions ?kI_BadMotions ?gc_NoCount ?xL_NoCount ?sa_NoCount ?eC_NoCount ?tC_NoCount ?kC_NoCount ?iC_NoCount ?tI_NoCount ?no_NoCount ?ga_NoCount ?gg_NoCount ?hd_NoCount ?ha_NoCount ?hn_NoCount ?ht_NoCount ?hm_NoCount ?lI_NoCount ?cI_NoCount ?kI_NoCount ?gc_NoIndex ?xL_NoIndex ?sa_NoIndex ?eC_NoIndex ?tC_NoIndex ?kC_NoIndex ?iC_NoIndex ?tI_NoIndex ?no_NoIndex ?ga_NoIndex ?gg_NoIndex ?hd_NoIndex ?ha_NoIndex ?hn_NoIndex ?ht_NoIndex ?hm_NoIndex ?lI_NoIndex ?cI_NoIndex ?kI_NoIndex ?gc_NoMinute ?xL_NoMinute ?sa_NoMinute ?eC_NoMinute ?tC_NoMinute ?kC_NoMinute ?iC_NoMinute ?tI_NoMinute ?no_NoMinute ?ga_NoMinute ?gg_NoMinute ?hd_NoMinute ?ha_NoMinute ?hn_NoMinute ?ht_NoMinute ?hm_NoMinute ?lI_NoMinute ?cI_NoMinute ?kI_NoMinute ?gc_TooLarge ?xL_TooLarge ?sa_TooLarge ?eC_TooLarge ?tC_TooLarge ?kC_TooLarge ?iC_TooLarge ?tI_TooLarge ?no_TooLarge ?ga_TooLarge ?gg_TooLarge ?hd_TooLarge ?ha_TooLarge ?hn_TooLarge ?ht_TooLarge ?hm_TooLarge ?lI_TooLarge ?cI_TooLarge ?kI_TooLarge ?gc_TooMany ?xL_TooMany ?sa_TooMany ?eC_TooMany ?tC_TooMany ?kC_TooMany ?iC_TooMany ?tI_TooMany ?no_TooMany ?ga_TooMany ?gg_TooMany ?hd_TooMany ?ha_TooMany ?hn_TooMany ?ht_TooMany ?hm_TooMany ?lI_TooMany ?cI_TooMany ?kI_TooMany ?kit0 ?kit1 ?kit2 ?kit3 ?kit4 ?kit5 ?kit6 ?kit7 ?kit8 ?kit9 ?kit10 ?kit11 ?kit12 ?kit13 ?kit14 ?kit15 ?kit16 ?kit17 ?z_ValueError ?z_abs ?z_bool ?z_enumerate ?z_int ?z_isinstance ?z_len ?z_list ?z_max ?z_min ?z_range ?z_repr ?z_sum ?z_tuple ?c_MAX_MINUTE ?c_MAX_RUNS
      (case a0 => k_is)
      (case l0 => k_is)
      (case c0 => k_is)
      (case k0 => k_is)
      (case a1 => k_is)
      (case l1 => k_is)
      (case c1 => k_is)
      (case k1 => k_is)
      (case a2 => k_is)
      (case l2 => k_is)
      (case c2 => k_is)
      (case k2 => k_is)
      (case a3 => k_is)
      (case l3 => k_is)
      (case c3 => k_is)
      (case k3 => k_is)
      (case a4 => k_is)
      (case l4 => k_is)
      (case c4 => k_is)
      (case k4 => k_is)
      (case a5 => k_is)
      (case l5 => k_is)
      (case c5 => k_is)
      (case k5 => k_is)
      (case a6 => k_is)
      (case l6 => k_is)
      (case c6 => k_is)
      (case k6 => k_is)
      (case a7 => k_is)
      (case l7 => k_is)
      (case c7 => k_is)
      (case k7 => k_is)
      (case a8 => k_is)
      (case l8 => k_is)
      (case c8 => k_is)
      (case k8 => k_is)
      (case a9 => k_is)
      (case l9 => k_is)
      (case c9 => k_is)
      (case k9 => k_is)
      (case a10 => k_is)
      (case l10 => k_is)
      (case c10 => k_is)
      (case k10 => k_is)
      (case a11 => k_is)
      (case l11 => k_is)
      (case c11 => k_is)
      (case k11 => k_is)
      (case a12 => k_is)
      (case l12 => k_is)
      (case c12 => k_is)
      (case k12 => k_is)
      (case a13 => k_is)
      (case l13 => k_is)
      (case c13 => k_is)
      (case k13 => k_is)
      (case a14 => k_is)
      (case l14 => k_is)
      (case c14 => k_is)
      (case k14 => k_is)
      (case a15 => k_is)
      (case l15 => k_is)
      (case c15 => k_is)
      (case k15 => k_is)
      (case a16 => k_is)
      (case l16 => k_is)
      (case c16 => k_is)
      (case k16 => k_is)
      (case a17 => k_is)
      (case l17 => k_is)
      (case c17 => k_is)
      (case k17 => k_is)
      (case a18 => k_is)
      (case l18 => k_is)
      (case c18 => k_is)
      (case k18 => k_is)
      (case a19 => k_is)
      (case l19 => k_is)
      (case c19 => k_is)
      (case k19 => k_is)
      (case a20 => k_is)
      (case l20 => k_is)
      (case c20 => k_is)
      (case k20 => k_is)
      (case a21 => k_is)
      (case l21 => k_is)
      (case c21 => k_is)
      (case k21 => k_is)
      (case gc_LampError => k_is)
      (case gc_BadLamp => k_is)
      (case xL_BadLamp => k_is)
      (case sa_BadLamp => k_is)
      (case eC_BadLamp => k_is)
      (case tC_BadLamp => k_is)
      (case kC_BadLamp => k_is)
      (case iC_BadLamp => k_is)
      (case tI_BadLamp => k_is)
      (case no_BadLamp => k_is)
      (case ga_BadLamp => k_is)
      (case gg_BadLamp => k_is)
      (case hd_BadLamp => k_is)
      (case ha_BadLamp => k_is)
      (case hn_BadLamp => k_is)
      (case ht_BadLamp => k_is)
      (case hm_BadLamp => k_is)
      (case lI_BadLamp => k_is)
      (case cI_BadLamp => k_is)
      (case kI_BadLamp => k_is)
      (case gc_BadMotions => k_is)
      (case xL_BadMotions => k_is)
      (case sa_BadMotions => k_is)
      (case eC_BadMotions => k_is)
      (case tC_BadMotions => k_is)
      (case kC_BadMotions => k_is)
      (case iC_BadMotions => k_is)
      (case tI_BadMotions => k_is)
      (case no_BadMotions => k_is)
      (case ga_BadMotions => k_is)
      (case gg_BadMotions => k_is)
      (case hd_BadMotions => k_is)
      (case ha_BadMotions => k_is)
      (case hn_BadMotions => k_is)
      (case ht_BadMotions => k_is)
      (case hm_BadMotions => k_is)
      (case lI_BadMotions => k_is)
      (case cI_BadMotions => k_is)
      (case kI_BadMotions => k_is)
      (case gc_NoCount => k_is)
      (case xL_NoCount => k_is)
      (case sa_NoCount => k_is)
      (case eC_NoCount => k_is)
      (case tC_NoCount => k_is)
      (case kC_NoCount => k_is)
      (case iC_NoCount => k_is)
      (case tI_NoCount => k_is)
      (case no_NoCount => k_is)
      (case ga_NoCount => k_is)
      (case gg_NoCount => k_is)
      (case hd_NoCount => k_is)
      (case ha_NoCount => k_is)
      (case hn_NoCount => k_is)
      (case ht_NoCount => k_is)
      (case hm_NoCount => k_is)
      (case lI_NoCount => k_is)
      (case cI_NoCount => k_is)
      (case kI_NoCount => k_is)
      (case gc_NoIndex => k_is)
      (case xL_NoIndex => k_is)
      (case sa_NoIndex => k_is)
      (case eC_NoIndex => k_is)
      (case tC_NoIndex => k_is)
      (case kC_NoIndex => k_is)
      (case iC_NoIndex => k_is)
      (case tI_NoIndex => k_is)
      (case no_NoIndex => k_is)
      (case ga_NoIndex => k_is)
      (case gg_NoIndex => k_is)
      (case hd_NoIndex => k_is)
      (case ha_NoIndex => k_is)
      (case hn_NoIndex => k_is)
      (case ht_NoIndex => k_is)
      (case hm_NoIndex => k_is)
      (case lI_NoIndex => k_is)
      (case cI_NoIndex => k_is)
      (case kI_NoIndex => k_is)
      (case gc_NoMinute => k_is)
      (case xL_NoMinute => k_is)
      (case sa_NoMinute => k_is)
      (case eC_NoMinute => k_is)
      (case tC_NoMinute => k_is)
      (case kC_NoMinute => k_is)
      (case iC_NoMinute => k_is)
      (case tI_NoMinute => k_is)
      (case no_NoMinute => k_is)
      (case ga_NoMinute => k_is)
      (case gg_NoMinute => k_is)
      (case hd_NoMinute => k_is)
      (case ha_NoMinute => k_is)
      (case hn_NoMinute => k_is)
      (case ht_NoMinute => k_is)
      (case hm_NoMinute => k_is)
      (case lI_NoMinute => k_is)
      (case cI_NoMinute => k_is)
      (case kI_NoMinute => k_is)
      (case gc_TooLarge => k_is)
      (case xL_TooLarge => k_is)
      (case sa_TooLarge => k_is)
      (case eC_TooLarge => k_is)
      (case tC_TooLarge => k_is)
      (case kC_TooLarge => k_is)
      (case iC_TooLarge => k_is)
      (case tI_TooLarge => k_is)
      (case no_TooLarge => k_is)
      (case ga_TooLarge => k_is)
      (case gg_TooLarge => k_is)
      (case hd_TooLarge => k_is)
      (case ha_TooLarge => k_is)
      (case hn_TooLarge => k_is)
      (case ht_TooLarge => k_is)
      (case hm_TooLarge => k_is)
      (case lI_TooLarge => k_is)
      (case cI_TooLarge => k_is)
      (case kI_TooLarge => k_is)
      (case gc_TooMany => k_is)
      (case xL_TooMany => k_is)
      (case sa_TooMany => k_is)
      (case eC_TooMany => k_is)
      (case tC_TooMany => k_is)
      (case kC_TooMany => k_is)
      (case iC_TooMany => k_is)
      (case tI_TooMany => k_is)
      (case no_TooMany => k_is)
      (case ga_TooMany => k_is)
      (case gg_TooMany => k_is)
      (case hd_TooMany => k_is)
      (case ha_TooMany => k_is)
      (case hn_TooMany => k_is)
      (case ht_TooMany => k_is)
      (case hm_TooMany => k_is)
      (case lI_TooMany => k_is)
      (case cI_TooMany => k_is)
      (case kI_TooMany => k_is)
      (case kit0 => first | kit_is | kts_exm)
      (case kit1 => first | kit_is | kts_exm)
      (case kit2 => first | kit_is | kts_exm)
      (case kit3 => first | kit_is | kts_exm)
      (case kit4 => first | kit_is | kts_exm)
      (case kit5 => first | kit_is | kts_exm)
      (case kit6 => first | kit_is | kts_exm)
      (case kit7 => first | kit_is | kts_exm)
      (case kit8 => first | kit_is | kts_exm)
      (case kit9 => first | kit_is | kts_exm)
      (case kit10 => first | kit_is | kts_exm)
      (case kit11 => first | kit_is | kts_exm)
      (case kit12 => first | kit_is | kts_exm)
      (case kit13 => first | kit_is | kts_exm)
      (case kit14 => first | kit_is | kts_exm)
      (case kit15 => first | kit_is | kts_exm)
      (case kit16 => first | kit_is | kts_exm)
      (case kit17 => first | kit_is | kts_exm)
      (case z_ValueError => k_is)
      (case z_abs => k_is)
      (case z_bool => k_is)
      (case z_enumerate => k_is)
      (case z_int => k_is)
      (case z_isinstance => k_is)
      (case z_len => k_is)
      (case z_list => k_is)
      (case z_max => k_is)
      (case z_min => k_is)
      (case z_range => k_is)
      (case z_repr => k_is)
      (case z_sum => k_is)
      (case z_tuple => k_is)
      (case c_MAX_MINUTE => k_is)
      (case c_MAX_RUNS => k_is)
