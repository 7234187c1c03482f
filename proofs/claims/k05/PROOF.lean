import PyProof.Rows.All
import Wide.All
import OpenK.AllK
import Wide.FinOn
import HandS.ForMost
import HandS.IsInst
import HandS.TupAny
import HandS.More
import HandS.Flow
import HandS.Style
import KE.GoesMore
import HandS.Walk
import PyProof.EqKinds
import KE.KEqDict
import HandS.Wide
import HandS.TryOnly
import KE.KExcIs
import HandS.ExcInit
import HandS.ExcIs
import HandS.ExcField
import HandS.ExcOwn
import HandS.WordsExc
import PySem.Challenge.RW_lampstays_k05_far_logs
set_option Elab.async false
set_option linter.all false
set_option maxRecDepth 100000
set_option maxHeartbeats 4000000
namespace Lm
open PySem PySem.Spec PyProof.Rows L2
/-! ### data at values: None, bools, ints, texts, lists, tuples, dicts -/
def kD : L2.Key → PyData
  | .inl i => .int i
  | .inr x => .str x
mutual
inductive Dq (K : PySem.W.Frag) (H : Hp) : V → PyData → Prop
  | non : Dq K H .non .none
  | bl (b : Bool) : Dq K H (.bl b) (.bool b)
  | int (i : Int) : Dq K H (.int i) (.int i)
  | str (x : Str) : Dq K H (.str x) (.str x)
  | lst {a : Addr} {xs : List V} {ds : List PyData} : SqL K H a xs → Dqs K H xs ds → Dq K H (.ref a) (.list ds)
  | tup {a : Addr} {xs : List V} {ds : List PyData} : SqT K H a xs → Dqs K H xs ds → Dq K H (.ref a) (.tuple ds)
  | dct {a : Addr} {kvs : List (L2.Key × V)} {ds : List PyData} : H a = some (.dK kvs) → Dqs K H (kvs.map (·.2)) ds → Dq K H (.ref a) (.dict ((kvs.map fun kv => kD kv.1).zip ds))
inductive Dqs (K : PySem.W.Frag) (H : Hp) : List V → List PyData → Prop
  | nil : Dqs K H [] []
  | cons {v : V} {vs : List V} {d : PyData} {ds : List PyData} : Dq K H v d → Dqs K H vs ds → Dqs K H (v :: vs) (d :: ds)
end
theorem Dqs.len {K : PySem.W.Frag} {H : Hp} : ∀ {vs : List V} {ds : List PyData}, Dqs K H vs ds → vs.length = ds.length
  | _, _, .nil => rfl
  | _, _, .cons _ t => congrArg Nat.succ (Dqs.len t)
theorem Dqs.get {K : PySem.W.Frag} {H : Hp} : ∀ {vs : List V} {ds : List PyData} {i : Nat} {v : V}, Dqs K H vs ds → vs[i]? = some v → ∃ d, ds[i]? = some d ∧ Dq K H v d
  | _, _, _, _, .nil, e => by simp at e
  | _, _, 0, _, .cons r _, e => by simp at e; subst e; exact ⟨_, rfl, r⟩
  | _, _, i + 1, v, .cons _ t, e => by
    obtain ⟨u, h1, h2⟩ := Dqs.get (i := i) (v := v) t (by simpa using e)
    exact ⟨u, by simpa using h1, h2⟩
theorem Dqs.app {K : PySem.W.Frag} {H : Hp} : ∀ {xs ys : List V} {ds es : List PyData}, Dqs K H xs ds → Dqs K H ys es → Dqs K H (xs ++ ys) (ds ++ es)
  | _, _, _, _, .nil, s => s
  | _, _, _, _, .cons r t, s => .cons r (Dqs.app t s)
theorem Dqs.take {K : PySem.W.Frag} {H : Hp} : ∀ {xs : List V} {ds : List PyData} (n : Nat), Dqs K H xs ds → Dqs K H (xs.take n) (ds.take n)
  | _, _, 0, _ => .nil
  | _, _, _ + 1, .nil => .nil
  | _, _, n + 1, .cons r t => .cons r (Dqs.take n t)
theorem Dqs.drop {K : PySem.W.Frag} {H : Hp} : ∀ {xs : List V} {ds : List PyData} (n : Nat), Dqs K H xs ds → Dqs K H (xs.drop n) (ds.drop n)
  | _, _, 0, r => r
  | _, _, _ + 1, .nil => .nil
  | _, _, n + 1, .cons _ t => Dqs.drop n t
theorem Dqs.rev {K : PySem.W.Frag} {H : Hp} : ∀ {xs : List V} {ds : List PyData}, Dqs K H xs ds → Dqs K H xs.reverse ds.reverse
  | _, _, .nil => .nil
  | _, _, .cons r t => by
    rw [List.reverse_cons, List.reverse_cons]
    exact Dqs.app (Dqs.rev t) (.cons r .nil)
theorem Same.seqT {K : PySem.W.Frag} {H H' : Hp} {a : Addr} {xs : List V} (e : Same H H') (h : SqT K H a xs) : SqT K H' a xs := by
  rcases h with (h | ⟨o, h⟩) | h
  · exact .inl (.inl (e a _ h))
  · exact .inl (.inr ⟨o, e a _ h⟩)
  · exact .inr h
mutual
theorem Dq.mono {K : PySem.W.Frag} {H H' : Hp} (s : Same H H') : ∀ {v : V} {d : PyData}, Dq K H v d → Dq K H' v d
  | _, _, .non => .non
  | _, _, .bl b => .bl b
  | _, _, .int i => .int i
  | _, _, .str x => .str x
  | _, _, .lst h t => .lst (s.seq h) (Dqs.mono s t)
  | _, _, .tup h t => .tup (Same.seqT s h) (Dqs.mono s t)
  | _, _, .dct h t => .dct (s _ _ h) (Dqs.mono s t)
theorem Dqs.mono {K : PySem.W.Frag} {H H' : Hp} (s : Same H H') : ∀ {vs : List V} {ds : List PyData}, Dqs K H vs ds → Dqs K H' vs ds
  | _, _, .nil => .nil
  | _, _, .cons h t => .cons (Dq.mono s h) (Dqs.mono s t)
end
/-! ### what such a value is in the heap -/
theorem dk_reads {h : Heap} {P : Program} {w : World} : ∀ {xs : List (L2.Key × V)} {vs : List (L2.Key × Value)} {es : List DictEntry}, KV xs vs → Pairs (mixKind P w) es vs →
    ReadsAll h (es.map (·.key)) (xs.map fun kv => kD kv.1) [] ∧ Vals (xs.map (·.2)) (es.map (·.val))
  | _, _, _, .nil, .nil => ⟨.nil, .nil⟩
  | p :: xs, kv :: vs, en :: es, .cons r t, .cons q e u => by
    obtain ⟨h1, h2⟩ := dk_reads (h := h) t u
    obtain ⟨r1, r2⟩ := r
    refine ⟨?_, .cons (by show L2.RelV p.2 en.val; rw [e]; exact r2) h2⟩
    have q' : keyIs kv.1 en.key = true := q
    rw [← r1] at q'
    show ReadsAll h (en.key :: _) (kD p.1 :: _) []
    rcases keyIs_shape q' with ⟨i, t, e1, e2⟩ | ⟨x, t, e1, e2⟩
    · rw [e1, e2]
      exact ReadsAll.cons (as := []) (bs := []) (.int i t) h1
    · rw [e1, e2]
      exact ReadsAll.cons (as := []) (bs := []) (.str x t) h1
section
variable {X : Cx} {pins : List (Addr × Obj)} {σ : L2.St} {H : Hp} {s : Shared}
mutual
theorem Dq.reads (I : Inv X pins σ H s) : ∀ {v : V} {d : PyData} (u : Value), Dq X.K H v d → L2.RelV v u → ∃ as, Reads s.heap u d as
  | _, _, u, .non, r => by cases r; exact ⟨_, .none⟩
  | _, _, u, .bl b, r => by cases r; exact ⟨_, .bool b⟩
  | _, _, u, .int i, r => by obtain ⟨t, rfl⟩ := r; exact ⟨_, .int i t⟩
  | _, _, u, .str x, r => by obtain ⟨t, rfl⟩ := r; exact ⟨_, .str x t⟩
  | _, _, u, .lst hs ha, r => by
    cases r
    obtain ⟨its, rv, ⟨o, n, ho, hc, _, hd⟩, _⟩ := I.list hs
    obtain ⟨as, hr⟩ := Dqs.reads I its ha rv
    exact ⟨_, .list ho hc hd hr⟩
  | _, _, u, .tup hs ha, r => by
    cases r
    obtain ⟨its, rv, ⟨o, ho, hc, n, hd⟩, _⟩ := I.tuple hs
    obtain ⟨as, hr⟩ := Dqs.reads I its ha rv
    exact ⟨_, .tuple ho hc hd hr⟩
  | _, _, u, .dct (kvs := kvs) (ds := ds) hs ha, r => by
    cases r
    obtain ⟨_, hne, vs, kv, o, es, ep, ho, ex, hd, _, pr, _⟩ := I.hok _ _ hs
    obtain ⟨h1, h2⟩ := dk_reads (h := s.heap) kv pr
    obtain ⟨bs, hr⟩ := Dqs.reads I _ ha h2
    have hl := ha.len
    rw [List.length_map] at hl
    refine ⟨_, Reads.dict (as := []) (bs := bs) ho ex.1 hd ?_ ?_⟩
    · rw [List.map_fst_zip (by rw [List.length_map]; omega)]
      exact h1
    · rw [List.map_snd_zip (by rw [List.length_map]; omega)]
      exact hr
theorem Dqs.reads (I : Inv X pins σ H s) : ∀ {vs : List V} {ds : List PyData} (us : List Value), Dqs X.K H vs ds → Vals vs us → ∃ as, ReadsAll s.heap us ds as
  | _, _, us, .nil, r => by cases r; exact ⟨_, .nil⟩
  | _, _, us, .cons h1 h2, r => by
    cases r with
    | cons r1 r2 =>
      obtain ⟨as, q1⟩ := Dq.reads I _ h1 r1
      obtain ⟨bs, q2⟩ := Dqs.reads I _ h2 r2
      exact ⟨_, .cons q1 q2⟩
end
/-- keys of a dict have their text at any level -/
theorem keys_reprK {h : Heap} {P : Program} {w : World} : ∀ (xs : List (L2.Key × V)) {vs : List (L2.Key × Value)} {es : List DictEntry} {bs : List Addr} {n : Nat}, KV xs vs → Pairs (mixKind P w) es vs →
    PyData.showableAll (xs.map fun kv => kD kv.1) = true → (∀ t ∈ PyData.shownAll (xs.map fun kv => kD kv.1), t.length ≤ sizeLine) →
    ReprAllK P w bs h n (es.map (·.key)) (PyData.shownAll (xs.map fun kv => kD kv.1))
  | [], _, _, _, _, .nil, .nil, _, _ => .nil
  | p :: xs, kv :: vs, en :: es, bs, n, .cons r t, .cons q e u, hs, hz => by
    have hs' : (kD p.1).showable = true ∧ PyData.showableAll (xs.map fun kv => kD kv.1) = true := by simpa [PyData.showableAll] using hs
    have q' : keyIs kv.1 en.key = true := q
    rw [← r.1] at q'
    have z1 := hz (kD p.1).shown (by simp [PyData.shownAll])
    refine .cons (show ReprK P w bs h n en.key (kD p.1).shown from ?_) (keys_reprK xs t u hs'.2 fun t ht => hz t (by simp only [List.map_cons, PyData.shownAll]; exact List.mem_cons_of_mem _ ht))
    rcases keyIs_shape q' with ⟨i, t, e1, e2⟩ | ⟨x, t, e1, e2⟩
    · rw [e2]
      have y := hs'.1
      rw [e1] at y ⊢
      exact ReprK.of_is (ReprIs.int t (by simpa [PyData.showable, kD] using y)) _ _ _
    · rw [e2]
      rw [e1] at z1 ⊢
      exact ReprK.of_is (ReprIs.str x t (by simpa only [PyData.shown, kD] using z1)) _ _ _
mutual
theorem Dq.textK (I : Inv X pins σ H s) : ∀ {v : V} {d : PyData} (u : Value), Dq X.K H v d → L2.RelV v u → d.showable = true → d.shown.length ≤ sizeLine →
    ∃ bs, ReadAtMost s.heap d.depth bs ∧ ReprK X.prog X.w bs s.heap d.depth u d.shown
  | _, _, u, .non, r, _, _ => by
    cases r
    exact ⟨[], fun _ h => (nomatch h), by simp only [PyData.shown]; exact .of_is ReprIs.none _ _ _⟩
  | _, _, u, .bl b, r, _, _ => by
    cases r
    exact ⟨[], fun _ h => (nomatch h), by simp only [PyData.shown]; exact .of_is (ReprIs.bool b) _ _ _⟩
  | _, _, u, .int i, r, hs, _ => by
    obtain ⟨t, rfl⟩ := r
    exact ⟨[], fun _ h => (nomatch h), by simp only [PyData.shown]; exact .of_is (ReprIs.int t (by simpa [PyData.showable] using hs)) _ _ _⟩
  | _, _, u, .str x, r, _, hz => by
    obtain ⟨t, rfl⟩ := r
    exact ⟨[], fun _ h => (nomatch h), by simp only [PyData.shown]; exact .of_is (ReprIs.str x t (by simpa only [PyData.shown] using hz)) _ _ _⟩
  | _, _, u, .lst (ds := ds) hq ha, r, hs, hz => by
    obtain ⟨as, rd⟩ := Dq.reads I u (.lst hq ha) r
    cases r
    obtain ⟨its, rv, ⟨o, n, ho, hc, _, hd⟩, _⟩ := I.list hq
    have z : (listText (PyData.shownAll ds)).length ≤ sizeLine := by simpa only [PyData.shown] using hz
    obtain ⟨bs, hb, hk⟩ := Dqs.textK I its ha rv (by simpa [PyData.showable] using hs) fun t ht => Nat.le_trans (listText_mem_le ht) z
    have hn := not_mem_of_deeper rd (by simp only [PyData.depth]; omega) hb
    refine ⟨_, ReadAtMost.cons rd (by simp only [PyData.depth]; omega) hb, ?_⟩
    simp only [PyData.depth, PyData.shown]
    cases its with
    | nil =>
      cases rv
      cases ha
      simp only [PyData.shownAll, listText_nil]
      exact ReprK.listEmpty ho hc hd
    | cons x l => exact ReprK.list ho hc hd hn (by simpa using hk.length_eq) fun i y e => hk.item i y (by simpa using e)
  | _, _, u, .tup (ds := ds) hq ha, r, hs, hz => by
    obtain ⟨as, rd⟩ := Dq.reads I u (.tup hq ha) r
    cases r
    obtain ⟨its, rv, ⟨o, ho, hc, n, hd⟩, _⟩ := I.tuple hq
    have z : (tupleText (PyData.shownAll ds)).length ≤ sizeLine := by simpa only [PyData.shown] using hz
    obtain ⟨bs, hb, hk⟩ := Dqs.textK I its ha rv (by simpa [PyData.showable] using hs) fun t ht => Nat.le_trans (tupleText_mem_le ht) z
    have hn := not_mem_of_deeper rd (by simp only [PyData.depth]; omega) hb
    refine ⟨_, ReadAtMost.cons rd (by simp only [PyData.depth]; omega) hb, ?_⟩
    simp only [PyData.depth, PyData.shown]
    exact ReprK.tuple ho hc hd hn hk
  | _, _, u, .dct (kvs := kvs) (ds := ds) hq ha, r, hs, hz => by
    obtain ⟨as, rd⟩ := Dq.reads I u (.dct hq ha) r
    cases r
    obtain ⟨_, hne, vs, kv, o, es, ep, ho, ex, hd, _, pr, _⟩ := I.hok _ _ hq
    have hl := ha.len
    rw [List.length_map] at hl
    have f1 : ((kvs.map fun kv => kD kv.1).zip ds).map (·.1) = kvs.map fun kv => kD kv.1 := List.map_fst_zip (by rw [List.length_map]; omega)
    have f2 : ((kvs.map fun kv => kD kv.1).zip ds).map (·.2) = ds := List.map_snd_zip (by rw [List.length_map]; omega)
    have z : (dictText (PyData.shownKv ((kvs.map fun kv => kD kv.1).zip ds))).length ≤ sizeLine := by simpa only [PyData.shown] using hz
    obtain ⟨s1, s2⟩ := PyData.showableKv_split _ (show PyData.showableKv ((kvs.map fun kv => kD kv.1).zip ds) = true by simpa [PyData.showable] using hs)
    have zk := fun t ht => (let ⟨p, hp, l⟩ := PyData.shownKv_key_le ((kvs.map fun kv => kD kv.1).zip ds) t ht; Nat.le_trans l (Nat.le_trans (dictText_mem_le hp) z))
    have zv := fun t ht => (let ⟨p, hp, l⟩ := PyData.shownKv_val_le ((kvs.map fun kv => kD kv.1).zip ds) t ht; Nat.le_trans l (Nat.le_trans (dictText_mem_le hp) z))
    have dv := PyData.depthAll_vals_le ((kvs.map fun kv => kD kv.1).zip ds)
    rw [f1] at s1 zk
    rw [f2] at s2 zv dv
    obtain ⟨bs, hb, hk⟩ := Dqs.textK I _ ha (dk_reads (h := s.heap) kv pr).2 s2 zv
    have hb' : ReadAtMost s.heap (PyData.depthKv ((kvs.map fun kv => kD kv.1).zip ds)) bs := hb.mono dv
    have hn := not_mem_of_deeper rd (by simp only [PyData.depth]; omega) hb'
    refine ⟨_, ReadAtMost.cons rd (by simp only [PyData.depth]; omega) hb', ?_⟩
    simp only [PyData.depth, PyData.shown, PyData.shownKv_eq, f1, f2]
    exact ReprK.dict ho ex.1 hd hne hn (ReprEntriesK.of_two es.toList _ _ (keys_reprK kvs kv pr s1 zk) (hk.more_le (fun b hb => hb) dv))
theorem Dqs.textK (I : Inv X pins σ H s) : ∀ {vs : List V} {ds : List PyData} (us : List Value), Dqs X.K H vs ds → Vals vs us → PyData.showableAll ds = true → (∀ t ∈ PyData.shownAll ds, t.length ≤ sizeLine) →
    ∃ bs, ReadAtMost s.heap (PyData.depthAll ds) bs ∧ ReprAllK X.prog X.w bs s.heap (PyData.depthAll ds) us (PyData.shownAll ds)
  | _, _, us, .nil, r, _, _ => by
    cases r
    exact ⟨[], fun _ h => (nomatch h), by simp only [PyData.shownAll]; exact .nil⟩
  | _, _, us, .cons (d := d) (ds := ds) h1 h2, r, hs, hz => by
    cases r with
    | cons r1 r2 =>
      have hs' : d.showable = true ∧ PyData.showableAll ds = true := by simpa [PyData.showableAll] using hs
      obtain ⟨b1, p1, k1⟩ := Dq.textK I _ h1 r1 hs'.1 (hz _ (by simp only [PyData.shownAll]; exact List.mem_cons_self ..))
      obtain ⟨b2, p2, k2⟩ := Dqs.textK I _ h2 r2 hs'.2 fun t ht => hz t (by simp only [PyData.shownAll]; exact List.mem_cons_of_mem _ ht)
      refine ⟨b1 ++ b2, ?_, ?_⟩
      · simp only [PyData.depthAll]
        exact (p1.mono (Nat.le_max_left _ _)).append (p2.mono (Nat.le_max_right _ _))
      · simp only [PyData.depthAll, PyData.shownAll]
        exact .cons ((k1.more fun b hb => List.mem_append_left _ hb).level_le (Nat.le_max_left _ _)) (k2.more_le (fun b hb => List.mem_append_right _ hb) (Nat.le_max_right _ _))
end
end
/-! ### repr of data -/
/-- what repr takes: numbers that have a text, few levels, a text that fits -/
structure Fine (d : PyData) : Prop where
  sh : d.showable = true
  dp : d.depth ≤ 100
  sz : d.shown.length ≤ sizeLine
def rRepr (K : PySem.W.Frag) : List V → Hp → VK → Prop := fun xs H Q => ∃ v d, xs = [v] ∧ Dq K H v d ∧ Fine d ∧ Q (.str d.shown) H
theorem call_reprD {X : Cx} {k : Nat} (hg : X.A.guards = some []) (hr : Room k X.A) : CallR X (.builtin "repr") (rRepr X.K) := by
  intro pins s σ H xs us Q I r h
  obtain ⟨v, d, rfl, hd, F, q⟩ := h
  obtain ⟨u, rfl, ru⟩ := vals1 r
  have hun := hr.un
  have hdp := F.dp
  have hsz := F.sz
  have hsh := F.sh
  have fin : ∀ (h' : Heap) (t : Tok) (tk : Nat), (∀ b o, s.heap.get? b = some o → h'.get? b = some o) → EP X pins σ Q (.str d.shown t) { s with heap := h', toks := tk } :=
    fun h' t tk hk => ⟨.str _, H, I.kept (t' := tk) hk, ⟨_, rfl⟩, q⟩
  cases hd with
  | non => cases ru; exact PySem.P.repr_of_none (by simpa [PyData.shown] using fin s.heap s.toks _ fun _ _ e => e)
  | bl b => cases ru; exact PySem.P.repr_of_bool (by simpa [PyData.shown] using fin s.heap s.toks _ fun _ _ e => e)
  | int i =>
    obtain ⟨t, rfl⟩ := ru
    exact PySem.P.repr_of_int (by simpa [PyData.showable] using hsh) (by simpa [PyData.shown] using fin s.heap s.toks _ fun _ _ e => e)
  | str x =>
    obtain ⟨t, rfl⟩ := ru
    exact PySem.P.repr_of_str (by simpa [PyData.shown] using fin s.heap s.toks _ fun _ _ e => e) (by simpa [PyData.shown] using hsz)
  | @lst a vs ds hq ha =>
    obtain ⟨as, rd⟩ := Dq.reads I u (.lst hq ha) ru
    cases ru
    obtain ⟨its, rv, ⟨o, n, ho, hc, _, hdt⟩, _⟩ := I.list hq
    have z : (listText (PyData.shownAll ds)).length ≤ sizeLine := by simpa only [PyData.shown] using hsz
    obtain ⟨bs, hb, hk⟩ := Dqs.textK I its ha rv (by simpa [PyData.showable] using hsh) fun t ht => Nat.le_trans (listText_mem_le ht) z
    have hn := not_mem_of_deeper rd (by simp only [PyData.depth]; omega) hb
    simp only [PyData.depth] at hdp
    simp only [PyData.shown] at fin
    refine call_repr_slot (by omega) ⟨o, ho, hc⟩ PySem.F.slot_list_repr.toG ?_
    cases its with
    | nil =>
      cases rv
      cases ha
      simp only [PyData.shownAll, listText_nil] at fin
      exact call_list_repr_empty ⟨o, ho, hc⟩ ho hdt ⟨_, _, rfl, fin s.heap _ _ fun _ _ e => e⟩
    | cons x l =>
      exact call_list_reprK ho hc hdt hn (by simpa using hk.length_eq) (fun i y e => hk.item i y (by simpa using e)) hg (fun b _ => Clear.nil b) (by show X.A.units + 1 + (PyData.depthAll ds + 1) < cLine; omega) (fun _ _ e => e)
        (fun h' u tk e => ⟨_, _, rfl, fin h' u tk e⟩) z
  | @tup a vs ds hq ha =>
    obtain ⟨as, rd⟩ := Dq.reads I u (.tup hq ha) ru
    cases ru
    obtain ⟨its, rv, ⟨o, ho, hc, n, hdt⟩, _⟩ := I.tuple hq
    have z : (tupleText (PyData.shownAll ds)).length ≤ sizeLine := by simpa only [PyData.shown] using hsz
    obtain ⟨bs, hb, hk⟩ := Dqs.textK I its ha rv (by simpa [PyData.showable] using hsh) fun t ht => Nat.le_trans (tupleText_mem_le ht) z
    have hn := not_mem_of_deeper rd (by simp only [PyData.depth]; omega) hb
    simp only [PyData.depth] at hdp
    simp only [PyData.shown] at fin
    refine call_repr_slot (by omega) ⟨o, ho, hc⟩ PySem.F.slot_tuple_repr ?_
    exact call_tuple_reprK ho hc hdt hn hk hg (fun b _ => Clear.nil b) (by show X.A.units + 1 + (PyData.depthAll ds + 1) < cLine; omega) (fun _ _ e => e) (fun h' u tk e => ⟨_, _, rfl, fin h' u tk e⟩) z
  | @dct a kvs ds hq ha =>
    obtain ⟨as, rd⟩ := Dq.reads I u (.dct hq ha) ru
    cases ru
    obtain ⟨_, hne, vs, kv, o, es, ep, ho, ex, hdt, _, pr, _⟩ := I.hok _ _ hq
    have hl := ha.len
    rw [List.length_map] at hl
    have f1 : ((kvs.map fun kv => kD kv.1).zip ds).map (·.1) = kvs.map fun kv => kD kv.1 := List.map_fst_zip (by rw [List.length_map]; omega)
    have f2 : ((kvs.map fun kv => kD kv.1).zip ds).map (·.2) = ds := List.map_snd_zip (by rw [List.length_map]; omega)
    have z : (dictText (PyData.shownKv ((kvs.map fun kv => kD kv.1).zip ds))).length ≤ sizeLine := by simpa only [PyData.shown] using hsz
    obtain ⟨s1, s2⟩ := PyData.showableKv_split _ (show PyData.showableKv ((kvs.map fun kv => kD kv.1).zip ds) = true by simpa [PyData.showable] using hsh)
    have zk := fun t ht => (let ⟨p, hp, l⟩ := PyData.shownKv_key_le ((kvs.map fun kv => kD kv.1).zip ds) t ht; Nat.le_trans l (Nat.le_trans (dictText_mem_le hp) z))
    have zv := fun t ht => (let ⟨p, hp, l⟩ := PyData.shownKv_val_le ((kvs.map fun kv => kD kv.1).zip ds) t ht; Nat.le_trans l (Nat.le_trans (dictText_mem_le hp) z))
    have dv := PyData.depthAll_vals_le ((kvs.map fun kv => kD kv.1).zip ds)
    rw [f1] at s1 zk
    rw [f2] at s2 zv dv
    obtain ⟨bs, hb, hk⟩ := Dqs.textK I _ ha (dk_reads (h := s.heap) kv pr).2 s2 zv
    have hb' : ReadAtMost s.heap (PyData.depthKv ((kvs.map fun kv => kD kv.1).zip ds)) bs := hb.mono dv
    have hn := not_mem_of_deeper rd (by simp only [PyData.depth]; omega) hb'
    simp only [PyData.depth] at hdp
    simp only [PyData.shown, PyData.shownKv_eq, f1, f2] at fin
    rw [PyData.shownKv_eq, f1, f2] at z
    refine call_repr_slot (by omega) ⟨o, ho, ex.1⟩ PySem.F.slot_dict_repr ?_
    exact call_dict_reprK ho ex.1 hdt hne hn (ReprEntriesK.of_two es.toList _ _ (keys_reprK kvs kv pr s1 zk) (hk.more_le (fun b hb => hb) dv)) hg (fun b _ => Clear.nil b)
      (by show X.A.units + 1 + (PyData.depthKv ((kvs.map fun kv => kD kv.1).zip ds) + 1) < cLine; omega) (fun _ _ e => e) (fun h' u tk e => ⟨_, _, rfl, fin h' u tk e⟩) z
end Lm

namespace Lm
open PySem PySem.Spec PyProof.Rows L2
/-! ### a def's promise where no repr runs around -/
structure FnG (P : Program) (w : World) (K : PySem.W.Frag) (mg : Str → Option Value) (base : Heap) (CX : CXT) (k : Nat) (f : Addr) (fd : FuncData) (ps : List Str) (sp : Sp) : Prop where
  len : ∀ vs H Q E, sp vs H Q E → vs.length = ps.length
  go : ∀ (A : Around) (outer : List Env) (s : Shared) (H : Hp) (args : Args) (us : List Value) (vs : List V) (Q : VK) (E : XK), A.guards = some [] → Room k A →
    Env0 P w K mg base A outer s H → BindsTo s fd args (ps.zip us) → Vals vs us → sp vs H Q E → codeAny (model P w) A (.call (.ref f) args) (CR CX outer P w H s Q E) s
section
variable {P : Program} {w : World} {K : PySem.W.Frag} {mg : Str → Option Value} {base : Heap}
theorem FnG.mono {CX : CXT} {j k : Nat} {f : Addr} {fd : FuncData} {ps : List Str} {sp : Sp} (F : FnG P w K mg base CX j f fd ps sp) (h : j ≤ k) : FnG P w K mg base CX k f fd ps sp :=
  ⟨F.len, fun A o s H as us vs Q E g r => F.go A o s H as us vs Q E g (r.mono h)⟩
theorem Fun.okG {x qual : Str} {st : Stmt} {f : Addr} {fd : FuncData} {N ps : List Str} {k : Nat} {sp : Sp} (F : Fun K x qual st f fd) (S : FnScope N ps (defScope st)) (hlen : ∀ vs H Q E, sp vs H Q E → vs.length = ps.length)
    (hb : ∀ (cdv : Value) (A : Around) (outer : List Env) (s : Shared) (H : Hp) (vs : List V) (Q : VK) (E : XK), A.guards = some [] → Room k (A.deeper (envOfC qual (defScope st) s.heap.objs.size f cdv)) → sp vs H Q E →
      ∃ t, PSs (cxOf CX0 P w K mg base N qual (defScope st) f cdv A outer s H E).nox (defBody st) t ∧ t { nx := fun _ H' => Q .non H', rt := Q } (start N vs) H) : FnG P w K mg base CX0 (k + 1) f fd ps sp := by
  obtain ⟨oc, od, kV, doc, pm, an, cdv, ct, osl, rfl, lk, hcd⟩ := F.ex
  refine ⟨hlen, fun A outer s H args us vs Q E g hr e0 bd r hs => ?_⟩
  have hl := hlen _ _ _ _ hs
  have KX : K.In s.heap := e0.mod.kin.keeps fun b o e => (e0.bs b o e).1
  have nl : s.heap.NoLimit := e0.mod.nolimit.keeps fun b o e => (e0.bs b o e).1
  have kinds : ∀ y ∈ ps.zip us, (defScope st).names.lookup y.1 = some .local ∨ ((defScope st).names.lookup y.1 = some .cell ∧ ((cellsFrom (s.heap.objs.size + 1) (defScope st).names []).lookup y.1).isSome = true) := by
    rintro ⟨nm, v⟩ hy
    have hm := (List.of_mem_zip hy).1
    cases S.par nm hm with
    | inl q => exact .inl q
    | inr q => exact .inr ⟨q, PySem.W.cellsFrom_some _ _ _ (.inl q)⟩
  refine codeAny_call_function (hr.depth) (KX _ _ lk) rfl S.co S.gen rfl (PySem.W.codeRec_of KX hcd) (bd _ _ _ _ ?_)
  refine wpAny_newFunctionEnv_cells S.kind kinds ?_
  intro env he s1 x
  subst he
  refine ⟨nl.keeps x.toInCall.keep, codeAny_func ?_⟩
  obtain ⟨t, ht, hq⟩ := hb cdv A outer s H vs Q E g (hr.deeper _) hs
  have J := inv_start (CX := CX0) (E := E) S hr.hd e0 hl r x
  refine wpAny_mono (ht.nox.run [] s1 (start N vs) H _ J hq) ?_ (fun e s' z => z)
  intro fl s' z
  cases fl with
  | ret u => obtain ⟨v, σ2, H2, J2, rv, q⟩ := z; exact ⟨v, H2, J2.os, J2.bare, J2.base, J2.hok, rv, q⟩
  | next => obtain ⟨σ2, H2, J2, q⟩ := z; exact ⟨V.non, H2, J2.os, J2.bare, J2.base, J2.hok, rfl, q⟩
  | brk => obtain ⟨_, _, _, q⟩ := z; exact q.elim
  | cont => obtain ⟨_, _, _, q⟩ := z; exact q.elim
end
/-! ### the law's own call -/
theorem lawCallG {P : Program} {w : World} {K : PySem.W.Frag} {mg mb : Str → Option Value} {k : Nat} {fa a : Addr} {fd : FuncData} {x : Str} {sp : Sp} {s₁ : Shared} {vs : List Value} {ns : List Int}
    (KX : K.In s₁.heap) (hns : s₁.heap.Ns mainGlobals mg) (hb : s₁.heap.Ns builtinsNs mb) (hbb : ∀ x : Str, x ≠ "__name__" → mb x = bootBuiltins x) (hlim : s₁.heap.NoLimit) (hg : s₁.gens = #[])
    (ha : s₁.heap.get? a = some { cls := .type "list", data := .seq vs.toArray }) (hi : IntsAre vs ns) (hl : ns.length ≤ sizeLine) (hr : Room k callerA)
    (F : ∀ base : Heap, K.In base → base.Ns mainGlobals mg → FnG P w K mg base CX0 k fa fd [x] sp) (hbind : ∀ (s : Shared) (u : Value), BindsTo s fd ⟨[u], []⟩ [(x, u)])
    (hsp : ∀ H : Hp, Only H → SqL K H a (ns.map V.int) → sp [.ref a] H (fun v _ => v = .bl true) fun _ _ _ => False) :
    codeAny (model P w) callerA (.call (.ref fa) ⟨[.ref a], []⟩) (fun r s' => r = .ok (.ret (.bool true)) ∧ OldK s₁.heap s'.heap ∧ s'.os = s₁.os ∧ AllBare s'.gens) s₁ := by
  have rv := vals_ints hi
  have ln := hi.length
  have main : ∀ H : Hp, Only H → SqL K H a (ns.map V.int) → HOk P w H s₁.heap → (∀ b, H b ≠ none → b = a) → (H a ≠ none → K.lookup a = none) →
      codeAny (model P w) callerA (.call (.ref fa) ⟨[.ref a], []⟩) (fun r s' => r = .ok (.ret (.bool true)) ∧ OldK s₁.heap s'.heap ∧ s'.os = s₁.os ∧ AllBare s'.gens) s₁ := by
    intro H hO hS ok hA hK
    have nsd : ∀ {b : Addr} {m : Str → Option Value}, s₁.heap.Ns b m → (hidT s₁.heap H).Ns b m := by
      rintro b m ⟨o, es, ep, e, d, r⟩
      refine ⟨o, es, ep, hidT_get e ?_, d, r⟩
      cases q : H b with
      | none => rfl
      | some u =>
        have eb := hA b (by rw [q]; exact fun z => nomatch z)
        rw [eb, ha] at e
        cases e
        cases d
    have hKb : K.In (hidT s₁.heap H) := by
      intro b o e
      refine hidT_get (KX b o e) ?_
      cases q : H b with
      | none => rfl
      | some u =>
        have eb := hA b (by rw [q]; exact fun z => nomatch z)
        rw [eb, hK (by rw [← eb, q]; exact fun z => nomatch z)] at e
        cases e
    obtain ⟨mc, n1, n2⟩ := hlim
    have env : Env0 P w K mg (hidT s₁.heap H) callerA [] s₁ H :=
      { frames := rfl, mod := ⟨hKb, nsd hns, ⟨mb, nsd hb, hbb⟩, ⟨mc, nsd n1, n2⟩⟩, bs := fun b o e => of_hidT e, bsz := Nat.le_of_eq (hidT_size _ _), funs := trivial, frf := (fun b hb => absurd hb (by simp [frs])), hok := ok, bare := .of_eq hg }
    have run := (F _ hKb (nsd hns)).go callerA [] s₁ H ⟨[.ref a], []⟩ [.ref a] [.ref a] _ _ rfl hr env (hbind s₁ (.ref a)) (.cons rfl .nil) (hsp H hO hS)
    refine codeAny_mono run ?_
    intro r s' h
    match r, h with
    | .error e, h => exact False.elim h
    | .ok .next, h => exact False.elim h
    | .ok .brk, h => exact False.elim h
    | .ok .cont, h => exact False.elim h
    | .ok (.ret u), h =>
      obtain ⟨v, H', os, bare, un, ok', r', q⟩ := h
      have q' : v = .bl true := q
      subst q'
      cases (show u = Value.bool true from r')
      refine ⟨rfl, OldK.of_keep (fun b o e => ?_), os, bare⟩
      cases q : H b with
      | none => exact un.keep b o e q (by simp [frs]) (by simp)
      | some u =>
        cases hO b with
        | inl z => rw [q] at z; cases z
        | inr z =>
          obtain ⟨ob, xs, z⟩ := z
          have e1 := (ok b _ z).1
          have e2 := (ok' b _ (un.frzs b ob _ z)).1
          rw [e] at e1
          rw [e2, ← e1]
  cases hk : K.lookup a with
  | some o =>
    have e := KX a o hk
    rw [ha] at e
    cases e
    exact main (fun _ => none) (fun _ => .inl rfl) (.inr ⟨_, vs.toArray, _, hk, rfl, rfl, rfl, by rw [List.size_toArray, ln]; exact hl, by simpa using rv⟩) (fun b u z => nomatch z) (fun b z => absurd rfl z) fun z => absurd rfl z
  | none =>
    have self : ∀ {b : Addr}, (if b = a then some (HO.frz { cls := .type "list", data := .seq vs.toArray } (.lst (ns.map V.int))) else none) ≠ none → b = a := fun {b} z => by
      by_cases e : b = a
      · exact e
      · rw [if_neg e] at z
        exact absurd rfl z
    refine main (fun b => if b = a then some (.frz { cls := .type "list", data := .seq vs.toArray } (.lst (ns.map V.int))) else none) ?_ (.inl (.inr ⟨_, if_pos rfl⟩)) ?_ (fun b z => self z) fun _ => hk
    · intro b
      by_cases e : b = a
      · exact .inr ⟨_, _, if_pos e⟩
      · exact .inl (if_neg e)
    · intro b u z
      dsimp only at z
      have eb := self (b := b) (by rw [z]; exact fun q => nomatch q)
      rw [if_pos eb] at z
      cases z
      rw [eb]
      exact ⟨ha, by rw [List.length_map]; exact hl, vs, _, rv, ha⟩
/-- a law row's end -/
theorem walkG {l : PySem.W.OpenLaw} {n k : Nat} {q : Program} {loose : List Str} {XP : (Str → Option Value) → Heap → Prop} {YP : World → Heap → Prop} {d : DefRec} {K : Params → PySem.W.Frag} {sp : PySem.W.Frag → Sp} {x : Str}
    (hn : l.most = some n) (hn2 : n ≤ sizeLine) (hdf : d.params.defaults = []) (hr : Room k callerA) (hY : ∀ (w : World) (h : Heap), YP w h → (K w.params).In h)
    (F : ∀ (w : World) (mg : Str → Option Value) (fa : Addr) (h : Heap), (K w.params).In h → h.Ns mainGlobals mg → mg d.name = some (.ref fa) →
      ∃ fd : FuncData, (∀ (s : Shared) (u : Value), BindsTo s fd ⟨[u], []⟩ [(x, u)]) ∧
        ∀ base : Heap, (K w.params).In base → base.Ns mainGlobals mg → FnG l.prog w (K w.params) mg base CX0 k fa fd [x] (sp (K w.params)))
    (hsp : ∀ (K : PySem.W.Frag) (H : Hp) (a : Addr) (ns : List Int), ns.length ≤ n → Only H → SqL K H a (ns.map V.int) → sp K [.ref a] H (fun v _ => v = .bl true) fun _ _ _ => False) :
    PySem.W.WalkO q loose XP YP l.row.toRowW d [] (fun f vs => PySem.call f vs) := by
  refine Att.attach_call hn hdf ?_
  intro w s₀ s₁ mg mb fa o pm cd doc a vs ns G Y ho hd hcd hmg hobj hints hlen hg
  obtain ⟨fd, b, f⟩ := F w mg fa _ (hY w _ Y) G.T.g hmg
  exact lawCallG (hY w _ Y) G.T.g G.T.b G.T.builtins G.T.nolimit hg hobj hints (Nat.le_trans hlen hn2) hr f b (fun H hO hS => hsp _ H a ns hlen hO hS)
/-! ### a call of such a def -/
section
variable {X : Cx}
theorem pe_callG {k : Nat} {f : Addr} {fd : FuncData} {ps : List Str} {sp : Sp} {E : XK} {x : Str} {e : Expr} {es : List Expr} {t : TA} {p pos : Pos} (F : FnG X.prog X.w X.K X.mg X.base CX0 k f fd ps sp) (hgd : X.A.guards = some []) (hr : Room k X.A) (hg : Gl X x)
    (hm : X.mg x = some (.ref f)) (hk : PySem.W.keepIn X.K (.ref f) = true) (hb : Binds X.K fd ps []) (ha : PA X (e :: es) t) (hdb : (x == ("__debug__" : Str)) = false := by decide)
    (he : starEach (e :: es) X.env = (false, eval e X.env) :: starEach es X.env := by rfl) (hpl : (backTo pos (starEach es X.env)).any (·.1) = false := by rfl) :
    PE X (.Call (.Name x p) (e :: es) [] pos) (tCall sp [] E0 t) := by
  refine ⟨fun pins s σ H Q I h => ?_⟩
  refine wpAny_Call_Name_kw (ld_glob I hg hm ?_ hdb)
  refine PySem.W.callWith_K (h₀ := X.base) I.ok.mod.kin hk (thn (ha.run pos pins s σ H _ I h) ?_) he hpl
  rintro us s1 ⟨vs, H1, I1, r, q⟩
  refine ⟨I1.kIn, ?_⟩
  have q' : sp vs H1 Q E0 := by simpa using q
  have hl : us.length = ps.length := r.length.symm.trans (F.len _ _ _ _ q')
  have bd := hb s1 us I1.kIn (by simpa using hl)
  simp only [List.append_nil] at bd
  refine wpAny_call (codeAny_mono (F.go X.A X.stack s1 H1 ⟨us, []⟩ us vs Q E0 hgd hr I1.env0 bd r q') ?_)
  intro r s' hq
  match r, hq with
  | .ok (.ret u), hq => exact I1.after hq
  | .ok .next, hq => exact False.elim hq
  | .ok .brk, hq => exact False.elim hq
  | .ok .cont, hq => exact False.elim hq
  | .error e, hq => exact False.elim hq
end
end Lm

namespace Lm
open PySem PySem.Spec PyProof.Rows L2
section
variable {X : Cx} {a b c d : Expr} {ta tb tc td : TE} {pos : Pos}
/-! ### a op1 b op2 c op3 d -/
def tChain3 (r1 r2 r3 : R2) (ta tb tc td : TE) : TE := fun σ H Q => ta σ H fun x H1 => tb σ H1 fun y H2 => r1 x y H2 fun z H3 => ∃ k, z = .bl k ∧
  (if k = true then tc σ H3 fun w H4 => r2 y w H4 fun z2 H5 => ∃ k2, z2 = .bl k2 ∧ (if k2 = true then td σ H5 fun w2 H6 => r3 w w2 H6 Q else Q (.bl false) H5) else Q (.bl false) H3)
theorem pe_chain3 {o1 o2 o3 : CmpOp} {r1 r2 r3 : R2} (h1 : OpR X (compareOp o1) r1) (h2 : OpR X (compareOp o2) r2) (h3 : OpR X (compareOp o3) r3) (ha : PE X a ta) (hb : PE X b tb) (hc : PE X c tc) (hd : PE X d td)
    (hm : lastMarks [o1, o2, o3] [b, c, d] = false := by with_unfolding_all rfl) : PE X (.Compare a [o1, o2, o3] [b, c, d] pos) (tChain3 r1 r2 r3 ta tb tc td) := by
  constructor
  intro pins s σ H Q I h
  refine Compare_chain (thn (ha.run pins s σ H _ I h) ?_) hm
  rintro v s1 ⟨x, H1, I1, e1, q1⟩
  refine chain_link (thn (hb.run pins s1 σ H1 _ I1 q1) ?_)
  rintro u s2 ⟨y, H2, I2, e2, q2⟩
  refine thn (h1 pins s2 σ H2 x y v u _ I2 e1 e2 q2) ?_
  rintro w1 s3 ⟨z, H3, I3, e3, k, rfl, q3⟩
  cases e3
  refine wpAny_truthy_bool ?_
  cases k with
  | false => exact ite_ff ⟨.bl false, H3, I3, rfl, q3⟩
  | true =>
    refine ite_tt (chain_link (thn (hc.run pins s3 σ H3 _ I3 q3) ?_))
    rintro w2 s4 ⟨y4, H4, I4, e4, q4⟩
    refine thn (h2 pins s4 σ H4 y y4 u w2 _ I4 e2 e4 q4) ?_
    rintro w3 s5 ⟨z5, H5, I5, e5, k5, rfl, q5⟩
    cases e5
    refine wpAny_truthy_bool ?_
    cases k5 with
    | false => exact ite_ff ⟨.bl false, H5, I5, rfl, q5⟩
    | true =>
      refine ite_tt (chain_last (thn (hd.run pins s5 σ H5 _ I5 q5) ?_))
      rintro w6 s6 ⟨y6, H6, I6, e6, q6⟩
      exact h3 pins s6 σ H6 y4 y6 w2 w6 Q I6 e4 e6 q6
end
/-! ### t[::-1] of a tuple -/
section
variable {prog : Program} {w : World} {A : Around} {E : Value → Shared → Prop} {s : Shared}
theorem getItem_tuple_back {t sl : Addr} {items : Array Value} {vl vu vs : Value} {Q : Value → Shared → Prop} (ht : IsTup s.heap t items) (hs : s.heap.IsSliceOf sl vl vu vs) (pl : IsPart vl none) (pu : IsPart vu none) (ps : IsPart vs (some (-1)))
    (h : Q (.ref s.heap.objs.size) { s with heap := s.heap.push { cls := .type "tuple", data := .seq items.toList.reverse.toArray } }) (hsz : items.size ≤ sizeLine) : wpAny (model prog w) A (getItem (.ref t) (.ref sl)) Q E s := by
  have ok : sizeOk (.seq items.toList.reverse.toArray) := by
    show items.toList.reverse.toArray.size ≤ sizeLine
    simpa using hsz
  obtain ⟨os, hos, hcs, hds⟩ := id hs
  have isSl : s.TypeIs (.ref sl) "slice" := ⟨os, hos, hcs⟩
  unfold getItem
  try with_reducible refine wpAny_holding ?_
  first | refine wpAny_bind (wpAny_pure ?_) | skip
  refine wpAny_bind (wpAny_sequenceKey ht.typeIs (by decide) ?_)
  refine wpAny_bind (wpAny_callSpecial?_slot (name := Str.ofString "__getitem__") ht.typeIs PyProof.Rows.slot_tuple_getitem (wpAny_call_entry PyProof.Rows.slot_tuple_getitem ht.typeIs entry_tuple_getitem ?_ (args_tuple_getitem _ _)))
  show wpAny _ _ (Builtin.Tuple.tupleItemsOf (.ref t) >>= _) _ _ s
  refine wpAny_bind (tupleItemsOf_ ht ?_)
  refine wpAny_bind (wpAny_typeOf isSl ?_)
  rw [if_pos (by decide)]
  refine wpAny_bind ?_
  unfold Builtin.Slice.sliceApplied Builtin.Slice.sliceFields
  refine wpAny_bind (wpAny_bind (wpAny_field hos hds (x := vl) rfl (wpAny_bind (wpAny_field hos hds (x := vu) rfl (wpAny_bind (wpAny_field hos hds (x := vs) rfl (wpAny_pure ?_)))))))
  refine wpAny_bind (HT.slicePart_ ps ?_)
  show wpAny _ _ (if ((-1 : Int) == 0) = true then _ else _) _ _ s
  rw [if_neg (by decide)]
  refine wpAny_bind (HT.slicePart_ pl (wpAny_bind (HT.slicePart_ pu (wpAny_bind (wpAny_pure ?_)))))
  have e1 : Builtin.Slice.sliceAdjust none none (-1) (items.size : Int) = ((items.size : Int) - 1, -1) := rfl
  have e2 : Builtin.Slice.slicePlaces ((items.size : Int) - 1) (-1) (-1) = items.size := by
    unfold Builtin.Slice.slicePlaces
    simp only [show ¬ ((-1 : Int) > 0) by decide, if_false, show (- -1 : Int) = 1 by decide, Int.ediv_one]
    split <;> omega
  show wpAny _ _ (match Builtin.Slice.sliceAdjust none none (-1) (items.size : Int) with | (lo, hi) => pure (lo, (-1 : Int), Builtin.Slice.slicePlaces lo hi (-1))) _ _ s
  rw [e1]
  show wpAny _ _ (pure ((items.size : Int) - 1, (-1 : Int), Builtin.Slice.slicePlaces ((items.size : Int) - 1) (-1) (-1))) _ _ s
  rw [e2]
  refine wpAny_pure ?_
  have no : ¬ ((((items.size : Int) - 1) == 0 && (-1 : Int) == 1 && items.size == items.size) = true) := by simp
  show wpAny _ _ (if (((items.size : Int) - 1) == 0 && (-1 : Int) == 1 && items.size == items.size) = true then _ else _) _ _ s
  rw [if_neg no]
  have pick : ((List.range items.size).filterMap fun (k : Nat) => items[(((items.size : Int) - 1) + (k : Int) * -1).toNat]?).toArray = items.toList.reverse.toArray := by
    rw [← PySem.W.krv_all items, ← List.filterMap_reverse, ← PySem.W.krv_range, List.filterMap_map]
    have cg : ∀ (l : List Nat), (∀ k ∈ l, k < items.size) → (l.filterMap fun (k : Nat) => items[(((items.size : Int) - 1) + (k : Int) * -1).toNat]?) = l.filterMap ((fun k => items[k]?) ∘ fun k => items.size - 1 - k) := by
      intro l
      induction l with
      | nil => intro _; rfl
      | cons k l ih =>
        intro hl
        have e : (((items.size : Int) - 1) + (k : Int) * -1).toNat = items.size - 1 - k := by
          have := hl k List.mem_cons_self
          omega
        rw [List.filterMap_cons, List.filterMap_cons, ih fun j hj => hl j (List.mem_cons_of_mem _ hj), e]
        rfl
    rw [cg _ fun k hk => List.mem_range.mp hk]
  rw [pick]
  first
    | exact wpAny_bind (m := Builtin.Tuple.tupleExact _) (wpAny_newObj_type (wpAny_pure ⟨_, rfl, wpAny_pure h⟩) ok)
    | exact wpAny_bind (m := Builtin.Tuple.tupleExact _) (wpAny_newObj_type (wpAny_bind (wpAny_pure (wpAny_pure ⟨_, rfl, wpAny_pure h⟩))) ok)
    | exact wpAny_bind (wpAny_bind (m := Builtin.Tuple.tupleExact _) (wpAny_newObj_type (wpAny_pure (wpAny_pure ⟨_, rfl, wpAny_pure h⟩)) ok))
    | exact wpAny_bind (wpAny_bind (m := Builtin.Tuple.tupleExact _) (wpAny_newObj_type (wpAny_pure ⟨_, rfl, wpAny_pure h⟩) ok))
end
section
variable {X : Cx}
def tRevT (K : PySem.W.Frag) (te : TE) : TE := fun σ H Q => te σ H fun x H1 => ∃ a xs, x = .ref a ∧ SqT K H1 a xs ∧ ∀ p, H1 p = none → Q (.ref p) (upd H1 p (.tup xs.reverse))
theorem pe_revT {e : Expr} {te : TE} {k : Nat} {p1 p2 p3 pos : Pos} (he : PE X e te) : PE X (.Subscript e (.Slice none none (some (.UnaryOp .USub (.Constant (.int 1) k p1) p2)) p3) pos) (tRevT X.K te) := by
  constructor
  intro pins s σ H Q I h
  refine Subscript_ (thn (he.run pins s σ H _ I h) ?_)
  rintro v s1 ⟨x, H1, I1, r1, a, xs, rfl, hx, q⟩
  cases r1
  have step : PO X (some (.UnaryOp .USub (.Constant (.int 1) k p1) p2)) (tPart (tUn (rU fun i => .int (-i)) (tC (.int 1)))) := po_some (pe_un un_neg pe_int)
  refine wpAny_Slice (thn (po_none.run pins s1 σ H1 (fun o H2 => o = none ∧ H2 = H1) I1 ⟨rfl, rfl⟩) ?_)
  rintro vl s2 ⟨l, H2, I2, pl, rfl, rfl⟩
  refine thn (po_none.run pins s2 σ H2 (fun o H3 => o = none ∧ H3 = H2) I2 ⟨rfl, rfl⟩) ?_
  rintro vu s3 ⟨u, H3, I3, pu, rfl, rfl⟩
  refine thn (step.run pins s3 σ H3 (fun o H4 => o = some (-1) ∧ H4 = H3) I3 ⟨1, rfl, -1, rfl, rfl, rfl⟩) ?_
  rintro vs s4 ⟨o, H4, I4, ps, rfl, rfl⟩
  have I5 : Inv X pins σ H4 { s4 with heap := s4.heap.push { cls := .type "slice", data := .fields #[vl, vu, vs] } } := I4.kept (t' := s4.toks) fun b ob q => Heap.get?_push_of_some _ q
  obtain ⟨its, r, ht, hz⟩ := I5.tuple hx
  have hlen := r.length
  show wpAny (model X.prog X.w) X.A (subscriptTail e (.Slice none none (some (.UnaryOp .USub (.Constant (.int 1) k p1) p2)) p3) (.ref a) (.ref s4.heap.objs.size)) _ _ _
  refine tail_any (ops := [.ref a, .ref s4.heap.objs.size]) ht.typeIs PyProof.Rows.slot_tuple_getitem.lookup ?_ (by with_unfolding_all rfl)
  refine getItem_tuple_back ht (Heap.IsSliceOf.new _ vl vu vs) pl pu ps ?_ (by rw [List.size_toArray]; omega)
  refine ⟨.ref _, _, I5.laid (t' := s4.toks) (o := .tup xs.reverse) (fun b ob q => Heap.get?_push_of_some _ q) (Nat.le_refl _) ?_, rfl, q _ (I5.hok.fresh (Nat.le_refl _))⟩
  exact ⟨by rw [List.length_reverse]; exact hz, its.reverse, r.reverse, IsTup.new _ _⟩
end
/-! ### enumerate of a tuple -/
section
set_option maxHeartbeats 1000000 in
theorem meets_enum_tup (t : Addr) (o : Obj) (items : Array Value) (n : Nat) (dd : Option Addr) (sl : Array (Option Value)) :
    Meets (Builtin.«enumerate.__new__» ⟨[.type "enumerate", .ref t], []⟩) (fun _ R s => s.heap.get? t = some { cls := .type "tuple", dict := dd, data := .seq items n, slots := sl } ∧
      R (.ok (.ret (.ref (s.heap.push { cls := .type "tuple_iterator", data := .fields #[.ref t, .int 0 0] }).objs.size)))
        { s with heap := (s.heap.push { cls := .type "tuple_iterator", data := .fields #[.ref t, .int 0 0] }).push { cls := .type "enumerate", data := .fields #[.none, .bool false, .ref s.heap.objs.size, rawInt 0, .none, .none] } }) :=
  .of_wp fun prog w A R s h => by
    obtain ⟨hp, g, d, tk, os⟩ := s
    obtain ⟨hl, h⟩ := h
    have hsub := sub_enumerate
    have hT : Heap.IsTuple (Shared.heap ⟨hp, g, d, tk, os⟩) t items := ⟨_, hl, rfl, n, rfl⟩
    have q1 : ∀ {A' : Around} {E : Value → Shared → Prop} {Q : Value → Shared → Prop}, Q (.ref hp.objs.size) ⟨hp.push { cls := .type "tuple_iterator", data := .fields #[.ref t, .int 0 0] }, g, d, tk, os⟩ → wpAny (model prog w) A' (pyIter (.ref t)) Q E ⟨hp, g, d, tk, os⟩ :=
      fun q => wpAny_pyIter_tuple hT q
    wp_walk using q1
    refine wpAny_stack_any fun st => wpAny_pure ?_
    split
    · rename_i c _ _ _ _ _
      cases (c == Value.type "enumerate") <;> (wp_walk using q1; exact ⟨_, rfl, h⟩)
    · wp_walk using q1
      exact ⟨_, rfl, h⟩
variable {prog : Program} {w : World} {A : Around} {E : Value → Shared → Prop} {s : Shared}
theorem call_enum_tup {t : Addr} {items : Array Value} {Q : Value → Shared → Prop} (hT : s.heap.IsTuple t items)
    (h : ∀ h', IsEnum h' (s.heap.objs.size + 1) s.heap.objs.size 0 .none → h'.IsTupleIter s.heap.objs.size t 0 → (∀ b o, s.heap.get? b = some o → h'.get? b = some o) → Q (.ref (s.heap.objs.size + 1)) { s with heap := h' }) :
    wpAny (model prog w) A (call (.type "enumerate") [.ref t]) Q E s := by
  obtain ⟨⟨c, dd, dt, sl⟩, hl, hc, n, hd⟩ := hT
  have hc' : c = .type "tuple" := hc
  have hd' : dt = .seq items n := hd
  subst hc' hd'
  refine callType_new F.called_enumerate (by decide) (F.typeCall_enumerate_1 _) (F.newCall_enumerate_1 _) (fun obj => F.args_object_init_2 obj _) F.entry_enumerate_new (meets_enum_tup t default items n dd sl) ⟨hl, ?_⟩
  have hz : (s.heap.push { cls := .type "tuple_iterator", data := .fields #[.ref t, .int 0 0] }).objs.size = s.heap.objs.size + 1 := Heap.size_push ..
  show _ ∧ _
  rw [hz]
  have he : IsEnum ((s.heap.push { cls := .type "tuple_iterator", data := .fields #[.ref t, .int 0 0] }).push { cls := .type "enumerate", data := .fields #[.none, .bool false, .ref s.heap.objs.size, rawInt 0, .none, .none] }) (s.heap.objs.size + 1) s.heap.objs.size 0 .none := by
    have q := Heap.get?_push_size (s.heap.push { cls := .type "tuple_iterator", data := .fields #[.ref t, .int 0 0] }) (o := { cls := .type "enumerate", data := .fields #[.none, .bool false, .ref s.heap.objs.size, rawInt 0, .none, .none] }) rfl
    rw [hz] at q
    exact q
  exact ⟨⟨_, he, rfl⟩, h _ he ⟨_, Heap.get?_push_of_some _ (Heap.get?_push_size _ rfl), rfl, rfl⟩ fun b o x => Heap.get?_push_of_some _ (Heap.get?_push_of_some _ x)⟩
end
/-- the tuple at a, each item in a new pair with its number -/
def Iet (K : PySem.W.Frag) (a : Addr) : It :=
  ⟨fun i H => ∃ (xs : List V) (x : V), SqT K H a xs ∧ xs[i]? = some x, fun i H v H' => ∃ T x, v = .ref T ∧ H T = none ∧ H' = upd H T (.tup [.int (i : Nat), x]) ∧ ∀ xs, SqT K H a xs → xs[i]? = some x, fun i H => ∃ xs : List V, SqT K H a xs ∧ xs.length ≤ i⟩
theorem turn_enumT {P : Program} {w : World} {K : PySem.W.Frag} {elts : List Expr} {kk : Nat} {tpos : Pos} (a e it : Addr) :
    Turn P w K (.Tuple elts kk tpos) (Iet K a) [e, it] e (fun i h => (∃ old, IsEnum h e it ((i : Nat) : Int) old) ∧ h.IsTupleIter it a i ∧ e ≠ it) where
  mem := by simp
  obj := by
    rintro i h ⟨⟨old, he⟩, ⟨o, ho, hc, hd⟩, _⟩ b hb
    have e' : b = e ∨ b = it := by simpa using hb
    cases e' with
    | inl z => rw [z]; exact ⟨_, he, fun v q => nomatch q⟩
    | inr z => rw [z]; exact ⟨o, ho, fun v q => by rw [hd] at q; cases q⟩
  keep := by
    rintro i h h' ⟨⟨old, he⟩, hi, hne⟩ k
    exact ⟨⟨old, k e (by simp) _ he⟩, hi.at fun o q => k it (by simp) o q, hne⟩
  item := by
    intro X hP hw hK hc i pins s σ H E I hf st hg
    subst hP hw hK
    obtain ⟨⟨old, he⟩, hit, hne⟩ := st
    obtain ⟨xs, x, hq, hx⟩ := hg
    obtain ⟨its, rv, p, hz⟩ := I.tuple hq
    obtain ⟨u, hu, ru⟩ := rv.get hx
    have hel : e < s.heap.objs.size := Heap.lt_size he
    have hil : it < s.heap.objs.size := by obtain ⟨_, q, _⟩ := hit; exact Heap.lt_size q
    have hai : a ≠ it := by
      rintro rfl
      obtain ⟨o1, g1, c1, _⟩ := hit
      obtain ⟨o2, g2, c2, _⟩ := p
      rw [g1] at g2
      cases g2
      rw [c1] at c2
      exact absurd c2 (by simp)
    have hae : a ≠ e := by
      rintro rfl
      obtain ⟨o2, g2, c2, _⟩ := p
      have g1 : s.heap.get? a = some _ := he
      rw [g1] at g2
      cases g2
      exact absurd c2 (by simp)
    have hu' : its.toArray[i]? = some u := by simpa using hu
    have hlt : i < its.toArray.size := (Array.getElem?_eq_some_iff.mp hu').1
    refine wpAny_pyNext_enum_itemD (Draws.tuple (A := X.A.in1) (prog := X.prog) (w := X.w) (I.ok.hd hc) it a hai its.toArray) he ⟨hit, p⟩ hlt hne (by simp [hne, hae.symm]) ?_
    intro y h' tk hy ho st' hT hsz hk
    have ey : y = u := Option.some.inj ((show its.toArray[i]? = some y from hy).symm.trans hu')
    subst ey
    refine ⟨_, rfl, wpAny_letOwnedTupleGo_enum (s := { s with heap := h', toks := tk + 1 }) ho ?_⟩
    intro h'' he' sb
    have hT2 : h''.get? s.heap.objs.size = some { cls := .type "tuple", data := .seq #[.int i tk, y] } := (sb.2 _ (Nat.ne_of_gt hel)).trans hT
    have new : ObjOk X.prog X.w (upd H s.heap.objs.size (.tup [.int (i : Nat), x])) h'' s.heap.objs.size (.tup [.int (i : Nat), x]) := ⟨by show 2 ≤ sizeLine; decide, [.int i tk, y], .cons ⟨_, rfl⟩ (.cons ru .nil), ⟨_, hT2, rfl, _, rfl⟩⟩
    have old2 : ∀ b ob, b ∉ [e, it] → s.heap.get? b = some ob → h''.get? b = some ob := fun b ob hb q => (sb.2 b (fun z => hb (by simp [z]))).trans (hk b ob (fun z => hb (by simp [z])) (fun z => hb (by simp [z])) q)
    have I1 : Inv X pins σ (upd H s.heap.objs.size (.tup [.int (i : Nat), x])) { s with heap := h'', toks := tk + 1 } := I.turnedNew (ch := [e, it]) old2 hf (Nat.le_refl _) new
    refine ⟨.ref s.heap.objs.size, _, I1, rfl, ⟨_, x, rfl, I.hok.fresh (Nat.le_refl _), rfl, fun ys hy => by rw [I.tuple_inj hy hq]; exact hx⟩, ⟨⟨y, ?_⟩, st'.1.at fun o q => (sb.2 it (Ne.symm hne)).trans q, hne⟩, ?_⟩
    · have e1 : ((i + 1 : Nat) : Int) = (i : Int) + 1 := by omega
      rw [e1]
      exact he'
    · intro b hb
      have hb' : b < s.heap.objs.size := by
        have e' : b = e ∨ b = it := by simpa using hb
        cases e' with
        | inl z => rw [z]; exact hel
        | inr z => rw [z]; exact hil
      rw [upd_ne (Nat.ne_of_lt hb')]
      exact (hf b hb).1
  done := by
    intro X hP hw hK hc i pins s σ H E I hf st hg
    subst hP hw hK
    obtain ⟨⟨old, he⟩, hit, hne⟩ := st
    obtain ⟨xs, hq, hx⟩ := hg
    obtain ⟨its, rv, p, hz⟩ := I.tuple hq
    obtain ⟨f0, f1, f2, f3, f4, f5⟩ := hf it (by simp)
    have hl := rv.length
    have isE : s.TypeIs (.ref e) "enumerate" := ⟨_, he, rfl⟩
    unfold pyNext
    refine wpAny_bind (wpAny_attempt (wpAny_callSpecial?_slot (name := Str.ofString "__next__") isE F.slot_enumerate_next (wpAny_call_entry F.slot_enumerate_next isE F.entry_enumerate_next ?_ (F.args_enumerate_next_1 _))))
    show wpAny _ _ (field (.ref e) 2 >>= _) _ _ _
    refine wpAny_bind (wpAny_field he rfl (x := .ref it) rfl ?_)
    refine wpAny_bind (wpAny_nextOf_tuple_end (I.ok.hd hc) hit p (by simp; omega) ?_)
    rintro h' x eb ⟨o, ho, hcl⟩
    refine wpAny_bind (wpAny_isInstance (T := "StopIteration") (b := true) ⟨o, ho, hcl⟩ isSubtype_stop ?_)
    exact wpAny_pure ⟨rfl, I.turned (t' := s.toks) (fun b o hb q => eb b o hb q) f0 f1 f3 f4 f5⟩
  self := by
    rintro A i s Q E ⟨⟨_, he⟩, _⟩ h
    exact wpAny_pyIter_enum he h
def iEnumT (K : PySem.W.Frag) (ta : TA) : TI := fun σ H R => ta σ H fun vs H1 => ∃ a xs, vs = [.ref a] ∧ SqT K H1 a xs ∧ R (Iet K a) H1
theorem pi_enumT {X : Cx} {e : Expr} {ta : TA} {p pos tpos : Pos} {elts : List Expr} {kk : Nat} (hg : Gl X "enumerate") (hm : X.mg "enumerate" = none) (ha : PA X [e] ta) (hs : starEach [e] X.env = [(false, eval e X.env)] := by rfl) :
    PI X (.Tuple elts kk tpos) (.Call (.Name "enumerate" p) [e] [] pos) (iEnumT X.K ta) := by
  constructor
  intro pins s σ H R I h
  refine Call_ (ld_blt I hg hm boot_enumerate (PyProof.Rows.callWith_type1 (thn (ha.run pos pins s σ H _ I h) ?_) hs rfl))
  rintro us s1 ⟨vs, H1, I1, r1, a, xs, rfl, hq, q⟩
  obtain ⟨u, rfl, ru⟩ := vals1 r1
  cases ru
  obtain ⟨its, rv, p', hz⟩ := I1.tuple hq
  refine call_enum_tup p' ?_
  intro h' he hit hk
  refine wpAny_pyIter_enum he ?_
  have I2 : Inv X pins σ H1 { s1 with heap := h' } := I1.kept (t' := s1.toks) hk
  refine ⟨s1.heap.objs.size + 1, [s1.heap.objs.size + 1, s1.heap.objs.size], _, _, H1, rfl, I2, turn_enumT a (s1.heap.objs.size + 1) s1.heap.objs.size, ⟨⟨.none, he⟩, hit, Nat.succ_ne_self _⟩, ?_, q⟩
  intro b hb
  have hb' : b = s1.heap.objs.size + 1 ∨ b = s1.heap.objs.size := by simpa using hb
  have hle : s1.heap.objs.size ≤ b := hb'.elim (fun z => by rw [z]; exact Nat.le_succ _) (fun z => by rw [z]; exact Nat.le_refl _)
  exact I1.fpOk hle (I1.hok.fresh hle)
/-- its walk: a new pair each turn -/
def YNum (xs : List V) : Nat → Hp → V → Hp → Prop := fun i H v H' => ∃ T x, v = .ref T ∧ H T = none ∧ H' = upd H T (.tup [.int (i : Nat), x]) ∧ xs[i]? = some x
theorem walk_enumT {K : PySem.W.Frag} {a : Addr} {xs : List V} : Walk (Iet K a) xs.length (fun H => SqT K H a xs) (YNum xs) :=
  ⟨fun i H hi h => ⟨xs, xs[i], h, by simp [hi]⟩, fun H h => ⟨xs, h, Nat.le_refl _⟩, fun i H x H' _ h y => by obtain ⟨T, z, e1, e2, e3, e4⟩ := y; exact ⟨T, z, e1, e2, e3, e4 xs h⟩⟩
theorem walk_enumL {K : PySem.W.Frag} {a : Addr} {xs : List V} : Walk (Ite K a) xs.length (fun H => SqL K H a xs) (YNum xs) :=
  ⟨fun i H hi h => ⟨xs, xs[i], h, by simp [hi]⟩, fun H h => ⟨xs, h, Nat.le_refl _⟩, fun i H x H' _ h y => by obtain ⟨T, z, e1, e2, e3, e4⟩ := y; exact ⟨T, z, e1, e2, e3, e4 xs h⟩⟩
end Lm

namespace Lm
open PySem PySem.Spec PyProof.Rows L2
/-! ### a def of the text, at hand -/
structure Def (K : PySem.W.Frag) (mg : Str → Option Value) (x : Str) (st : Stmt) (ps : List Str) (f : Addr) (fd : FuncData) : Prop where
  F : Fun K x x st f fd
  g : mg x = some (.ref f)
  b : Binds K fd ps []
/-! ### the pot -/

open Classical in
noncomputable def hid (Z : Hp) (p dl : Addr) (H : Hp) : Hp := fun b => if b = p ∨ b = dl ∨ Z b ≠ none then none else H b
theorem hid_at {Z : Hp} {p dl b : Addr} {H : Hp} (h1 : b ≠ p) (h2 : b ≠ dl ∧ Z b = none) : hid Z p dl H b = H b := if_neg (fun z => z.elim h1 (fun z => z.elim h2.1 (fun q => q h2.2)))
theorem hid_same {Z : Hp} (p dl : Addr) (H : Hp) : Same (hid Z p dl H) H := by
  intro b o e
  unfold hid at e
  split at e
  · cases e
  · exact e
theorem hid_some {Z : Hp} {p dl b : Addr} {H : Hp} {o : HO} (e : hid Z p dl H b = some o) : b ≠ p ∧ (b ≠ dl ∧ Z b = none) := by
  unfold hid at e
  split at e
  · cases e
  · rename_i z
    exact ⟨fun q => z (.inl q), fun q => z (.inr (.inl q)), Classical.byContradiction fun q => z (.inr (.inr q))⟩
/-- all but the pot's own two is as it was -/
def Kp (Z : Hp) (p dl : Addr) (H H' : Hp) : Prop := Same (hid Z p dl H) (hid Z p dl H')
theorem Kp.refl {Z : Hp} (p dl : Addr) (H : Hp) : Kp Z p dl H H := Same.refl _
theorem Kp.trans {Z : Hp} {p dl : Addr} {H H1 H2 : Hp} (a : Kp Z p dl H H1) (b : Kp Z p dl H1 H2) : Kp Z p dl H H2 := Same.trans a b
theorem Kp.of {Z : Hp} {p dl : Addr} {H H' : Hp} (s : Same H H') : Kp Z p dl H H' := by
  intro b o e
  have n := hid_some e
  rw [hid_at n.1 n.2] at e ⊢
  exact s b o e
theorem same_new {H : Hp} {q : Addr} {o : HO} (h : H q = none) : Same H (upd H q o) := fun b x e => by
  rw [upd_ne (ne_of_none e h)]
  exact e
theorem Kp.new {Z : Hp} {p dl q : Addr} {H : Hp} {o : HO} (h : H q = none) : Kp Z p dl H (upd H q o) := Kp.of (same_new h)
/-- the pot stands at p -/
structure PotAt (Z : Hp) (H : Hp) (p dl al : Addr) : Prop where
  ob : ∃ t : Int, H p = some (.dK [(.inr "deep", .ref dl), (.inr "all", .ref al), (.inr "times", .int t)])
  de : ∃ ns : List Int, H dl = some (.lst (ns.map V.int)) ∧ ns.length ≤ 64
  li : ∃ ns : List Int, H al = some (.lst (ns.map V.int)) ∧ ns ≠ [] ∧ ns.length ≤ 64
  ne : al ≠ dl
  zz : Same Z H
  zp : Z p = none
  zd : Z dl = none
theorem PotAt.pd {H : Hp} {Z : Hp} {p dl al : Addr} (h : PotAt Z H p dl al) : p ≠ dl := by
  obtain ⟨t, e⟩ := h.ob
  obtain ⟨ns, e2, _⟩ := h.de
  exact ne_of e e2 (fun z => nomatch z)
theorem PotAt.pa {H : Hp} {Z : Hp} {p dl al : Addr} (h : PotAt Z H p dl al) : al ≠ p := by
  obtain ⟨t, e⟩ := h.ob
  obtain ⟨ns, e2, _⟩ := h.li
  exact ne_of e2 e (fun z => nomatch z)
theorem PotAt.keep {H H' : Hp} {Z : Hp} {p dl al : Addr} (h : PotAt Z H p dl al) (s : Same H H') : PotAt Z H' p dl al :=
  ⟨let ⟨t, e⟩ := h.ob; ⟨t, s _ _ e⟩, let ⟨ns, e, l⟩ := h.de; ⟨ns, s _ _ e, l⟩, let ⟨ns, e, l⟩ := h.li; ⟨ns, s _ _ e, l⟩, h.ne, h.zz.trans s, h.zp, h.zd⟩
theorem PotAt.new {H : Hp} {Z : Hp} {p dl al q : Addr} {o : HO} (h : PotAt Z H p dl al) (n : H q = none) : PotAt Z (upd H q o) p dl al := h.keep (same_new n)
theorem PotAt.free {H : Hp} {Z : Hp} {p dl al q : Addr} (h : PotAt Z H p dl al) (n : H q = none) : q ≠ p ∧ (q ≠ dl ∧ Z q = none) := by
  obtain ⟨t, e⟩ := h.ob
  obtain ⟨ns, e2, _⟩ := h.de
  exact ⟨(ne_of_none e n).symm, (ne_of_none e2 n).symm, by
    cases e3 : Z q with
    | none => rfl
    | some o => rw [h.zz _ _ e3] at n; cases n⟩
theorem zz_upd {Z : Hp} {H : Hp} {f : Addr} {o : HO} (h : Same Z H) (n : Z f = none) : Same Z (upd H f o) := fun b x e => by
  rw [upd_ne (ne_of_none e n)]
  exact h b x e
def sp_draw : Sp := fun vs H Q _ => ∃ (Z : Hp) (p dl al : Addr) (n : Int), vs = [.ref p, .int n] ∧ PotAt Z H p dl al ∧ 0 < n ∧ n < 1073741824 ∧
  ∀ (r : Int) (H' : Hp), PotAt Z H' p dl al → Kp Z p dl H H' → 0 ≤ r → r < n → Q (.int r) H'
/-! ### xs == [], xs != [] -/
def rEqE (K : PySem.W.Frag) : R2 := fun x y H Q => ∃ a b xs, x = .ref a ∧ y = .ref b ∧ SqL K H a xs ∧ SqL K H b [] ∧ Q (.bl xs.isEmpty) H
def rNeE (K : PySem.W.Frag) : R2 := fun x y H Q => ∃ a b xs, x = .ref a ∧ y = .ref b ∧ SqL K H a xs ∧ SqL K H b [] ∧ Q (.bl (!xs.isEmpty)) H
section
variable {X : Cx}
theorem op_eqE (hu : X.A.units < cLine) : OpR X (compareOp .Eq) (rEqE X.K) := by
  rintro pins s σ H x y v u Q I rx ry ⟨a, b, xs, rfl, rfl, ha, hb, q⟩
  cases rx
  cases ry
  obtain ⟨i1, r1, p1, _⟩ := I.list ha
  obtain ⟨i2, r2, p2, _⟩ := I.list hb
  cases r2
  cases i1 with
  | nil =>
    cases r1
    exact SeqAt.RcAt.lists (e := fun _ => true) p1.isList p2.isList rfl hu (fun j h1 _ => absurd h1 (by simp)) _ _ _ _ ⟨.bl true, H, I, rfl, q⟩
  | cons z zs =>
    cases r1
    exact SeqAt.RcAt.lists_lengths p1.isList p2.isList (by simp) hu _ _ _ _ ⟨.bl false, H, I, rfl, q⟩
theorem op_neE (hu : X.A.units < cLine) : OpR X (compareOp .NotEq) (rNeE X.K) := by
  rintro pins s σ H x y v u Q I rx ry ⟨a, b, xs, rfl, rfl, ha, hb, q⟩
  cases rx
  cases ry
  obtain ⟨i1, r1, p1, _⟩ := I.list ha
  obtain ⟨i2, r2, p2, _⟩ := I.list hb
  cases r2
  cases i1 with
  | nil =>
    cases r1
    exact SeqAt.RcNeAt.lists (e := fun _ => true) p1.isList p2.isList rfl hu (fun j h1 _ => absurd h1 (by simp)) _ _ _ _ ⟨.bl false, H, I, rfl, q⟩
  | cons z zs =>
    cases r1
    exact SeqAt.RcNeAt.lists_lengths p1.isList p2.isList (by simp) hu _ _ _ _ ⟨.bl true, H, I, rfl, q⟩
end
theorem fmodB {a b : Int} (h : 0 < b) : 0 ≤ a.fmod b ∧ a.fmod b < b := ⟨Int.fmod_nonneg_of_pos a h, Int.fmod_lt_of_pos a h⟩
theorem seq0 {n : Nat} (h : 0 < n) : seqIndex? 0 n = some 0 := by
  unfold seqIndex?
  first
    | (simp [h]; done)
    | (simp; omega)
end Lm

namespace Lm
open PySem PySem.Spec PyProof.Rows L2
/-! ### what an expression gives while the pot stands: R of its value and of the heap without the pot -/
abbrev VR := V → Hp → Prop
abbrev LR := List V → Hp → Prop
def Mo (R : VR) : Prop := ∀ v G G', Same G G' → R v G → R v G'
def MoL (R : LR) : Prop := ∀ v G G', Same G G' → R v G → R v G'
def Ev (Z : Hp) (p dl al : Addr) (H0 : Hp) (σ : L2.St) (te : TE) (R : VR) : Prop :=
  ∀ (H : Hp) (Q : VK), PotAt Z H p dl al → Kp Z p dl H0 H → (∀ v H', PotAt Z H' p dl al → Kp Z p dl H H' → R v (hid Z p dl H') → Q v H') → te σ H Q
def EvA (Z : Hp) (p dl al : Addr) (H0 : Hp) (σ : L2.St) (ta : TA) (R : LR) : Prop :=
  ∀ (H : Hp) (Q : List V → Hp → Prop), PotAt Z H p dl al → Kp Z p dl H0 H → (∀ v H', PotAt Z H' p dl al → Kp Z p dl H H' → R v (hid Z p dl H') → Q v H') → ta σ H Q
section
variable {K : PySem.W.Frag} {Z : Hp} {p dl al : Addr} {H0 : Hp} {σ : L2.St} {te ta tb : TE} {tl : TA} {R R' R1 R2 : VR} {Rs Rt : LR}
theorem Ev.imp (h : Ev Z p dl al H0 σ te R) (i : ∀ v G, R v G → R' v G) : Ev Z p dl al H0 σ te R' := fun H Q P k q => h H Q P k fun v H' P' k' r => q v H' P' k' (i _ _ r)
theorem EvA.imp (h : EvA Z p dl al H0 σ tl Rs) (i : ∀ v G, Rs v G → Rt v G) : EvA Z p dl al H0 σ tl Rt := fun H Q P k q => h H Q P k fun v H' P' k' r => q v H' P' k' (i _ _ r)
theorem ev_c {v : V} : Ev Z p dl al H0 σ (tC v) (fun u _ => u = v) := fun H Q P k q => q v H P (Kp.refl _ _ _) rfl
theorem ev_var {i : Nat} {v : V} (e : σ[i]? = some (some v)) (m : Mo R) (h : R v (hid Z p dl H0)) : Ev Z p dl al H0 σ (tVar i) R := fun H Q P k q => ⟨v, e, q v H P (Kp.refl _ _ _) (m _ _ _ k h)⟩
theorem eva_nil : EvA Z p dl al H0 σ tNil (fun vs _ => vs = []) := fun H Q P k q => q [] H P (Kp.refl _ _ _) rfl
theorem eva_cons (m : Mo R) (h1 : Ev Z p dl al H0 σ te R) (h2 : EvA Z p dl al H0 σ tl Rs) : EvA Z p dl al H0 σ (tCons te tl) (fun vs G => ∃ v r, vs = v :: r ∧ R v G ∧ Rs r G) :=
  fun H Q P k q => h1 H _ P k fun v H1 P1 k1 r1 => h2 H1 _ P1 (k.trans k1) fun vs H2 P2 k2 r2 => q _ H2 P2 (k1.trans k2) ⟨v, vs, rfl, m _ _ _ k2 r1, r2⟩
/-! ### lists of alternatives, all of which have R -/
def AllR (m n : Nat) (R : VR) : LR := fun vs G => m ≤ vs.length ∧ vs.length ≤ n ∧ ∀ v ∈ vs, R v G
theorem eall_nil : EvA Z p dl al H0 σ tNil (AllR 0 0 R) := fun H Q P k q => q [] H P (Kp.refl _ _ _) ⟨Nat.le_refl _, Nat.le_refl _, fun v h => nomatch h⟩
theorem eall_cons {a b : Nat} (m : Mo R) (h1 : Ev Z p dl al H0 σ te R) (h2 : EvA Z p dl al H0 σ tl (AllR a b R)) : EvA Z p dl al H0 σ (tCons te tl) (AllR (a + 1) (b + 1) R) :=
  (eva_cons m h1 h2).imp fun vs G h => by
    obtain ⟨v, r, rfl, hv, h1, h2, h3⟩ := h
    refine ⟨Nat.succ_le_succ h1, Nat.succ_le_succ h2, fun x hx => ?_⟩
    rcases List.mem_cons.mp hx with e | e
    · rw [e]; exact hv
    · exact h3 x e
theorem AllR.mo {m n : Nat} (h : Mo R) : MoL (AllR m n R) := fun vs G G' s ⟨h1, h2, h3⟩ => ⟨h1, h2, fun v hv => h v _ _ s (h3 v hv)⟩
/-- a list, a tuple of things that have R -/
def LsR (m n : Nat) (R : VR) : VR := fun v G => ∃ a xs, v = .ref a ∧ G a = some (.lst xs) ∧ AllR m n R xs G
def TpR (K : PySem.W.Frag) (m n : Nat) (R : VR) : VR := fun v G => ∃ a xs, v = .ref a ∧ SqT K G a xs ∧ AllR m n R xs G
theorem LsR.mo {m n : Nat} (h : Mo R) : Mo (LsR m n R) := fun v G G' s ⟨a, xs, e, g, r⟩ => ⟨a, xs, e, s _ _ g, AllR.mo h _ _ _ s r⟩
theorem TpR.mo {m n : Nat} (h : Mo R) : Mo (TpR K m n R) := fun v G G' s ⟨a, xs, e, g, r⟩ => ⟨a, xs, e, Same.seqT s g, AllR.mo h _ _ _ s r⟩
theorem hid_new {H : Hp} {q : Addr} {o : HO} (P : PotAt Z H p dl al) (n : H q = none) : hid Z p dl (upd H q o) q = some o := by
  have f := P.free n
  rw [hid_at f.1 f.2, upd_same]
theorem hid_upd {H : Hp} {q : Addr} {o : HO} (h1 : q ≠ p) (h2 : q ≠ dl ∧ Z q = none) : hid Z p dl (upd H q o) q = some o := by rw [hid_at h1 h2, upd_same]
/-- a new thing that is not the pot's -/
theorem laid {H : Hp} {q : Addr} {o : HO} (P : PotAt Z H p dl al) (n : H q = none) : PotAt Z (upd H q o) p dl al ∧ Kp Z p dl H (upd H q o) ∧ hid Z p dl (upd H q o) q = some o := ⟨P.new n, Kp.new n, hid_new P n⟩
theorem ev_tup (h : EvA Z p dl al H0 σ tl Rs) (hl : ∀ vs G, Rs vs G → vs.length ≤ sizeLine) (m : MoL Rs) : Ev Z p dl al H0 σ (tTup tl) (fun v G => ∃ a xs, v = .ref a ∧ G a = some (.tup xs) ∧ Rs xs G) :=
  fun H Q P k q => h H _ P k fun vs H1 P1 k1 r1 => ⟨hl _ _ r1, fun t nt => by
    obtain ⟨P2, k2, e2⟩ := laid (o := .tup vs) P1 nt
    exact q _ _ P2 (k1.trans k2) ⟨t, vs, rfl, e2, m _ _ _ k2 r1⟩⟩
theorem ev_lst {m n : Nat} (hn : n ≤ 1000) (hm : Mo R) (h : EvA Z p dl al H0 σ tl (AllR m n R)) : Ev Z p dl al H0 σ (tLst tl) (LsR m n R) :=
  fun H Q P k q => h H _ P k fun vs H1 P1 k1 r1 => ⟨Nat.le_of_lt (small1000 (Nat.le_trans r1.2.1 hn)), fun t nt => by
    obtain ⟨P2, k2, e2⟩ := laid (o := .lst vs) P1 nt
    exact q _ _ P2 (k1.trans k2) ⟨t, vs, rfl, e2, AllR.mo hm _ _ _ k2 r1⟩⟩
theorem ev_tupR {m n : Nat} (hn : n ≤ 1000) (hm : Mo R) (h : EvA Z p dl al H0 σ tl (AllR m n R)) : Ev Z p dl al H0 σ (tTup tl) (TpR K m n R) :=
  (ev_tup h (fun vs G r => Nat.le_of_lt (small1000 (Nat.le_trans r.2.1 hn))) (AllR.mo hm)).imp fun v G ⟨a, xs, e, g, r⟩ => ⟨a, xs, e, .inl (.inl g), r⟩
theorem ev_cat {a b c d : Nat} (hn : b + d ≤ 1000) (hm : Mo R) (h1 : Ev Z p dl al H0 σ ta (LsR a b R)) (h2 : Ev Z p dl al H0 σ tb (LsR c d R)) : Ev Z p dl al H0 σ (tOp rCat ta tb) (LsR (a + c) (b + d) R) :=
  fun H Q P k q => h1 H _ P k fun x H1 P1 k1 r1 => h2 H1 _ P1 (k.trans k1) fun y H2 P2 k2 r2 => by
    obtain ⟨l, xs, rfl, g1, a1, a2, a3⟩ := LsR.mo hm _ _ _ k2 r1
    obtain ⟨l2, ys, rfl, g2, b1, b2, b3⟩ := r2
    refine ⟨l, l2, xs, ys, rfl, rfl, hid_same _ _ _ _ _ g1, hid_same _ _ _ _ _ g2, Nat.le_of_lt (small1000 (by omega)), fun t nt => ?_⟩
    obtain ⟨P3, k3, e3⟩ := laid (o := .lst (xs ++ ys)) P2 nt
    refine q _ _ P3 ((k1.trans k2).trans k3) ⟨t, _, rfl, e3, by rw [List.length_append]; omega, by rw [List.length_append]; omega, fun v hv => ?_⟩
    rcases List.mem_append.mp hv with e | e
    · exact hm _ _ _ k3 (a3 v e)
    · exact hm _ _ _ k3 (b3 v e)
theorem ev_catA {a b c d : Nat} (hn : b + d ≤ 1000) (hm : Mo R) (h1 : Ev Z p dl al H0 σ ta (TpR K a b R)) (h2 : Ev Z p dl al H0 σ tb (TpR K c d R)) : Ev Z p dl al H0 σ (tOp (rCatA K) ta tb) (TpR K (a + c) (b + d) R) :=
  fun H Q P k q => h1 H _ P k fun x H1 P1 k1 r1 => h2 H1 _ P1 (k.trans k1) fun y H2 P2 k2 r2 => by
    have r1' := TpR.mo hm _ _ _ k2 r1
    obtain ⟨l, xs, rfl, g1, a1, a2, a3⟩ := r1'
    obtain ⟨l2, ys, rfl, g2, b1, b2, b3⟩ := id r2
    refine ⟨l, l2, xs, ys, rfl, rfl, Same.seqT (hid_same _ _ _) g1, Same.seqT (hid_same _ _ _) g2, Nat.le_of_lt (small1000 (by omega)), fun z => ?_, fun z1 z2 => ?_, fun z1 z2 t nt => ?_⟩
    · subst z
      refine q _ _ P2 (k1.trans k2) ⟨l2, ys, rfl, g2, ?_, by omega, b3⟩
      simp only [List.length_nil] at a1; omega
    · subst z2
      refine q _ _ P2 (k1.trans k2) ⟨l, xs, rfl, g1, ?_, by omega, a3⟩
      simp only [List.length_nil] at b1; omega
    · obtain ⟨P3, k3, e3⟩ := laid (o := .tup (xs ++ ys)) P2 nt
      refine q _ _ P3 ((k1.trans k2).trans k3) ⟨t, _, rfl, .inl (.inl e3), by rw [List.length_append]; omega, by rw [List.length_append]; omega, fun v hv => ?_⟩
      rcases List.mem_append.mp hv with e | e
      · exact hm _ _ _ k3 (a3 v e)
      · exact hm _ _ _ k3 (b3 v e)
theorem mem_cutV {xs : List V} {lo hi : Option Int} {v : V} (h : v ∈ cutV xs lo hi) : v ∈ xs := List.mem_of_mem_drop (List.mem_of_mem_take h)
/-- any cut of a tuple -/
def AnyO (Z : Hp) (p dl al : Addr) (H0 : Hp) (σ : L2.St) (to : TO) : Prop := ∀ (H : Hp) (Q : Option Int → Hp → Prop), PotAt Z H p dl al → Kp Z p dl H0 H → (∀ o H', PotAt Z H' p dl al → Kp Z p dl H H' → Q o H') → to σ H Q
theorem any_none : AnyO Z p dl al H0 σ tNoPart := fun H Q P k q => q none H P (Kp.refl _ _ _)
theorem any_some {t : TE} (h : Ev Z p dl al H0 σ t (fun v _ => ∃ i, v = .int i)) : AnyO Z p dl al H0 σ (tPart t) := fun H Q P k q => h H _ P k fun v H1 P1 k1 ⟨i, e⟩ => ⟨i, e, q _ _ P1 k1⟩
theorem ev_slA {a b : Nat} {t1 t2 : TO} (hm : Mo R) (h : Ev Z p dl al H0 σ te (TpR K a b R)) (h1 : AnyO Z p dl al H0 σ t1) (h2 : AnyO Z p dl al H0 σ t2) : Ev Z p dl al H0 σ (tSl (rSlA K) te t1 t2) (TpR K 0 b R) :=
  fun H Q P k q => h H _ P k fun x H1 P1 k1 r1 => h1 H1 _ P1 (k.trans k1) fun lo H2 P2 k2 => h2 H2 _ P2 ((k.trans k1).trans k2) fun hi H3 P3 k3 => by
    obtain ⟨l, xs, rfl, g, a1, a2, a3⟩ := TpR.mo hm _ _ _ (Kp.trans k2 k3) r1
    refine ⟨l, xs, rfl, Same.seqT (hid_same _ _ _) g, fun _ => ?_, fun _ t nt => ?_⟩
    · exact q _ _ P3 (k1.trans (k2.trans k3)) ⟨l, xs, rfl, g, Nat.zero_le _, a2, a3⟩
    · obtain ⟨P4, k4, e4⟩ := laid (o := .tup (cutV xs lo hi)) P3 nt
      exact q _ _ P4 (k1.trans ((k2.trans k3).trans k4)) ⟨t, _, rfl, .inl (.inl e4), Nat.zero_le _, Nat.le_trans (cutV_length _ _ _) a2, fun v hv => hm _ _ _ k4 (a3 v (mem_cutV hv))⟩
theorem ev_revT {a b : Nat} (hm : Mo R) (h : Ev Z p dl al H0 σ te (TpR K a b R)) : Ev Z p dl al H0 σ (tRevT K te) (TpR K a b R) :=
  fun H Q P k q => h H _ P k fun x H1 P1 k1 r1 => by
    obtain ⟨l, xs, rfl, g, a1, a2, a3⟩ := r1
    refine ⟨l, xs, rfl, Same.seqT (hid_same _ _ _) g, fun t nt => ?_⟩
    obtain ⟨P4, k4, e4⟩ := laid (o := .tup xs.reverse) P1 nt
    exact q _ _ P4 (k1.trans k4) ⟨t, _, rfl, .inl (.inl e4), by rw [List.length_reverse]; exact a1, by rw [List.length_reverse]; exact a2, fun v hv => hm _ _ _ k4 (a3 v (List.mem_reverse.mp hv))⟩
/-! ### numbers -/
def IR (lo hi : Int) : VR := fun v _ => ∃ i, v = .int i ∧ lo ≤ i ∧ i ≤ hi
theorem IR.mo {lo hi : Int} : Mo (IR lo hi) := fun v G G' s h => h
theorem ev_int {i : Int} : Ev Z p dl al H0 σ (tC (.int i)) (IR i i) := ev_c.imp fun v G e => ⟨i, e, Int.le_refl _, Int.le_refl _⟩
theorem ev_neg {i j : Int} (h : Ev Z p dl al H0 σ te (IR i j)) : Ev Z p dl al H0 σ (tUn (rU fun i => .int (-i)) te) (IR (-j) (-i)) :=
  fun H Q P k q => h H _ P k fun v H1 P1 k1 ⟨x, e, h1, h2⟩ => ⟨x, e, q _ _ P1 k1 ⟨-x, rfl, by omega, by omega⟩⟩
theorem ev_add {a b c d : Int} (h1 : Ev Z p dl al H0 σ ta (IR a b)) (h2 : Ev Z p dl al H0 σ tb (IR c d)) : Ev Z p dl al H0 σ (tOp (rI0 fun i j => .int (i + j)) ta tb) (IR (a + c) (b + d)) :=
  fun H Q P k q => h1 H _ P k fun x H1 P1 k1 ⟨i, e1, i1, i2⟩ => h2 H1 _ P1 (k.trans k1) fun y H2 P2 k2 ⟨j, e2, j1, j2⟩ => ⟨i, j, e1, e2, q _ _ P2 (k1.trans k2) ⟨i + j, rfl, by omega, by omega⟩⟩
theorem ev_sub {a b c d : Int} (h1 : Ev Z p dl al H0 σ ta (IR a b)) (h2 : Ev Z p dl al H0 σ tb (IR c d)) : Ev Z p dl al H0 σ (tOp (rI0 fun i j => .int (i - j)) ta tb) (IR (a - d) (b - c)) :=
  fun H Q P k q => h1 H _ P k fun x H1 P1 k1 ⟨i, e1, i1, i2⟩ => h2 H1 _ P1 (k.trans k1) fun y H2 P2 k2 ⟨j, e2, j1, j2⟩ => ⟨i, j, e1, e2, q _ _ P2 (k1.trans k2) ⟨i - j, rfl, by omega, by omega⟩⟩
theorem ev_mul {a b c d : Int} (ha : 0 ≤ a) (hb : b < 2 ^ 64) (hc : 0 ≤ c) (h1 : Ev Z p dl al H0 σ ta (IR a b)) (h2 : Ev Z p dl al H0 σ tb (IR c d)) : Ev Z p dl al H0 σ (tOp (rI CMul fun i j => .int (i * j)) ta tb) (IR (a * c) (b * d)) :=
  fun H Q P k q => h1 H _ P k fun x H1 P1 k1 ⟨i, e1, i1, i2⟩ => h2 H1 _ P1 (k.trans k1) fun y H2 P2 k2 ⟨j, e2, j1, j2⟩ => by
    refine ⟨i, j, e1, e2, .inl ⟨by omega, by omega⟩, q _ _ P2 (k1.trans k2) ⟨i * j, rfl, ?_, ?_⟩⟩
    · exact Int.mul_le_mul i1 j1 hc (Int.le_trans ha i1)
    · exact Int.mul_le_mul i2 j2 (Int.le_trans hc j1) (Int.le_trans ha (Int.le_trans i1 i2))
theorem ev_pow {i j : Int} (h : CPow i j) : Ev Z p dl al H0 σ (tOp (rI CPow fun i j => .int (i ^ j.toNat)) (tC (.int i)) (tC (.int j))) (IR (i ^ j.toNat) (i ^ j.toNat)) :=
  fun H Q P k q => ⟨i, j, rfl, rfl, h, q _ _ P (Kp.refl _ _ _) ⟨_, rfl, Int.le_refl _, Int.le_refl _⟩⟩
theorem Ev.wide {a b c d : Int} (h : Ev Z p dl al H0 σ te (IR a b)) (h1 : c ≤ a) (h2 : b ≤ d) : Ev Z p dl al H0 σ te (IR c d) := h.imp fun v G ⟨i, e, i1, i2⟩ => ⟨i, e, by omega, by omega⟩
theorem Ev.isInt {a b : Int} (h : Ev Z p dl al H0 σ te (IR a b)) : Ev Z p dl al H0 σ te (fun v _ => ∃ i, v = .int i) := h.imp fun v G ⟨i, e, _⟩ => ⟨i, e⟩
/-! ### draws -/
def sp_one : Sp := fun vs H Q _ => ∃ (Z : Hp) (p dl al l : Addr) (xs : List V), vs = [.ref p, .ref l] ∧ PotAt Z H p dl al ∧ hid Z p dl H l = some (.lst xs) ∧ xs ≠ [] ∧ xs.length ≤ 1000 ∧
  ∀ (x : V) (H' : Hp), x ∈ xs → PotAt Z H' p dl al → Kp Z p dl H H' → Q x H'
theorem ev_draw {i : Nat} {b : Int} (e : σ[i]? = some (some (.ref p))) (hb : b < 1073741824) (h : Ev Z p dl al H0 σ te (IR 1 b)) : Ev Z p dl al H0 σ (tCall sp_draw [] E0 (tCons (tVar i) (tCons te tNil))) (IR 0 (b - 1)) :=
  fun H Q P k q => ⟨_, e, h H _ P k fun v H1 P1 k1 ⟨n, en, n1, n2⟩ => ⟨Z, p, dl, al, n, by rw [en]; rfl, P1, by omega, by omega, fun r H2 P2 k2 r1 r2 => q _ _ P2 (k1.trans k2) ⟨r, rfl, r1, by omega⟩⟩⟩
theorem ev_one {i m n : Nat} (e : σ[i]? = some (some (.ref p))) (hn : n ≤ 1000) (hm : Mo R) (h : Ev Z p dl al H0 σ te (LsR (m + 1) n R)) : Ev Z p dl al H0 σ (tCall sp_one [] E0 (tCons (tVar i) (tCons te tNil))) R :=
  fun H Q P k q => ⟨_, e, h H _ P k fun v H1 P1 k1 ⟨l, xs, el, g, l1, l2, l3⟩ => ⟨Z, p, dl, al, l, xs, by rw [el]; rfl, P1, g, (fun z => by subst z; simp at l1), by omega, fun x H2 hx P2 k2 => q _ _ P2 (k1.trans k2) (hm _ _ _ k2 (l3 x hx))⟩⟩
end
/-! ### data -/
def DR (K : PySem.W.Frag) (φ : PyData → Prop) : VR := fun v G => ∃ d, Dq K G v d ∧ φ d
theorem DR.mo {K : PySem.W.Frag} {φ : PyData → Prop} : Mo (DR K φ) := fun v G G' s ⟨d, h, x⟩ => ⟨d, h.mono s, x⟩
theorem all_data {K : PySem.W.Frag} {φ : PyData → Prop} {G : Hp} : ∀ {xs : List V}, (∀ x ∈ xs, DR K φ x G) → ∃ ds, Dqs K G xs ds ∧ ∀ d ∈ ds, φ d
  | [], _ => ⟨[], .nil, fun d h => nomatch h⟩
  | x :: r, h => by
    obtain ⟨d, hd, pd⟩ := h x List.mem_cons_self
    obtain ⟨ds, hs, ps⟩ := all_data (xs := r) fun y hy => h y (List.mem_cons_of_mem _ hy)
    refine ⟨d :: ds, .cons hd hs, fun e he => ?_⟩
    rcases List.mem_cons.mp he with z | z
    · rw [z]; exact pd
    · exact ps e z
/-- data whose text has at most n signs, with at most k levels -/
structure Sm (n k : Nat) (d : PyData) : Prop where
  sh : d.showable = true
  dp : d.depth ≤ k
  sz : d.shown.length ≤ n
theorem Sm.wide {n k n' k' : Nat} {d : PyData} (h : Sm n k d) (h1 : n ≤ n') (h2 : k ≤ k') : Sm n' k' d := ⟨h.sh, Nat.le_trans h.dp h2, Nat.le_trans h.sz h1⟩
theorem Sm.fine {n k : Nat} {d : PyData} (h : Sm n k d) (h1 : n ≤ 16777216) (h2 : k ≤ 100) : Fine d := ⟨h.sh, Nat.le_trans h.dp h2, Nat.le_trans h.sz (by rw [PySem.sizeLine_eq]; exact h1)⟩
end Lm

namespace Lm
open PySem PySem.Spec PyProof.Rows L2
/-! ### how long a text of data is -/
theorem all_showable : ∀ {ds : List PyData}, (∀ d ∈ ds, d.showable = true) → PyData.showableAll ds = true
  | [], _ => rfl
  | d :: r, h => by
    simp only [PyData.showableAll, h d List.mem_cons_self, Bool.true_and]
    exact all_showable fun e he => h e (List.mem_cons_of_mem _ he)
theorem all_depth {k : Nat} : ∀ {ds : List PyData}, (∀ d ∈ ds, d.depth ≤ k) → PyData.depthAll ds ≤ k
  | [], _ => Nat.zero_le _
  | d :: r, h => by
    simp only [PyData.depthAll]
    exact Nat.max_le.mpr ⟨h d List.mem_cons_self, all_depth fun e he => h e (List.mem_cons_of_mem _ he)⟩
theorem all_shown {n : Nat} : ∀ {ds : List PyData}, (∀ d ∈ ds, d.shown.length ≤ n) → ((PyData.shownAll ds).map (·.length)).sum ≤ ds.length * n ∧ (PyData.shownAll ds).length = ds.length
  | [], _ => by simp [PyData.shownAll]
  | d :: r, h => by
    obtain ⟨h1, h2⟩ := all_shown (ds := r) fun e he => h e (List.mem_cons_of_mem _ he)
    have h3 := h d List.mem_cons_self
    simp only [PyData.shownAll, List.map_cons, List.sum_cons, List.length_cons, h2, and_true]
    rw [Nat.succ_mul]
    omega
theorem seq_size {c n len sum : Nat} (h1 : sum ≤ len * n) (h2 : len ≤ c) : sum + 2 * len + 3 ≤ c * (n + 2) + 3 := by
  have h3 : len * n ≤ c * n := Nat.mul_le_mul_right n h2
  rw [Nat.mul_add]
  omega
theorem Sm.tuple {c n k : Nat} {ds : List PyData} (h : ∀ d ∈ ds, Sm n k d) (hc : ds.length ≤ c) : Sm (c * (n + 2) + 3) (k + 1) (.tuple ds) := by
  obtain ⟨h1, h2⟩ := all_shown fun d hd => (h d hd).sz
  refine ⟨?_, ?_, ?_⟩
  · simp only [PyData.showable]
    exact all_showable fun d hd => (h d hd).sh
  · simp only [PyData.depth]
    exact Nat.succ_le_succ (all_depth fun d hd => (h d hd).dp)
  · simp only [PyData.shown]
    refine Nat.le_trans (tupleText_len_le _) ?_
    rw [h2]
    exact seq_size h1 hc
theorem Sm.list {c n k : Nat} {ds : List PyData} (h : ∀ d ∈ ds, Sm n k d) (hc : ds.length ≤ c) : Sm (c * (n + 2) + 3) (k + 1) (.list ds) := by
  obtain ⟨h1, h2⟩ := all_shown fun d hd => (h d hd).sz
  refine ⟨?_, ?_, ?_⟩
  · simp only [PyData.showable]
    exact all_showable fun d hd => (h d hd).sh
  · simp only [PyData.depth]
    exact Nat.succ_le_succ (all_depth fun d hd => (h d hd).dp)
  · simp only [PyData.shown]
    refine Nat.le_trans (listText_len_le _) ?_
    rw [h2]
    exact seq_size h1 hc
theorem log2_lt {n : Nat} (h : n < 10 ^ 12) : n.log2 < 1920 := by
  by_cases z : n = 0
  · subst z; decide
  · exact (Nat.log2_lt z).mpr (Nat.lt_trans h (Nat.lt_of_lt_of_le (by decide : 10 ^ 12 < 2 ^ 40) (Nat.pow_le_pow_right (by decide) (by decide))))
theorem Sm.int {i : Int} (h : i.natAbs < 10 ^ 12) : Sm 13 0 (.int i) := by
  refine ⟨?_, Nat.le_refl _, PyData.shown_int_le h⟩
  simp only [PyData.showable, decide_eq_true_eq]
  exact log2_lt h
theorem Sm.bool (b : Bool) : Sm 5 0 (.bool b) := by cases b <;> exact ⟨rfl, Nat.le_refl _, by decide +kernel⟩
section
variable {K : PySem.W.Frag} {Z : Hp} {p dl al : Addr} {H0 : Hp} {σ : L2.St} {te ta tb : TE} {tl : TA} {R R' : VR} {n k : Nat}
theorem TpR.data {m c : Nat} {G : Hp} {v : V} (h : TpR K m c R v G) (i : ∀ x, R x G → DR K (Sm n k) x G) : DR K (Sm (c * (n + 2) + 3) (k + 1)) v G := by
  obtain ⟨a, xs, rfl, g, h1, h2, h3⟩ := h
  obtain ⟨ds, hd, hp⟩ := all_data fun x hx => i x (h3 x hx)
  exact ⟨_, .tup g hd, Sm.tuple hp (by rw [← hd.len]; exact h2)⟩
theorem LsR.data {m c : Nat} {G : Hp} {v : V} (h : LsR m c R v G) (i : ∀ x, R x G → DR K (Sm n k) x G) : DR K (Sm (c * (n + 2) + 3) (k + 1)) v G := by
  obtain ⟨a, xs, rfl, g, h1, h2, h3⟩ := h
  obtain ⟨ds, hd, hp⟩ := all_data fun x hx => i x (h3 x hx)
  exact ⟨_, .lst (.inl (.inl g)) hd, Sm.list hp (by rw [← hd.len]; exact h2)⟩
theorem DR.wide {n' k' : Nat} {G : Hp} {v : V} (h : DR K (Sm n k) v G) (h1 : n ≤ n') (h2 : k ≤ k') : DR K (Sm n' k') v G := let ⟨d, a, b⟩ := h; ⟨d, a, b.wide h1 h2⟩
theorem ev_wide {n' k' : Nat} (h : Ev Z p dl al H0 σ te (DR K (Sm n k))) (h1 : n ≤ n') (h2 : k ≤ k') : Ev Z p dl al H0 σ te (DR K (Sm n' k')) := h.imp fun v G r => r.wide h1 h2
theorem ev_d {v : V} {d : PyData} (h : ∀ G, Dq K G v d) (s : Sm n k d) : Ev Z p dl al H0 σ (tC v) (DR K (Sm n k)) := ev_c.imp fun u G e => by rw [e]; exact ⟨d, h G, s⟩
theorem ir_data {lo hi : Int} {v : V} {G : Hp} (h : IR lo hi v G) (h1 : -999999999999 ≤ lo) (h2 : hi ≤ 999999999999) : DR K (Sm 13 0) v G := by
  obtain ⟨i, rfl, i1, i2⟩ := h
  exact ⟨_, .int i, Sm.int (by omega)⟩
theorem ev_ir {lo hi : Int} (h : Ev Z p dl al H0 σ te (IR lo hi)) (h1 : -999999999999 ≤ lo) (h2 : hi ≤ 999999999999) : Ev Z p dl al H0 σ te (DR K (Sm 13 0)) := h.imp fun v G r => ir_data r h1 h2
theorem ev_tupD {m c : Nat} (hc : c ≤ 1000) (h : EvA Z p dl al H0 σ tl (AllR m c (DR K (Sm n k)))) : Ev Z p dl al H0 σ (tTup tl) (DR K (Sm (c * (n + 2) + 3) (k + 1))) :=
  (ev_tupR hc DR.mo h).imp fun v G r => r.data fun x z => z
theorem ev_lstD {m c : Nat} (hc : c ≤ 1000) (h : EvA Z p dl al H0 σ tl (AllR m c (DR K (Sm n k)))) : Ev Z p dl al H0 σ (tLst tl) (DR K (Sm (c * (n + 2) + 3) (k + 1))) :=
  (ev_lst hc DR.mo h).imp fun v G r => r.data fun x z => z
theorem ev_dnew : Ev Z p dl al H0 σ tDNewK (DR K (Sm 2 1)) := fun H Q P k q t nt => by
  obtain ⟨P4, k4, e4⟩ := laid (o := .dK []) P nt
  exact q _ _ P4 k4 ⟨_, .dct e4 .nil, ⟨rfl, by decide, by decide +kernel⟩⟩
theorem ev_disp1 {x : Str} {i : Int} {d : PyData} (hd : d = .dict [(.str x, .int i)]) (s : Sm n k d) : Ev Z p dl al H0 σ (tDisp [(tC (.str x), tC (.int i))]) (DR K (Sm n k)) := fun H Q P k q t nt => by
  subst hd
  have e : (upd (upd H t (.dK [])) t (.dK (mergeK [] [((Sum.inr x : L2.Key), V.int i)]))) = upd H t (.dK [(Sum.inr x, V.int i)]) := by rw [upd_upd]; rfl
  refine ⟨upd_same, [(Sum.inr x, V.int i)], rfl, Nat.le_add_left 1 14, ?_⟩
  rw [e]
  obtain ⟨P4, k4, e4⟩ := laid (o := .dK [(Sum.inr x, V.int i)]) P nt
  exact q _ _ P4 k4 ⟨_, .dct (ds := [.int i]) e4 (.cons (.int i) .nil), s⟩
/-- an odd value -/
def sp_odd (K : PySem.W.Frag) : Sp := fun vs H Q _ => ∃ (Z : Hp) (p dl al : Addr), vs = [.ref p] ∧ PotAt Z H p dl al ∧ ∀ (x : V) (H' : Hp), PotAt Z H' p dl al → Kp Z p dl H H' → DR K (Sm 60 3) x (hid Z p dl H') → Q x H'
theorem ev_odd {i : Nat} (e : σ[i]? = some (some (.ref p))) : Ev Z p dl al H0 σ (tCall (sp_odd K) [] E0 (tCons (tVar i) tNil)) (DR K (Sm 60 3)) := fun H Q P k q => ⟨_, e, Z, p, dl, al, rfl, P, fun x H' P' k' r => q x H' P' k' r⟩
def sp_opened (K : PySem.W.Frag) : Sp := fun vs H Q _ => ∃ (a : Addr) (ns : List Int), vs = [.ref a] ∧ SqL K H a (ns.map V.int) ∧ ns.length ≤ 63 ∧ ∀ (p dl al : Addr) (H' : Hp), PotAt (fun _ => none) H' p dl al → Same H H' → Q (.ref p) H'
end
theorem cut_all {xs : List V} (h : xs.length ≤ 64) : cutV xs none (some 64) = xs := by
  unfold cutV
  rw [HT.sIx_none, show HT.sIx xs.length xs.length (some 64) = min 64 xs.length from HT.sIx_nat xs.length xs.length 64, Nat.min_eq_right h, List.drop_zero, Nat.sub_zero, List.take_length]
theorem same_upd2 {H H' : Hp} {q : Addr} {o : HO} (s : Same H H') (n : H q = none) : Same H (upd H' q o) := fun b x e => by
  rw [upd_ne (ne_of_none e n)]
  exact s b x e
theorem yes_if {σ : L2.St} {H : Hp} {A B : Hp → Prop} (h : A H) : tYes σ H (fun b H3 => if b = true then A H3 else B H3) := by
  show if true = true then A H else B H
  rw [if_pos rfl]
  exact h
/-! ### one written number -/
def EI (i : Int) : VR := fun v _ => v = .int i
section
variable {K : PySem.W.Frag} {Z : Hp} {p dl al : Addr} {H0 : Hp} {σ : L2.St} {te ta tb : TE} {tl : TA} {n k : Nat} {a b : Int}
theorem ei_c {i : Int} : Ev Z p dl al H0 σ (tC (.int i)) (EI i) := ev_c
theorem ei_neg (h : Ev Z p dl al H0 σ te (EI a)) : Ev Z p dl al H0 σ (tUn (rU fun i => .int (-i)) te) (EI (-a)) := fun H Q P k q => h H _ P k fun v H1 P1 k1 e => ⟨a, e, q _ _ P1 k1 rfl⟩
theorem ei_add (h1 : Ev Z p dl al H0 σ ta (EI a)) (h2 : Ev Z p dl al H0 σ tb (EI b)) : Ev Z p dl al H0 σ (tOp (rI0 fun i j => .int (i + j)) ta tb) (EI (a + b)) :=
  fun H Q P k q => h1 H _ P k fun x H1 P1 k1 e1 => h2 H1 _ P1 (k.trans k1) fun y H2 P2 k2 e2 => ⟨a, b, e1, e2, q _ _ P2 (k1.trans k2) rfl⟩
theorem ei_mul (hc : CMul a b) (h1 : Ev Z p dl al H0 σ ta (EI a)) (h2 : Ev Z p dl al H0 σ tb (EI b)) : Ev Z p dl al H0 σ (tOp (rI CMul fun i j => .int (i * j)) ta tb) (EI (a * b)) :=
  fun H Q P k q => h1 H _ P k fun x H1 P1 k1 e1 => h2 H1 _ P1 (k.trans k1) fun y H2 P2 k2 e2 => ⟨a, b, e1, e2, hc, q _ _ P2 (k1.trans k2) rfl⟩
theorem ei_pow {i j : Int} (h : CPow i j) : Ev Z p dl al H0 σ (tOp (rI CPow fun i j => .int (i ^ j.toNat)) (tC (.int i)) (tC (.int j))) (EI (i ^ j.toNat)) := fun H Q P k q => ⟨i, j, rfl, rfl, h, q _ _ P (Kp.refl _ _ _) rfl⟩
theorem ei_d (h : Ev Z p dl al H0 σ te (EI a)) (s : Sm n k (.int a)) : Ev Z p dl al H0 σ te (DR K (Sm n k)) := h.imp fun v G e => by rw [e]; exact ⟨_, .int a, s⟩
theorem ei_ir (h : Ev Z p dl al H0 σ te (EI a)) : Ev Z p dl al H0 σ te (IR a a) := h.imp fun v G e => ⟨a, e, Int.le_refl _, Int.le_refl _⟩
end
instance {i j : Int} : Decidable (CPow i j) := by unfold CPow; infer_instance
instance {i j : Int} : Decidable (CMul i j) := by unfold CMul; infer_instance
theorem sm_chk {n k : Nat} {d : PyData} (h : (d.showable && decide (d.depth ≤ k) && decide (d.shown.length ≤ n)) = true) : Sm n k d := by
  simp only [Bool.and_eq_true, decide_eq_true_eq] at h
  exact ⟨h.1.1, h.1.2, h.2⟩
/-! ### a statement and what follows it -/
section
variable {D : Ends} {σ : L2.St} {H : Hp} {te : TE} {ta : TA} {t u v : TS} {c : TT} {i j : Nat}
theorem s_set (h : te σ H fun x H1 => u D (σ.set i (some x)) H1) : tSeq (tAsg te (gName i)) u D σ H := h
theorem s_set1 (h : te σ H fun x H1 => D.nx (σ.set i (some x)) H1) : tAsg te (gName i) D σ H := h
theorem s_par (h : ta σ H fun vs H1 => ∃ v w, vs = [v, w] ∧ u D ((σ.set i (some v)).set j (some w)) H1) : tSeq (tPar i j ta) u D σ H := h
theorem s_expr (h : te σ H fun _ H1 => u D σ H1) : tSeq (tDrop te) u D σ H := h
theorem s_expr1 (h : te σ H fun _ H1 => D.nx σ H1) : tDrop te D σ H := h
theorem s_if (h : c σ H fun b H1 => if b = true then t { D with nx := u D } σ H1 else v { D with nx := u D } σ H1) : tSeq (tIfS c t v) u D σ H := h
theorem s_if1 (h : c σ H fun b H1 => if b = true then t D σ H1 else v D σ H1) : tIfS c t v D σ H := h
theorem s_ret (h : te σ H D.rt) : tRet te D σ H := h
theorem s_next (h : D.nx σ H) : tNext D σ H := h
end
section
variable {K : PySem.W.Frag} {Z : Hp} {p dl al : Addr} {H0 : Hp} {σ : L2.St} {te ta tb : TE} {tl : TA} {R R' R1 R2 : VR} {n k : Nat}
theorem ev_tpD {m c N : Nat} (h : Ev Z p dl al H0 σ te (TpR K m c (DR K (Sm n k)))) (hN : c * (n + 2) + 3 ≤ N) : Ev Z p dl al H0 σ te (DR K (Sm N (k + 1))) := h.imp fun v G r => (r.data fun x z => z).wide hN (Nat.le_refl _)
theorem ev_lsD {m c N : Nat} (h : Ev Z p dl al H0 σ te (LsR m c (DR K (Sm n k)))) (hN : c * (n + 2) + 3 ≤ N) : Ev Z p dl al H0 σ te (DR K (Sm N (k + 1))) := h.imp fun v G r => (r.data fun x z => z).wide hN (Nat.le_refl _)
theorem ev_len {m c : Nat} (h : Ev Z p dl al H0 σ te (TpR K m c R)) : Ev Z p dl al H0 σ (tCB (fun xs H Q => ∃ p ys, xs = [.ref p] ∧ (SqL K H p ys ∨ SqT K H p ys) ∧ Q (.int ys.length) H) (tCons te tNil)) (IR m c) :=
  fun H Q P k q => h H _ P k fun v H1 P1 k1 ⟨a, xs, e, g, h1, h2, _⟩ => ⟨a, xs, by rw [e], .inr (Same.seqT (hid_same _ _ _) g), q _ _ P1 k1 ⟨_, rfl, by omega, by omega⟩⟩
theorem ev_lenL {m c : Nat} (h : Ev Z p dl al H0 σ te (LsR m c R)) : Ev Z p dl al H0 σ (tCB (fun xs H Q => ∃ p ys, xs = [.ref p] ∧ (SqL K H p ys ∨ SqT K H p ys) ∧ Q (.int ys.length) H) (tCons te tNil)) (IR m c) :=
  fun H Q P k q => h H _ P k fun v H1 P1 k1 ⟨a, xs, e, g, h1, h2, _⟩ => ⟨a, xs, by rw [e], .inl (.inl (.inl (hid_same _ _ _ _ _ g))), q _ _ P1 k1 ⟨_, rfl, by omega, by omega⟩⟩
theorem ev_listOf {m c : Nat} (hm : Mo R) (h : Ev Z p dl al H0 σ te (TpR K m c R)) : Ev Z p dl al H0 σ (tCB (fun xs H Q => ∃ p ys, xs = [.ref p] ∧ (SqL K H p ys ∨ SqT K H p ys) ∧ ∀ l, H l = none → Q (.ref l) (upd H l (.lst ys))) (tCons te tNil)) (LsR m c R) :=
  fun H Q P k q => h H _ P k fun v H1 P1 k1 ⟨a, xs, e, g, h1, h2, h3⟩ => ⟨a, xs, by rw [e], .inr (Same.seqT (hid_same _ _ _) g), fun t nt => by
    obtain ⟨P4, k4, e4⟩ := laid (o := .lst xs) P1 nt
    exact q _ _ P4 (k1.trans k4) ⟨t, xs, rfl, e4, h1, h2, fun x hx => hm _ _ _ k4 (h3 x hx)⟩⟩
theorem ev_tupleOf {m c : Nat} (hm : Mo R) (h : Ev Z p dl al H0 σ te (LsR m c R)) : Ev Z p dl al H0 σ (tCB (fun xs H Q => ∃ p ys, xs = [.ref p] ∧ ((SqL K H p ys ∧ ∀ l, H l = none → Q (.ref l) (upd H l (.tup ys))) ∨ (SqT K H p ys ∧ Q (.ref p) H))) (tCons te tNil)) (TpR K m c R) :=
  fun H Q P k q => h H _ P k fun v H1 P1 k1 ⟨a, xs, e, g, h1, h2, h3⟩ => ⟨a, xs, by rw [e], .inl ⟨.inl (.inl (hid_same _ _ _ _ _ g)), fun t nt => by
    obtain ⟨P4, k4, e4⟩ := laid (o := .tup xs) P1 nt
    exact q _ _ P4 (k1.trans k4) ⟨t, xs, rfl, .inl (.inl e4), h1, h2, fun x hx => hm _ _ _ k4 (h3 x hx)⟩⟩⟩
theorem ev_pair (m1 : Mo R1) (m2 : Mo R2) (h1 : Ev Z p dl al H0 σ ta R1) (h2 : Ev Z p dl al H0 σ tb R2) : EvA Z p dl al H0 σ (tCons ta (tCons tb tNil)) (fun vs G => ∃ v w, vs = [v, w] ∧ R1 v G ∧ R2 w G) :=
  (eva_cons m1 h1 (eva_cons m2 h2 eva_nil)).imp fun vs G ⟨v, r, e, r1, w, r', e', r2, e2⟩ => ⟨v, w, by rw [e, e', e2], r1, r2⟩
theorem ev_i1 {v : V} {i : Nat} {lo hi : Int} (e : σ[i]? = some (some v)) (h : IR lo hi v (hid Z p dl H0)) : Ev Z p dl al H0 σ (tVar i) (IR lo hi) := ev_var e IR.mo h
/-- a bent tuple -/
def sp_bent (K : PySem.W.Frag) (c n k N : Nat) : Sp := fun vs H Q _ => ∃ (Z : Hp) (p dl al : Addr) (v : V), vs = [.ref p, v] ∧ PotAt Z H p dl al ∧ TpR K 0 c (DR K (Sm n k)) v (hid Z p dl H) ∧
  ∀ (x : V) (H' : Hp), PotAt Z H' p dl al → Kp Z p dl H H' → DR K (Sm N (k + 1)) x (hid Z p dl H') → Q x H'
theorem ev_bent {i c N : Nat} (e : σ[i]? = some (some (.ref p))) (h : Ev Z p dl al H0 σ te (TpR K 0 c (DR K (Sm n k)))) : Ev Z p dl al H0 σ (tCall (sp_bent K c n k N) [] E0 (tCons (tVar i) (tCons te tNil))) (DR K (Sm N (k + 1))) :=
  fun H Q P k q => ⟨_, e, h H _ P k fun v H1 P1 k1 r1 => ⟨Z, p, dl, al, v, rfl, P1, r1, fun x H' P' k' r => q x H' P' (k1.trans k') r⟩⟩
end
/-! ### isinstance of data -/
def tyN : PyData → String
  | .none => "NoneType"
  | .bool _ => "bool"
  | .int _ => "int"
  | .str _ => "str"
  | .list _ => "list"
  | .tuple _ => "tuple"
  | .dict _ => "dict"
theorem Dq.ty {K : PySem.W.Frag} {H : Hp} {v : V} {d : PyData} (h : Dq K H v d) : TyX K H v (.type (tyN d)) := by
  cases h with
  | non => exact .base .non
  | bl b => exact .base (.bl b)
  | int i => exact .base (.int i)
  | str x => exact .base (.str x)
  | lst hs _ =>
    rcases hs with (h | ⟨o, h⟩) | ⟨o, its, n, hk, hc, _⟩
    · exact .base (.lst h)
    · exact .base (.frz h)
    · exact .kList hk hc
  | tup hs _ =>
    rcases hs with (h | ⟨o, h⟩) | ⟨o, its, n, hk, hc, _⟩
    · exact .base (.tup h)
    · exact .fTuple h
    · exact .kTuple hk hc
  | dct hs _ => exact .base (.dK hs)
def isI : PyData → Bool | .int _ => true | .bool _ => true | _ => false
def isB : PyData → Bool | .bool _ => true | _ => false
def isT : PyData → Bool | .tuple _ => true | _ => false
def isS : PyData → Bool | .str _ => true | _ => false
theorem kit_i (d : PyData) : kitB (tyN d) "int" = some (isI d) := by cases d <;> simp only [tyN, isI] <;> decide +kernel
theorem kit_b (d : PyData) : kitB (tyN d) "bool" = some (isB d) := by cases d <;> simp only [tyN, isB] <;> decide +kernel
theorem kit_t (d : PyData) : kitB (tyN d) "tuple" = some (isT d) := by cases d <;> simp only [tyN, isT] <;> decide +kernel
theorem kit_s (d : PyData) : kitB (tyN d) "str" = some (isS d) := by cases d <;> simp only [tyN, isS] <;> decide +kernel
theorem isi_d {K : PySem.W.Frag} {H : Hp} {v : V} {d : PyData} {Tn : String} {b : Bool} {Q : VK} (h : Dq K H v d) (hb : kitB (tyN d) Tn = some b) (q : Q (.bl b) H) : rIsi K [v, .ty Tn] H Q :=
  ⟨v, .ty Tn, _, _, b, rfl, .ty Tn, h.ty, kit_ty hb, q⟩
/-- an integer that is no bool -/
def wh : PyData → Bool | .int _ => true | _ => false
theorem wh_eq (d : PyData) : wh d = (isI d && !isB d) := by cases d <;> rfl
def sp_is_whole (K : PySem.W.Frag) : Sp := fun vs H Q _ => ∃ v d, vs = [v] ∧ Dq K H v d ∧ Q (.bl (wh d)) H
/-- so many integers -/
def wt (d : PyData) (m : Int) : Bool := match d with | .tuple ds => decide ((ds.length : Int) = m) && ds.all wh | _ => false
def sp_is_whole_tuple (K : PySem.W.Frag) : Sp := fun vs H Q _ => ∃ v d m, vs = [v, .int m] ∧ Dq K H v d ∧ m ≤ 1000 ∧ ∀ H', Same H H' → Q (.bl (wt d m)) H'
def inW (lo hi : Int) : PyData → Bool | .int i => decide (lo ≤ i) && decide (i ≤ hi) | _ => false
def sp_whole (K : PySem.W.Frag) : Sp := fun vs H Q _ => ∃ v d lo hi, vs = [v, .int lo, .int hi] ∧ Dq K H v d ∧ Q (.bl (inW lo hi d)) H
end Lm

namespace Lm
open PySem PySem.Spec PyProof.Rows L2
/-! ### stretches and logs, as functions of data -/
/-- a stretch that a log may have -/
def stOf : PyData → Option (Int × Int)
  | .tuple [.int a, .int b] => if 0 ≤ a ∧ a < b ∧ b ≤ 2000000000 then some (a, b) else none
  | _ => none
def two (d e : PyData) : PyData := .tuple [d, e]
def logGo : List PyData → Nat → Int → PyData
  | [], _, _ => .none
  | d :: r, i, b => match stOf d with
    | none => two (.int i) (.str "stretch")
    | some (on, off) => if on ≤ b then two (.int i) (.str "order") else logGo r (i + 1) off
def logErr : PyData → PyData
  | .tuple ds => if 60 < ds.length then two .none (.str "log") else logGo ds 0 (-1)
  | _ => two .none (.str "log")
theorem logGo_cons {ds : List PyData} {i : Nat} {b : Int} {d : PyData} (h : ds[i]? = some d) : logGo (ds.drop i) i b = logGo (d :: ds.drop (i + 1)) i b := by
  obtain ⟨hi, e⟩ := List.getElem?_eq_some_iff.mp h
  rw [List.drop_eq_getElem_cons hi, e]
theorem stOf_wt {d : PyData} : (stOf d).isSome = true → ∃ a b, d = .tuple [.int a, .int b] ∧ stOf d = some (a, b) ∧ 0 ≤ a ∧ a < b ∧ b ≤ 2000000000 := by
  unfold stOf
  split
  · rename_i a b
    split
    · rename_i h
      exact fun _ => ⟨a, b, rfl, rfl, h.1, h.2.1, h.2.2⟩
    · intro h; cases h
  · intro h; cases h
theorem sz2 {x y : V} : [x, y].length ≤ sizeLine := Nat.le_of_lt (small1000 (Nat.le_add_left 2 998))
def isN : PyData → Bool | .none => true | _ => false
/-- None, or a new pair of flat things -/
def Flat (K : PySem.W.Frag) (H H' : Hp) (r : V) (e : PyData) : Prop := (r = .non ∧ e = .none) ∨ ∃ t x y dx dy, r = .ref t ∧ H t = none ∧ H' t = some (.tup [x, y]) ∧ e = two dx dy ∧ (∀ G, Dq K G x dx) ∧ (∀ G, Dq K G y dy)
theorem Flat.dq {K : PySem.W.Frag} {H H' : Hp} {r : V} {e : PyData} {Z : Hp} {p dl al : Addr} (h : Flat K H H' r e) (P : PotAt Z H p dl al) : Dq K (hid Z p dl H') r e := by
  rcases h with ⟨rfl, rfl⟩ | ⟨t, x, y, dx, dy, rfl, n, g, rfl, hx, hy⟩
  · exact .non
  · have f := P.free n
    exact .tup (.inl (.inl (by rw [hid_at f.1 f.2]; exact g))) (.cons (hx _) (.cons (hy _) .nil))
def sp_err (K : PySem.W.Frag) (F : PyData → PyData) : Sp := fun vs H Q _ => ∃ v d, vs = [v] ∧ Dq K H v d ∧ ∀ r H', Same H H' → Flat K H H' r (F d) → Q r H'
def sp_is_stretch (K : PySem.W.Frag) : Sp := fun vs H Q _ => ∃ v d, vs = [v] ∧ Dq K H v d ∧ ∀ H', Same H H' → Q (.bl (stOf d).isSome) H'
def sp_bool (K : PySem.W.Frag) (F : PyData → Bool) : Sp := fun vs H Q _ => ∃ v d, vs = [v] ∧ Dq K H v d ∧ ∀ H', Same H H' → Q (.bl (F d)) H'
theorem wt2 {d : PyData} (h : wt d 2 = true) : ∃ a b, d = .tuple [.int a, .int b] := by
  unfold wt at h
  split at h
  · rename_i ds
    simp only [Bool.and_eq_true, decide_eq_true_eq] at h
    obtain ⟨h1, h2⟩ := h
    match ds, h1, h2 with
    | [x, y], _, h2 =>
      simp only [List.all_cons, List.all_nil, Bool.and_true, Bool.and_eq_true] at h2
      cases x <;> cases y <;> first | exact ⟨_, _, rfl⟩ | (simp [wh] at h2)
    | [], h1, _ => exact absurd h1 (by simp)
    | [_], h1, _ => exact absurd h1 (by simp)
    | _ :: _ :: _ :: _, h1, _ => exact absurd h1 (by simp only [List.length_cons]; omega)
  · cases h
theorem wt2_no {d : PyData} (h : wt d 2 = false) : stOf d = none := by
  unfold stOf
  split
  · simp [wt, wh] at h
  · rfl
theorem inW_int {lo hi : Int} {d : PyData} (h : inW lo hi d = true) : ∃ a, d = .int a ∧ lo ≤ a ∧ a ≤ hi := by
  unfold inW at h
  split at h
  · simp only [Bool.and_eq_true, decide_eq_true_eq] at h
    exact ⟨_, rfl, h.1, h.2⟩
  · cases h
theorem stOf_len {ds : List PyData} (h : (ds.length : Int) ≠ 2) : stOf (.tuple ds) = none := by
  unfold stOf
  split
  · rename_i e
    cases e
    exact absurd rfl h
  · rfl
theorem stOf_out {ds : List PyData} (h : ds.all (inW 0 2000000000) = false) : stOf (.tuple ds) = none := by
  cases e : stOf (.tuple ds) with
  | none => rfl
  | some ab =>
    obtain ⟨a, b, e1, _, h1, h2, h3⟩ := stOf_wt (d := .tuple ds) (by rw [e]; rfl)
    cases e1
    have g : (List.all [PyData.int a, PyData.int b] (inW 0 2000000000)) = true := by
      simp only [List.all_cons, List.all_nil, Bool.and_true, inW, Bool.and_eq_true, decide_eq_true_eq]
      omega
    rw [g] at h
    cases h
theorem stOf_in {a b : Int} (h1 : 0 ≤ a) (h2 : b ≤ 2000000000) : (stOf (.tuple [.int a, .int b])).isSome = decide (a < b) := by
  show (if 0 ≤ a ∧ a < b ∧ b ≤ 2000000000 then some (a, b) else none).isSome = _
  by_cases h : a < b
  · rw [if_pos ⟨h1, h, h2⟩, decide_eq_true h]
    rfl
  · rw [if_neg fun z => h z.2.1, decide_eq_false h]
    rfl
/-! ### pairs of numbers; a log that grows -/
def PrAt (G : Hp) : V → Int × Int → Prop := fun v q => ∃ t, v = .ref t ∧ G t = some (.tup [.int q.1, .int q.2])
abbrev Prs (G : Hp) : List V → List (Int × Int) → Prop := PySem.Paired (PrAt G)
def TupKeep (G G' : Hp) : Prop := ∀ t ys, G t = some (.tup ys) → G' t = some (.tup ys)
theorem TupKeep.of {G G' : Hp} (s : Same G G') : TupKeep G G' := fun t ys e => s _ _ e
theorem Prs.keep {G G' : Hp} (s : TupKeep G G') {xs : List V} {ps : List (Int × Int)} (h : Prs G xs ps) : Prs G' xs ps := Paired.mapP h fun a b ⟨t, e, g⟩ => ⟨t, e, s _ _ g⟩
theorem Prs.app {G : Hp} : ∀ {xs ys : List V} {ps qs : List (Int × Int)}, Prs G xs ps → Prs G ys qs → Prs G (xs ++ ys) (ps ++ qs)
  | _, _, _, _, .nil, s => s
  | _, _, _, _, .cons r t, s => .cons r (Prs.app t s)
theorem Prs.get {G : Hp} : ∀ {xs : List V} {ps : List (Int × Int)} {i : Nat} {v : V}, Prs G xs ps → xs[i]? = some v → ∃ q, ps[i]? = some q ∧ PrAt G v q
  | _, _, _, _, .nil, e => by simp at e
  | _, _, 0, _, .cons r _, e => by simp at e; subst e; exact ⟨_, rfl, r⟩
  | _, _, i + 1, v, .cons _ t, e => by
    obtain ⟨u, h1, h2⟩ := Prs.get (i := i) (v := v) t (by simpa using e)
    exact ⟨u, by simpa using h1, h2⟩
/-- it grows from b on -/
def LogUp (b : Int) : List (Int × Int) → Prop
  | [] => True
  | q :: r => b < q.1 ∧ q.1 < q.2 ∧ LogUp q.2 r
def fin (b : Int) : List (Int × Int) → Int
  | [] => b
  | q :: r => fin q.2 r
def LogOk (b : Int) (ps : List (Int × Int)) : Prop := LogUp b ps ∧ ∀ q ∈ ps, q.2 ≤ 2000000000
theorem LogUp.app : ∀ {b : Int} {ps : List (Int × Int)} {q : Int × Int}, LogUp b ps → fin b ps < q.1 → q.1 < q.2 → LogUp b (ps ++ [q]) ∧ fin b (ps ++ [q]) = q.2
  | b, [], q, _, h1, h2 => ⟨⟨h1, h2, trivial⟩, rfl⟩
  | b, x :: r, q, h, h1, h2 => by
    obtain ⟨a1, a2, a3⟩ := h
    obtain ⟨c1, c2⟩ := LogUp.app (q := q) a3 h1 h2
    exact ⟨⟨a1, a2, c1⟩, c2⟩
theorem LogUp.less : ∀ {b c : Int} {ps : List (Int × Int)}, c ≤ b → LogUp b ps → LogUp c ps
  | _, _, [], _, _ => trivial
  | b, c, q :: r, h, ⟨a1, a2, a3⟩ => ⟨by omega, a2, a3⟩
theorem LogUp.filt : ∀ {b : Int} {ps : List (Int × Int)}, LogUp b ps → LogUp b (ps.filter fun q => decide (q.2 ≤ 2000000000))
  | _, [], _ => trivial
  | b, q :: r, ⟨a1, a2, a3⟩ => by
    have ih := LogUp.filt a3
    rw [List.filter_cons]
    split
    · exact ⟨a1, a2, ih⟩
    · exact LogUp.less (by omega) ih
theorem LogUp.bound : ∀ {b : Int} {ps : List (Int × Int)}, LogUp b ps → ∀ q ∈ ps, b < q.1 ∧ q.1 < q.2
  | _, [], _, q, h => nomatch h
  | b, x :: r, ⟨a1, a2, a3⟩, q, h => by
    rcases List.mem_cons.mp h with e | e
    · rw [e]; exact ⟨a1, a2⟩
    · have := LogUp.bound a3 q e
      exact ⟨by omega, this.2⟩
/-- a tuple of such pairs -/
def PairsR (K : PySem.W.Frag) (ps : List (Int × Int)) : VR := fun v G => ∃ a xs, v = .ref a ∧ G a = some (.tup xs) ∧ Prs G xs ps
theorem PairsR.mo {K : PySem.W.Frag} {ps : List (Int × Int)} : Mo (PairsR K ps) := fun v G G' s ⟨a, xs, e, g, r⟩ => ⟨a, xs, e, s _ _ g, r.keep (.of s)⟩
def LogR (K : PySem.W.Frag) (n : Nat) : VR := fun v G => ∃ ps, PairsR K ps v G ∧ ps.length ≤ n ∧ LogOk (-1) ps
theorem LogR.mo {K : PySem.W.Frag} {n : Nat} : Mo (LogR K n) := fun v G G' s ⟨ps, h, r⟩ => ⟨ps, PairsR.mo _ _ _ s h, r⟩
def pD (q : Int × Int) : PyData := two (.int q.1) (.int q.2)
theorem Prs.dqs {K : PySem.W.Frag} {G : Hp} : ∀ {xs : List V} {ps : List (Int × Int)}, Prs G xs ps → Dqs K G xs (ps.map pD)
  | _, _, .nil => .nil
  | _, _, .cons ⟨t, e, g⟩ r => by
    subst e
    exact .cons (.tup (.inl (.inl g)) (.cons (.int _) (.cons (.int _) .nil))) (Prs.dqs r)
theorem Prs.dp {K : PySem.W.Frag} {G : Hp} : ∀ {xs : List V} {ps : List (Int × Int)}, Prs G xs ps → DpAll K G xs (ps.map pD)
  | _, _, .nil => .nil
  | _, _, .cons ⟨t, e, g⟩ r => by
    subst e
    exact .cons (.tup (.inl (.inl g)) (.cons (.int _) (.cons (.int _) .nil))) (Prs.dp r)
theorem Prs.len {G : Hp} {xs : List V} {ps : List (Int × Int)} (h : Prs G xs ps) : xs.length = ps.length := Paired.length h
theorem pD_sm {q : Int × Int} (h1 : q.1.natAbs < 10 ^ 12) (h2 : q.2.natAbs < 10 ^ 12) : Sm 33 1 (pD q) := Sm.tuple (c := 2) (n := 13) (k := 0) (ds := [.int q.1, .int q.2]) (fun d hd => by
    rcases List.mem_cons.mp hd with e | e
    · rw [e]; exact Sm.int h1
    · rw [List.mem_singleton.mp e]; exact Sm.int h2) (Nat.le_refl 2)
theorem LogR.tp {K : PySem.W.Frag} {n : Nat} {v : V} {G : Hp} (h : LogR K n v G) : TpR K 0 n (TpR K 0 2 (DR K (Sm 13 0))) v G := by
  obtain ⟨ps, ⟨a, xs, rfl, g, pr⟩, hl, hu, hb⟩ := h
  refine ⟨a, xs, rfl, .inl (.inl g), Nat.zero_le _, by rw [pr.len]; exact hl, fun x hx => ?_⟩
  obtain ⟨i, hi⟩ := List.getElem?_of_mem hx
  obtain ⟨q, hq, t, rfl, gt⟩ := pr.get hi
  have hm := List.mem_of_getElem? hq
  have b1 := hu.bound q hm
  have b2 := hb q hm
  refine ⟨t, _, rfl, .inl (.inl gt), Nat.zero_le _, Nat.le_refl 2, fun y hy => ?_⟩
  rcases List.mem_cons.mp hy with e | e
  · rw [e]; exact ⟨_, .int _, Sm.int (by omega)⟩
  · rw [List.mem_singleton.mp e]; exact ⟨_, .int _, Sm.int (by omega)⟩
theorem LogR.tpD {K : PySem.W.Frag} {n : Nat} {v : V} {G : Hp} (h : LogR K n v G) : TpR K 0 n (DR K (Sm 60 3)) v G := by
  obtain ⟨a, xs, e, g, h1, h2, h3⟩ := h.tp
  exact ⟨a, xs, e, g, h1, h2, fun x hx => ((h3 x hx).data fun y hy => hy).wide (by decide) (by decide)⟩
def sp_log (K : PySem.W.Frag) : Sp := fun vs H Q _ => ∃ (Z : Hp) (p dl al : Addr) (u g : Int), vs = [.ref p, .int u, .int g] ∧ PotAt Z H p dl al ∧ 0 ≤ u ∧ u ≤ 60 ∧ 1 ≤ g ∧ g ≤ 10000000 ∧
  ∀ (x : V) (H' : Hp), PotAt Z H' p dl al → Kp Z p dl H H' → LogR K u.toNat x (hid Z p dl H') → Q x H'
theorem Kp.upd_new {Z : Hp} {p dl f : Addr} {H H1 : Hp} {o : HO} (P : ∀ b, H b ≠ none → b ≠ f) (k : Kp Z p dl H H1) : Kp Z p dl H (upd H1 f o) := fun b u e => by
  have n := hid_some e
  have e1 := k b u e
  rw [hid_at n.1 n.2] at e1 ⊢
  rw [upd_ne]
  · exact e1
  · refine P b ?_
    rw [hid_at n.1 n.2] at e
    rw [e]
    exact fun z => nomatch z
theorem ne_of_new {H : Hp} {f : Addr} (n : H f = none) : ∀ b, H b ≠ none → b ≠ f := fun b h e => h (by rw [e]; exact n)
theorem hid_get {Z : Hp} {p dl b : Addr} {H : Hp} {o : HO} (h1 : b ≠ p) (h2 : b ≠ dl ∧ Z b = none) (h : H b = some o) : hid Z p dl H b = some o := by rw [hid_at h1 h2]; exact h
theorem PotAt.upd {H : Hp} {Z : Hp} {p dl al f : Addr} {o : HO} (h : PotAt Z H p dl al) (h1 : f ≠ p) (h2 : f ≠ dl) (h3 : f ≠ al) (h4 : Z f = none) : PotAt Z (upd H f o) p dl al :=
  ⟨let ⟨t, e⟩ := h.ob; ⟨t, by rw [upd_ne h1.symm]; exact e⟩, let ⟨ns, e, l⟩ := h.de; ⟨ns, by rw [upd_ne h2.symm]; exact e, l⟩, let ⟨ns, e, l⟩ := h.li; ⟨ns, by rw [upd_ne h3.symm]; exact e, l⟩, h.ne, zz_upd h.zz h4, h.zp, h.zd⟩
theorem PotAt.freeA {H : Hp} {Z : Hp} {p dl al q : Addr} (h : PotAt Z H p dl al) (n : H q = none) : q ≠ al := by
  obtain ⟨ns, e2, _⟩ := h.li
  exact (ne_of_none e2 n).symm
end Lm

namespace Lm
open PySem PySem.Spec PyProof.Rows L2
section
variable {K : PySem.W.Frag} {Z : Hp} {p dl al : Addr} {H0 : Hp} {σ : L2.St} {g : Int}
theorem ev_gvar {i : Nat} (e : σ[i]? = some (some (.int g))) (h0 : 1 ≤ g) (h1 : g ≤ 10000000) : Ev Z p dl al H0 σ (tVar i) (IR 1 10000000) := ev_var e IR.mo ⟨g, rfl, h0, h1⟩
theorem ev_size (e0 : σ[0]? = some (some (.ref p))) (e2 : σ[2]? = some (some (.int g))) (h0 : 1 ≤ g) (h1 : g ≤ 10000000) :
    Ev Z p dl al H0 σ (tCall sp_one [] E0 (tCons (tVar 0) (tCons (tLst (tCons (tC (.int 1)) (tCons (tC (.int 2)) (tCons (tOp (rI0 fun i j => .int (i + j)) (tC (.int 1)) (tCall sp_draw [] E0 (tCons (tVar 0) (tCons (tC (.int 20)) tNil))))
      (tCons (tOp (rI0 fun i j => .int (i + j)) (tC (.int 1)) (tCall sp_draw [] E0 (tCons (tVar 0) (tCons (tVar 2) tNil)))) tNil))))) tNil))) (IR 1 10000000) :=
  ev_one (m := 3) (n := 4) e0 (by decide) IR.mo (ev_lst (by decide) IR.mo (eall_cons IR.mo (ev_int.wide (by decide) (by decide)) (eall_cons IR.mo (ev_int.wide (by decide) (by decide))
    (eall_cons IR.mo ((ev_add ev_int (ev_draw (b := 20) e0 (by decide) (ev_int.wide (by decide) (by decide)))).wide (by decide) (by decide))
      (eall_cons IR.mo ((ev_add ev_int (ev_draw (b := 10000000) e0 (by decide) (ev_gvar e2 h0 h1))).wide (by decide) (by decide)) eall_nil)))))
theorem ev_upto {u : Int} (e0 : σ[0]? = some (some (.ref p))) (e1 : σ[1]? = some (some (.int u))) (h0 : 0 ≤ u) (h1 : u ≤ 60) :
    Ev Z p dl al H0 σ (tCall sp_draw [] E0 (tCons (tVar 0) (tCons (tOp (rI0 fun i j => .int (i + j)) (tVar 1) (tC (.int 1))) tNil))) (IR 0 u) :=
  (ev_draw (b := u + 1) e0 (by omega) ((ev_add (ev_var (R := IR 0 u) e1 IR.mo ⟨u, rfl, h0, Int.le_refl _⟩) ev_int).wide (by omega) (by omega))).wide (by omega) (by omega)
theorem ev_start (e0 : σ[0]? = some (some (.ref p))) (e2 : σ[2]? = some (some (.int g))) (h0 : 1 ≤ g) (h1 : g ≤ 10000000) :
    Ev Z p dl al H0 σ (tCall sp_one [] E0 (tCons (tVar 0) (tCons (tLst (tCons (tC (.int 0)) (tCons (tC (.int 1)) (tCons (tCall sp_draw [] E0 (tCons (tVar 0) (tCons (tVar 2) tNil))) tNil)))) tNil))) (IR 0 10000000) :=
  ev_one (m := 2) (n := 3) e0 (by decide) IR.mo (ev_lst (by decide) IR.mo (eall_cons IR.mo (ev_int.wide (by decide) (by decide)) (eall_cons IR.mo (ev_int.wide (by decide) (by decide))
    (eall_cons IR.mo ((ev_draw (b := 10000000) e0 (by decide) (ev_gvar e2 h0 h1)).wide (by decide) (by decide)) eall_nil))))
end
theorem s_ifn {D : Ends} {σ : L2.St} {H : Hp} {c : TT} {t u : TS} (h : c σ H fun b H1 => if b = true then t { D with nx := u D } σ H1 else u D σ H1) : tSeq (tIfS c t tNext) u D σ H := h
theorem s_asg {D : Ends} {σ : L2.St} {H : Hp} {te : TE} {g : TG} {u : TS} (h : te σ H fun x H1 => g x σ H1 (u D)) : tSeq (tAsg te g) u D σ H := h
theorem two_of {xs : List V} (h1 : 2 ≤ xs.length) (h2 : xs.length ≤ 2) : ∃ x y, xs = [x, y] := by
  match xs, h1, h2 with
  | [x, y], _, _ => exact ⟨x, y, rfl⟩
theorem dI {K : PySem.W.Frag} {Z : Hp} {p dl al : Addr} {H0 : Hp} {σ : L2.St} {te : TE} {lo hi : Int} (h : Ev Z p dl al H0 σ te (IR lo hi)) (h1 : -999999999999 ≤ lo) (h2 : hi ≤ 999999999999) : Ev Z p dl al H0 σ te (DR K (Sm 30 1)) :=
  ev_wide (ev_ir h h1 h2) (by decide) (by decide)
theorem ixK {X : Cx} {K : PySem.W.Frag} (h : X.K = K) : IxR X (rIxT K) := h ▸ ix_tup
/-- what a for over range(..) asks -/
def RngGo (g : TG) (tb : TS) (D : Ends) (σ : L2.St) : List V → Hp → Prop := fun vs H1 => ∃ j : Int, vs = [.int j] ∧ -(2 ^ 62) ≤ j ∧ j < 2 ^ 62 ∧ ∃ W : Nat → Nat → L2.St → Hp → Prop, (∃ m, W 0 m σ H1) ∧ ∀ i m σ H, W i m σ H →
  ((Itr 0 j.toNat).stop i H ∧ D.nx σ H) ∨ ((Itr 0 j.toNat).go i H ∧ ∃ N : L2.St → Hp → Prop, (∀ σ' H', N σ' H' → ∃ m', m' < m ∧ W (i + 1) m' σ' H') ∧ ∀ x H', (Itr 0 j.toNat).yld i H x H' → g x σ H' fun σ2 H2 => tb { D with nx := N, ct := N, bk := D.nx } σ2 H2)
theorem s_rng {D : Ends} {σ : L2.St} {H : Hp} {ta : TA} {g : TG} {tb u : TS} (h : ta σ H (RngGo g tb { D with nx := u D } σ)) : tSeq (tFor (iRng1 ta) g tb) u D σ H := h
theorem s_rng1 {D : Ends} {σ : L2.St} {H : Hp} {ta : TA} {g : TG} {tb : TS} (h : ta σ H (RngGo g tb D σ)) : tFor (iRng1 ta) g tb D σ H := h
/-- one more pair at the end of a list that stands apart -/
theorem app_pair {Z : Hp} {p dl al f t : Addr} {H H3 : Hp} {xs : List V} {ps : List (Int × Int)} {a b : Int} (P : PotAt Z H p dl al) (nf : H f = none) (P3 : PotAt Z H3 p dl al) (k3 : Kp Z p dl H H3)
    (hf : H3 f = some (.lst xs)) (hp : Prs (hid Z p dl H3) xs ps) (nt : H3 t = none) :
    let H4 := upd (upd H3 t (.tup [.int a, .int b])) f (.lst (xs ++ [.ref t]))
    PotAt Z H4 p dl al ∧ Kp Z p dl H H4 ∧ H4 f = some (.lst (xs ++ [.ref t])) ∧ Prs (hid Z p dl H4) (xs ++ [.ref t]) (ps ++ [(a, b)]) := by
  intro H4
  have f1 := P.free nf
  have f2 := P.freeA nf
  have t1 := P3.free nt
  have tf : t ≠ f := fun e => by rw [← e, nt] at hf; cases hf
  refine ⟨(P3.new nt).upd f1.1 f1.2.1 f2 f1.2.2, Kp.upd_new (ne_of_new nf) (k3.trans (Kp.new nt)), upd_same, ?_⟩
  have tk : TupKeep (hid Z p dl H3) (hid Z p dl H4) := fun c ys e => by
    have n := hid_some e
    rw [hid_at n.1 n.2] at e ⊢
    have cf : c ≠ f := fun z => by rw [z, hf] at e; cases e
    have ct : c ≠ t := fun z => by rw [z, nt] at e; cases e
    show upd (upd H3 t _) f _ c = _
    rw [upd_ne cf, upd_ne ct]
    exact e
  refine Prs.app (hp.keep tk) (.cons ⟨t, rfl, ?_⟩ .nil)
  rw [hid_at t1.1 t1.2]
  show upd (upd H3 t _) f _ t = _
  rw [upd_ne tf, upd_same]
theorem atI_in {α : Type} {xs : List α} {i : Int} (h1 : -(xs.length : Int) ≤ i) (h2 : i < xs.length) : ∃ v, v ∈ xs ∧ atI xs i = some v := by
  unfold atI ixN
  by_cases h0 : 0 ≤ i
  · rw [if_pos h0, if_pos h2]
    have lt : i.toNat < xs.length := by omega
    exact ⟨xs[i.toNat], List.getElem_mem lt, List.getElem?_eq_getElem lt⟩
  · rw [if_neg h0, if_pos h1]
    have lt : (i + xs.length).toNat < xs.length := by omega
    exact ⟨xs[(i + xs.length).toNat], List.getElem_mem lt, List.getElem?_eq_getElem lt⟩
section
variable {K : PySem.W.Frag} {Z : Hp} {p dl al : Addr} {H0 : Hp} {σ : L2.St} {te ti : TE} {R : VR}
theorem ev_ixT {m c : Nat} {lo up : Int} (hm : Mo R) (h : Ev Z p dl al H0 σ te (TpR K m c R)) (hi : Ev Z p dl al H0 σ ti (IR lo up)) (h1 : -(m : Int) ≤ lo) (h2 : up < (m : Int)) : Ev Z p dl al H0 σ (tOp (rIxT K) te ti) R :=
  fun H Q P k q => h H _ P k fun x H1 P1 k1 r1 => hi H1 _ P1 (k.trans k1) fun y H2 P2 k2 ⟨i, e, i1, i2⟩ => by
    obtain ⟨a, xs, rfl, g, l1, l2, l3⟩ := TpR.mo hm _ _ _ k2 r1
    obtain ⟨v, hv, ev⟩ := atI_in (xs := xs) (i := i) (by omega) (by omega)
    exact ⟨a, xs, i, v, rfl, e, Same.seqT (hid_same _ _ _) g, ev, q _ _ P2 (k1.trans k2) (l3 v hv)⟩
end
theorem PairsR.tpI {K : PySem.W.Frag} {ps : List (Int × Int)} {v : V} {G : Hp} (h : PairsR K ps v G) (o : LogOk (-1) ps) : TpR K ps.length ps.length (TpR K 2 2 (IR 0 2000000000)) v G := by
  obtain ⟨a, xs, rfl, g, pr⟩ := h
  obtain ⟨hu, hb⟩ := o
  refine ⟨a, xs, rfl, .inl (.inl g), by rw [pr.len]; exact Nat.le_refl _, by rw [pr.len]; exact Nat.le_refl _, fun x hx => ?_⟩
  obtain ⟨i, hi⟩ := List.getElem?_of_mem hx
  obtain ⟨q, hq, t, rfl, gt⟩ := pr.get hi
  have hm := List.mem_of_getElem? hq
  have b1 := hu.bound q hm
  have b2 := hb q hm
  refine ⟨t, _, rfl, .inl (.inl gt), Nat.le_refl 2, Nat.le_refl 2, fun y hy => ?_⟩
  rcases List.mem_cons.mp hy with e | e
  · exact ⟨_, e, by omega, by omega⟩
  · exact ⟨_, List.mem_singleton.mp e, by omega, by omega⟩
theorem LogR.tpI {K : PySem.W.Frag} {n : Nat} {v : V} {G : Hp} (h : LogR K n v G) : ∃ L : Nat, L ≤ n ∧ TpR K L L (TpR K 2 2 (IR 0 2000000000)) v G :=
  let ⟨ps, hp, hl, ho⟩ := h
  ⟨ps.length, hl, hp.tpI ho⟩
theorem pair_data {K : PySem.W.Frag} {v : V} {G : Hp} (h : TpR K 2 2 (IR 0 2000000000) v G) : DR K (Sm 33 1) v G := h.data (n := 13) (k := 0) fun x hx => ir_data hx (by decide) (by decide)
theorem TpR.weak {K : PySem.W.Frag} {m c m' c' : Nat} {R R' : VR} {v : V} {G : Hp} (h : TpR K m c R v G) (h1 : m' ≤ m) (h2 : c ≤ c') (i : ∀ x, R x G → R' x G) : TpR K m' c' R' v G := by
  obtain ⟨a, xs, e, g, l1, l2, l3⟩ := h
  exact ⟨a, xs, e, g, Nat.le_trans h1 l1, Nat.le_trans l2 h2, fun x hx => i x (l3 x hx)⟩
theorem pD_lay : ∀ ps : List (Int × Int), PyData.canLayAll0 (ps.map pD) = true
  | [] => by simp [PyData.canLayAll0]
  | q :: r => by
    simp only [List.map_cons, PyData.canLayAll0, pD_lay r, Bool.and_true]
    simp [pD, two, PyData.canLay0, PyData.canLayAll0]
theorem pD_depth : ∀ ps : List (Int × Int), PyData.depthAll (ps.map pD) ≤ 1
  | [] => by simp [PyData.depthAll]
  | q :: r => by
    simp only [List.map_cons, PyData.depthAll]
    refine Nat.max_le.mpr ⟨?_, pD_depth r⟩
    simp [pD, two, PyData.depth, PyData.depthAll]
theorem pD_shaped (ps : List (Int × Int)) : SeqAt.shaped (.tuple (ps.map pD)) = true := by
  unfold SeqAt.shaped
  simp only [PyData.canLay0, pD_lay, PyData.depth, Bool.true_and]
  exact decide_eq_true (Nat.le_trans (Nat.succ_le_succ (pD_depth ps)) (show 2 ≤ 64 by decide))
theorem pD_eqv (ps : List (Int × Int)) : PyData.eqv (.tuple (ps.map pD)) (.tuple []) = ps.isEmpty := by
  cases ps <;> simp [PyData.eqv, PyData.eqvAll]
def sp_spoilt (K : PySem.W.Frag) : Sp := fun vs H Q _ => ∃ (Z : Hp) (p dl al : Addr) (v : V), vs = [.ref p, v] ∧ PotAt Z H p dl al ∧ LogR K 60 v (hid Z p dl H) ∧
  ∀ (x : V) (H' : Hp), PotAt Z H' p dl al → Kp Z p dl H H' → DR K (Sm 53122 5) x (hid Z p dl H') → Q x H'
end Lm

namespace Lm
open PySem PySem.Spec PyProof.Rows L2
/-! ### a list that grows while the pot is used -/
section
variable {Z H H' : Hp} {p dl al D : Addr} {o o' o2 : HO}
theorem PotAt.hide (P : PotAt Z H p dl al) (e : H D = some o) (h1 : D ≠ p) (h2 : D ≠ dl) : PotAt (L2.upd Z D o) H p dl al :=
  ⟨P.ob, P.de, P.li, P.ne, fun b x z => by
    by_cases q : b = D
    · rw [q, upd_same] at z
      rw [q, e]; exact z
    · rw [upd_ne q] at z
      exact P.zz b x z, by rw [upd_ne h1.symm]; exact P.zp, by rw [upd_ne h2.symm]; exact P.zd⟩
theorem PotAt.bare (P : PotAt (L2.upd Z D o) H p dl al) (n : Z D = none) : PotAt Z H p dl al := by
  have hp : D ≠ p := fun e => by have := P.zp; rw [← e, upd_same] at this; cases this
  have hd : D ≠ dl := fun e => by have := P.zd; rw [← e, upd_same] at this; cases this
  refine ⟨P.ob, P.de, P.li, P.ne, fun b x z => ?_, ?_, ?_⟩
  · have q : b ≠ D := ne_of_none z n
    exact P.zz b x (by rw [upd_ne q]; exact z)
  · have := P.zp; rw [upd_ne hp.symm] at this; exact this
  · have := P.zd; rw [upd_ne hd.symm] at this; exact this
theorem hid_hide : Same (hid (upd Z D o) p dl H) (hid Z p dl H) := fun b x e => by
  have n := hid_some e
  rw [hid_at n.1 n.2] at e
  have q : b ≠ D := fun q => by have := n.2.2; rw [q, upd_same] at this; cases this
  have z := n.2.2
  rw [upd_ne q] at z
  rw [hid_at n.1 ⟨n.2.1, z⟩]
  exact e
theorem hid_swap : Same (hid (upd Z D o) p dl H) (hid (upd Z D o') p dl (upd H D o2)) := fun b x e => by
  have n := hid_some e
  rw [hid_at n.1 n.2] at e
  have q : b ≠ D := fun q => by have := n.2.2; rw [q, upd_same] at this; cases this
  have z := n.2.2
  rw [upd_ne q] at z
  rw [hid_at n.1 ⟨n.2.1, by rw [upd_ne q]; exact z⟩, upd_ne q]
  exact e
theorem hid_new2 (n : H D = none) : Same (hid Z p dl H) (hid (upd Z D o) p dl (upd H D o2)) := fun b x e => by
  have m := hid_some e
  rw [hid_at m.1 m.2] at e
  have q : b ≠ D := ne_of_none e n
  rw [hid_at m.1 ⟨m.2.1, by rw [upd_ne q]; exact m.2.2⟩, upd_ne q]
  exact e
end
theorem ev_lcR {Z : Hp} {p dl al : Addr} {H0 : Hp} {σ : L2.St} {te : TE} {R : VR} {v : Nat} {j : Int} (j0 : 0 ≤ j) (j1 : j ≤ 1000) (hm : Mo R)
    (hT : ∀ (Z' H1 : Hp) (x : V), PotAt Z' H1 p dl al → Same (hid Z p dl H0) (hid Z' p dl H1) → Ev Z' p dl al H1 ((wipe σ [v]).set v (some x)) te R) :
    Ev Z p dl al H0 σ (tLc (iRng1 (tCons (tC (.int j)) tNil)) (gName v) tYes te [v]) (LsR j.toNat j.toNat R) := fun H Q P k q => by
  refine ⟨j, rfl, by omega, by omega, fun D nD => ?_⟩
  have f := P.free nD
  have fa := P.freeA nD
  refine lc_range (fun i Hj => ∃ acc, PotAt (upd Z D (.lst acc)) Hj p dl al ∧ acc.length = i ∧ (∀ x ∈ acc, R x (hid (upd Z D (.lst acc)) p dl Hj)) ∧ Same (hid Z p dl H) (hid (upd Z D (.lst acc)) p dl Hj)) ⟨[], (P.new nD).hide upd_same f.1 f.2.1, rfl, (fun x hx => nomatch hx), hid_new2 nD⟩ ?_ ?_
  · rintro i Hj hi ⟨acc, Pj, la, ra, sj⟩
    refine ⟨?_, yes_if ?_⟩
    · simp only [wipe, List.set_set]
    · refine hT _ Hj _ Pj (Same.trans k sj) Hj _ Pj (Kp.refl _ _ _) fun y H4 P4 k4 r4 => ⟨acc, P4.zz _ _ upd_same, small1000 (by omega), acc ++ [y], ?_, by rw [List.length_append, la]; rfl, fun x hx => ?_, (Same.trans sj k4).trans hid_swap⟩
      · exact ((P4.bare f.2.2).upd f.1 f.2.1 fa f.2.2).hide upd_same f.1 f.2.1
      · rcases List.mem_append.mp hx with e | e
        · exact hm _ _ _ (Same.trans k4 hid_swap) (ra x e)
        · rw [List.mem_singleton.mp e]
          exact hm _ _ _ hid_swap r4
  · rintro Hn ⟨acc, Pn, la, ra, sn⟩
    have e := Pn.zz _ _ upd_same
    refine q _ Hn (Pn.bare f.2.2) (sn.trans hid_hide) ⟨D, acc, rfl, by rw [hid_at f.1 f.2]; exact e, by omega, by omega, fun x hx => hm _ _ _ hid_hide (ra x hx)⟩
section
variable {K : PySem.W.Frag} {Z : Hp} {p dl al : Addr} {H0 : Hp} {σ : L2.St} {te : TE}
theorem ev_spoilt {i j : Nat} {v : V} (e : σ[i]? = some (some (.ref p))) (ej : σ[j]? = some (some v)) (hv : LogR K 60 v (hid Z p dl H0)) : Ev Z p dl al H0 σ (tCall (sp_spoilt K) [] E0 (tCons (tVar i) (tCons (tVar j) tNil))) (DR K (Sm 53122 5)) :=
  fun H Q P k q => ⟨_, e, _, ej, Z, p, dl, al, v, rfl, P, LogR.mo _ _ _ k hv, fun x H' P' k' r => q x H' P' k' r⟩
theorem ev_log {i : Nat} {u : Int} (e : σ[i]? = some (some (.ref p))) (h0 : 0 ≤ u) (h1 : u ≤ 60) (h : Ev Z p dl al H0 σ te (IR 1 10000000)) : Ev Z p dl al H0 σ (tCall (sp_log K) [] E0 (tCons (tVar i) (tCons (tC (.int u)) (tCons te tNil)))) (LogR K u.toNat) :=
  fun H Q P k q => ⟨_, e, h H _ P k fun v H1 P1 k1 ⟨g, eg, g0, g1⟩ => ⟨Z, p, dl, al, u, g, by rw [eg]; rfl, P1, h0, h1, g0, g1, fun x H' P' k' r => q x H' P' (k1.trans k') r⟩⟩
end
theorem LogR.tpD1 {K : PySem.W.Frag} {n : Nat} {v : V} {G : Hp} (h : LogR K n v G) : TpR K 0 n (DR K (Sm 33 1)) v G :=
  let ⟨L, hL, t⟩ := h.tpI
  t.weak (Nat.zero_le _) hL fun x hx => pair_data hx
theorem Prs.tpD1 {K : PySem.W.Frag} {n : Nat} {a : Addr} {xs : List V} {ps : List (Int × Int)} {G : Hp} (g : G a = some (.tup xs)) (h : Prs G xs ps) (hl : ps.length ≤ n) (hb : ∀ q ∈ ps, q.1.natAbs < 10 ^ 12 ∧ q.2.natAbs < 10 ^ 12) : TpR K 0 n (DR K (Sm 33 1)) (.ref a) G := by
  refine ⟨a, xs, rfl, .inl (.inl g), Nat.zero_le _, by rw [h.len]; exact hl, fun x hx => ?_⟩
  obtain ⟨i, hi⟩ := List.getElem?_of_mem hx
  obtain ⟨q, hq, t, rfl, gt⟩ := h.get hi
  have b := hb q (List.mem_of_getElem? hq)
  exact ⟨_, .tup (.inl (.inl gt)) (.cons (.int _) (.cons (.int _) .nil)), pD_sm b.1 b.2⟩
/-! ### how long a fault's text is -/
theorem two_sm {i : Nat} (h : i < 1000) (x : Str) (hx : Sm 20 0 (.str x)) : Sm 60 1 (two (.int i) (.str x)) :=
  (Sm.tuple (c := 2) (n := 20) (k := 0) (ds := [.int i, .str x]) (fun d hd => by
    rcases List.mem_cons.mp hd with e | e
    · rw [e]; exact (Sm.int (by omega)).wide (by decide) (by decide)
    · rw [List.mem_singleton.mp e]; exact hx) (Nat.le_refl 2)).wide (by decide) (by decide)
theorem logGo_sm : ∀ (ds : List PyData) (i : Nat) (b : Int), i + ds.length ≤ 60 → Sm 60 1 (logGo ds i b)
  | [], _, _, _ => show Sm 60 1 .none from sm_chk (by decide +kernel)
  | d :: r, i, b, h => by
    simp only [List.length_cons] at h
    simp only [logGo]
    split
    · exact two_sm (by omega) _ (sm_chk (by decide +kernel))
    · split
      · exact two_sm (by omega) _ (sm_chk (by decide +kernel))
      · exact logGo_sm r (i + 1) _ (by omega)
theorem logErr_sm (d : PyData) : Sm 60 1 (logErr d) := by
  have e0 : Sm 60 1 (two .none (.str "log")) := sm_chk (by decide +kernel)
  unfold logErr
  split
  · split
    · exact e0
    · exact logGo_sm _ _ _ (by omega)
  · exact e0
theorem pair_fine {d : PyData} (h : Sm 60 1 d) (b : Bool) : Fine (.list [d, .bool b]) :=
  (Sm.list (c := 2) (n := 60) (k := 1) (ds := [d, .bool b]) (fun e he => by
    rcases List.mem_cons.mp he with z | z
    · rw [z]; exact h
    · rw [List.mem_singleton.mp z]; cases b <;> exact sm_chk (by decide +kernel)) (Nat.le_refl 2)).fine (by decide) (by decide)
theorem Flat.dq0 {K : PySem.W.Frag} {H H' : Hp} {r : V} {e : PyData} (h : Flat K H H' r e) : Dq K H' r e := by
  rcases h with ⟨rfl, rfl⟩ | ⟨t, x, y, dx, dy, rfl, n, g, rfl, hx, hy⟩
  · exact .non
  · exact .tup (.inl (.inl g)) (.cons (hx _) (.cons (hy _) .nil))
theorem Flat.isN {K : PySem.W.Frag} {H H' : Hp} {r : V} {e : PyData} (h : Flat K H H' r e) : decide (r = .non) = Lm.isN e := by
  rcases h with ⟨rfl, rfl⟩ | ⟨t, x, y, dx, dy, rfl, _, _, rfl, _, _⟩ <;> rfl
def sp_law (K : PySem.W.Frag) : Sp := fun vs H Q _ => ∃ (a : Addr) (ns : List Int), vs = [.ref a] ∧ SqL K H a (ns.map V.int) ∧ ns.length ≤ 63 ∧ ∀ H', Q (.bl true) H'
theorem sp_law_ok (K : PySem.W.Frag) (H : Hp) (a : Addr) (ns : List Int) (hl : ns.length ≤ 63) (_ : Only H) (hS : SqL K H a (ns.map V.int)) : sp_law K [.ref a] H (fun v _ => v = .bl true) fun _ _ _ => False :=
  ⟨a, ns, rfl, hS, hl, fun _ => rfl⟩
/-- what a for over a list asks -/
def LstGo (K : PySem.W.Frag) (g : TG) (tb : TS) (D : Ends) (σ : L2.St) : VK := fun x H1 => ∃ a, x = .ref a ∧ (∃ xs, SqL K H1 a xs) ∧ ∃ W : Nat → Nat → L2.St → Hp → Prop, (∃ m, W 0 m σ H1) ∧ ∀ i m σ H, W i m σ H →
  ((Itl K a).stop i H ∧ D.nx σ H) ∨ ((Itl K a).go i H ∧ ∃ N : L2.St → Hp → Prop, (∀ σ' H', N σ' H' → ∃ m', m' < m ∧ W (i + 1) m' σ' H') ∧ ∀ x H', (Itl K a).yld i H x H' → g x σ H' fun σ2 H2 => tb { D with nx := N, ct := N, bk := D.nx } σ2 H2)
theorem s_lst1 {K : PySem.W.Frag} {D : Ends} {σ : L2.St} {H : Hp} {te : TE} {g : TG} {tb : TS} (h : te σ H (LstGo K g tb D σ)) : tFor (iList K te) g tb D σ H := h
end Lm

namespace Lm
open PySem PySem.Spec PyProof.Rows L2
theorem ev_lg {K : PySem.W.Frag} {Z : Hp} {p dl al : Addr} {H0 : Hp} {σ : L2.St} (e1 : σ[1]? = some (some (.ref p))) :
    Ev Z p dl al H0 σ (tCall (sp_log K) [] E0 (tCons (tVar 1) (tCons (tC (.int 60)) (tCons (tCall sp_one [] E0 (tCons (tVar 1) (tCons (tLst (tCons (tC (.int 4)) (tCons (tC (.int 100)) (tCons (tOp (rI CPow fun i j => .int (i ^ j.toNat)) (tC (.int 10)) (tC (.int 7))) tNil)))) tNil))) tNil)))) (LogR K 60) :=
  ev_log (u := 60) e1 (by decide) (by decide) (ev_one (m := 2) (n := 3) e1 (by decide) IR.mo (ev_lst (by decide) IR.mo (eall_cons IR.mo (ev_int.wide (by decide) (by decide)) (eall_cons IR.mo (ev_int.wide (by decide) (by decide)) (eall_cons IR.mo ((ev_pow (by decide)).wide (by decide) (by decide)) eall_nil)))))
theorem s_setL {D : Ends} {σ : L2.St} {H : Hp} {ta : TA} {u : TS} {i : Nat} (h : ta σ H fun vs H1 => vs.length ≤ sizeLine ∧ ∀ t, H1 t = none → u D (σ.set i (some (.ref t))) (upd H1 t (.lst vs))) : tSeq (tAsg (tLst ta) (gName i)) u D σ H := h
theorem app_zero {K : PySem.W.Frag} {φ : PyData → Prop} {Z : Hp} {p dl al L w u : Addr} {H : Hp} {vs : List V} (P : PotAt Z H p dl al) (nL : H L = none) (nw : (upd H L (.lst vs)) w = none) (nu : (upd (upd H L (.lst vs)) w (.tup [.int 0, .int 0])) u = none)
    (hv : ∀ x ∈ vs, DR K φ x (hid Z p dl H)) (h0 : φ (.tuple [.tuple [.int 0, .int 0]])) :
    let H4 := upd (upd (upd (upd H L (.lst vs)) w (.tup [.int 0, .int 0])) u (.tup [.ref w])) L (.lst (vs ++ [.ref u]))
    PotAt Z H4 p dl al ∧ Kp Z p dl H H4 ∧ hid Z p dl H4 L = some (.lst (vs ++ [.ref u])) ∧ ∀ x ∈ vs ++ [.ref u], DR K φ x (hid Z p dl H4) := by
  intro H4
  have P1 := P.new (o := .lst vs) nL
  have P2 := P1.new (o := .tup [.int 0, .int 0]) nw
  have P3 := P2.new (o := .tup [.ref w]) nu
  have fL := P.free nL
  have fA := P.freeA nL
  have fw := P1.free nw
  have fu := P2.free nu
  have wL : w ≠ L := fun e => by rw [e, upd_same] at nw; cases nw
  have uw : u ≠ w := fun e => by rw [e, upd_same] at nu; cases nu
  have uL : u ≠ L := fun e => by rw [e, upd_ne wL.symm, upd_same] at nu; cases nu
  have k4 : Kp Z p dl H H4 := Kp.upd_new (ne_of_new nL) ((Kp.new nL).trans ((Kp.new nw).trans (Kp.new nu)))
  refine ⟨P3.upd fL.1 fL.2.1 fA fL.2.2, k4, hid_upd fL.1 fL.2, fun x hx => ?_⟩
  rcases List.mem_append.mp hx with e | e
  · exact DR.mo _ _ _ k4 (hv x e)
  · rw [List.mem_singleton.mp e]
    have e1 : hid Z p dl H4 u = some (.tup [.ref w]) := by
      rw [hid_at fu.1 fu.2]
      show upd (upd (upd (upd H L _) w _) u _) L _ u = _
      rw [upd_ne uL, upd_same]
    have e2 : hid Z p dl H4 w = some (.tup [.int 0, .int 0]) := by
      rw [hid_at fw.1 fw.2]
      show upd (upd (upd (upd H L _) w _) u _) L _ w = _
      rw [upd_ne wL, upd_ne uw.symm, upd_same]
    exact ⟨_, .tup (.inl (.inl e1)) (.cons (.tup (.inl (.inl e2)) (.cons (.int 0) (.cons (.int 0) .nil))) .nil), h0⟩
end Lm

namespace Lm
open PySem PySem.Spec PyProof.Rows L2 PySem.SeqAt PySem.MeetsSeq
open PySem.AutoSeq1 (wpAny_loadPart')
theorem str_declines_dict (b : Str) (u : Tok) (l : Addr) (c : Value) (es : Array DictEntry) (n : Nat) (dd : Option Addr) (sl : Array (Option Value)) :
    Meets (Builtin.«str.__eq__» ⟨[.str b u, .ref l], []⟩) (fun _ R s => s.heap.get? l = some { cls := c, dict := dd, data := .dict es n, slots := sl } ∧ R (.ok (.ret .notImplemented)) s) :=
  .of_wp fun prog w A R s h => by obtain ⟨hp, g, d, tk, os⟩ := s; obtain ⟨hl, h⟩ := h; wp_walk using wpAny_loadPart' hl, wpAny_load hl; exact ⟨_, rfl, h⟩
section
variable {A : Around} {s : Shared}
theorem rc_str_dict {l : Addr} {dd : Option Addr} {sl : Array (Option Value)} {es : Array DictEntry} {n : Nat} (b : Str) (u : Tok) (ho : s.heap.get? l = some { cls := .type "dict", dict := dd, data := .dict es n, slots := sl }) (hu : A.units < cLine) : RcAt A s (.str b u) (.ref l) false := fun prog w E Q h => by
  have ty : s.TypeIs (.ref l) "dict" := ⟨_, ho, rfl⟩
  refine rc_eq_decline_or (k := false) (typeIs_str s b u) ty (by decide) F.sub_dict_str F.slot_str_eq F.slot_dict_eq_refl
    (fun _ hq => call_meets F.slot_str_eq (typeIs_str s b u) F.entry_str_eq (F.args_str_eq_2 _ _) (str_declines_dict b u l (.type "dict") es n dd sl) ⟨ho, hq⟩)
    (fun _ hq => ?_)
    (fun _ hq => wpAny_of_eq (rfl : isSame (.str b u) (.ref l) = pure false) hq) (.inr hu) h
  refine PySem.wpAny_call_entry PySem.F.slot_dict_eq_refl ty PySem.F.entry_dict_eq ?_ (PySem.F.args_dict_eq_2 _ _)
  show wpAny _ _ (Builtin.Dict.dictSlotArgs "__eq__" ⟨[.ref l, .str b u], []⟩ >>= _) _ _ s
  refine wpAny_bind ?_
  unfold Builtin.Dict.dictSlotArgs
  refine wpAny_bind (wpAny_notOrdered_dict ty ?_)
  show wpAny _ _ (pure (Value.ref l, Value.str b u)) _ _ s
  refine wpAny_pure ?_
  refine wpAny_bind (wpAny_isInstance (T := "str") (typeIs_str s b u) PySem.F.sub_str_dict ?_)
  simp only [Bool.not_false, if_true]
  exact wpAny_bind (wpAny_rule (wpAny_pure ⟨_, rfl, hq⟩))
theorem eq_str_dict {l : Addr} {dd : Option Addr} {sl : Array (Option Value)} {es : Array DictEntry} {n : Nat} (b : Str) (u : Tok) (ho : s.heap.get? l = some { cls := .type "dict", dict := dd, data := .dict es n, slots := sl }) (hu : A.units < cLine) : EqAt A s (.str b u) (.ref l) false := fun prog w E Q h => by
  unfold eqBool
  refine wpAny_holding ?_
  refine wpAny_ite_split (fun hab => absurd (eq_of_beq hab) nofun) (fun _ => ?_)
  exact wpAny_bind (rc_str_dict b u ho hu prog w E _ (wpAny_truthy_bool h))
end
theorem in1_units {A : Around} (h : A.units + 64 < cLine) : A.in1.units < cLine := by
  have : A.in1.units = A.units + 1 := rfl
  omega
def strIs (d : PyData) (z : Str) : Bool := match d with | .str x => z == x | _ => false
def rInStr (K : PySem.W.Frag) : R2 := fun x y H Q => ∃ (d : PyData) (p : Addr) (zs : List Str), Dq K H x d ∧ y = .ref p ∧ (SqL K H p (zs.map V.str) ∨ SqT K H p (zs.map V.str)) ∧ Q (.bl (zs.any (strIs d))) H
section
variable {X : Cx}
def strE (d : PyData) : Value → Bool | .str z _ => strIs d z | _ => false
theorem vals_strs {d : PyData} : ∀ {zs : List Str} {its : List Value}, Vals (zs.map V.str) its → its.any (strE d) = zs.any (strIs d) ∧ ∀ w ∈ its, ∃ z t, w = .str z t
  | [], _, .nil => ⟨rfl, fun w h => nomatch h⟩
  | z :: r, _, .cons ⟨t, e⟩ h => by
    obtain ⟨h1, h2⟩ := vals_strs (d := d) h
    subst e
    refine ⟨by rw [List.any_cons, List.any_cons, h1]; rfl, fun w hw => ?_⟩
    rcases List.mem_cons.mp hw with e | e
    · exact ⟨z, t, e⟩
    · exact h2 w e
theorem eq_str_data {pins : List (Addr × Obj)} {σ : L2.St} {H : Hp} {s : Shared} (I : Inv X pins σ H s) {x : V} {v : Value} {d : PyData} (hd : Dq X.K H x d) (rx : L2.RelV x v) (hu : X.A.in1.units < cLine) (z : Str) (t : Tok) : EqAt X.A.in1 s (.str z t) v (strIs d z) := by
  cases hd with
  | non => cases rx; exact EqAt.str_none z t
  | bl b => cases rx; exact EqAt.str_bool z t b
  | int i => obtain ⟨u, rfl⟩ := rx; exact EqAt.str_int z t i u
  | str y => obtain ⟨u, rfl⟩ := rx; exact EqAt.str_str z t y u
  | lst hs _ =>
    cases rx
    obtain ⟨its, _, pl, _⟩ := I.list hs
    exact EqAt.str_list z t pl.isList hu
  | tup hs _ =>
    cases rx
    obtain ⟨its, _, pl, _⟩ := I.tuple hs
    exact EqAt.str_tuple z t pl hu
  | dct hs _ =>
    cases rx
    obtain ⟨_, _, vs, _, o, es, ep, e, hx, hdt, _⟩ := I.hok _ _ hs
    obtain ⟨cls, dd, data, sl⟩ := o
    have hc := hx.1
    simp only at hdt hc
    subst hdt hc
    exact eq_str_dict z t e hu
theorem op_inStr (hu : X.A.in1.units < cLine) : OpR X (compareOp .In) (rInStr X.K) := by
  intro pins s σ H x y v u Q I rx ry h
  obtain ⟨d, p, zs, hd, rfl, hq, q⟩ := h
  cases ry
  rcases hq with hq | hq
  · obtain ⟨its, r, pl, hz⟩ := I.list hq
    obtain ⟨h1, h2⟩ := vals_strs (d := d) r
    refine SeqAt.in_listAt (strE d) pl.isList (fun w hw => ?_) ⟨.bl _, H, I, rfl, ?_⟩
    · obtain ⟨z, t, rfl⟩ := h2 w (by simpa using hw)
      exact eq_str_data I hd rx hu z t
    · rw [show its.toArray.any (strE d) = its.any (strE d) by simp, h1]
      exact q
  · obtain ⟨its, r, pl, hz⟩ := I.tuple hq
    obtain ⟨h1, h2⟩ := vals_strs (d := d) r
    refine SeqAt.in_tupleAt (strE d) pl (fun w hw => ?_) ⟨.bl _, H, I, rfl, ?_⟩
    · obtain ⟨z, t, rfl⟩ := h2 w (by simpa using hw)
      exact eq_str_data I hd rx hu z t
    · rw [show its.toArray.any (strE d) = its.any (strE d) by simp, h1]
      exact q
end
end Lm

namespace Lm
open PySem PySem.Spec PyProof.Rows L2
/-! ### runs and motions, as functions of data -/
def runOf : PyData → Option (Int × Int)
  | .tuple [.int a, .int s, .int c] => if 0 ≤ a ∧ 1 ≤ s ∧ 1 ≤ c ∧ (c = 1 → s = 1) ∧ a + s * (c - 1) ≤ 1000000000 then some (a, a + s * (c - 1)) else none
  | _ => none
def motGo : List PyData → Nat → Int → PyData
  | [], _, _ => .none
  | d :: r, i, b => match runOf d with
    | none => two (.int i) (.str "run")
    | some (on, off) => if on ≤ b then two (.int i) (.str "order") else motGo r (i + 1) off
def motErr : PyData → PyData
  | .tuple ds => if 360 < ds.length then two .none (.str "motions") else motGo ds 0 (-1)
  | _ => two .none (.str "motions")
theorem motGo_cons {ds : List PyData} {i : Nat} {b : Int} {d : PyData} (h : ds[i]? = some d) : motGo (ds.drop i) i b = motGo (d :: ds.drop (i + 1)) i b := by
  obtain ⟨hi, e⟩ := List.getElem?_eq_some_iff.mp h
  rw [List.drop_eq_getElem_cons hi, e]
theorem run_bounds {a s c : Int} (h0 : 0 ≤ a) (h1 : 1 ≤ s) (h2 : 1 ≤ c) (h3 : c = 1 → s = 1) (h4 : a + s * (c - 1) ≤ 1000000000) : a ≤ 1000000000 ∧ s ≤ 1000000000 ∧ c ≤ 1000000001 := by
  have p0 : 0 ≤ s * (c - 1) := Int.mul_nonneg (by omega) (by omega)
  have p1 : 1 * (c - 1) ≤ s * (c - 1) := Int.mul_le_mul_of_nonneg_right h1 (by omega)
  refine ⟨by omega, ?_, by omega⟩
  by_cases e : c = 1
  · rw [h3 e]; decide
  · have p2 : s * 1 ≤ s * (c - 1) := Int.mul_le_mul_of_nonneg_left (by omega) (by omega)
    omega
theorem runOf_wt {d : PyData} : (runOf d).isSome = true → ∃ a s c, d = .tuple [.int a, .int s, .int c] ∧ runOf d = some (a, a + s * (c - 1)) ∧ 0 ≤ a ∧ a ≤ 1000000000 ∧ 1 ≤ s ∧ s ≤ 1000000000 ∧ 1 ≤ c ∧ c ≤ 1000000001 := by
  unfold runOf
  split
  · rename_i a s c
    split
    · rename_i h
      have b := run_bounds h.1 h.2.1 h.2.2.1 h.2.2.2.1 h.2.2.2.2
      exact fun _ => ⟨a, s, c, rfl, rfl, h.1, b.1, h.2.1, b.2.1, h.2.2.1, b.2.2⟩
    · intro h; cases h
  · intro h; cases h
theorem wt3 {d : PyData} (h : wt d 3 = true) : ∃ a b c, d = .tuple [.int a, .int b, .int c] := by
  unfold wt at h
  split at h
  · rename_i ds
    simp only [Bool.and_eq_true, decide_eq_true_eq] at h
    obtain ⟨h1, h2⟩ := h
    match ds, h1, h2 with
    | [x, y, z], _, h2 =>
      simp only [List.all_cons, List.all_nil, Bool.and_true, Bool.and_eq_true] at h2
      cases x <;> cases y <;> cases z <;> first | exact ⟨_, _, _, rfl⟩ | (simp [wh] at h2)
    | [], h1, _ => exact absurd h1 (by simp)
    | [_], h1, _ => exact absurd h1 (by simp)
    | [_, _], h1, _ => exact absurd h1 (by simp)
    | _ :: _ :: _ :: _ :: _, h1, _ => exact absurd h1 (by simp only [List.length_cons]; omega)
  · cases h
theorem wt3_no {d : PyData} (h : wt d 3 = false) : runOf d = none := by
  unfold runOf
  split
  · simp [wt, wh] at h
  · rfl
theorem runOf_len {ds : List PyData} (h : (ds.length : Int) ≠ 3) : runOf (.tuple ds) = none := by
  unfold runOf
  split
  · rename_i e
    cases e
    exact absurd rfl h
  · rfl
theorem runOf_out {ds : List PyData} (h : ds.all (inW 0 1000000001) = false) : runOf (.tuple ds) = none := by
  cases e : runOf (.tuple ds) with
  | none => rfl
  | some ab =>
    obtain ⟨a, s, c, e1, _, h1, h2, h3, h4, h5, h6⟩ := runOf_wt (d := .tuple ds) (by rw [e]; rfl)
    cases e1
    have g : (List.all [PyData.int a, PyData.int s, PyData.int c] (inW 0 1000000001)) = true := by
      simp only [List.all_cons, List.all_nil, Bool.and_true, inW, Bool.and_eq_true, decide_eq_true_eq]
      omega
    rw [g] at h
    cases h
theorem runOf_eq {a s c : Int} : (runOf (.tuple [.int a, .int s, .int c])).isSome = decide (0 ≤ a ∧ 1 ≤ s ∧ 1 ≤ c ∧ (c = 1 → s = 1) ∧ a + s * (c - 1) ≤ 1000000000) := by
  show (if 0 ≤ a ∧ 1 ≤ s ∧ 1 ≤ c ∧ (c = 1 → s = 1) ∧ a + s * (c - 1) ≤ 1000000000 then some (a, a + s * (c - 1)) else none).isSome = _
  by_cases h : 0 ≤ a ∧ 1 ≤ s ∧ 1 ≤ c ∧ (c = 1 → s = 1) ∧ a + s * (c - 1) ≤ 1000000000
  · rw [if_pos h, decide_eq_true h]; rfl
  · rw [if_neg h, decide_eq_false h]; rfl
theorem log2_sub {c : Int} (h : c.natAbs.log2 < 1920) : (c - 1).natAbs.log2 < 2000 := by
  have h1 : c.natAbs < 2 ^ 1920 := by
    by_cases z : c.natAbs = 0
    · rw [z]; exact Nat.two_pow_pos _
    · exact (Nat.log2_lt z).mp h
  by_cases z : (c - 1).natAbs = 0
  · rw [z]; decide
  · refine (Nat.log2_lt z).mpr ?_
    have h2 : (2 : Nat) ^ 1920 + 1 ≤ 2 ^ 2000 := by
      have : (2 : Nat) ^ 1921 ≤ 2 ^ 2000 := Nat.pow_le_pow_right (by decide) (by decide)
      have e : (2 : Nat) ^ 1921 = 2 ^ 1920 * 2 := Nat.pow_succ ..
      have p : 0 < (2 : Nat) ^ 1920 := Nat.two_pow_pos _
      omega
    omega
theorem run_mulW {a s c : Int} (h : (PyData.tuple [.int a, .int s, .int c]).showable = true) : CMulW s (c - 1) := by
  simp only [PyData.showable, PyData.showableAll, Bool.and_true, Bool.and_eq_true, decide_eq_true_eq] at h
  have := log2_sub h.2.2
  unfold CMulW
  omega
theorem show_get : ∀ {ds : List PyData} {i : Nat} {d : PyData}, PyData.showableAll ds = true → ds[i]? = some d → d.showable = true
  | [], _, _, _, e => by simp at e
  | x :: r, 0, d, h, e => by
    simp only [PyData.showableAll, Bool.and_eq_true] at h
    simp at e; rw [← e]; exact h.1
  | x :: r, i + 1, d, h, e => by
    simp only [PyData.showableAll, Bool.and_eq_true] at h
    exact show_get h.2 (by simpa using e)
def sp_last (K : PySem.W.Frag) : Sp := fun vs H Q _ => ∃ (t : Addr) (a s c : Int), vs = [.ref t] ∧ SqT K H t [.int a, .int s, .int c] ∧ CMulW s (c - 1) ∧ Q (.int (a + s * (c - 1))) H
def sp_boolS (K : PySem.W.Frag) (F : PyData → Bool) : Sp := fun vs H Q _ => ∃ v d, vs = [v] ∧ Dq K H v d ∧ d.showable = true ∧ ∀ H', Same H H' → Q (.bl (F d)) H'
def sp_errS (K : PySem.W.Frag) (F : PyData → PyData) : Sp := fun vs H Q _ => ∃ v d, vs = [v] ∧ Dq K H v d ∧ d.showable = true ∧ ∀ r H', Same H H' → Flat K H H' r (F d) → Q r H'
def lampB (d : PyData) : Bool := match d with | .tuple [k, s] => (["hold", "pulse"] : List Str).any (strIs k) && inW 1 1000000000 s | _ => false
theorem motGo_sm : ∀ (ds : List PyData) (i : Nat) (b : Int), i + ds.length ≤ 360 → Sm 60 1 (motGo ds i b)
  | [], _, _, _ => show Sm 60 1 .none from sm_chk (by decide +kernel)
  | d :: r, i, b, h => by
    simp only [List.length_cons] at h
    simp only [motGo]
    split
    · exact two_sm (by omega) _ (sm_chk (by decide +kernel))
    · split
      · exact two_sm (by omega) _ (sm_chk (by decide +kernel))
      · exact motGo_sm r (i + 1) _ (by omega)
theorem motErr_sm (d : PyData) : Sm 60 1 (motErr d) := by
  have e0 : Sm 60 1 (two .none (.str "motions")) := sm_chk (by decide +kernel)
  unfold motErr
  split
  · split
    · exact e0
    · exact motGo_sm _ _ _ (by omega)
  · exact e0
end Lm

namespace Lm
open PySem PySem.Spec PyProof.Rows L2
def sp_lamp (K : PySem.W.Frag) : Sp := fun vs H Q _ => ∃ (Z : Hp) (p dl al : Addr) (g : Int), vs = [.ref p, .int g] ∧ PotAt Z H p dl al ∧ 1 ≤ g ∧ g ≤ 1000000000 ∧
  ∀ (x : V) (H' : Hp), PotAt Z H' p dl al → Kp Z p dl H H' → TpR K 2 2 (DR K (Sm 30 1)) x (hid Z p dl H') → Q x H'
def sp_far (K : PySem.W.Frag) : Sp := fun vs H Q _ => ∃ (Z : Hp) (p dl al : Addr) (u : Int), vs = [.ref p, .int u] ∧ PotAt Z H p dl al ∧ 0 ≤ u ∧ u ≤ 40 ∧
  ∀ (x : V) (H' : Hp), PotAt Z H' p dl al → Kp Z p dl H H' → TpR K 0 40 (TpR K 3 3 (IR 0 2000000000)) x (hid Z p dl H') → Q x H'
def sp_spoiltR (K : PySem.W.Frag) : Sp := fun vs H Q _ => ∃ (Z : Hp) (p dl al : Addr) (v : V), vs = [.ref p, v] ∧ PotAt Z H p dl al ∧ TpR K 0 40 (TpR K 3 3 (IR 0 2000000000)) v (hid Z p dl H) ∧
  ∀ (x : V) (H' : Hp), PotAt Z H' p dl al → Kp Z p dl H H' → DR K (Sm 53122 5) x (hid Z p dl H') → Q x H'
section
variable {K : PySem.W.Frag} {Z : Hp} {p dl al : Addr} {H0 : Hp} {σ : L2.St} {te : TE} {R : VR}
theorem ev_iw {a b c d : Int} (h : Ev Z p dl al H0 σ te (IR a b)) (h1 : c ≤ a := by decide) (h2 : b ≤ d := by decide) : Ev Z p dl al H0 σ te (IR c d) := h.wide h1 h2
theorem ev_ivar {i : Nat} {g lo hi : Int} (e : σ[i]? = some (some (.int g))) (h0 : lo ≤ g) (h1 : g ≤ hi) : Ev Z p dl al H0 σ (tVar i) (IR lo hi) := ev_var e IR.mo ⟨g, rfl, h0, h1⟩
theorem ev_drawC {i : Nat} {n : Int} (e : σ[i]? = some (some (.ref p))) (h0 : 1 ≤ n := by decide) (h1 : n < 1073741824 := by decide) : Ev Z p dl al H0 σ (tCall sp_draw [] E0 (tCons (tVar i) (tCons (tC (.int n)) tNil))) (IR 0 (n - 1)) :=
  ev_draw (b := n) e h1 (ev_int.wide h0 (Int.le_refl _))
theorem ev_drawP {i : Nat} {a : Int} {j : Int} (c : CPow a j) (e : σ[i]? = some (some (.ref p))) (h0 : 1 ≤ a ^ j.toNat := by decide) (h1 : a ^ j.toNat < 1073741824 := by decide) :
    Ev Z p dl al H0 σ (tCall sp_draw [] E0 (tCons (tVar i) (tCons (tOp (rI CPow fun i j => .int (i ^ j.toNat)) (tC (.int a)) (tC (.int j))) tNil))) (IR 0 (a ^ j.toNat - 1)) :=
  ev_draw (b := a ^ j.toNat) e h1 ((ev_pow c).wide h0 (Int.le_refl _))
theorem ei_cons {lo hi : Int} {tl : TA} {a b : Nat} {c d : Int} (h1 : Ev Z p dl al H0 σ te (IR c d)) (h2 : EvA Z p dl al H0 σ tl (AllR a b (IR lo hi))) (h3 : lo ≤ c := by decide) (h4 : d ≤ hi := by decide) : EvA Z p dl al H0 σ (tCons te tl) (AllR (a + 1) (b + 1) (IR lo hi)) :=
  eall_cons IR.mo (h1.wide h3 h4) h2
end
/-- one more thing at the end of a list that stands apart -/
theorem app_any {K : PySem.W.Frag} {Z : Hp} {p dl al f : Addr} {H H3 : Hp} {xs : List V} {v : V} {m n : Nat} {R : VR} (hR2 : ∀ v G G', R v G → R v G') (P : PotAt Z H p dl al) (nf : H f = none) (P3 : PotAt Z H3 p dl al) (k3 : Kp Z p dl H H3)
    (hf : H3 f = some (.lst xs)) (hx : ∀ x ∈ xs, TpR K m n R x (hid Z p dl H3)) (hv : TpR K m n R v (hid Z p dl H3)) :
    let H4 := upd H3 f (.lst (xs ++ [v]))
    PotAt Z H4 p dl al ∧ Kp Z p dl H H4 ∧ H4 f = some (.lst (xs ++ [v])) ∧ ∀ x ∈ xs ++ [v], TpR K m n R x (hid Z p dl H4) := by
  intro H4
  have f1 := P.free nf
  have f2 := P.freeA nf
  refine ⟨P3.upd f1.1 f1.2.1 f2 f1.2.2, Kp.upd_new (ne_of_new nf) k3, upd_same, ?_⟩
  have tk : ∀ b o, hid Z p dl H3 b = some o → (∀ l, o ≠ .lst l) → hid Z p dl H4 b = some o := fun b o e no => by
    have n := hid_some e
    rw [hid_at n.1 n.2] at e ⊢
    have cf : b ≠ f := fun z => by rw [z, hf] at e; cases e; exact no _ rfl
    show upd H3 f _ b = _
    rw [upd_ne cf]
    exact e
  have one : ∀ x, TpR K m n R x (hid Z p dl H3) → TpR K m n R x (hid Z p dl H4) := fun x ⟨a, ys, e, g, l1, l2, l3⟩ => by
    refine ⟨a, ys, e, ?_, l1, l2, fun y hy => hR2 _ _ _ (l3 y hy)⟩
    rcases g with (g | ⟨o, g⟩) | g
    · exact .inl (.inl (tk _ _ g fun l z => nomatch z))
    · exact .inl (.inr ⟨o, tk _ _ g fun l z => nomatch z⟩)
    · exact .inr g
  intro x hx'
  rcases List.mem_append.mp hx' with e | e
  · exact one x (hx x e)
  · rw [List.mem_singleton.mp e]; exact one v hv
theorem far_step {m st x : Int} (h0 : 0 ≤ m) (h1 : 1 ≤ st) (h2 : 0 ≤ x) : 0 ≤ (if x < m.fdiv st then x else m.fdiv st) ∧ (if x < m.fdiv st then x else m.fdiv st) ≤ m ∧ 0 ≤ st * (if x < m.fdiv st then x else m.fdiv st) ∧ st * (if x < m.fdiv st then x else m.fdiv st) ≤ m := by
  have e : m.fdiv st = m / st := Int.fdiv_eq_ediv_of_nonneg _ (by omega)
  rw [e]
  have q0 : 0 ≤ m / st := Int.ediv_nonneg h0 (by omega)
  have q1 : st * (m / st) ≤ m := Int.mul_ediv_self_le (by omega)
  generalize m / st = q at q0 q1
  have k : ∀ y : Int, 0 ≤ y → y ≤ q → 0 ≤ y ∧ y ≤ m ∧ 0 ≤ st * y ∧ st * y ≤ m := fun y y0 y1 => by
    have a1 : st * y ≤ st * q := Int.mul_le_mul_of_nonneg_left y1 (by omega)
    have a2 : 1 * y ≤ st * y := Int.mul_le_mul_of_nonneg_right h1 y0
    have a3 : 0 ≤ st * y := Int.mul_nonneg (by omega) y0
    omega
  by_cases g : x < q
  · rw [if_pos g]; exact k x h2 (by omega)
  · rw [if_neg g]; exact k q q0 (Int.le_refl _)
theorem s_par3 {D : Ends} {σ : L2.St} {H : Hp} {ta : TA} {t : TS} {i j l : Nat} (h : ta σ H fun vs H1 => ∃ u v w, vs = [u, v, w] ∧ t D (((σ.set i (some u)).set j (some v)).set l (some w)) H1) : tSeq (tPar3 i j l ta) t D σ H := h
theorem ev_ifGt {Z : Hp} {p dl al : Addr} {H0 : Hp} {σ : L2.St} {ta tb : TE} {R : VR} {i : Nat} {c : Int} (e : σ[i]? = some (some (.int c))) (h1 : Ev Z p dl al H0 σ ta R) (h2 : Ev Z p dl al H0 σ tb R) :
    Ev Z p dl al H0 σ (tIf (tTest (tOp (rI0 fun i j => .bl (decide (j < i))) (tVar i) (tC (.int 1)))) ta tb) R :=
  fun H Q P k q => ⟨_, e, c, 1, rfl, rfl, _, rfl, ite2 (fun _ => h1 H Q P k q) (fun _ => h2 H Q P k q)⟩
theorem tri_data {K : PySem.W.Frag} {v : V} {G : Hp} (h : TpR K 3 3 (IR 0 2000000000) v G) : DR K (Sm 48 1) v G := h.data (n := 13) (k := 0) fun x hx => ir_data hx (by decide) (by decide)
theorem three_of {xs : List V} (h1 : 3 ≤ xs.length) (h2 : xs.length ≤ 3) : ∃ x y z, xs = [x, y, z] := by
  match xs, h1, h2 with
  | [x, y, z], _, _ => exact ⟨x, y, z, rfl⟩
def tD (q : Int × Int × Int) : PyData := .tuple [.int q.1, .int q.2.1, .int q.2.2]
theorem runs_dp {K : PySem.W.Frag} {G : Hp} {lo hi : Int} : ∀ {xs : List V}, (∀ x ∈ xs, TpR K 3 3 (IR lo hi) x G) → ∃ ts : List (Int × Int × Int), DpAll K G xs (ts.map tD) ∧ ts.length = xs.length
  | [], _ => ⟨[], .nil, rfl⟩
  | x :: r, h => by
    obtain ⟨ts, h1, h2⟩ := runs_dp (xs := r) fun y hy => h y (List.mem_cons_of_mem _ hy)
    obtain ⟨a, ys, rfl, g, l1, l2, l3⟩ := h x List.mem_cons_self
    obtain ⟨y0, y1, y2, rfl⟩ := three_of l1 l2
    obtain ⟨i, rfl, _⟩ := l3 y0 (by simp)
    obtain ⟨j, rfl, _⟩ := l3 y1 (by simp)
    obtain ⟨k, rfl, _⟩ := l3 y2 (by simp)
    exact ⟨(i, j, k) :: ts, .cons (.tup g (.cons (.int i) (.cons (.int j) (.cons (.int k) .nil)))) h1, by rw [List.length_cons, List.length_cons, h2]⟩
theorem tD_lay : ∀ ps : List (Int × Int × Int), PyData.canLayAll0 (ps.map tD) = true
  | [] => by simp [PyData.canLayAll0]
  | q :: r => by
    simp only [List.map_cons, PyData.canLayAll0, tD_lay r, Bool.and_true]
    simp [tD, PyData.canLay0, PyData.canLayAll0]
theorem tD_depth : ∀ ps : List (Int × Int × Int), PyData.depthAll (ps.map tD) ≤ 1
  | [] => by simp [PyData.depthAll]
  | q :: r => by
    simp only [List.map_cons, PyData.depthAll]
    refine Nat.max_le.mpr ⟨?_, tD_depth r⟩
    simp [tD, PyData.depth, PyData.depthAll]
theorem tD_shaped (ps : List (Int × Int × Int)) : SeqAt.shaped (.tuple (ps.map tD)) = true := by
  unfold SeqAt.shaped
  simp only [PyData.canLay0, tD_lay, PyData.depth, Bool.true_and]
  exact decide_eq_true (Nat.le_trans (Nat.succ_le_succ (tD_depth ps)) (show 2 ≤ 64 by decide))
theorem tD_eqv (ps : List (Int × Int × Int)) : PyData.eqv (.tuple (ps.map tD)) (.tuple []) = ps.isEmpty := by
  cases ps <;> simp [PyData.eqv, PyData.eqvAll]
end Lm

namespace Lm
open PySem PySem.Spec PyProof.Rows L2
theorem s_lst {K : PySem.W.Frag} {D : Ends} {σ : L2.St} {H : Hp} {te : TE} {g : TG} {tb u : TS} (h : te σ H (LstGo K g tb { D with nx := u D } σ)) : tSeq (tFor (iList K te) g tb) u D σ H := h
theorem app_three {K : PySem.W.Frag} {φ : PyData → Prop} {Z : Hp} {p dl al L w u : Addr} {H : Hp} {vs : List V} {i j k : Int} (P : PotAt Z H p dl al) (nL : H L = none) (nw : (upd H L (.lst vs)) w = none) (nu : (upd (upd H L (.lst vs)) w (.tup [.int i, .int j, .int k])) u = none)
    (hv : ∀ x ∈ vs, DR K φ x (hid Z p dl H)) (h0 : φ (.tuple [.tuple [.int i, .int j, .int k]])) :
    let H4 := upd (upd (upd (upd H L (.lst vs)) w (.tup [.int i, .int j, .int k])) u (.tup [.ref w])) L (.lst (vs ++ [.ref u]))
    PotAt Z H4 p dl al ∧ Kp Z p dl H H4 ∧ hid Z p dl H4 L = some (.lst (vs ++ [.ref u])) ∧ ∀ x ∈ vs ++ [.ref u], DR K φ x (hid Z p dl H4) := by
  intro H4
  have P1 := P.new (o := .lst vs) nL
  have P2 := P1.new (o := .tup [.int i, .int j, .int k]) nw
  have P3 := P2.new (o := .tup [.ref w]) nu
  have fL := P.free nL
  have fA := P.freeA nL
  have fw := P1.free nw
  have fu := P2.free nu
  have wL : w ≠ L := fun e => by rw [e, upd_same] at nw; cases nw
  have uw : u ≠ w := fun e => by rw [e, upd_same] at nu; cases nu
  have uL : u ≠ L := fun e => by rw [e, upd_ne wL.symm, upd_same] at nu; cases nu
  have k4 : Kp Z p dl H H4 := Kp.upd_new (ne_of_new nL) ((Kp.new nL).trans ((Kp.new nw).trans (Kp.new nu)))
  refine ⟨P3.upd fL.1 fL.2.1 fA fL.2.2, k4, hid_upd fL.1 fL.2, fun x hx => ?_⟩
  rcases List.mem_append.mp hx with e | e
  · exact DR.mo _ _ _ k4 (hv x e)
  · rw [List.mem_singleton.mp e]
    have e1 : hid Z p dl H4 u = some (.tup [.ref w]) := by
      rw [hid_at fu.1 fu.2]
      show upd (upd (upd (upd H L _) w _) u _) L _ u = _
      rw [upd_ne uL, upd_same]
    have e2 : hid Z p dl H4 w = some (.tup [.int i, .int j, .int k]) := by
      rw [hid_at fw.1 fw.2]
      show upd (upd (upd (upd H L _) w _) u _) L _ w = _
      rw [upd_ne wL, upd_ne uw.symm, upd_same]
    exact ⟨_, .tup (.inl (.inl e1)) (.cons (.tup (.inl (.inl e2)) (.cons (.int i) (.cons (.int j) (.cons (.int k) .nil)))) .nil), h0⟩
theorem tri_at {K : PySem.W.Frag} {Z : Hp} {p dl t : Addr} {H : Hp} {i j k : Int} (e : hid Z p dl H t = some (.tup [.int i, .int j, .int k])) (h : (0 ≤ i ∧ i ≤ 2000000000) ∧ (0 ≤ j ∧ j ≤ 2000000000) ∧ (0 ≤ k ∧ k ≤ 2000000000)) : TpR K 3 3 (IR 0 2000000000) (.ref t) (hid Z p dl H) := by
  refine ⟨t, _, rfl, .inl (.inl e), Nat.le_refl 3, Nat.le_refl 3, fun x hx => ?_⟩
  simp only [List.mem_cons, List.not_mem_nil, or_false] at hx
  rcases hx with e | e | e
  · exact ⟨_, e, h.1⟩
  · exact ⟨_, e, h.2.1⟩
  · exact ⟨_, e, h.2.2⟩
theorem ev_spoiltR {K : PySem.W.Frag} {Z : Hp} {p dl al : Addr} {H0 : Hp} {σ : L2.St} {i j : Nat} {v : V} (e : σ[i]? = some (some (.ref p))) (ej : σ[j]? = some (some v)) (hv : TpR K 0 40 (TpR K 3 3 (IR 0 2000000000)) v (hid Z p dl H0)) : Ev Z p dl al H0 σ (tCall (sp_spoiltR K) [] E0 (tCons (tVar i) (tCons (tVar j) tNil))) (DR K (Sm 53122 5)) :=
  fun H Q P k q => ⟨_, e, _, ej, Z, p, dl, al, v, rfl, P, TpR.mo (TpR.mo IR.mo) _ _ _ k hv, fun x H' P' k' r => q x H' P' k' r⟩
theorem s_nxe {D : Ends} {t u : TS} {σ : L2.St} {H : Hp} {i : Nat} {v : V} {a b c} (h : tSeq t u D (σ.set i (some v)) H) : gName i v σ H (Ends.nx { nx := tSeq t u D, rt := a, bk := b, ct := c }) := h
theorem bool_fine (b : Bool) : Fine (.bool b) := by cases b <;> exact (sm_chk (n := 5) (k := 0) (by decide +kernel)).fine (by decide) (by decide)
end Lm

namespace Lg
open PySem PySem.Spec PyProof.Rows L2 Lm
/-! ### a source of numbers: what must stand while b more draws are left; whose addresses -/
structure Src where
  at_ : Nat → Hp → Prop
  own : Addr → Prop
  frame : ∀ {b : Nat} {H H' : Hp}, (∀ a, own a → H' a = H a) → at_ b H → at_ b H'
  less : ∀ {b c : Nat} {H : Hp}, c ≤ b → at_ b H → at_ c H
  full : ∀ {b : Nat} {H : Hp} {q : Addr}, at_ b H → own q → H q ≠ none
open Classical in
noncomputable def cut (N : Addr → Prop) (H : Hp) : Hp := fun a => if N a then none else H a
def Occ (N : Addr → Prop) (H : Hp) : Prop := ∀ a, N a → H a ≠ none
abbrev NZ (S : Src) (Z : Hp) : Addr → Prop := fun a => S.own a ∨ Z a ≠ none
noncomputable abbrev hid (S : Src) (Z H : Hp) : Hp := cut (NZ S Z) H
section
variable {N N' : Addr → Prop} {H H' : Hp} {a q f : Addr} {o : HO}
theorem cut_at (h : ¬ N a) : cut N H a = H a := if_neg h
theorem cut_some (e : cut N H a = some o) : ¬ N a ∧ H a = some o := by
  unfold cut at e
  split at e
  · cases e
  · rename_i z
    exact ⟨z, e⟩
theorem cut_same : Same (cut N H) H := fun b o e => (cut_some e).2
theorem cut_mono (s : Same H H') : Same (cut N H) (cut N H') := fun b o e => by
  have n := cut_some e
  rw [cut_at n.1]
  exact s _ _ n.2
theorem cut_le (h : ∀ a, N a → N' a) : Same (cut N' H) (cut N H) := fun b o e => by
  have n := cut_some e
  rw [cut_at fun z => n.1 (h _ z)]
  exact n.2
theorem cut_upd (h : N f) : cut N (upd H f o) = cut N H := by
  funext b
  by_cases z : N b
  · unfold cut; rw [if_pos z, if_pos z]
  · rw [cut_at z, cut_at z, upd_ne (show b ≠ f from fun e => z (by rw [e]; exact h))]
theorem cut_new (O : Occ N H) (n : H q = none) : cut N (upd H q o) q = some o := by rw [cut_at fun z => O q z n, upd_same]
theorem Occ.keep (O : Occ N H) (s : Same H H') : Occ N H' := fun a h => by
  cases e : H a with
  | none => exact absurd e (O a h)
  | some o => rw [s _ _ e]; exact fun z => nomatch z
theorem Occ.more (O : Occ N H) (e : H f ≠ none) : Occ (fun a => N a ∨ a = f) H := fun a h => h.elim (O a) fun z => z ▸ e
theorem Occ.upd (O : Occ N H) : Occ N (upd H f o) := fun a h => by
  by_cases e : a = f
  · rw [e, upd_same]; exact fun z => nomatch z
  · rw [upd_ne e]; exact O a h
theorem occ_none : Occ (fun _ => False) H := fun a h => h.elim
theorem cut_none : cut (fun _ => False) H = H := by funext b; exact if_neg fun z => z
end
structure Iv (S : Src) (Z : Hp) (b : Nat) (H : Hp) : Prop where
  src : S.at_ b H
  zz : Same Z H
  zo : ∀ a, S.own a → Z a = none
def Off (S : Src) (Z : Hp) (a : Addr) : Prop := ¬ S.own a ∧ Z a = none
def Kp (S : Src) (Z H H' : Hp) : Prop := Same (hid S Z H) (hid S Z H')
section
variable {S : Src} {Z H H' H1 H2 : Hp} {b c : Nat} {q D a : Addr} {o o' o2 : HO}
theorem hid_at (h : Off S Z a) : hid S Z H a = H a := if_neg (fun z => z.elim h.1 (fun z => z h.2))
theorem hid_same : Same (hid S Z H) H := cut_same
theorem hid_some (e : hid S Z H a = some o) : Off S Z a := ⟨fun q => (cut_some e).1 (.inl q), Classical.byContradiction fun q => (cut_some e).1 (.inr q)⟩
theorem Iv.occ (P : Iv S Z b H) : Occ (NZ S Z) H := fun a h => h.elim (S.full P.src) fun z => by
  cases e : Z a with
  | none => exact absurd e z
  | some o => rw [P.zz _ _ e]; exact fun z => nomatch z
theorem Kp.refl : Kp S Z H H := Same.refl _
theorem Kp.trans (a : Kp S Z H H1) (b : Kp S Z H1 H2) : Kp S Z H H2 := Same.trans a b
theorem Kp.of (s : Same H H') : Kp S Z H H' := by
  intro b o e
  have n := hid_some e
  rw [hid_at n] at e ⊢
  exact s b o e
theorem same_new (h : H q = none) : Same H (upd H q o) := fun b x e => by
  rw [upd_ne (ne_of_none e h)]
  exact e
theorem Kp.new (h : H q = none) : Kp S Z H (upd H q o) := Kp.of (same_new h)
theorem Src.keep {b : Nat} (S : Src) (s : Same H H') (h : S.at_ b H) : S.at_ b H' := S.frame (fun a ha => by
  cases e : H a with
  | none => exact absurd e (S.full h ha)
  | some o => exact s _ _ e) h
theorem Iv.keep (P : Iv S Z b H) (s : Same H H') : Iv S Z b H' := ⟨S.keep s P.src, P.zz.trans s, P.zo⟩
theorem Iv.less (P : Iv S Z b H) (h : c ≤ b) : Iv S Z c H := ⟨S.less h P.src, P.zz, P.zo⟩
theorem Iv.new (P : Iv S Z b H) (n : H q = none) : Iv S Z b (upd H q o) := P.keep (same_new n)
theorem Iv.free (P : Iv S Z b H) (n : H q = none) : Off S Z q := ⟨fun z => S.full P.src z n, by
  cases e : Z q with
  | none => rfl
  | some o => rw [P.zz _ _ e] at n; cases n⟩
theorem zz_upd (h : Same Z H) (n : Z q = none) : Same Z (upd H q o) := fun b x e => by
  rw [upd_ne (ne_of_none e n)]
  exact h b x e
theorem Iv.upd (P : Iv S Z b H) (h : Off S Z q) : Iv S Z b (L2.upd H q o) := ⟨S.frame (fun a ha => upd_ne fun e => h.1 (e ▸ ha)) P.src, zz_upd P.zz h.2, P.zo⟩
theorem Iv.hide (P : Iv S Z b H) (e : H D = some o) (h : ¬ S.own D) : Iv S (L2.upd Z D o) b H := ⟨P.src, fun b x z => by
    by_cases q : b = D
    · rw [q, upd_same] at z
      rw [q, e]; exact z
    · rw [upd_ne q] at z
      exact P.zz b x z, fun a ha => by rw [upd_ne (show a ≠ D from fun e => h (by rw [← e]; exact ha))]; exact P.zo a ha⟩
theorem Iv.bare (P : Iv S (L2.upd Z D o) b H) (n : Z D = none) : Iv S Z b H := ⟨P.src, fun b x z => P.zz b x (by rw [upd_ne (ne_of_none z n)]; exact z), fun a ha => by
  have := P.zo a ha
  by_cases e : a = D
  · rw [e, upd_same] at this; cases this
  · rw [upd_ne e] at this; exact this⟩
theorem hid_new (P : Iv S Z b H) (n : H q = none) : hid S Z (L2.upd H q o) q = some o := by rw [hid_at (P.free n), upd_same]
theorem hid_upd (h : Off S Z q) : hid S Z (L2.upd H q o) q = some o := by rw [hid_at h, upd_same]
theorem hid_get (h : Off S Z a) (e : H a = some o) : hid S Z H a = some o := by rw [hid_at h]; exact e
theorem laid (P : Iv S Z b H) (n : H q = none) : Iv S Z b (L2.upd H q o) ∧ Kp S Z H (L2.upd H q o) ∧ hid S Z (L2.upd H q o) q = some o := ⟨P.new n, Kp.new n, hid_new P n⟩
theorem off_hide (h : Off S (L2.upd Z D o) a) : a ≠ D ∧ Off S Z a := by
  have q : a ≠ D := fun q => by have := h.2; rw [q, upd_same] at this; cases this
  exact ⟨q, h.1, by have := h.2; rw [upd_ne q] at this; exact this⟩
theorem hid_hide : Same (hid S (L2.upd Z D o) H) (hid S Z H) := fun b x e => by
  have n := hid_some e
  rw [hid_at n] at e
  rw [hid_at (off_hide n).2]
  exact e
theorem hid_swap : Same (hid S (L2.upd Z D o) H) (hid S (L2.upd Z D o') (L2.upd H D o2)) := fun b x e => by
  have n := hid_some e
  rw [hid_at n] at e
  have m := off_hide n
  rw [hid_at ⟨n.1, by rw [upd_ne m.1]; exact m.2.2⟩, upd_ne m.1]
  exact e
theorem hid_new2 (n : H D = none) : Same (hid S Z H) (hid S (L2.upd Z D o) (L2.upd H D o2)) := fun b x e => by
  have m := hid_some e
  rw [hid_at m] at e
  have q : b ≠ D := ne_of_none e n
  rw [hid_at ⟨m.1, by rw [upd_ne q]; exact m.2⟩, upd_ne q]
  exact e
theorem ne_of_new (n : H q = none) : ∀ b, H b ≠ none → b ≠ q := fun b h e => h (by rw [e]; exact n)
theorem Kp.upd_new (P : ∀ b, H b ≠ none → b ≠ q) (k : Kp S Z H H1) : Kp S Z H (L2.upd H1 q o) := fun b u e => by
  have n := hid_some e
  have e1 := k b u e
  rw [hid_at n] at e1 ⊢
  rw [upd_ne]
  · exact e1
  · refine P b ?_
    rw [hid_at n] at e
    rw [e]
    exact fun z => nomatch z
end
/-- a def without draws: what it gives is a function of the data that it gets -/
def sp_fn (K : PySem.W.Frag) (P : List PyData → Prop) (F : List PyData → PyData) : Sp := fun vs H Q _ => ∃ (N : Addr → Prop) (ds : List PyData), Occ N H ∧ Dqs K (cut N H) vs ds ∧ P ds ∧ ∀ r H', Same H H' → Dq K (cut N H') r (F ds) → Q r H'
/-! ### what an expression gives -/
def Ev (S : Src) (Z : Hp) (n : Nat) (H0 : Hp) (σ : L2.St) (te : TE) (R : VR) : Prop :=
  ∀ (H : Hp) (b : Nat) (Q : VK), Iv S Z (n + b) H → Kp S Z H0 H → (∀ v H', Iv S Z b H' → Kp S Z H H' → R v (hid S Z H') → Q v H') → te σ H Q
def EvA (S : Src) (Z : Hp) (n : Nat) (H0 : Hp) (σ : L2.St) (ta : TA) (R : LR) : Prop :=
  ∀ (H : Hp) (b : Nat) (Q : List V → Hp → Prop), Iv S Z (n + b) H → Kp S Z H0 H → (∀ v H', Iv S Z b H' → Kp S Z H H' → R v (hid S Z H') → Q v H') → ta σ H Q
section
variable {K : PySem.W.Frag} {S : Src} {Z : Hp} {H0 : Hp} {σ : L2.St} {te ta tb ti : TE} {tl : TA} {R R' R1 R2 : VR} {Rs Rt : LR} {n m n1 n2 : Nat}
theorem Ev.run (h : Ev S Z n H0 σ te R) {B b : Nat} {Q : VK} (P : Iv S Z B H0) (hb : n + b ≤ B) (q : ∀ v H', Iv S Z b H' → Kp S Z H0 H' → R v (hid S Z H') → Q v H') : te σ H0 Q := h H0 b Q (P.less hb) Kp.refl q
theorem EvA.run (h : EvA S Z n H0 σ tl Rs) {B b : Nat} {Q : List V → Hp → Prop} (P : Iv S Z B H0) (hb : n + b ≤ B) (q : ∀ v H', Iv S Z b H' → Kp S Z H0 H' → Rs v (hid S Z H') → Q v H') : tl σ H0 Q := h H0 b Q (P.less hb) Kp.refl q
theorem Ev.imp (h : Ev S Z n H0 σ te R) (i : ∀ v G, R v G → R' v G) : Ev S Z n H0 σ te R' := fun H b Q P k q => h H b Q P k fun v H' P' k' r => q v H' P' k' (i _ _ r)
theorem EvA.imp (h : EvA S Z n H0 σ tl Rs) (i : ∀ v G, Rs v G → Rt v G) : EvA S Z n H0 σ tl Rt := fun H b Q P k q => h H b Q P k fun v H' P' k' r => q v H' P' k' (i _ _ r)
theorem Ev.cost (h : Ev S Z n H0 σ te R) (i : n ≤ m) : Ev S Z m H0 σ te R := fun H b Q P k q => h H b Q (P.less (by omega)) k q
theorem ev_c {v : V} : Ev S Z 0 H0 σ (tC v) (fun u _ => u = v) := fun H b Q P k q => q v H (P.less (by omega)) Kp.refl rfl
theorem ev_var {i : Nat} {v : V} (e : σ[i]? = some (some v)) (m : Mo R) (h : R v (hid S Z H0)) : Ev S Z 0 H0 σ (tVar i) R := fun H b Q P k q => ⟨v, e, q v H (P.less (by omega)) Kp.refl (m _ _ _ k h)⟩
theorem eva_nil : EvA S Z 0 H0 σ tNil (fun vs _ => vs = []) := fun H b Q P k q => q [] H (P.less (by omega)) Kp.refl rfl
theorem eva_cons (mo : Mo R) (h1 : Ev S Z n1 H0 σ te R) (h2 : EvA S Z n2 H0 σ tl Rs) : EvA S Z (n1 + n2) H0 σ (tCons te tl) (fun vs G => ∃ v r, vs = v :: r ∧ R v G ∧ Rs r G) :=
  fun H b Q P k q => h1 H (n2 + b) _ (P.less (by omega)) k fun v H1 P1 k1 r1 => h2 H1 b _ P1 (k.trans k1) fun vs H2 P2 k2 r2 => q _ H2 P2 (k1.trans k2) ⟨v, vs, rfl, mo _ _ _ k2 r1, r2⟩
theorem eva_pair (m1 : Mo R1) (m2 : Mo R2) (h1 : Ev S Z n1 H0 σ ta R1) (h2 : Ev S Z n2 H0 σ tb R2) : EvA S Z (n1 + (n2 + 0)) H0 σ (tCons ta (tCons tb tNil)) (fun vs G => ∃ v w, vs = [v, w] ∧ R1 v G ∧ R2 w G) :=
  (eva_cons m1 h1 (eva_cons m2 h2 eva_nil)).imp fun vs G ⟨v, r, e, r1, w, r', e', r2, e2⟩ => ⟨v, w, by rw [e, e', e2], r1, r2⟩
theorem eall_nil : EvA S Z 0 H0 σ tNil (AllR 0 0 R) := fun H b Q P k q => q [] H (P.less (by omega)) Kp.refl ⟨Nat.le_refl _, Nat.le_refl _, fun v h => nomatch h⟩
theorem eall_cons {a b : Nat} (m : Mo R) (h1 : Ev S Z n1 H0 σ te R) (h2 : EvA S Z n2 H0 σ tl (AllR a b R)) : EvA S Z (n1 + n2) H0 σ (tCons te tl) (AllR (a + 1) (b + 1) R) :=
  (eva_cons m h1 h2).imp fun vs G h => by
    obtain ⟨v, r, rfl, hv, h1, h2, h3⟩ := h
    refine ⟨Nat.succ_le_succ h1, Nat.succ_le_succ h2, fun x hx => ?_⟩
    rcases List.mem_cons.mp hx with e | e
    · rw [e]; exact hv
    · exact h3 x e
theorem ev_tup (h : EvA S Z n H0 σ tl Rs) (hl : ∀ vs G, Rs vs G → vs.length ≤ sizeLine) (m : MoL Rs) : Ev S Z n H0 σ (tTup tl) (fun v G => ∃ a xs, v = .ref a ∧ G a = some (.tup xs) ∧ Rs xs G) :=
  fun H b Q P k q => h H b _ P k fun vs H1 P1 k1 r1 => ⟨hl _ _ r1, fun t nt => by
    obtain ⟨P2, k2, e2⟩ := laid (o := .tup vs) P1 nt
    exact q _ _ P2 (k1.trans k2) ⟨t, vs, rfl, e2, m _ _ _ k2 r1⟩⟩
theorem ev_lst {m n' : Nat} (hn : n' ≤ 1000) (hm : Mo R) (h : EvA S Z n H0 σ tl (AllR m n' R)) : Ev S Z n H0 σ (tLst tl) (LsR m n' R) :=
  fun H b Q P k q => h H b _ P k fun vs H1 P1 k1 r1 => ⟨Nat.le_of_lt (small1000 (Nat.le_trans r1.2.1 hn)), fun t nt => by
    obtain ⟨P2, k2, e2⟩ := laid (o := .lst vs) P1 nt
    exact q _ _ P2 (k1.trans k2) ⟨t, vs, rfl, e2, AllR.mo hm _ _ _ k2 r1⟩⟩
theorem ev_tupR {m n' : Nat} (hn : n' ≤ 1000) (hm : Mo R) (h : EvA S Z n H0 σ tl (AllR m n' R)) : Ev S Z n H0 σ (tTup tl) (TpR K m n' R) :=
  (ev_tup h (fun vs G r => Nat.le_of_lt (small1000 (Nat.le_trans r.2.1 hn))) (AllR.mo hm)).imp fun v G ⟨a, xs, e, g, r⟩ => ⟨a, xs, e, .inl (.inl g), r⟩
theorem ev_cat {a b c d : Nat} (hn : b + d ≤ 1000) (hm : Mo R) (h1 : Ev S Z n1 H0 σ ta (LsR a b R)) (h2 : Ev S Z n2 H0 σ tb (LsR c d R)) : Ev S Z (n1 + n2) H0 σ (tOp rCat ta tb) (LsR (a + c) (b + d) R) :=
  fun H bb Q P k q => h1 H (n2 + bb) _ (P.less (by omega)) k fun x H1 P1 k1 r1 => h2 H1 bb _ P1 (k.trans k1) fun y H2 P2 k2 r2 => by
    obtain ⟨l, xs, rfl, g1, a1, a2, a3⟩ := LsR.mo hm _ _ _ k2 r1
    obtain ⟨l2, ys, rfl, g2, b1, b2, b3⟩ := r2
    refine ⟨l, l2, xs, ys, rfl, rfl, hid_same _ _ g1, hid_same _ _ g2, Nat.le_of_lt (small1000 (by omega)), fun t nt => ?_⟩
    obtain ⟨P3, k3, e3⟩ := laid (o := .lst (xs ++ ys)) P2 nt
    refine q _ _ P3 ((k1.trans k2).trans k3) ⟨t, _, rfl, e3, by rw [List.length_append]; omega, by rw [List.length_append]; omega, fun v hv => ?_⟩
    rcases List.mem_append.mp hv with e | e
    · exact hm _ _ _ k3 (a3 v e)
    · exact hm _ _ _ k3 (b3 v e)
theorem ev_catA {a b c d : Nat} (hn : b + d ≤ 1000) (hm : Mo R) (h1 : Ev S Z n1 H0 σ ta (TpR K a b R)) (h2 : Ev S Z n2 H0 σ tb (TpR K c d R)) : Ev S Z (n1 + n2) H0 σ (tOp (rCatA K) ta tb) (TpR K (a + c) (b + d) R) :=
  fun H bb Q P k q => h1 H (n2 + bb) _ (P.less (by omega)) k fun x H1 P1 k1 r1 => h2 H1 bb _ P1 (k.trans k1) fun y H2 P2 k2 r2 => by
    have r1' := TpR.mo hm _ _ _ k2 r1
    obtain ⟨l, xs, rfl, g1, a1, a2, a3⟩ := r1'
    obtain ⟨l2, ys, rfl, g2, b1, b2, b3⟩ := id r2
    refine ⟨l, l2, xs, ys, rfl, rfl, Same.seqT hid_same g1, Same.seqT hid_same g2, Nat.le_of_lt (small1000 (by omega)), fun z => ?_, fun z1 z2 => ?_, fun z1 z2 t nt => ?_⟩
    · subst z
      refine q _ _ P2 (k1.trans k2) ⟨l2, ys, rfl, g2, ?_, by omega, b3⟩
      simp only [List.length_nil] at a1; omega
    · subst z2
      refine q _ _ P2 (k1.trans k2) ⟨l, xs, rfl, g1, ?_, by omega, a3⟩
      simp only [List.length_nil] at b1; omega
    · obtain ⟨P3, k3, e3⟩ := laid (o := .tup (xs ++ ys)) P2 nt
      refine q _ _ P3 ((k1.trans k2).trans k3) ⟨t, _, rfl, .inl (.inl e3), by rw [List.length_append]; omega, by rw [List.length_append]; omega, fun v hv => ?_⟩
      rcases List.mem_append.mp hv with e | e
      · exact hm _ _ _ k3 (a3 v e)
      · exact hm _ _ _ k3 (b3 v e)
theorem ev_int {i : Int} : Ev S Z 0 H0 σ (tC (.int i)) (IR i i) := ev_c.imp fun v G e => ⟨i, e, Int.le_refl _, Int.le_refl _⟩
theorem ev_neg {i j : Int} (h : Ev S Z n H0 σ te (IR i j)) : Ev S Z n H0 σ (tUn (rU fun i => .int (-i)) te) (IR (-j) (-i)) :=
  fun H b Q P k q => h H b _ P k fun v H1 P1 k1 ⟨x, e, h1, h2⟩ => ⟨x, e, q _ _ P1 k1 ⟨-x, rfl, by omega, by omega⟩⟩
theorem ev_add {a b c d : Int} (h1 : Ev S Z n1 H0 σ ta (IR a b)) (h2 : Ev S Z n2 H0 σ tb (IR c d)) : Ev S Z (n1 + n2) H0 σ (tOp (rI0 fun i j => .int (i + j)) ta tb) (IR (a + c) (b + d)) :=
  fun H bb Q P k q => h1 H (n2 + bb) _ (P.less (by omega)) k fun x H1 P1 k1 ⟨i, e1, i1, i2⟩ => h2 H1 bb _ P1 (k.trans k1) fun y H2 P2 k2 ⟨j, e2, j1, j2⟩ => ⟨i, j, e1, e2, q _ _ P2 (k1.trans k2) ⟨i + j, rfl, by omega, by omega⟩⟩
theorem ev_sub {a b c d : Int} (h1 : Ev S Z n1 H0 σ ta (IR a b)) (h2 : Ev S Z n2 H0 σ tb (IR c d)) : Ev S Z (n1 + n2) H0 σ (tOp (rI0 fun i j => .int (i - j)) ta tb) (IR (a - d) (b - c)) :=
  fun H bb Q P k q => h1 H (n2 + bb) _ (P.less (by omega)) k fun x H1 P1 k1 ⟨i, e1, i1, i2⟩ => h2 H1 bb _ P1 (k.trans k1) fun y H2 P2 k2 ⟨j, e2, j1, j2⟩ => ⟨i, j, e1, e2, q _ _ P2 (k1.trans k2) ⟨i - j, rfl, by omega, by omega⟩⟩
theorem ev_mul {a b c d : Int} (ha : 0 ≤ a) (hb : b < 2 ^ 64) (hc : 0 ≤ c) (h1 : Ev S Z n1 H0 σ ta (IR a b)) (h2 : Ev S Z n2 H0 σ tb (IR c d)) : Ev S Z (n1 + n2) H0 σ (tOp (rI CMul fun i j => .int (i * j)) ta tb) (IR (a * c) (b * d)) :=
  fun H bb Q P k q => h1 H (n2 + bb) _ (P.less (by omega)) k fun x H1 P1 k1 ⟨i, e1, i1, i2⟩ => h2 H1 bb _ P1 (k.trans k1) fun y H2 P2 k2 ⟨j, e2, j1, j2⟩ => by
    refine ⟨i, j, e1, e2, .inl ⟨by omega, by omega⟩, q _ _ P2 (k1.trans k2) ⟨i * j, rfl, ?_, ?_⟩⟩
    · exact Int.mul_le_mul i1 j1 hc (Int.le_trans ha i1)
    · exact Int.mul_le_mul i2 j2 (Int.le_trans hc j1) (Int.le_trans ha (Int.le_trans i1 i2))
theorem ev_pow {i j : Int} (h : CPow i j) : Ev S Z 0 H0 σ (tOp (rI CPow fun i j => .int (i ^ j.toNat)) (tC (.int i)) (tC (.int j))) (IR (i ^ j.toNat) (i ^ j.toNat)) :=
  fun H b Q P k q => ⟨i, j, rfl, rfl, h, q _ _ (P.less (by omega)) Kp.refl ⟨_, rfl, Int.le_refl _, Int.le_refl _⟩⟩
theorem Ev.wide {a b c d : Int} (h : Ev S Z n H0 σ te (IR a b)) (h1 : c ≤ a := by decide) (h2 : b ≤ d := by decide) : Ev S Z n H0 σ te (IR c d) := h.imp fun v G ⟨i, e, i1, i2⟩ => ⟨i, e, by omega, by omega⟩
theorem Ev.isInt {a b : Int} (h : Ev S Z n H0 σ te (IR a b)) : Ev S Z n H0 σ te (fun v _ => ∃ i, v = .int i) := h.imp fun v G ⟨i, e, _⟩ => ⟨i, e⟩
theorem ev_ivar {i : Nat} {g lo hi : Int} (e : σ[i]? = some (some (.int g))) (h0 : lo ≤ g) (h1 : g ≤ hi) : Ev S Z 0 H0 σ (tVar i) (IR lo hi) := ev_var e IR.mo ⟨g, rfl, h0, h1⟩
theorem ev_ixT {m c : Nat} {lo up : Int} (hm : Mo R) (h : Ev S Z n1 H0 σ te (TpR K m c R)) (hi : Ev S Z n2 H0 σ ti (IR lo up)) (h1 : -(m : Int) ≤ lo) (h2 : up < (m : Int)) : Ev S Z (n1 + n2) H0 σ (tOp (rIxT K) te ti) R :=
  fun H b Q P k q => h H (n2 + b) _ (P.less (by omega)) k fun x H1 P1 k1 r1 => hi H1 b _ P1 (k.trans k1) fun y H2 P2 k2 ⟨i, e, i1, i2⟩ => by
    obtain ⟨a, xs, rfl, g, l1, l2, l3⟩ := TpR.mo hm _ _ _ k2 r1
    obtain ⟨v, hv, ev⟩ := atI_in (xs := xs) (i := i) (by omega) (by omega)
    exact ⟨a, xs, i, v, rfl, e, Same.seqT hid_same g, ev, q _ _ P2 (k1.trans k2) (l3 v hv)⟩
theorem ev_ixL {m c : Nat} {lo up : Int} (hm : Mo R) (h : Ev S Z n1 H0 σ te (LsR m c R)) (hi : Ev S Z n2 H0 σ ti (IR lo up)) (h1 : -(m : Int) ≤ lo := by decide) (h2 : up < (m : Int) := by decide) : Ev S Z (n1 + n2) H0 σ (tOp (rIxL K) te ti) R :=
  fun H b Q P k q => h H (n2 + b) _ (P.less (by omega)) k fun x H1 P1 k1 r1 => hi H1 b _ P1 (k.trans k1) fun y H2 P2 k2 ⟨i, e, i1, i2⟩ => by
    obtain ⟨a, xs, rfl, g, l1, l2, l3⟩ := LsR.mo hm _ _ _ k2 r1
    obtain ⟨v, hv, ev⟩ := atI_in (xs := xs) (i := i) (by omega) (by omega)
    exact ⟨a, xs, i, v, rfl, e, .inl (.inl (hid_same _ _ g)), ev, q _ _ P2 (k1.trans k2) (l3 v hv)⟩
theorem ev_len {m c : Nat} (h : Ev S Z n H0 σ te (TpR K m c R)) : Ev S Z n H0 σ (tCB (fun xs H Q => ∃ p ys, xs = [.ref p] ∧ (SqL K H p ys ∨ SqT K H p ys) ∧ Q (.int ys.length) H) (tCons te tNil)) (IR m c) :=
  fun H b Q P k q => h H b _ P k fun v H1 P1 k1 ⟨a, xs, e, g, h1, h2, _⟩ => ⟨a, xs, by rw [e], .inr (Same.seqT hid_same g), q _ _ P1 k1 ⟨_, rfl, by omega, by omega⟩⟩
theorem ev_lenL {m c : Nat} (h : Ev S Z n H0 σ te (LsR m c R)) : Ev S Z n H0 σ (tCB (fun xs H Q => ∃ p ys, xs = [.ref p] ∧ (SqL K H p ys ∨ SqT K H p ys) ∧ Q (.int ys.length) H) (tCons te tNil)) (IR m c) :=
  fun H b Q P k q => h H b _ P k fun v H1 P1 k1 ⟨a, xs, e, g, h1, h2, _⟩ => ⟨a, xs, by rw [e], .inl (.inl (.inl (hid_same _ _ g))), q _ _ P1 k1 ⟨_, rfl, by omega, by omega⟩⟩
theorem ev_listOf {m c : Nat} (hm : Mo R) (h : Ev S Z n H0 σ te (TpR K m c R)) : Ev S Z n H0 σ (tCB (fun xs H Q => ∃ p ys, xs = [.ref p] ∧ (SqL K H p ys ∨ SqT K H p ys) ∧ ∀ l, H l = none → Q (.ref l) (upd H l (.lst ys))) (tCons te tNil)) (LsR m c R) :=
  fun H b Q P k q => h H b _ P k fun v H1 P1 k1 ⟨a, xs, e, g, h1, h2, h3⟩ => ⟨a, xs, by rw [e], .inr (Same.seqT hid_same g), fun t nt => by
    obtain ⟨P4, k4, e4⟩ := laid (o := .lst xs) P1 nt
    exact q _ _ P4 (k1.trans k4) ⟨t, xs, rfl, e4, h1, h2, fun x hx => hm _ _ _ k4 (h3 x hx)⟩⟩
theorem ev_tupleOf {m c : Nat} (hm : Mo R) (h : Ev S Z n H0 σ te (LsR m c R)) : Ev S Z n H0 σ (tCB (fun xs H Q => ∃ p ys, xs = [.ref p] ∧ ((SqL K H p ys ∧ ∀ l, H l = none → Q (.ref l) (upd H l (.tup ys))) ∨ (SqT K H p ys ∧ Q (.ref p) H))) (tCons te tNil)) (TpR K m c R) :=
  fun H b Q P k q => h H b _ P k fun v H1 P1 k1 ⟨a, xs, e, g, h1, h2, h3⟩ => ⟨a, xs, by rw [e], .inl ⟨.inl (.inl (hid_same _ _ g)), fun t nt => by
    obtain ⟨P4, k4, e4⟩ := laid (o := .tup xs) P1 nt
    exact q _ _ P4 (k1.trans k4) ⟨t, xs, rfl, .inl (.inl e4), h1, h2, fun x hx => hm _ _ _ k4 (h3 x hx)⟩⟩⟩
/-! ### a def without draws: data to data -/
theorem ev_fn {P : List PyData → Prop} {F : List PyData → PyData} {R : PyData → Prop} {Rs : List PyData → Prop} (h : EvA S Z n H0 σ tl (fun vs G => ∃ ds, Dqs K G vs ds ∧ Rs ds)) (hP : ∀ ds, Rs ds → P ds) (hR : ∀ ds, Rs ds → R (F ds)) : Ev S Z n H0 σ (tCall (sp_fn K P F) [] E0 tl) (DR K R) :=
  fun H b Q Pi k q => h H b _ Pi k fun vs H1 P1 k1 ⟨ds, hd, hr⟩ => ⟨NZ S Z, ds, P1.occ, by rw [List.append_nil]; exact hd, hP _ hr, fun r H' s hf => q _ _ (P1.keep s) (k1.trans (Kp.of s)) ⟨_, hf, hR _ hr⟩⟩
end
/-! ### lists that a comprehension makes grow -/
theorem ev_lcR {S : Src} {Z : Hp} {H0 : Hp} {σ : L2.St} {te : TE} {R : VR} {v n : Nat} {j : Int} (j0 : 0 ≤ j) (j1 : j ≤ 1000) (hm : Mo R)
    (hT : ∀ (Z' H1 : Hp) (x : V) (b : Nat), Iv S Z' b H1 → Same (hid S Z H0) (hid S Z' H1) → Ev S Z' n H1 ((wipe σ [v]).set v (some x)) te R) :
    Ev S Z (n * j.toNat) H0 σ (tLc (iRng1 (tCons (tC (.int j)) tNil)) (gName v) tYes te [v]) (LsR j.toNat j.toNat R) := fun H b Q P k q => by
  refine ⟨j, rfl, by omega, by omega, fun D nD => ?_⟩
  have f := P.free nD
  refine lc_range (fun i Hj => ∃ acc, Iv S (upd Z D (.lst acc)) (n * (j.toNat - i) + b) Hj ∧ acc.length = i ∧ (∀ x ∈ acc, R x (hid S (upd Z D (.lst acc)) Hj)) ∧ Same (hid S Z H) (hid S (upd Z D (.lst acc)) Hj)) ⟨[], (P.new nD).hide upd_same f.1, rfl, (fun x hx => nomatch hx), hid_new2 nD⟩ ?_ ?_
  · rintro i Hj hi ⟨acc, Pj, la, ra, sj⟩
    refine ⟨?_, yes_if ?_⟩
    · simp only [wipe, List.set_set]
    · have e1 : n * (j.toNat - i) = n + n * (j.toNat - (i + 1)) := by
        rw [show j.toNat - i = (j.toNat - (i + 1)) + 1 by omega, Nat.mul_add, Nat.mul_one, Nat.add_comm]
      rw [e1, Nat.add_assoc] at Pj
      refine hT _ Hj _ _ Pj (Same.trans k sj) Hj _ _ Pj Kp.refl fun y H4 P4 k4 r4 => ⟨acc, P4.zz _ _ upd_same, small1000 (by omega), acc ++ [y], ?_, by rw [List.length_append, la]; rfl, fun x hx => ?_, (Same.trans sj k4).trans hid_swap⟩
      · exact ((P4.bare f.2).upd f).hide upd_same f.1
      · rcases List.mem_append.mp hx with e | e
        · exact hm _ _ _ (Same.trans k4 hid_swap) (ra x e)
        · rw [List.mem_singleton.mp e]
          exact hm _ _ _ hid_swap r4
  · rintro Hn ⟨acc, Pn, la, ra, sn⟩
    have e := Pn.zz _ _ upd_same
    exact q _ Hn ((Pn.bare f.2).less (by omega)) (sn.trans hid_hide) ⟨D, acc, rfl, by rw [hid_at f]; exact e, by omega, by omega, fun x hx => hm _ _ _ hid_hide (ra x hx)⟩
end Lg

namespace Lg
open PySem PySem.Spec PyProof.Rows L2 Lm
/-! ### the reel -/
def rlAt (r c : Addr) (b : Nat) (H : Hp) : Prop := ∃ (t : Nat) (ns : List Int), H r = some (.lst [.ref c, .int (t : Int)]) ∧ H c = some (.lst (ns.map V.int)) ∧ ns ≠ [] ∧ ns.length ≤ 64 ∧ t + b ≤ 1000000000000
def reel (r c : Addr) : Src where
  at_ := rlAt r c
  own := fun a => a = r ∨ a = c
  frame := fun h ⟨t, ns, h1, h2, h3⟩ => ⟨t, ns, by rw [h r (.inl rfl)]; exact h1, by rw [h c (.inr rfl)]; exact h2, h3⟩
  less := fun hc ⟨t, ns, h1, h2, h3, h4, h5⟩ => ⟨t, ns, h1, h2, h3, h4, by omega⟩
  full := fun ⟨t, ns, h1, h2, _⟩ h => by
    rcases h with rfl | rfl
    · rw [h1]; exact fun z => nomatch z
    · rw [h2]; exact fun z => nomatch z
theorem reel_ne {r c : Addr} {b : Nat} {H : Hp} (h : rlAt r c b H) : r ≠ c := by
  obtain ⟨t, ns, h1, h2, h3, _⟩ := h
  rintro rfl
  rw [h1] at h2
  cases ns with
  | nil => exact h3 rfl
  | cons n ns =>
    have q : [V.ref r, V.int (t : Int)] = (n :: ns).map V.int := HO.lst.inj (Option.some.inj h2)
    simp at q
def sp_spin : Sp := fun vs H Q _ => ∃ (Z : Hp) (r c : Addr) (b : Nat) (n : Int), vs = [.ref r, .int n] ∧ Iv (reel r c) Z (1 + b) H ∧ 1 ≤ n ∧ n < 1073741824 ∧
  ∀ (v : Int) (H' : Hp), Iv (reel r c) Z b H' → Kp (reel r c) Z H H' → 0 ≤ v → v < n → Q (.int v) H'
def sp_reel (K : PySem.W.Frag) : Sp := fun vs H Q _ => ∃ (a : Addr) (ns : List Int), vs = [.ref a] ∧ SqL K H a (ns.map V.int) ∧ ns.length ≤ 63 ∧ ∀ (r c : Addr) (H' : Hp), Iv (reel r c) (fun _ => none) 1000000000000 H' → Same H H' → Q (.ref r) H'
section
variable {K : PySem.W.Frag} {r c : Addr} {Z : Hp} {H0 : Hp} {σ : L2.St} {te ta tb : TE} {tl : TA} {R : VR} {n : Nat}
theorem ev_spin {i : Nat} {b : Int} (e : σ[i]? = some (some (.ref r))) (hb : b < 1073741824) (h : Ev (reel r c) Z n H0 σ te (IR 1 b)) : Ev (reel r c) Z (n + 1) H0 σ (tCall sp_spin [] E0 (tCons (tVar i) (tCons te tNil))) (IR 0 (b - 1)) :=
  fun H bb Q P k q => ⟨_, e, h H (1 + bb) _ (P.less (by omega)) k fun v H1 P1 k1 ⟨m, em, n1, n2⟩ => ⟨Z, r, c, bb, m, by rw [em]; rfl, P1, by omega, by omega, fun x H2 P2 k2 r1 r2 => q _ _ P2 (k1.trans k2) ⟨x, rfl, r1, by omega⟩⟩⟩
theorem ev_spinC {i : Nat} {m : Int} (e : σ[i]? = some (some (.ref r)) := by rfl) (h0 : 1 ≤ m := by decide) (h1 : m < 1073741824 := by decide) : Ev (reel r c) Z (0 + 1) H0 σ (tCall sp_spin [] E0 (tCons (tVar i) (tCons (tC (.int m)) tNil))) (IR 0 (m - 1)) :=
  ev_spin (b := m) e h1 (ev_int.wide h0 (Int.le_refl _))
end
/-! ### lamps, stretches, logs, minutes -/
def kindS (h : Bool) : Str := if h then "hold" else "pulse"
abbrev Lamp := Bool × Int
abbrev Stt := Int × Int
def lampD (l : Lamp) : PyData := .tuple [.str (kindS l.1), .int l.2]
def logD (ps : List Stt) : PyData := .tuple (ps.map pD)
def lampsD (ls : List Lamp) : PyData := .tuple (ls.map lampD)
def minsD (ms : List Int) : PyData := .list (ms.map .int)
/-- strictly rising, from above b -/
def Asc : Int → List Int → Prop
  | _, [] => True
  | b, m :: r => b < m ∧ Asc m r
def stepL (h : Bool) (s : Int) : List Stt → Int → List Stt
  | [], m => [(m, m + s)]
  | q :: r, m => if q.2 < m then (m, m + s) :: q :: r else if h || decide (m = q.2) then (q.1, m + s) :: r else q :: r
def logF (l : Lamp) (ms : List Int) : List Stt := (ms.foldl (stepL l.1 l.2) []).reverse
/-- a log in order, all of it up to B -/
structure LgOk (n : Nat) (B : Int) (ps : List Stt) : Prop where
  up : LogUp (-1) ps
  len : ps.length ≤ n
  top : ∀ q ∈ ps, q.2 ≤ B
/-- the same from its end -/
def DownOk (B : Int) : List Stt → Prop
  | [] => True
  | q :: r => 0 ≤ q.1 ∧ q.1 < q.2 ∧ q.2 ≤ B ∧ DownOk B r ∧ (match r with | [] => True | p :: _ => p.2 < q.1)
theorem LogUp.snoc {b : Int} : ∀ {ps : List Stt} {q : Stt}, LogUp b ps → (∀ p, ps.getLast? = some p → p.2 < q.1) → b < q.1 → q.1 < q.2 → LogUp b (ps ++ [q])
  | [], q, _, _, h, h2 => ⟨h, h2, trivial⟩
  | p :: r, q, ⟨a1, a2, a3⟩, hl, h, h2 => by
    refine ⟨a1, a2, LogUp.snoc a3 (fun x hx => ?_) ?_ h2⟩
    · cases r with
      | nil => simp at hx
      | cons y ys => exact hl x (by rw [List.getLast?_cons_cons]; exact hx)
    · cases r with
      | nil => exact hl p rfl
      | cons y ys =>
        obtain ⟨b1, b2, b3⟩ := a3
        have := hl ((y :: ys).getLast (by simp)) (by rw [List.getLast?_cons_cons, List.getLast?_eq_getLast (by simp)])
        have m : (y :: ys).getLast (by simp) ∈ (y :: ys) := List.getLast_mem _
        have bb := LogUp.bound (b := p.2) (ps := y :: ys) ⟨b1, b2, b3⟩ _ m
        omega
theorem DownOk.rev {B : Int} : ∀ {qs : List Stt}, DownOk B qs → LogUp (-1) qs.reverse ∧ ∀ q ∈ qs, 0 ≤ q.1 ∧ q.1 < q.2 ∧ q.2 ≤ B
  | [], _ => ⟨trivial, fun q h => nomatch h⟩
  | q :: r, ⟨h0, h1, h2, h3, h4⟩ => by
    obtain ⟨i1, i2⟩ := DownOk.rev h3
    rw [List.reverse_cons]
    refine ⟨LogUp.snoc i1 (fun p hp => ?_) (by omega) h1, fun x hx => ?_⟩
    · rw [List.getLast?_reverse] at hp
      cases r with
      | nil => simp at hp
      | cons y ys => simp at hp; rw [← hp]; exact h4
    · rcases List.mem_cons.mp hx with e | e
      · rw [e]; exact ⟨h0, h1, h2⟩
      · exact i2 x e
theorem DownOk.ok {B : Int} {n : Nat} {qs : List Stt} (h : DownOk B qs) (hl : qs.length ≤ n) : LgOk n B qs.reverse :=
  ⟨h.rev.1, by rw [List.length_reverse]; exact hl, fun q hq => (h.rev.2 q (List.mem_reverse.mp hq)).2.2⟩
theorem stepL_down {h : Bool} {s B C m : Int} {qs : List Stt} (hs : 1 ≤ s) (hd : DownOk C qs) (h0 : 0 ≤ m) (hb : m + s ≤ B) (hc : C ≤ B) (hm : ∀ q, qs.head? = some q → q.1 < m) : DownOk B (stepL h s qs m) := by
  have w : ∀ {rs : List Stt}, DownOk C rs → DownOk B rs := fun {rs} => by
    intro hr
    induction rs with
    | nil => trivial
    | cons q r ih => obtain ⟨a1, a2, a3, a4, a5⟩ := hr; exact ⟨a1, a2, Int.le_trans a3 hc, ih a4, a5⟩
  cases qs with
  | nil => exact ⟨h0, by show m < m + s; omega, hb, trivial, trivial⟩
  | cons q r =>
    have hq := hm q rfl
    obtain ⟨a1, a2, a3, a4, a5⟩ := hd
    simp only [stepL]
    split
    · exact ⟨h0, by show m < m + s; omega, hb, w ⟨a1, a2, a3, a4, a5⟩, by assumption⟩
    · split
      · exact ⟨a1, by show q.1 < m + s; omega, hb, w a4, a5⟩
      · exact w ⟨a1, a2, a3, a4, a5⟩
theorem stepL_head {h : Bool} {s m : Int} {qs : List Stt} (hm : ∀ q, qs.head? = some q → q.1 < m) : ∀ q, (stepL h s qs m).head? = some q → q.1 ≤ m := by
  intro x
  cases qs with
  | nil => intro e; cases e; exact Int.le_refl _
  | cons q r =>
    have hq := hm q rfl
    simp only [stepL]
    split
    · intro e; cases e; exact Int.le_refl _
    · split
      · intro e; cases e; show q.1 ≤ m; omega
      · intro e; cases e; omega
theorem stepL_len {h : Bool} {s m : Int} {qs : List Stt} : (stepL h s qs m).length ≤ qs.length + 1 := by
  cases qs with
  | nil => exact Nat.le_refl _
  | cons q r =>
    simp only [stepL]
    split
    · simp
    · split <;> simp
theorem foldL_down {h : Bool} {s B : Int} (hs : 1 ≤ s) : ∀ {ms : List Int} {b : Int} {qs : List Stt}, Asc b ms → (∀ m ∈ ms, 0 ≤ m ∧ m + s ≤ B) → DownOk B qs → (∀ q, qs.head? = some q → q.1 ≤ b) → DownOk B (ms.foldl (stepL h s) qs) ∧ (ms.foldl (stepL h s) qs).length ≤ qs.length + ms.length
  | [], b, qs, _, _, hd, _ => ⟨hd, Nat.le_refl _⟩
  | m :: r, b, qs, ⟨a1, a2⟩, hm, hd, hh => by
    have m0 := hm m List.mem_cons_self
    have hh' : ∀ q, qs.head? = some q → q.1 < m := fun q e => by have := hh q e; omega
    obtain ⟨i1, i2⟩ := foldL_down (h := h) hs a2 (fun x hx => hm x (List.mem_cons_of_mem _ hx)) (stepL_down (h := h) hs hd m0.1 m0.2 (Int.le_refl _) hh') (stepL_head hh')
    have l := stepL_len (h := h) (s := s) (m := m) (qs := qs)
    refine ⟨i1, ?_⟩
    rw [List.foldl_cons, List.length_cons]
    omega
theorem logF_ok {l : Lamp} {ms : List Int} {b B : Int} {n : Nat} (hs : 1 ≤ l.2) (ha : Asc b ms) (hm : ∀ m ∈ ms, 0 ≤ m ∧ m + l.2 ≤ B) (hl : ms.length ≤ n) : LgOk n B (logF l ms) := by
  obtain ⟨h1, h2⟩ := foldL_down (h := l.1) (qs := []) hs ha hm trivial (fun q e => nomatch e)
  exact h1.ok (by simp at h2; omega)
/-! ### what such data is in the heap -/
theorem dqs_nil {K : PySem.W.Frag} {G : Hp} {vs : List V} (h : Dqs K G vs []) : vs = [] := by cases h; rfl
theorem dqs_cons {K : PySem.W.Frag} {G : Hp} {vs : List V} {d : PyData} {ds : List PyData} (h : Dqs K G vs (d :: ds)) : ∃ v r, vs = v :: r ∧ Dq K G v d ∧ Dqs K G r ds := by cases h; exact ⟨_, _, rfl, by assumption, by assumption⟩
theorem dq_int {K : PySem.W.Frag} {G : Hp} {v : V} {i : Int} (h : Dq K G v (.int i)) : v = .int i := by cases h; rfl
theorem dq_str {K : PySem.W.Frag} {G : Hp} {v : V} {x : Str} (h : Dq K G v (.str x)) : v = .str x := by cases h; rfl
theorem dq_bool {K : PySem.W.Frag} {G : Hp} {v : V} {x : Bool} (h : Dq K G v (.bool x)) : v = .bl x := by cases h; rfl
theorem dq_none {K : PySem.W.Frag} {G : Hp} {v : V} (h : Dq K G v .none) : v = .non := by cases h; rfl
theorem dq_tup {K : PySem.W.Frag} {G : Hp} {v : V} {ds : List PyData} (h : Dq K G v (.tuple ds)) : ∃ a xs, v = .ref a ∧ SqT K G a xs ∧ Dqs K G xs ds := by cases h; exact ⟨_, _, rfl, by assumption, by assumption⟩
theorem dq_lst {K : PySem.W.Frag} {G : Hp} {v : V} {ds : List PyData} (h : Dq K G v (.list ds)) : ∃ a xs, v = .ref a ∧ SqL K G a xs ∧ Dqs K G xs ds := by cases h; exact ⟨_, _, rfl, by assumption, by assumption⟩
theorem dq_lamp {K : PySem.W.Frag} {G : Hp} {v : V} {l : Lamp} (h : Dq K G v (lampD l)) : ∃ a, v = .ref a ∧ SqT K G a [.str (kindS l.1), .int l.2] := by
  obtain ⟨a, xs, rfl, h1, h2⟩ := dq_tup h
  obtain ⟨x, r, rfl, h3, h4⟩ := dqs_cons h2
  obtain ⟨y, r, rfl, h5, h6⟩ := dqs_cons h4
  rw [dqs_nil h6, dq_str h3, dq_int h5] at h1
  exact ⟨a, rfl, h1⟩
theorem dq_pair {K : PySem.W.Frag} {G : Hp} {v : V} {q : Stt} (h : Dq K G v (pD q)) : ∃ a, v = .ref a ∧ SqT K G a [.int q.1, .int q.2] := by
  obtain ⟨a, xs, rfl, h1, h2⟩ := dq_tup h
  obtain ⟨x, r, rfl, h3, h4⟩ := dqs_cons h2
  obtain ⟨y, r, rfl, h5, h6⟩ := dqs_cons h4
  rw [dqs_nil h6, dq_int h3, dq_int h5] at h1
  exact ⟨a, rfl, h1⟩
theorem dq_lampT {K : PySem.W.Frag} {G : Hp} {a : Addr} {l : Lamp} (h : SqT K G a [.str (kindS l.1), .int l.2]) : Dq K G (.ref a) (lampD l) := .tup h (.cons (.str _) (.cons (.int _) .nil))
theorem dq_pairT {K : PySem.W.Frag} {G : Hp} {a : Addr} {q : Stt} (h : SqT K G a [.int q.1, .int q.2]) : Dq K G (.ref a) (pD q) := .tup h (.cons (.int _) (.cons (.int _) .nil))
theorem dqs_ints {K : PySem.W.Frag} {G : Hp} : ∀ {vs : List V} {ms : List Int}, Dqs K G vs (ms.map .int) → vs = ms.map V.int
  | _, [], h => dqs_nil h
  | _, m :: r, h => by
    obtain ⟨v, t, rfl, h1, h2⟩ := dqs_cons h
    rw [dq_int h1, dqs_ints h2]; rfl
theorem ints_dqs {K : PySem.W.Frag} {G : Hp} : ∀ {ms : List Int}, Dqs K G (ms.map V.int) (ms.map .int)
  | [] => .nil
  | m :: r => .cons (.int m) ints_dqs
theorem kindS_hold (h : Bool) : decide (V.str (kindS h) = V.str "hold") = h := by
  cases h with
  | true => exact decide_eq_true rfl
  | false => exact decide_eq_false (fun e => absurd (V.str.inj e) (by decide))
theorem kindS_pulse (h : Bool) : decide (V.str (kindS h) = V.str "pulse") = !h := by
  cases h with
  | true => exact decide_eq_false (fun e => absurd (V.str.inj e) (by decide))
  | false => exact decide_eq_true rfl
theorem cut_ints (ns : List Int) (lo hi : Option Int) : ∃ ks : List Int, cutV (ns.map V.int) lo hi = ks.map V.int ∧ ks.length ≤ ns.length := by
  refine ⟨(ns.drop (HT.sIx (ns.map V.int).length 0 lo)).take (HT.sIx (ns.map V.int).length (ns.map V.int).length hi - HT.sIx (ns.map V.int).length 0 lo), ?_, ?_⟩
  · unfold cutV
    rw [List.map_take, List.map_drop]
  · rw [List.length_take, List.length_drop]
    omega
/-! ### promises -/
def sp_f (K : PySem.W.Frag) {α : Type} (A : α → List PyData) (P : α → Prop) (F : α → PyData) : Sp := fun vs H Q _ => ∃ (N : Addr → Prop) (x : α), Occ N H ∧ Dqs K (cut N H) vs (A x) ∧ P x ∧ ∀ r H', Same H H' → Dq K (cut N H') r (F x) → Q r H'
def fitB (l : Lamp) (q : Stt) : Bool := decide (q.2 - l.2 ≤ 1000000000) && (if l.1 then decide (l.2 ≤ q.2 - q.1) else decide ((q.2 - q.1).fmod l.2 = 0))
/-- the numbers of those that do not pass, from i on -/
def wrongs (p : Stt → Bool) : Nat → List Stt → List Int
  | _, [] => []
  | i, q :: r => if p q then wrongs p (i + 1) r else (i : Int) :: wrongs p (i + 1) r
theorem wrongs_snoc (p : Stt → Bool) : ∀ (i : Nat) (ps : List Stt) (q : Stt), wrongs p i (ps ++ [q]) = wrongs p i ps ++ (if p q then [] else [((i + ps.length : Nat) : Int)])
  | i, [], q => by simp only [List.nil_append, wrongs, List.length_nil, Nat.add_zero]
  | i, x :: r, q => by
    simp only [List.cons_append, wrongs, wrongs_snoc p (i + 1) r q, List.length_cons]
    rw [show i + 1 + r.length = i + (r.length + 1) by omega]
    split <;> simp
theorem wrongs_len (p : Stt → Bool) : ∀ (i : Nat) (ps : List Stt), (wrongs p i ps).length ≤ ps.length
  | _, [] => Nat.le_refl _
  | i, q :: r => by
    simp only [wrongs]
    have := wrongs_len p (i + 1) r
    split <;> simp only [List.length_cons] <;> omega
theorem wrongs_lt (p : Stt → Bool) : ∀ (i : Nat) (ps : List Stt), ∀ x ∈ wrongs p i ps, (i : Int) ≤ x ∧ x < i + ps.length
  | _, [], x, h => nomatch h
  | i, q :: r, x, h => by
    have ih := wrongs_lt p (i + 1) r
    simp only [wrongs] at h
    simp only [List.length_cons]
    split at h
    · have := ih x h; omega
    · rcases List.mem_cons.mp h with e | e
      · omega
      · have := ih x e; omega
def sp_lamps (K : PySem.W.Frag) : Sp := fun vs H Q _ => ∃ (Z : Hp) (r c : Addr) (b : Nat) (m T : Int), vs = [.ref r, .int m, .int T] ∧ Iv (reel r c) Z (25 + b) H ∧ 1 ≤ m ∧ m ≤ 6 ∧ 1 ≤ T ∧ T ≤ 10000 ∧
  ∀ (x : V) (H' : Hp) (ls : List Lamp), Iv (reel r c) Z b H' → Kp (reel r c) Z H H' → Dq K (hid (reel r c) Z H') x (lampsD ls) → 1 ≤ ls.length → (ls.length : Int) ≤ m → (∀ l ∈ ls, 1 ≤ l.2 ∧ l.2 ≤ T) → Q x H'
/-- minutes: rising, not negative, of at most 10 ** 7, so many at most -/
def MinsOk (n : Int) (ms : List Int) : Prop := Asc (-1) ms ∧ (ms.length : Int) ≤ n ∧ ∀ m ∈ ms, 0 ≤ m ∧ m ≤ 10000000
def sp_minutes (K : PySem.W.Frag) : Sp := fun vs H Q _ => ∃ (Z : Hp) (r c : Addr) (b : Nat) (m g : Int), vs = [.ref r, .int m, .int g] ∧ Iv (reel r c) Z (205 + b) H ∧ 0 ≤ m ∧ m ≤ 50 ∧ 1 ≤ g ∧ g ≤ 20000 ∧
  ∀ (x : V) (H' : Hp) (ms : List Int), Iv (reel r c) Z b H' → Kp (reel r c) Z H H' → Dq K (hid (reel r c) Z H') x (minsD ms) → MinsOk m ms → Q x H'
def sp_bent (K : PySem.W.Frag) : Sp := fun vs H Q _ => ∃ (Z : Hp) (r c : Addr) (b : Nat) (x : V) (ps : List Stt) (B : Int), vs = [.ref r, x] ∧ Iv (reel r c) Z (3 + b) H ∧ Dq K (hid (reel r c) Z H) x (logD ps) ∧ LgOk 60 B ps ∧ 0 ≤ B ∧ B ≤ 100000000 ∧
  ∀ (y : V) (H' : Hp) (qs : List Stt), Iv (reel r c) Z b H' → Kp (reel r c) Z H H' → Dq K (hid (reel r c) Z H') y (logD qs) → LgOk 60 (B + 8) qs → Q y H'
def sp_scene (K : PySem.W.Frag) : Sp := fun vs H Q _ => ∃ (Z : Hp) (r c : Addr) (b : Nat) (m T n : Int), vs = [.ref r, .int m, .int T, .int n] ∧ Iv (reel r c) Z (700 + b) H ∧ 1 ≤ m ∧ m ≤ 6 ∧ 1 ≤ T ∧ T ≤ 10000 ∧ 0 ≤ n ∧ n ≤ 50 ∧
  ∀ (p : Addr) (x y : V) (H' : Hp) (ls : List Lamp) (gs : List (List Stt)), Iv (reel r c) Z b H' → Kp (reel r c) Z H H' → H' p = some (.lst [x, y]) → ¬ (reel r c).own p → Z p = none → H p = none →
    Dq K (hid (reel r c) Z H') x (lampsD ls) → Dq K (hid (reel r c) Z H') y (.tuple (gs.map logD)) → 1 ≤ ls.length → (ls.length : Int) ≤ m → (∀ l ∈ ls, 1 ≤ l.2 ∧ l.2 ≤ T) → gs.length = ls.length → (∀ g ∈ gs, LgOk 60 20000000 g) → Q (.ref p) H'
end Lg

namespace Lg
open PySem PySem.Spec PyProof.Rows L2 Lm
/-! ### a list of one's own -/
noncomputable abbrev cut1 (f : Addr) (G : Hp) : Hp := cut (fun a => a = f) G
theorem cut1_at {f b : Addr} {G : Hp} (h : b ≠ f) : cut1 f G b = G b := if_neg h
section
variable {N : Addr → Prop} {H H3 : Hp} {f t : Addr} {o o' : HO} {vs : List V}
theorem app_cut (O : Occ N H3) (hf : H3 f = some o) (nt : H3 t = none) : Same (cut1 f (cut N H3)) (cut1 f (cut N (upd (upd H3 t (.tup vs)) f o'))) ∧ cut1 f (cut N (upd (upd H3 t (.tup vs)) f o')) t = some (.tup vs) := by
  have tf : t ≠ f := fun e => by rw [e, hf] at nt; cases nt
  have tN : ¬ N t := fun z => O t z nt
  constructor
  · intro b u e
    have n1 := cut_some e
    have n2 := cut_some n1.2
    have bt : b ≠ t := fun e => by rw [e, nt] at n2; cases n2.2
    rw [cut1_at n1.1, cut_at n2.1, upd_ne n1.1, upd_ne bt]
    exact n2.2
  · rw [cut1_at tf, cut_at tN, upd_ne tf, upd_same]
theorem set_cut : cut1 f (cut N (upd H3 f o)) = cut1 f (cut N H3) := by
  funext b
  by_cases e : b = f
  · unfold cut1 cut; rw [if_pos e, if_pos e]
  · rw [cut1_at e, cut1_at e]
    by_cases n : N b
    · unfold cut; rw [if_pos n, if_pos n]
    · rw [cut_at n, cut_at n, upd_ne e]
theorem new_cut (O : Occ N H3) (nt : H3 t = none) : Same (cut N H3) (cut N (upd H3 t o)) := cut_mono (same_new nt)
end
section
variable {S : Src} {Z H H3 : Hp} {b c : Nat} {f t : Addr} {o : HO} {vs : List V}
theorem app_iv (P : Iv S Z c H) (nf : H f = none) (P3 : Iv S Z b H3) (k3 : Kp S Z H H3) (nt : H3 t = none) : Iv S Z b (upd (upd H3 t (.tup vs)) f o) ∧ Kp S Z H (upd (upd H3 t (.tup vs)) f o) :=
  ⟨(P3.new nt).upd (P.free nf), Kp.upd_new (ne_of_new nf) (k3.trans (Kp.new nt))⟩
theorem set_iv (P : Iv S Z c H) (nf : H f = none) (P3 : Iv S Z b H3) (k3 : Kp S Z H H3) : Iv S Z b (upd H3 f o) ∧ Kp S Z H (upd H3 f o) :=
  ⟨P3.upd (P.free nf), Kp.upd_new (ne_of_new nf) k3⟩
/-- what is visible is so behind a call -/
theorem Kp.at_ (k : Kp S Z H H3) (h : Off S Z f) (e : H f = some o) : H3 f = some o := cut_same _ _ (k _ _ (hid_get h e))
end
section
variable {σ : L2.St} {H : Hp} {te : TE} {tl : TA} {Q : VK} {QL : List V → Hp → Prop} {K : PySem.W.Frag}
theorem r_tup (h : tl σ H fun vs H1 => vs.length ≤ sizeLine ∧ ∀ t, H1 t = none → Q (.ref t) (upd H1 t (.tup vs))) : tTup tl σ H Q := h
theorem r_lst (h : tl σ H fun vs H1 => vs.length ≤ sizeLine ∧ ∀ t, H1 t = none → Q (.ref t) (upd H1 t (.lst vs))) : tLst tl σ H Q := h
theorem r_cons (h : te σ H fun v H1 => tl σ H1 fun vs H2 => QL (v :: vs) H2) : tCons te tl σ H QL := h
theorem dqs_snoc {G : Hp} {xs : List V} {ds : List PyData} {v : V} {d : PyData} (h : Dqs K G xs ds) (hv : Dq K G v d) : Dqs K G (xs ++ [v]) (ds ++ [d]) := Dqs.app h (.cons hv .nil)
end
def KS (v : V) (_ : Hp) : Prop := ∃ h, v = .str (kindS h)
theorem KS.mo : Mo KS := fun v G G' s h => h
section
variable {K : PySem.W.Frag} {S : Src} {Z : Hp} {H0 : Hp} {σ : L2.St} {ta tb : TE} {n1 n2 : Nat}
theorem ev_min2 {a b c d : Int} (h1 : Ev S Z n1 H0 σ ta (IR a b)) (h2 : Ev S Z n2 H0 σ tb (IR c d)) : Ev S Z (n1 + n2) H0 σ (tCB (fun xs H Q => ∃ i j, xs = [.int i, .int j] ∧ Q (.int (if j < i then j else i)) H) (tCons ta (tCons tb tNil))) (IR (if c < a then c else a) b) :=
  fun H bb Q P k q => h1 H (n2 + bb) _ (P.less (by omega)) k fun x H1 P1 k1 ⟨i, e1, i1, i2⟩ => h2 H1 bb _ P1 (k.trans k1) fun y H2 P2 k2 ⟨j, e2, j1, j2⟩ => ⟨i, j, by rw [e1, e2], q _ _ P2 (k1.trans k2) ⟨_, rfl, by repeat (first | omega | split), by repeat (first | omega | split)⟩⟩
theorem EI_mo {i : Int} : Mo (EI i) := fun _ _ _ _ h => h
theorem ev_iv {i : Nat} {g : Int} (e : σ[i]? = some (some (.int g))) : Ev S Z 0 H0 σ (tVar i) (EI g) := ev_var e EI_mo rfl
theorem ev_kinds : Ev S Z 0 H0 σ (tLst (tCons (tC (.str "hold")) (tCons (tC (.str "pulse")) tNil))) (LsR 2 2 KS) :=
  ev_lst (by decide) KS.mo (eall_cons KS.mo (ev_c.imp fun v G e => ⟨true, e⟩) (eall_cons KS.mo (ev_c.imp fun v G e => ⟨false, e⟩) eall_nil))
end
theorem Asc.snoc : ∀ {b : Int} {ms : List Int} {m : Int}, Asc b ms → b < m → (∀ x ∈ ms, x < m) → Asc b (ms ++ [m])
  | _, [], _, _, h, _ => ⟨h, trivial⟩
  | b, x :: r, m, ⟨a1, a2⟩, h, hx => ⟨a1, Asc.snoc a2 (hx x List.mem_cons_self) fun y hy => hx y (List.mem_cons_of_mem _ hy)⟩
end Lg

namespace Lg
open PySem PySem.Spec PyProof.Rows L2 Lm
theorem dqs_snoc_inv {K : PySem.W.Frag} {G : Hp} : ∀ {xs : List V} {ds : List PyData} {d : PyData}, Dqs K G xs (ds ++ [d]) → ∃ ys v, xs = ys ++ [v] ∧ Dqs K G ys ds ∧ Dq K G v d
  | _, [], d, h => by
    obtain ⟨v, r, rfl, h1, h2⟩ := dqs_cons h
    rw [dqs_nil h2]
    exact ⟨[], v, rfl, .nil, h1⟩
  | _, e :: r, d, h => by
    obtain ⟨v, t, rfl, h1, h2⟩ := dqs_cons h
    obtain ⟨ys, u, rfl, h3, h4⟩ := dqs_snoc_inv h2
    exact ⟨v :: ys, u, rfl, .cons h1 h3, h4⟩
theorem ixN_last {xs : List V} {v : V} : ixN (xs ++ [v]).length (-1) = some xs.length := by
  unfold ixN
  rw [if_neg (by decide), if_pos (by simp; omega)]
  congr 1
  simp
  omega
theorem set_last {xs : List V} {v u : V} : (xs ++ [v]).set xs.length u = xs ++ [u] := by
  rw [List.set_append_right _ _ (Nat.le_refl _), Nat.sub_self]
  rfl
/-- the numbers that two sure facts about decide give -/
theorem Same.seqL {K : PySem.W.Frag} {H H' : Hp} {a : Addr} {xs : List V} (e : Same H H') (h : SqL K H a xs) : SqL K H' a xs := e.seq h
theorem get_ints {ms : List Int} {i : Nat} {x : V} (h : (ms.map V.int)[i]? = some x) : ∃ m, ms[i]? = some m ∧ x = .int m := by
  rw [List.getElem?_map] at h
  cases e : ms[i]? with
  | none => rw [e] at h; cases h
  | some n => rw [e] at h; exact ⟨n, rfl, (Option.some.inj h).symm⟩
theorem same_upd {H H3 : Hp} {f : Addr} {o : HO} (s : Same H H3) (n : H f = none) : Same H (upd H3 f o) := same_upd2 s n
theorem logF_len (h : Bool) (s : Int) : ∀ (ms : List Int) (qs : List Stt), (ms.foldl (stepL h s) qs).length ≤ qs.length + ms.length
  | [], _ => Nat.le_refl _
  | m :: r, qs => by
    have a := logF_len h s r (stepL h s qs m)
    have b := stepL_len (h := h) (s := s) (m := m) (qs := qs)
    rw [List.foldl_cons, List.length_cons]
    omega
theorem foldl_take {α β : Type} (g : β → α → β) (b : β) (xs : List α) {i : Nat} {x : α} (h : xs[i]? = some x) : (xs.take (i + 1)).foldl g b = g ((xs.take i).foldl g b) x := by
  rw [List.take_add_one, h, List.foldl_append]
  rfl
def sp_l_log (K : PySem.W.Frag) : Sp := sp_f K (fun x : Lamp × List Int => [lampD x.1, minsD x.2]) (fun x => x.2.length ≤ 900) (fun x => logD (logF x.1 x.2))
def sp_l_logs (K : PySem.W.Frag) : Sp := sp_f K (fun x : List Lamp × List Int => [lampsD x.1, minsD x.2]) (fun x => x.1.length ≤ 900 ∧ x.2.length ≤ 900) (fun x => .tuple (x.1.map fun l => logD (logF l x.2)))
def sp_fits (K : PySem.W.Frag) : Sp := sp_f K (fun x : Lamp × Stt => [lampD x.1, pD x.2]) (fun x => 1 ≤ x.1.2 ∧ x.2.1 < x.2.2) (fun x => .bool (fitB x.1 x.2))
def sp_wrong (K : PySem.W.Frag) : Sp := sp_f K (fun x : Lamp × List Stt => [lampD x.1, logD x.2]) (fun x => 1 ≤ x.1.2 ∧ (∀ q ∈ x.2, q.1 < q.2) ∧ x.2.length ≤ 900) (fun x => .tuple ((wrongs (fitB x.1) 0 x.2).map .int))
theorem dqs_get {K : PySem.W.Frag} {G : Hp} {α : Type} {D : α → PyData} {xs : List V} {ps : List α} {i : Nat} {v : V} (h : Dqs K G xs (ps.map D)) (e : xs[i]? = some v) : ∃ q, ps[i]? = some q ∧ Dq K G v (D q) := by
  obtain ⟨d, hd, hq⟩ := h.get e
  rw [List.getElem?_map] at hd
  cases e2 : ps[i]? with
  | none => rw [e2] at hd; cases hd
  | some q => rw [e2] at hd; cases (Option.some.inj hd); exact ⟨q, rfl, hq⟩
/-- a list of pairs that grows while nothing else changes: σ is what the names hold but for y -/
def GrowAt (K : PySem.W.Frag) (N : Addr → Prop) (H : Hp) (f : Addr) (ps : List Stt) (Hi : Hp) : Prop := ∃ xs, Same H Hi ∧ Hi f = some (.lst xs) ∧ Dqs K (cut1 f (cut N Hi)) xs (ps.map pD)
theorem GrowAt.start {K : PySem.W.Frag} {N : Addr → Prop} {H : Hp} {f : Addr} (nf : H f = none) : GrowAt K N H f [] (upd H f (.lst [])) := ⟨[], same_new nf, upd_same, .nil⟩
theorem GrowAt.put {K : PySem.W.Frag} {N : Addr → Prop} {H Hi G : Hp} {f t : Addr} {zs : List V} {o : HO} {ps : List Stt} {q : Stt} (nf : H f = none) (O : Occ N H) (si : Same H Hi) (sG : Same Hi G) (eG : G f = some o) (hz : Dqs K (cut1 f (cut N Hi)) zs (ps.map pD)) (nt : G t = none) :
    GrowAt K N H f (ps ++ [q]) (upd (upd G t (.tup [.int q.1, .int q.2])) f (.lst (zs ++ [.ref t]))) := by
  obtain ⟨s5, e5⟩ := app_cut (vs := [.int q.1, .int q.2]) (o' := .lst (zs ++ [.ref t])) ((O.keep si).keep sG) eG nt
  refine ⟨_, same_upd ((si.trans sG).trans (same_new nt)) nf, upd_same, ?_⟩
  rw [List.map_append]
  exact dqs_snoc (hz.mono ((cut_mono (cut_mono sG)).trans s5)) (dq_pairT (.inl (.inl e5)))
theorem GrowAt.keep {K : PySem.W.Frag} {N : Addr → Prop} {H Hi G : Hp} {f : Addr} {ps : List Stt} (h : GrowAt K N H f ps Hi) (s : Same Hi G) : GrowAt K N H f ps G :=
  let ⟨xs, s1, e, d⟩ := h; ⟨xs, s1.trans s, s _ _ e, d.mono (cut_mono (cut_mono s))⟩
theorem GrowAt.tup {K : PySem.W.Frag} {N : Addr → Prop} {H Hi : Hp} {f t : Addr} {xs : List V} {ds : List PyData} (O : Occ N H) (s : Same H Hi) (d : Dqs K (cut1 f (cut N Hi)) xs ds) (nt : Hi t = none) : Dq K (cut N (upd Hi t (.tup xs))) (.ref t) (.tuple ds) :=
  .tup (.inl (.inl (cut_new (O.keep s) nt))) (d.mono (cut_same.trans (cut_mono (same_new nt))))
theorem iteF_e {b : Bool} {P R : Prop} (h : b = false) (q : R) : if b = true then P else R := by rw [h]; exact q
theorem iteT_e {b : Bool} {P R : Prop} (h : b = true) (q : P) : if b = true then P else R := by rw [h]; exact q
theorem ite_b {b : Bool} {P R : Prop} (h1 : b = true → P) (h2 : b = false → R) : if b = true then P else R := by
  cases b with
  | true => exact h1 rfl
  | false => exact h2 rfl
end Lg

namespace Lg
open PySem PySem.Spec PyProof.Rows L2 Lm
theorem pg_tupK {X : Cx} {K : PySem.W.Frag} {es : List Expr} {k : Nat} {t : TGs} {n : Nat} {pos : Pos} (hK : X.K = K) (hc : X.calm = true) (h : PGs X es t) (hn : (assignEach es X.env).length = n := by rfl) (hst : (assignEach es X.env).findIdx? (·.1) = none := by rfl) : PG X (.Tuple es k pos) (gTup K n t) := by
  rw [← hK]
  exact pg_tup hc h hn hst
/-! ### comprehensions whose items are made by defs without draws -/
abbrev NP (N : Addr → Prop) (D : Addr) : Addr → Prop := fun a => N a ∨ a = D
theorem np_new {N : Addr → Prop} {H H' : Hp} {D : Addr} (n : H D = none) (s : Same H H') : Same (cut N H) (cut (NP N D) H') := fun b o e => by
  have m := cut_some e
  rw [cut_at (fun z => z.elim m.1 fun q => by rw [← q, m.2] at n; cases n)]
  exact s _ _ m.2
theorem np_le {N : Addr → Prop} {H : Hp} {D : Addr} : Same (cut (NP N D) H) (cut N H) := cut_le fun a h => .inl h
theorem np_occ {N : Addr → Prop} {H : Hp} {D : Addr} {o : HO} (O : Occ N H) (e : H D = some o) : Occ (NP N D) H := O.more (by rw [e]; exact fun z => nomatch z)
theorem map_take_snoc {α β : Type} (F : α → β) {as : List α} {i : Nat} {y : α} (h : as[i]? = some y) : (as.take (i + 1)).map F = (as.take i).map F ++ [F y] := by
  rw [List.take_add_one, h, List.map_append]
  rfl
theorem lc_map {J : It} {Gd : Hp → Prop} {K : PySem.W.Frag} {N : Addr → Prop} {xs : List V} {te : TE} {v : Nat} {σ : L2.St} {H1 : Hp} {Dl : Addr} {Qd : Hp → Prop} {α : Type} {D F : α → PyData} {as : List α}
    (w : Walk J xs.length Gd (YAt xs)) (hG : ∀ H', Same H1 H' → Gd H') (nD : H1 Dl = none) (O : Occ N H1) (hd : Dqs K (cut N H1) xs (as.map D)) (hl : as.length ≤ 900)
    (hT : ∀ (G : Hp) (x : V) (y : α) (Q : VK), y ∈ as → Occ (NP N Dl) G → Same (cut N H1) (cut (NP N Dl) G) → Same H1 G → Dq K (cut (NP N Dl) G) x (D y) → (∀ r G', Same G G' → Dq K (cut (NP N Dl) G') r (F y) → Q r G') → te ((wipe σ [v]).set v (some x)) G Q)
    (hq : ∀ H' acc, Same H1 H' → H' Dl = some (.lst acc) → Occ (NP N Dl) H' → Dqs K (cut (NP N Dl) H') acc (as.map F) → Qd H') :
    ∃ W : Nat → Nat → Hp → Prop, (∃ m, W 0 m (upd H1 Dl (.lst []))) ∧ ∀ i m H, W i m H →
      (J.stop i H ∧ Qd H) ∨ (J.go i H ∧ ∃ Nx : Hp → Prop, (∀ H', Nx H' → ∃ m', m' < m ∧ W (i + 1) m' H') ∧ ∀ x H', J.yld i H x H' → gName v x (wipe σ [v]) H' fun σ2 H2 => wipe σ2 [v] = wipe σ [v] ∧ tYes σ2 H2 fun b H3 =>
        if b = true then te σ2 H3 fun y H4 => ∃ acc, H4 Dl = some (.lst acc) ∧ acc.length < sizeLine ∧ Nx (upd H4 Dl (.lst (acc ++ [y]))) else Nx H3) := by
  have len := hd.len
  rw [List.length_map] at len
  refine lc_it w (fun i Hj => ∃ acc, Same H1 Hj ∧ Hj Dl = some (.lst acc) ∧ Dqs K (cut (NP N Dl) Hj) acc ((as.take i).map F)) ⟨[], same_new nD, upd_same, .nil⟩ (fun i H _ ⟨_, s, _⟩ => hG H s) ?_ ?_
  · rintro i x Hj H' hi ⟨acc, sj, ej, dj⟩ ⟨rfl, hx⟩
    obtain ⟨y, hy, qy⟩ := dqs_get hd hx
    have la := dj.len
    rw [List.length_map, List.length_take] at la
    refine ⟨?_, yes_if ?_⟩
    · simp only [wipe, List.set_set]
    · refine hT _ x y _ (List.mem_of_getElem? hy) (np_occ (O.keep sj) ej) (np_new nD sj) sj (qy.mono (np_new nD sj)) fun r G' sG hr => ⟨acc, sG _ _ ej, small1000 (by omega), acc ++ [r], same_upd (sj.trans sG) nD, upd_same, ?_⟩
      rw [map_take_snoc F hy, cut_upd (.inr rfl)]
      exact dqs_snoc (dj.mono (cut_mono sG)) hr
  · rintro Hn ⟨acc, sn, en, dn⟩
    rw [len, List.take_length] at dn
    exact hq Hn acc sn en (np_occ (O.keep sn) en) dn
/-- the numbers of those that do not pass, over numbers -/
theorem wrongs_take (p : Stt → Bool) {ps : List Stt} {i : Nat} {q : Stt} (h : ps[i]? = some q) : (wrongs p 0 (ps.take (i + 1))).map V.int = (wrongs p 0 (ps.take i)).map V.int ++ (if p q then [] else [V.int (i : Int)]) := by
  have hi : i < ps.length := (List.getElem?_eq_some_iff.mp h).1
  rw [List.take_add_one, h]
  show (wrongs p 0 (ps.take i ++ [q])).map V.int = _
  rw [wrongs_snoc, List.map_append, List.length_take]
  congr 1
  split
  · rfl
  · rw [show min i ps.length = i by omega]; simp
end Lg

namespace Lg
open PySem PySem.Spec PyProof.Rows L2 Lm
/-! ### exact numbers -/
section
variable {K : PySem.W.Frag} {S : Src} {Z : Hp} {H0 : Hp} {σ : L2.St} {te ta tb : TE} {tl : TA} {n n1 n2 : Nat} {a b : Int} {R : VR}
theorem ei_c {i : Int} : Ev S Z 0 H0 σ (tC (.int i)) (EI i) := ev_c
theorem ei_neg (h : Ev S Z n H0 σ te (EI a)) : Ev S Z n H0 σ (tUn (rU fun i => .int (-i)) te) (EI (-a)) := fun H b Q P k q => h H b _ P k fun v H1 P1 k1 e => ⟨a, e, q _ _ P1 k1 rfl⟩
theorem ei_add (h1 : Ev S Z n1 H0 σ ta (EI a)) (h2 : Ev S Z n2 H0 σ tb (EI b)) : Ev S Z (n1 + n2) H0 σ (tOp (rI0 fun i j => .int (i + j)) ta tb) (EI (a + b)) :=
  fun H bb Q P k q => h1 H (n2 + bb) _ (P.less (by omega)) k fun x H1 P1 k1 e1 => h2 H1 bb _ P1 (k.trans k1) fun y H2 P2 k2 e2 => ⟨a, b, e1, e2, q _ _ P2 (k1.trans k2) rfl⟩
theorem ei_sub (h1 : Ev S Z n1 H0 σ ta (EI a)) (h2 : Ev S Z n2 H0 σ tb (EI b)) : Ev S Z (n1 + n2) H0 σ (tOp (rI0 fun i j => .int (i - j)) ta tb) (EI (a - b)) :=
  fun H bb Q P k q => h1 H (n2 + bb) _ (P.less (by omega)) k fun x H1 P1 k1 e1 => h2 H1 bb _ P1 (k.trans k1) fun y H2 P2 k2 e2 => ⟨a, b, e1, e2, q _ _ P2 (k1.trans k2) rfl⟩
theorem ei_mul (hc : CMul a b) (h1 : Ev S Z n1 H0 σ ta (EI a)) (h2 : Ev S Z n2 H0 σ tb (EI b)) : Ev S Z (n1 + n2) H0 σ (tOp (rI CMul fun i j => .int (i * j)) ta tb) (EI (a * b)) :=
  fun H bb Q P k q => h1 H (n2 + bb) _ (P.less (by omega)) k fun x H1 P1 k1 e1 => h2 H1 bb _ P1 (k.trans k1) fun y H2 P2 k2 e2 => ⟨a, b, e1, e2, hc, q _ _ P2 (k1.trans k2) rfl⟩
theorem ei_fdivN (hc : b ≠ 0 ∧ b.natAbs < 1073741824) (h1 : Ev S Z n1 H0 σ ta (EI a)) (h2 : Ev S Z n2 H0 σ tb (EI b)) : Ev S Z (n1 + n2) H0 σ (tOp (rI CDivN fun i j => .int (i.fdiv j)) ta tb) (EI (a.fdiv b)) :=
  fun H bb Q P k q => h1 H (n2 + bb) _ (P.less (by omega)) k fun x H1 P1 k1 e1 => h2 H1 bb _ P1 (k.trans k1) fun y H2 P2 k2 e2 => ⟨a, b, e1, e2, hc, q _ _ P2 (k1.trans k2) rfl⟩
theorem ei_modN (hc : b ≠ 0) (h1 : Ev S Z n1 H0 σ ta (EI a)) (h2 : Ev S Z n2 H0 σ tb (EI b)) : Ev S Z (n1 + n2) H0 σ (tOp (rI (fun _ j => j ≠ 0) fun i j => .int (i.fmod j)) ta tb) (EI (a.fmod b)) :=
  fun H bb Q P k q => h1 H (n2 + bb) _ (P.less (by omega)) k fun x H1 P1 k1 e1 => h2 H1 bb _ P1 (k.trans k1) fun y H2 P2 k2 e2 => ⟨a, b, e1, e2, hc, q _ _ P2 (k1.trans k2) rfl⟩
theorem ei_pow {i j : Int} (h : CPow i j) : Ev S Z 0 H0 σ (tOp (rI CPow fun i j => .int (i ^ j.toNat)) (tC (.int i)) (tC (.int j))) (EI (i ^ j.toNat)) := fun H b Q P k q => ⟨i, j, rfl, rfl, h, q _ _ (P.less (by omega)) Kp.refl rfl⟩
theorem ei_max2 (h1 : Ev S Z n1 H0 σ ta (EI a)) (h2 : Ev S Z n2 H0 σ tb (EI b)) : Ev S Z (n1 + n2) H0 σ (tCB (fun xs H Q => ∃ i j, xs = [.int i, .int j] ∧ Q (.int (if j > i then j else i)) H) (tCons ta (tCons tb tNil))) (EI (if b > a then b else a)) :=
  fun H bb Q P k q => h1 H (n2 + bb) _ (P.less (by omega)) k fun x H1 P1 k1 e1 => h2 H1 bb _ P1 (k.trans k1) fun y H2 P2 k2 e2 => ⟨a, b, by rw [e1, e2], q _ _ P2 (k1.trans k2) rfl⟩
theorem ei_ir {lo hi : Int} (h : Ev S Z n H0 σ te (EI a)) (h1 : lo ≤ a := by decide) (h2 : a ≤ hi := by decide) : Ev S Z n H0 σ te (IR lo hi) := h.imp fun v G e => ⟨a, e, h1, h2⟩
/-- a stretch that ends by B -/
def PR (K : PySem.W.Frag) (B : Int) : VR := fun v G => ∃ q : Stt, Dq K G v (pD q) ∧ 0 ≤ q.1 ∧ q.1 < q.2 ∧ q.2 ≤ B
theorem PR.mo {B : Int} : Mo (PR K B) := fun v G G' s ⟨q, h, r⟩ => ⟨q, h.mono s, r⟩
theorem PR.wide {B C : Int} {v : V} {G : Hp} (h : PR K B v G) (hc : B ≤ C) : PR K C v G := let ⟨q, d, h0, h1, h2⟩ := h; ⟨q, d, h0, h1, Int.le_trans h2 hc⟩
theorem ev_pr {B : Int} (h : 0 ≤ a ∧ a < b ∧ b ≤ B) (h1 : Ev S Z n1 H0 σ ta (EI a)) (h2 : Ev S Z n2 H0 σ tb (EI b)) : Ev S Z (n1 + (n2 + 0)) H0 σ (tTup (tCons ta (tCons tb tNil))) (PR K B) :=
  fun H bb Q P k q => (eva_pair EI_mo EI_mo h1 h2) H bb _ P k fun vs H1 P1 k1 ⟨v, w, e, e1, e2⟩ => by
    subst e; cases e1; cases e2
    refine ⟨sz2, fun t nt => ?_⟩
    obtain ⟨P2, k2, g2⟩ := laid (o := .tup [.int a, .int b]) P1 nt
    exact q _ _ P2 (k1.trans k2) ⟨(a, b), dq_pairT (.inl (.inl g2)), h⟩
theorem ev_lsW {m c m' c' : Nat} {R' : VR} (h : Ev S Z n H0 σ te (LsR m c R)) (h1 : m' ≤ m) (h2 : c ≤ c') (i : ∀ x G, R x G → R' x G) : Ev S Z n H0 σ te (LsR m' c' R') :=
  h.imp fun v G ⟨a, xs, e, g, l1, l2, l3⟩ => ⟨a, xs, e, g, Nat.le_trans h1 l1, Nat.le_trans l2 h2, fun x hx => i x G (l3 x hx)⟩
theorem ev_ifLt {i : Nat} {c d : Int} (e : σ[i]? = some (some (.int c))) (h1 : c < d → Ev S Z n H0 σ ta R) (h2 : Ev S Z n H0 σ tb R) :
    Ev S Z n H0 σ (tIf (tTest (tOp (rI0 fun i j => .bl (decide (i < j))) (tVar i) (tC (.int d)))) ta tb) R :=
  fun H b Q P k q => ⟨_, e, c, d, rfl, rfl, _, rfl, ite2 (fun g => h1 (of_decide_eq_true g) H b Q P k q) (fun _ => h2 H b Q P k q)⟩
def AnyO (S : Src) (Z : Hp) (H0 : Hp) (σ : L2.St) (to : TO) : Prop := ∀ (H : Hp) (b : Nat) (Q : Option Int → Hp → Prop), Iv S Z b H → Kp S Z H0 H → (∀ o H', Iv S Z b H' → Kp S Z H H' → Q o H') → to σ H Q
theorem any_none : AnyO S Z H0 σ tNoPart := fun H b Q P k q => q none H P Kp.refl
theorem any_some {t : TE} (h : Ev S Z 0 H0 σ t (fun v _ => ∃ i, v = .int i)) : AnyO S Z H0 σ (tPart t) := fun H b Q P k q => h H b _ (P.less (by omega)) k fun v H1 P1 k1 ⟨i, e⟩ => ⟨i, e, q _ _ P1 k1⟩
theorem ev_slA {a b : Nat} {t1 t2 : TO} (hm : Mo R) (h : Ev S Z n H0 σ te (TpR K a b R)) (h1 : AnyO S Z H0 σ t1) (h2 : AnyO S Z H0 σ t2) : Ev S Z n H0 σ (tSl (rSlA K) te t1 t2) (TpR K 0 b R) :=
  fun H bb Q P k q => h H bb _ P k fun x H1 P1 k1 r1 => h1 H1 bb _ P1 (k.trans k1) fun lo H2 P2 k2 => h2 H2 bb _ P2 ((k.trans k1).trans k2) fun hi H3 P3 k3 => by
    obtain ⟨l, xs, rfl, g, a1, a2, a3⟩ := TpR.mo hm _ _ _ (Kp.trans k2 k3) r1
    refine ⟨l, xs, rfl, Same.seqT hid_same g, fun _ => ?_, fun _ t nt => ?_⟩
    · exact q _ _ P3 (k1.trans (k2.trans k3)) ⟨l, xs, rfl, g, Nat.zero_le _, a2, a3⟩
    · obtain ⟨P4, k4, e4⟩ := laid (o := .tup (cutV xs lo hi)) P3 nt
      exact q _ _ P4 (k1.trans ((k2.trans k3).trans k4)) ⟨t, _, rfl, .inl (.inl e4), Nat.zero_le _, Nat.le_trans (cutV_length _ _ _) a2, fun v hv => hm _ _ _ k4 (a3 v (mem_cutV hv))⟩
end
theorem ev_lsW_v {m c m' c' : Nat} {R : VR} {v : V} {G : Hp} (h : LsR m c R v G) (h1 : m' ≤ m) (h2 : c ≤ c') : LsR m' c' R v G := let ⟨a, xs, e, g, l1, l2, l3⟩ := h; ⟨a, xs, e, g, Nat.le_trans h1 l1, Nat.le_trans l2 h2, l3⟩
theorem s_ifn' {D : Ends} {σ : L2.St} {H : Hp} {c : TT} {t u : TS} (P : L2.St → Hp → Prop) (rest : ∀ σ' H', P σ' H' → u D σ' H') (h : ∀ X : L2.St → Hp → Prop, (∀ σ' H', P σ' H' → X σ' H') → c σ H fun b H1 => if b = true then t { D with nx := X } σ H1 else X σ H1) : tSeq (tIfS c t tNext) u D σ H := h _ rest
theorem Dqs.pr {K : PySem.W.Frag} {G : Hp} {B : Int} : ∀ {xs : List V} {ps : List Stt}, Dqs K G xs (ps.map pD) → (∀ q ∈ ps, 0 ≤ q.1 ∧ q.1 < q.2 ∧ q.2 ≤ B) → ∀ x ∈ xs, PR K B x G
  | _, [], h, _, x, hx => by rw [dqs_nil h] at hx; cases hx
  | _, q :: r, h, hb, x, hx => by
    obtain ⟨v, t, rfl, h1, h2⟩ := dqs_cons h
    rcases List.mem_cons.mp hx with e | e
    · rw [e]; exact ⟨q, h1, hb q List.mem_cons_self⟩
    · exact Dqs.pr h2 (fun p hp => hb p (List.mem_cons_of_mem _ hp)) x e
theorem LgOk.all {n : Nat} {B : Int} {ps : List Stt} (h : LgOk n B ps) : ∀ q ∈ ps, 0 ≤ q.1 ∧ q.1 < q.2 ∧ q.2 ≤ B := fun q hq => by
  have := h.up.bound q hq
  have := h.top q hq
  omega
theorem prs_dp {K : PySem.W.Frag} {G : Hp} : ∀ {xs : List V} {ps : List Stt}, Dqs K G xs (ps.map pD) → DpAll K G xs (ps.map pD)
  | _, [], h => by rw [dqs_nil h]; exact .nil
  | _, q :: r, h => by
    obtain ⟨v, t, rfl, h1, h2⟩ := dqs_cons h
    obtain ⟨a, rfl, g⟩ := dq_pair h1
    exact .cons (.tup g (.cons (.int _) (.cons (.int _) .nil))) (prs_dp h2)
theorem log_dp {K : PySem.W.Frag} {G : Hp} {v : V} {ps : List Stt} (h : Dq K G v (logD ps)) : Dp K G v (logD ps) := by
  obtain ⟨a, xs, rfl, g, hx⟩ := dq_tup h
  exact .tup g (prs_dp hx)
theorem LogUp.take : ∀ {b : Int} {ps : List Stt} (n : Nat), LogUp b ps → LogUp b (ps.take n)
  | _, [], _, _ => by simp [LogUp]
  | _, _, 0, _ => trivial
  | _, q :: r, n + 1, ⟨a1, a2, a3⟩ => ⟨a1, a2, LogUp.take n a3⟩
theorem cutV_take (xs : List V) (n : Nat) : cutV xs none (some (n : Int)) = xs.take n := by
  unfold cutV
  rw [HT.sIx_none, HT.sIx_nat, List.drop_zero, Nat.sub_zero]
  by_cases h : n ≤ xs.length
  · rw [Nat.min_eq_left h]
  · rw [Nat.min_eq_right (by omega), List.take_length, List.take_of_length_le (by omega)]
theorem DownOk.push {B : Int} {qs : List Stt} {q : Stt} (h : DownOk B qs) (h0 : 0 ≤ q.1) (h1 : q.1 < q.2) (h2 : q.2 ≤ B) (hl : ∀ p, qs.head? = some p → p.2 < q.1) : DownOk B (q :: qs) :=
  ⟨h0, h1, h2, h, by cases qs with | nil => trivial | cons p r => exact hl p rfl⟩
end Lg

namespace Lg
open PySem PySem.Spec PyProof.Rows L2 Lm
/-! ### all but the list at f is as it was -/
def AB (f : Addr) (H H' : Hp) : Prop := Same (cut1 f H) (cut1 f H')
section
variable {K : PySem.W.Frag} {S : Src} {N : Addr → Prop} {Z H H1 H2 Hi G : Hp} {f t a : Addr} {b : Nat} {o : HO}
theorem AB.refl : AB f H H := Same.refl _
theorem AB.trans (h : AB f H H1) (k : AB f H1 H2) : AB f H H2 := Same.trans h k
theorem AB.of (s : Same H H1) : AB f H H1 := cut_mono s
theorem AB.set : AB f H (upd H f o) := fun b u e => by
  have n := cut_some e
  rw [cut1_at n.1, upd_ne n.1]
  exact n.2
theorem AB.at_ (h : AB f H H1) (ne : a ≠ f) (e : H a = some o) : H1 a = some o := (cut_some (h a o (by rw [cut1_at ne]; exact e))).2
theorem AB.cut (h : AB f H H1) : Same (cut1 f (Lg.cut N H)) (cut1 f (Lg.cut N H1)) := fun b u e => by
  have n := cut_some e
  have m := cut_some n.2
  rw [cut1_at n.1, cut_at m.1]
  exact h.at_ n.1 m.2
theorem AB.kp {H8 : Hp} (h : AB f H H1) (nf : H8 f = none) (k : Kp S Z H8 H) : Kp S Z H8 H1 := fun b u e => by
  have m := cut_some e
  have n := cut_some (k b u e)
  show Lg.cut (NZ S Z) H1 b = _
  rw [cut_at m.1]
  exact h.at_ (ne_of_none m.2 nf) n.2
theorem AB.iv (h : AB f H H1) (P : Iv S Z b H) (hf : Off S Z f) : Iv S Z b H1 :=
  ⟨S.frame (fun a ha => by
    have ne : a ≠ f := fun e => hf.1 (by rw [← e]; exact ha)
    cases e : H a with
    | none => exact absurd e (S.full P.src ha)
    | some o => exact h.at_ ne e) P.src, fun a u e => h.at_ (ne_of_none e hf.2) (P.zz a u e), P.zo⟩
def GrowB (K : PySem.W.Frag) (N : Addr → Prop) (H : Hp) (f : Addr) (ps : List Stt) (Hi : Hp) : Prop := ∃ xs, AB f H Hi ∧ Hi f = some (.lst xs) ∧ Dqs K (cut1 f (Lg.cut N Hi)) xs (ps.map pD)
theorem GrowB.put {zs : List V} {ps : List Stt} {q : Stt} (O : Occ N Hi) (si : AB f H Hi) (sG : Same Hi G) (eG : G f = some o) (hz : Dqs K (cut1 f (Lg.cut N Hi)) zs (ps.map pD)) (nt : G t = none) :
    GrowB K N H f (ps ++ [q]) (upd (upd G t (.tup [.int q.1, .int q.2])) f (.lst (zs ++ [.ref t]))) := by
  obtain ⟨s5, e5⟩ := app_cut (vs := [.int q.1, .int q.2]) (o' := .lst (zs ++ [.ref t])) (O.keep sG) eG nt
  refine ⟨_, (si.trans (AB.of (sG.trans (same_new nt)))).trans AB.set, upd_same, ?_⟩
  rw [List.map_append]
  exact dqs_snoc (hz.mono ((cut_mono (cut_mono sG)).trans s5)) (dq_pairT (.inl (.inl e5)))
theorem hid_cut1 : Same (hid S (L2.upd Z f o) H) (cut1 f (hid S Z H)) := fun b u e => by
  have n := off_hide (hid_some e)
  rw [cut1_at n.1, hid_at n.2]
  exact hid_same _ _ e
theorem sqt_ne {xs ys : List V} {a : Addr} (h : SqT K G a xs) (e : G f = some (.lst ys)) : SqT K (cut1 f G) a xs := by
  rcases h with (h | ⟨o, h⟩) | h
  · exact .inl (.inl (by rw [cut1_at (ne_of h e (by intro z; cases z))]; exact h))
  · exact .inl (.inr ⟨o, by rw [cut1_at (ne_of h e (by intro z; cases z))]; exact h⟩)
  · exact .inr h
theorem pr_cut1 {B : Int} {x : V} {ys : List V} (h : PR K B x G) (e : G f = some (.lst ys)) : PR K B x (cut1 f G) := by
  obtain ⟨q, hd, r⟩ := h
  obtain ⟨a, rfl, g⟩ := dq_pair hd
  exact ⟨q, dq_pairT (sqt_ne g e), r⟩
end
end Lg
namespace Lg
open PySem PySem.Spec PyProof.Rows L2 Lm
theorem dqs_set {K : PySem.W.Frag} {G : Hp} {v : V} {d : PyData} : ∀ {xs : List V} {ds : List PyData} (j : Nat), Dqs K G xs ds → Dq K G v d → Dqs K G (xs.set j v) (ds.set j d)
  | _, _, _, .nil, _ => .nil
  | _, _, 0, .cons _ t, h => .cons h t
  | _, _, j + 1, .cons r t, h => .cons r (dqs_set j t h)
theorem LgOk.wide {n m : Nat} {B C : Int} {ps : List Stt} (h : LgOk n B ps) (h1 : n ≤ m) (h2 : B ≤ C) : LgOk m C ps := ⟨h.up, Nat.le_trans h.len h1, fun q hq => Int.le_trans (h.top q hq) h2⟩
theorem ixN_in {n : Nat} {i : Int} (h0 : 0 ≤ i) (h1 : i < n) : ixN n i = some i.toNat := by
  unfold ixN
  rw [if_pos h0, if_pos h1]
theorem atI_get {α : Type} {xs : List α} {i : Int} {v : α} (h0 : 0 ≤ i) (h : xs[i.toNat]? = some v) : atI xs i = some v := by
  have lt : i.toNat < xs.length := (List.getElem?_eq_some_iff.mp h).1
  unfold atI
  rw [ixN_in h0 (by omega)]
  exact h
end Lg
namespace Lg
open PySem PySem.Spec PyProof.Rows L2 Lm
theorem kp_none {S : Src} {Z H H8 : Hp} {p : Addr} (O : Occ (NZ S Z) H8) (k : Kp S Z H H8) (n : H8 p = none) : H p = none := by
  cases e : H p with
  | none => rfl
  | some o =>
    by_cases z : NZ S Z p
    · exact absurd n (O p z)
    · have h := k p o (by rw [show hid S Z H p = H p from cut_at z]; exact e)
      have := (cut_some h).2
      rw [n] at this
      cases this
end Lg

namespace Lg
open PySem PySem.Spec PyProof.Rows L2 Lm
/-- a log of at most n stretches, none of them empty, all of them up to B -/
def StOk (n : Nat) (B : Int) (ps : List Stt) : Prop := ps.length ≤ n ∧ ∀ q ∈ ps, 0 ≤ q.1 ∧ q.1 < q.2 ∧ q.2 ≤ B
def LgR (K : PySem.W.Frag) (n : Nat) (B : Int) : VR := fun v G => ∃ ps, Dq K G v (logD ps) ∧ StOk n B ps
theorem LgR.mo {K : PySem.W.Frag} {n : Nat} {B : Int} : Mo (LgR K n B) := fun v G G' s ⟨ps, h, r⟩ => ⟨ps, h.mono s, r⟩
theorem prs_dqs {K : PySem.W.Frag} {G : Hp} {B : Int} : ∀ {xs : List V}, (∀ x ∈ xs, PR K B x G) → ∃ ps : List Stt, Dqs K G xs (ps.map pD) ∧ ∀ q ∈ ps, 0 ≤ q.1 ∧ q.1 < q.2 ∧ q.2 ≤ B
  | [], _ => ⟨[], .nil, fun q h => nomatch h⟩
  | x :: r, h => by
    obtain ⟨q, hd, hq⟩ := h x List.mem_cons_self
    obtain ⟨ps, h1, h2⟩ := prs_dqs (xs := r) fun y hy => h y (List.mem_cons_of_mem _ hy)
    refine ⟨q :: ps, .cons hd h1, fun p hp => ?_⟩
    rcases List.mem_cons.mp hp with e | e
    · rw [e]; exact hq
    · exact h2 p e
theorem TpR.lg {K : PySem.W.Frag} {m n : Nat} {B : Int} {v : V} {G : Hp} (h : TpR K m n (PR K B) v G) : LgR K n B v G := by
  obtain ⟨a, xs, rfl, g, l1, l2, hx⟩ := h
  obtain ⟨ps, h1, h2⟩ := prs_dqs hx
  have := h1.len
  rw [List.length_map] at this
  exact ⟨ps, .tup g h1, by omega, h2⟩
theorem LgOk.st {n : Nat} {B : Int} {ps : List Stt} (h : LgOk n B ps) : StOk n B ps := ⟨h.len, h.all⟩
theorem StOk.wide {n m : Nat} {B C : Int} {ps : List Stt} (h : StOk n B ps) (h1 : n ≤ m) (h2 : B ≤ C) : StOk m C ps := ⟨Nat.le_trans h.1 h1, fun q hq => by have := h.2 q hq; omega⟩
theorem log_sm {ps : List Stt} {n : Nat} {B : Int} (h : StOk n B ps) (hB : B ≤ 10000000000) : Sm (n * 35 + 3) 2 (logD ps) :=
  Sm.tuple (n := 33) (k := 1) (fun d hd => by
    obtain ⟨q, hq, rfl⟩ := List.mem_map.mp hd
    have := h.2 q hq
    exact pD_sm (by omega) (by omega)) (by rw [List.length_map]; exact h.1)
theorem kind_sm (h : Bool) : Sm 13 0 (.str (kindS h)) := by cases h <;> exact sm_chk (by decide +kernel)
theorem lamp_sm {l : Lamp} (h0 : 0 ≤ l.2) (h1 : l.2 ≤ 10000000000) : Sm 33 1 (lampD l) :=
  Sm.tuple (c := 2) (n := 13) (k := 0) (ds := [.str (kindS l.1), .int l.2]) (fun d hd => by
    rcases List.mem_cons.mp hd with e | e
    · rw [e]; exact kind_sm _
    · rw [List.mem_singleton.mp e]; exact Sm.int (by omega)) (Nat.le_refl 2)
theorem two_sm' {d e : PyData} {n k : Nat} (h1 : Sm n k d) (h2 : Sm n k e) : Sm (2 * (n + 2) + 3) (k + 1) (.list [d, e]) :=
  Sm.list (c := 2) (ds := [d, e]) (fun x hx => by
    rcases List.mem_cons.mp hx with z | z
    · rw [z]; exact h1
    · rw [List.mem_singleton.mp z]; exact h2) (Nat.le_refl 2)
theorem ints_sm {xs : List Int} {n : Nat} (hl : xs.length ≤ n) (h : ∀ x ∈ xs, x.natAbs < 10 ^ 12) : Sm (n * 15 + 3) 1 (.tuple (xs.map .int)) :=
  Sm.tuple (n := 13) (k := 0) (fun d hd => by
    obtain ⟨x, hx, rfl⟩ := List.mem_map.mp hd
    exact Sm.int (h x hx)) (by rw [List.length_map]; exact hl)
section
variable {K : PySem.W.Frag} {S : Src} {Z : Hp} {H0 : Hp} {σ : L2.St} {te ta tb : TE} {tl : TA} {n n1 n2 : Nat} {a b lo hi : Int} {R : VR}
theorem ev_prR {B : Int} (h0 : 0 ≤ a) (h1 : a < lo) (h2 : hi ≤ B) (e1 : Ev S Z n1 H0 σ ta (EI a)) (e2 : Ev S Z n2 H0 σ tb (IR lo hi)) : Ev S Z (n1 + (n2 + 0)) H0 σ (tTup (tCons ta (tCons tb tNil))) (PR K B) :=
  fun H bb Q P k q => (eva_pair EI_mo IR.mo e1 e2) H bb _ P k fun vs H1 P1 k1 ⟨v, w, e, e1, ⟨b, e2, b0, b1⟩⟩ => by
    subst e; cases e1; cases e2
    refine ⟨sz2, fun t nt => ?_⟩
    obtain ⟨P2, k2, g2⟩ := laid (o := .tup [.int a, .int b]) P1 nt
    exact q _ _ P2 (k1.trans k2) ⟨(a, b), dq_pairT (.inl (.inl g2)), h0, by show a < b; omega, by show b ≤ B; omega⟩
theorem ev_modC {m : Int} (hm : 0 < m) (h : Ev S Z n H0 σ te (IR lo hi)) : Ev S Z n H0 σ (tOp (rI (fun _ j => j ≠ 0) fun i j => .int (i.fmod j)) te (tC (.int m))) (IR 0 (m - 1)) :=
  fun H b Q P k q => h H b _ P k fun v H1 P1 k1 ⟨i, e, _⟩ => ⟨i, m, e, rfl, by omega, q _ _ P1 k1 ⟨_, rfl, (fmodB hm).1, by have := (fmodB (a := i) hm).2; omega⟩⟩
/-- lamps[0][1] -/
theorem ei_stay0 {x : V} {i : Nat} {l : Lamp} {r : List Lamp} (e : σ[i]? = some (some x)) (h : Dq K (hid S Z H0) x (lampsD (l :: r))) : Ev S Z 0 H0 σ (tOp (rIxT K) (tOp (rIxT K) (tVar i) (tC (.int 0))) (tC (.int 1))) (EI l.2) :=
  fun H b Q P k q => by
    obtain ⟨a, xs, rfl, g, hd⟩ := dq_tup (h.mono k)
    obtain ⟨v, t, rfl, h1, h2⟩ := dqs_cons hd
    obtain ⟨al, rfl, gl⟩ := dq_lamp h1
    exact ⟨_, e, a, _, 0, .ref al, rfl, rfl, Same.seqT hid_same g, atI_nat (j := 0) rfl, al, _, 1, .int l.2, rfl, rfl, Same.seqT hid_same gl, atI_nat (j := 1) rfl, q _ _ (P.less (by omega)) Kp.refl rfl⟩
/-- lamp[1] -/
theorem ei_stay {x : V} {i : Nat} {l : Lamp} (e : σ[i]? = some (some x)) (h : Dq K (hid S Z H0) x (lampD l)) : Ev S Z 0 H0 σ (tOp (rIxT K) (tVar i) (tC (.int 1))) (EI l.2) :=
  fun H b Q P k q => by
    obtain ⟨al, rfl, gl⟩ := dq_lamp (h.mono k)
    exact ⟨_, e, al, _, 1, .int l.2, rfl, rfl, Same.seqT hid_same gl, atI_nat (j := 1) rfl, q _ _ (P.less (by omega)) Kp.refl rfl⟩
theorem ev_lg {m : Nat} {B : Int} (hn : n1 ≤ 1000) (h : EvA S Z n H0 σ tl (AllR m n1 (PR K B))) : Ev S Z n H0 σ (tTup tl) (LgR K n1 B) := (ev_tupR hn PR.mo h).imp fun v G r => TpR.lg r
end
theorem ne_self {z : Str} : V.bl (!decide (V.str z = V.str z)) = V.bl false := by rw [decide_eq_true rfl]; rfl
theorem dqs_lg {K : PySem.W.Frag} {G : Hp} {n : Nat} {B : Int} : ∀ {xs : List V} {gs : List (List Stt)}, Dqs K G xs (gs.map logD) → (∀ g ∈ gs, LgOk n B g) → ∀ x ∈ xs, LgR K n B x G
  | _, [], h, _, x, hx => by rw [dqs_nil h] at hx; cases hx
  | _, q :: r, h, hb, x, hx => by
    obtain ⟨v, t, rfl, h1, h2⟩ := dqs_cons h
    rcases List.mem_cons.mp hx with e | e
    · rw [e]; exact ⟨q, h1, (hb q List.mem_cons_self).st⟩
    · exact dqs_lg h2 (fun p hp => hb p (List.mem_cons_of_mem _ hp)) x e
end Lg

namespace Lg
open PySem PySem.Spec PyProof.Rows L2 Lm
/-! ### an error class of one field, over other such classes over ValueError -/
structure IsC (K : PySem.W.Frag) (C : Addr) : Prop where
  ha : PySem.W.findIn K (.ref C) "__class__" = some (some (.builtin "object.__class__"))
  hn : PySem.W.specialIn K (.builtin "object.__class__") "__get__" = some (some (.builtin "getset_descriptor.__get__"))
  ht : PySem.W.takesIn K (.builtin "object.__class__") = some true
  hm : PySem.W.mroIn K C (.type "object") = some true
structure ExC (K : PySem.W.Frag) (mg : Str → Option Value) (X q f : Str) (C fI : Addr) (fd : FuncData) (st : Stmt) : Prop where
  g : mg X = some (.ref C)
  ox : OexC K C
  iC : PySem.W.findIn K (.ref C) "__init__" = some (some (.ref fI))
  tI : PySem.W.typeIn K (.ref fI) = some (.type "function")
  no : PySem.W.findIn K (.ref C) f = some none
  xf : XfC K C
  is : IsC K C
  F : Fun K "__init__" q st fI fd
  b : Binds K fd ["self", f] []
def sp_init (K : PySem.W.Frag) (f : Str) : Sp := fun vs H Q _ => ∃ (a C : Addr) (v : V), vs = [.ref a, v] ∧ OexC K C ∧ PySem.W.findIn K (.ref C) f = some none ∧ H a = some (exo a C none) ∧
  ∀ dx, H dx = none → dx ≠ a → Q .non (upd (upd H dx (exd dx [(f, v)])) a (exo a C (some dx)))
section
variable {P : Program} {w : World} {K : PySem.W.Frag} {mg : Str → Option Value} {base : Heap}
theorem mkO_run {C : Addr} {f : Str} {v : V} {H1 : Hp} {Q : XK} (ox : OexC K C) (no : PySem.W.findIn K (.ref C) f = some none) (h : ∀ (d : Addr) (H' : Hp), Same H1 H' → H1 d = none → H' d = some (.xd [(f, v)]) → Q (.ref C) (some d) H') :
    ([v] : List V).length ≤ 1000 ∧ ∀ a, H1 a = none → sp_init K f [.ref a, v] (upd H1 a (exo a C none)) (fun r H2 => r = .non ∧ ∃ (d : Addr) (fs : List (Str × V)), H2 a = some (exo a C (some d)) ∧ H2 d = some (exd d fs) ∧ H1 d = none ∧ Q (.ref C) (some d) (upd (del H2 a) d (.xd fs))) (fun _ _ _ => False) := by
  refine ⟨by show 1 ≤ 1000; decide, fun a na => ⟨a, C, v, rfl, ox, no, upd_same, fun dx nd ne => ⟨rfl, dx, [(f, v)], upd_same, ?_, ?_, ?_⟩⟩⟩
  · rw [upd_ne ne, upd_same]
  · rw [upd_ne ne] at nd; exact nd
  · rw [upd_ne ne] at nd
    refine h dx _ (fun b o e => ?_) nd upd_same
    have ba : b ≠ a := ne_of_none e na
    have bd : b ≠ dx := ne_of_none e nd
    rw [upd_ne bd, del_ne ba, upd_ne ba, upd_ne bd, upd_ne ba]
    exact e
/-- isinstance of the error that the suite holds -/
def rIsX (K : PySem.W.Frag) (a : Addr) (cls : Value) (d : Option Addr) : List V → Hp → VK → Prop := fun xs H Q => ∃ (D : Addr) (c : V) (dd : Addr) (fs : List (Str × V)) (b : Bool), xs = [.ref a, c] ∧ cls = .ref D ∧ d = some dd ∧ H dd = some (.xd fs) ∧ XfC K D ∧ IsC K D ∧
  ((∃ cv : Value, (∀ u, L2.RelV c u → u = cv) ∧ PySem.W.kitOne K (.ref D) cv = some b) ∨ (∃ (tp : Addr) (as : List Addr), c = .ref tp ∧ H tp = some (.tup (as.map V.ref)) ∧ PySem.W.kitAny K (.ref D) (as.map Value.ref) = some b)) ∧ Q (.bl b) H
theorem vals_refs : ∀ {as : List Addr} {us : List Value}, Vals (as.map V.ref) us → us = as.map Value.ref
  | [], _, .nil => rfl
  | a :: r, _, .cons h t => by
    obtain rfl := (show _ = Value.ref a from h)
    rw [vals_refs t]
    rfl
theorem call_isX {X : Cx} {a : Addr} {oe : Obj} {cls : Value} {d : Option Addr} {pn : List (Addr × Obj)} (hz : Zc cls d oe) (hf : ∃ vs, oe.data = .fields vs) : CallR (X.suite a ((a, oe) :: pn)) (.builtin "isinstance") (rIsX X.K a cls d) := by
  intro pins s σ H xs us Q I r h
  obtain ⟨D, c, dd, fs, b, rfl, rfl, rfl, ed, XF, IC, e, q⟩ := h
  obtain ⟨u1, u2, rfl, r1, r2⟩ := vals2 r
  cases (show u1 = Value.ref a from r1)
  obtain ⟨hget, _⟩ := I.pin (a, oe) (List.mem_append.mpr (.inl List.mem_cons_self))
  obtain ⟨vs, hv⟩ := hf
  obtain ⟨mA, hns, hr⟩ := (show ObjOk X.prog X.w H s.heap dd (.xd fs) from I.hok dd _ ed)
  obtain ⟨od, ho, hl⟩ := lookIn_ns hns
  have J : PySem.W.InstAt s.heap a oe D (some od) := ⟨hget, hz.1, by unfold PySem.W.notCls; rw [hv] <;> rfl, by rw [hz.2]; exact ho⟩
  have hcl : (PySem.W.clsIn X.K D).isSome = true := by
    obtain ⟨cd, hc, _⟩ := PySem.W.any_some XF.hdC
    rw [hc]; rfl
  have Z := PySem.W.kitx_exc (x := a) (od := some od) (ox := oe) hcl XF.ga XF.gg XF.exC IC.ha IC.hn IC.ht IC.hm
  rcases e with ⟨cv, hcv, e⟩ | ⟨tp, as, rfl, hT, e⟩
  · have ec := hcv _ r2
    subst ec
    exact PySem.W.kia_one Z I.kIn J e (fun z => nomatch z) fun tk => ⟨.bl b, H, I.kept (t' := tk) fun _ _ z => z, rfl, q⟩
  · cases (show u2 = Value.ref tp from r2)
    obtain ⟨_, its, rv, o, h1, h2, n, h3⟩ := (show ObjOk X.prog X.w H s.heap tp (.tup (as.map V.ref)) from I.hok tp _ hT)
    have e3 := vals_refs rv
    subst e3
    obtain ⟨oc, odd, dt, sl⟩ := o
    simp only at h2 h3
    subst h2 h3
    exact PySem.W.kia_tup Z I.kIn J h1 e (fun z => nomatch z) fun tk => ⟨.bl b, H, I.kept (t' := tk) fun _ _ z => z, rfl, q⟩
end
end Lg

namespace Lg
open PySem PySem.Spec PyProof.Rows L2 Lm
/-! ### runs, and the logs that the text makes of them -/
abbrev Run := Int × Int × Int
def lastM (r : Run) : Int := r.1 + r.2.1 * (r.2.2 - 1)
def ap (f st : Int) (n : Nat) : List Int := (List.range n).map fun (k : Nat) => f + st * (k : Int)
def pcs (s f st : Int) (n : Nat) : List Stt := (List.range n).map fun (k : Nat) => (f + st * (k : Int), f + st * (k : Int) + s)
def spreadAll (rs : List Run) : List Int := rs.flatMap fun r => ap r.1 r.2.1 r.2.2.toNat
def joinS : List Stt → Stt → List Stt
  | [], p => [p]
  | q :: r, p => if p.1 ≤ q.2 then (q.1, if p.2 > q.2 then p.2 else q.2) :: r else p :: q :: r
def joinedF (ps : List Stt) : List Stt := (ps.foldl joinS []).reverse
def litP (s : Int) (r : Run) : List Stt := if r.2.1 ≤ s then [(r.1, lastM r + s)] else pcs s r.1 r.2.1 (if 61 < r.2.2 then 61 else r.2.2).toNat
def rup (n by_ : Int) : Int := (n + by_ - 1).fdiv by_
def lightR (s off : Int) (r : Run) : Run :=
  let u := rup (if off - r.1 > 0 then off - r.1 else 0) r.2.1
  let a := rup s r.2.1
  (r.1 + r.2.1 * u, r.2.1 * a, rup (r.2.2 - u) a)
def lightU (off : Int) (r : Run) : Int := rup (if off - r.1 > 0 then off - r.1 else 0) r.2.1
def lightS (s : Int) (x : List Run × Int) (r : Run) : List Run × Int := if lightU x.2 r < r.2.2 then (x.1 ++ [lightR s x.2 r], lastM (lightR s x.2 r) + s) else x
def lightsF (s : Int) (rs : List Run) : List Run := (rs.foldl (lightS s) ([], 0)).1
def logOf (l : Lamp) (rs : List Run) : List Stt := joinedF ((if l.1 then rs else lightsF l.2 rs).flatMap (litP l.2))
def RunsUp : Int → List Run → Prop
  | _, [] => True
  | b, r :: rs => b < r.1 ∧ 1 ≤ r.2.1 ∧ 1 ≤ r.2.2 ∧ RunsUp (lastM r) rs
/-- the end of the last stretch (of a list in reverse) is at most B -/
def HeadB (acc : List Stt) (B : Int) : Prop := ∀ q, acc.head? = some q → q.2 ≤ B
def offOf : List Stt → Int
  | [] => 0
  | q :: _ => q.2
theorem ap_succ (f st : Int) (n : Nat) : ap f st (n + 1) = ap f st n ++ [f + st * (n : Int)] := by unfold ap; rw [List.range_succ, List.map_append]; rfl
theorem pcs_succ (s f st : Int) (n : Nat) : pcs s f st (n + 1) = pcs s f st n ++ [(f + st * (n : Int), f + st * (n : Int) + s)] := by unfold pcs; rw [List.range_succ, List.map_append]; rfl
theorem ap_mono {st : Int} (h : 1 ≤ st) (n : Nat) : st * ((n + 1 : Nat) : Int) = st * (n : Int) + st := by
  rw [show ((n + 1 : Nat) : Int) = (n : Int) + 1 by omega, Int.mul_add, Int.mul_one]
theorem mul_nn {st : Int} (h : 1 ≤ st) (n : Nat) : 0 ≤ st * (n : Int) := Int.mul_nonneg (by omega) (by omega)
theorem joinS_len (acc : List Stt) (p : Stt) : acc.length ≤ (joinS acc p).length ∧ 1 ≤ (joinS acc p).length := by
  cases acc with
  | nil => simp [joinS]
  | cons q r => simp only [joinS]; split <;> simp
theorem joinS_fold_len : ∀ (ps : List Stt) (acc : List Stt), acc.length ≤ (ps.foldl joinS acc).length
  | [], _ => Nat.le_refl _
  | p :: r, acc => Nat.le_trans (joinS_len acc p).1 (joinS_fold_len r _)
theorem stepL_len2 (h : Bool) (s : Int) (acc : List Stt) (m : Int) : acc.length ≤ (stepL h s acc m).length := by
  cases acc with
  | nil => simp
  | cons q r => simp only [stepL]; split <;> (try split) <;> simp
theorem stepL_fold_len (h : Bool) (s : Int) : ∀ (ms : List Int) (acc : List Stt), acc.length ≤ (ms.foldl (stepL h s) acc).length
  | [], _ => Nat.le_refl _
  | m :: r, acc => Nat.le_trans (stepL_len2 h s acc m) (stepL_fold_len h s r _)
theorem stepJ {s m : Int} {acc : List Stt} (hb : HeadB acc (m + s)) : stepL true s acc m = joinS acc (m, m + s) := by
  cases acc with
  | nil => rfl
  | cons q r =>
    have h := hb q rfl
    simp only [stepL, joinS, Bool.true_or, if_true]
    by_cases g : q.2 < m
    · rw [if_pos g, if_neg (by omega)]
    · rw [if_neg g, if_pos (by omega)]
      congr 1
      by_cases g2 : m + s > q.2
      · rw [if_pos g2]
      · rw [if_neg g2, show q.2 = m + s by omega]
theorem joinS_head {m t : Int} {acc : List Stt} (hb : HeadB acc t) : ∃ r q, joinS acc (m, t) = q :: r ∧ q.2 = t := by
  cases acc with
  | nil => exact ⟨[], _, rfl, rfl⟩
  | cons q r =>
    have h := hb q rfl
    simp only [joinS]
    by_cases g : m ≤ q.2
    · rw [if_pos g]
      refine ⟨r, _, rfl, ?_⟩
      show (if t > q.2 then t else q.2) = t
      split <;> omega
    · rw [if_neg g]; exact ⟨q :: r, _, rfl, rfl⟩
theorem headB_join {m t : Int} {acc : List Stt} (hb : HeadB acc t) : HeadB (joinS acc (m, t)) t ∧ offOf (joinS acc (m, t)) = t := by
  obtain ⟨r, q, e, h⟩ := joinS_head (m := m) hb
  rw [e]
  exact ⟨fun x hx => by cases hx; omega, h⟩
/-- a hold lamp sees a run -/
theorem runH {s f st : Int} {acc : List Stt} (hs : 1 ≤ s) (hst : 1 ≤ st) (hb : HeadB acc (f + s)) : ∀ n : Nat, (ap f st n).foldl (stepL true s) acc = (pcs s f st n).foldl joinS acc ∧ HeadB ((pcs s f st n).foldl joinS acc) (f + st * (n : Int) + s)
  | 0 => ⟨rfl, fun q hq => by have := hb q hq; have := mul_nn hst 0; omega⟩
  | n + 1 => by
    obtain ⟨i1, i2⟩ := runH hs hst hb n
    rw [ap_succ, pcs_succ, List.foldl_append, List.foldl_append, i1]
    have e := stepJ i2
    refine ⟨e, fun q hq => ?_⟩
    have := (headB_join i2).1 q hq
    rw [ap_mono hst]
    omega
/-- pieces that touch are one -/
theorem touch {s f st : Int} {acc : List Stt} (hs : 1 ≤ s) (hst : 1 ≤ st) (hle : st ≤ s) (hb : HeadB acc (f + s)) : ∀ n : Nat, (pcs s f st (n + 1)).foldl joinS acc = joinS acc (f, f + st * (n : Int) + s)
  | 0 => by
    show joinS acc (f + st * ((0 : Nat) : Int), f + st * ((0 : Nat) : Int) + s) = _
    simp
  | n + 1 => by
    rw [pcs_succ, List.foldl_append, touch hs hst hle hb n]
    show joinS (joinS acc (f, f + st * (n : Int) + s)) _ = _
    have z := mul_nn hst n
    have e := ap_mono hst n
    cases acc with
    | nil =>
      simp only [joinS]
      rw [if_pos (by show f + st * ((n + 1 : Nat) : Int) ≤ f + st * (n : Int) + s; omega), if_pos (by show f + st * ((n + 1 : Nat) : Int) + s > f + st * (n : Int) + s; omega)]
    | cons q r =>
      have h := hb q rfl
      simp only [joinS]
      by_cases g : f ≤ q.2
      · rw [if_pos g, if_pos g]
        simp only []
        rw [if_pos (by split <;> omega)]
        congr 1
        congr 1
        repeat (first | omega | split)
      · rw [if_neg g, if_neg g]
        simp only []
        rw [if_pos (by omega), if_pos (by omega)]
/-- pieces that stay apart -/
theorem apart_len {s f st : Int} (hs : 1 ≤ s) (hlt : s < st) : ∀ (n : Nat) (acc : List Stt), HeadB acc (f + s) → acc.length + n ≤ ((pcs s f st (n + 1)).foldl joinS acc).length ∧ (acc = [] → n + 1 ≤ ((pcs s f st (n + 1)).foldl joinS acc).length) ∧ offOf ((pcs s f st (n + 1)).foldl joinS acc) = f + st * (n : Int) + s ∧ ((pcs s f st (n + 1)).foldl joinS acc) ≠ []
  | 0, acc, hb => by
    have e : pcs s f st 1 = [(f + st * ((0 : Nat) : Int), f + st * ((0 : Nat) : Int) + s)] := rfl
    have z : f + st * ((0 : Nat) : Int) = f := by simp
    rw [e, z]
    show acc.length + 0 ≤ (joinS acc (f, f + s)).length ∧ (acc = [] → 0 + 1 ≤ (joinS acc (f, f + s)).length) ∧ offOf (joinS acc (f, f + s)) = f + s ∧ joinS acc (f, f + s) ≠ []
    refine ⟨(joinS_len _ _).1, fun _ => (joinS_len _ _).2, (headB_join hb).2, fun e => ?_⟩
    have := (joinS_len acc (f, f + s)).2
    rw [e] at this
    simp at this
  | n + 1, acc, hb => by
    obtain ⟨i1, i2, i3, i4⟩ := apart_len (f := f) hs hlt n acc hb
    rw [pcs_succ, List.foldl_append]
    generalize (pcs s f st (n + 1)).foldl joinS acc = A at i1 i2 i3 i4
    have e := ap_mono (st := st) (by omega) n
    cases A with
    | nil => exact absurd rfl i4
    | cons q r =>
      have hq : q.2 = f + st * (n : Int) + s := i3
      have j : ([(f + st * ((n + 1 : Nat) : Int), f + st * ((n + 1 : Nat) : Int) + s)] : List Stt).foldl joinS (q :: r) = (f + st * ((n + 1 : Nat) : Int), f + st * ((n + 1 : Nat) : Int) + s) :: q :: r := by
        show joinS (q :: r) _ = _
        simp only [joinS]
        rw [if_neg (by show ¬ f + st * ((n + 1 : Nat) : Int) ≤ q.2; omega)]
      rw [j]
      simp only [List.length_cons] at i1 i2 ⊢
      exact ⟨by omega, fun z => by have := i2 z; omega, rfl, by simp⟩
/-- what the text makes of a run, against its pieces -/
theorem litP_rel {s f st c : Int} {acc : List Stt} (hs : 1 ≤ s) (hst : 1 ≤ st) (hc : 1 ≤ c) (hb : HeadB acc (f + s)) :
    (litP s (f, st, c)).foldl joinS acc = (pcs s f st c.toNat).foldl joinS acc ∨ (60 < ((litP s (f, st, c)).foldl joinS acc).length ∧ 60 < ((pcs s f st c.toNat).foldl joinS acc).length) := by
  unfold litP
  by_cases h : st ≤ s
  · left
    rw [if_pos h]
    obtain ⟨n, hn⟩ : ∃ n : Nat, c.toNat = n + 1 := ⟨c.toNat - 1, by omega⟩
    rw [hn, touch hs hst h hb n]
    show joinS acc _ = _
    unfold lastM
    rw [show (f, st, c).2.2 - 1 = (n : Int) by show c - 1 = _; omega]
  · rw [if_neg h]
    by_cases h2 : 61 < c
    · right
      rw [show (if (61 : Int) < (f, st, c).2.2 then (61 : Int) else (f, st, c).2.2) = 61 from if_pos h2]
      have k : ∀ n : Nat, 60 ≤ n → 60 < ((pcs s f st (n + 1)).foldl joinS acc).length := fun n hn => by
        obtain ⟨i1, i2, _⟩ := apart_len (f := f) hs (by omega : s < st) n acc hb
        cases acc with
        | nil => have := i2 rfl; omega
        | cons q r => simp only [List.length_cons] at i1; omega
      refine ⟨k 60 (by omega), ?_⟩
      obtain ⟨n, hn⟩ : ∃ n : Nat, c.toNat = n + 1 := ⟨c.toNat - 1, by omega⟩
      rw [hn]
      exact k n (by omega)
    · left
      rw [show (if (61 : Int) < (f, st, c).2.2 then (61 : Int) else (f, st, c).2.2) = c from if_neg h2]
theorem rup_spec {n b : Int} (hn : 0 ≤ n) (hb : 1 ≤ b) : 0 ≤ rup n b ∧ n ≤ b * rup n b ∧ b * rup n b < n + b := by
  unfold rup
  rw [Int.fdiv_eq_ediv_of_nonneg _ (by omega)]
  have h1 : b * ((n + b - 1) / b) ≤ n + b - 1 := Int.mul_ediv_self_le (by omega)
  have h2 : n + b - 1 < ((n + b - 1) / b + 1) * b := Int.lt_ediv_add_one_mul_self _ (by omega)
  have h3 : 0 ≤ (n + b - 1) / b := Int.ediv_nonneg (by omega) (by omega)
  rw [Int.add_mul, Int.one_mul, Int.mul_comm] at h2
  generalize (n + b - 1) / b = q at h1 h2 h3
  omega
theorem stepP1 {s m : Int} {acc : List Stt} (hs : 1 ≤ s) (h : offOf acc ≤ m) : stepL false s acc m = joinS acc (m, m + s) := by
  cases acc with
  | nil => rfl
  | cons q r =>
    have h : q.2 ≤ m := h
    simp only [stepL, joinS, Bool.false_or]
    by_cases g : q.2 < m
    · rw [if_pos g, if_neg (by omega)]
    · have e : m = q.2 := by omega
      rw [if_neg g, if_pos (decide_eq_true e), if_pos (by omega), if_pos (by omega)]
theorem stepP0 {s m : Int} {acc : List Stt} (h0 : 0 ≤ m) (h : m < offOf acc) : stepL false s acc m = acc := by
  cases acc with
  | nil => have h : m < 0 := h; omega
  | cons q r =>
    have h : m < q.2 := h
    simp only [stepL, Bool.false_or]
    rw [if_neg (by omega), if_neg (by rw [decide_eq_false (show ¬ m = q.2 by omega)]; exact fun z => nomatch z)]
theorem offFold {s f st : Int} {acc : List Stt} (hs : 1 ≤ s) (hst : 1 ≤ st) (hb : HeadB acc (f + s)) (n : Nat) : offOf ((pcs s f st (n + 1)).foldl joinS acc) = f + st * (n : Int) + s := by
  rw [pcs_succ, List.foldl_append]
  exact (headB_join (runH hs hst hb n).2).2
theorem headB_off {acc : List Stt} {B : Int} (h : offOf acc ≤ B) : HeadB acc B := fun q hq => by
  cases acc with
  | nil => cases hq
  | cons x r => cases hq; exact h
/-- a pulse lamp sees a run -/
theorem runP {s f st : Int} {u a : Nat} {acc : List Stt} (hs : 1 ≤ s) (hst : 1 ≤ st) (h0 : 0 ≤ f) (hu0 : ∀ k : Nat, k < u → f + st * (k : Int) < offOf acc) (hu1 : offOf acc ≤ f + st * (u : Int)) (ha : 1 ≤ a) (ha0 : st * ((a : Int) - 1) < s) (ha1 : s ≤ st * (a : Int)) :
    ∀ n c : Nat, (n ≤ u → c = 0) → (u ≤ n → n - u ≤ a * c ∧ a * c < n - u + a) → (ap f st n).foldl (stepL false s) acc = (pcs s (f + st * (u : Int)) (st * (a : Int)) c).foldl joinS acc
  | 0, c, h1, _ => by rw [h1 (Nat.zero_le _)]; rfl
  | n + 1, c, h1, h2 => by
    rw [ap_succ, List.foldl_append]
    have hm : 0 ≤ f + st * (n : Int) := by have := mul_nn hst n; omega
    have hst2 : 1 ≤ st * (a : Int) := by omega
    by_cases g : n + 1 ≤ u
    · rw [runP hs hst h0 hu0 hu1 ha ha0 ha1 n 0 (fun _ => rfl) (fun z => absurd z (by omega)), h1 g]
      exact stepP0 hm (hu0 n (by omega))
    · have hb : HeadB acc (f + st * (u : Int) + s) := headB_off (by omega)
      obtain ⟨k1, k2⟩ := h2 (by omega)
      obtain ⟨c0, rfl⟩ : ∃ c0, c = c0 + 1 := ⟨c - 1, by cases c with | zero => simp at k1; omega | succ c => omega⟩
      obtain ⟨d, rfl⟩ : ∃ d, n = u + d := ⟨n - u, by omega⟩
      rw [Nat.mul_succ] at k1 k2
      have em : st * ((u + d : Nat) : Int) = st * (u : Int) + st * (d : Int) := by rw [show ((u + d : Nat) : Int) = (u : Int) + d by omega, Int.mul_add]
      by_cases e : a * c0 = d
      · rw [runP hs hst h0 hu0 hu1 ha ha0 ha1 (u + d) c0 (fun z => by
          have : d = 0 := by omega
          subst this
          cases c0 with
          | zero => rfl
          | succ c => rw [Nat.mul_succ] at e; omega) (fun _ => by omega)]
        have ed : st * (d : Int) = st * (a : Int) * (c0 : Int) := by rw [← e, Int.natCast_mul, Int.mul_assoc]
        have hoff : offOf ((pcs s (f + st * (u : Int)) (st * (a : Int)) c0).foldl joinS acc) ≤ f + st * ((u + d : Nat) : Int) := by
          cases c0 with
          | zero => show offOf acc ≤ _; rw [em, ed]; simp; omega
          | succ c1 =>
            rw [offFold hs hst2 hb c1, em, ed, ap_mono hst2]
            omega
        show stepL false s _ (f + st * ((u + d : Nat) : Int)) = _
        rw [stepP1 hs hoff, pcs_succ, List.foldl_append, em, ed]
        show joinS _ _ = joinS _ _
        rw [← Int.add_assoc]
      · rw [runP hs hst h0 hu0 hu1 ha ha0 ha1 (u + d) (c0 + 1) (fun z => by
          have : d = 0 := by omega
          subst this
          cases c0 with
          | zero => exact absurd rfl e
          | succ c => rw [Nat.mul_succ] at k2; omega) (fun _ => by rw [Nat.mul_succ]; omega)]
        refine stepP0 hm ?_
        rw [offFold hs hst2 hb c0, em]
        have l1 : d ≤ a * c0 + (a - 1) := by omega
        have l2 : st * (d : Int) ≤ st * ((a * c0 + (a - 1) : Nat) : Int) := Int.mul_le_mul_of_nonneg_left (by omega) (by omega)
        have l3 : st * ((a * c0 + (a - 1) : Nat) : Int) = st * (a : Int) * (c0 : Int) + st * ((a : Int) - 1) := by
          rw [show ((a * c0 + (a - 1) : Nat) : Int) = (a : Int) * c0 + ((a : Int) - 1) by rw [Int.natCast_add, Int.natCast_mul]; omega, Int.mul_add, Int.mul_assoc]
        omega
/-- what the text tells of a run that lights a pulse lamp -/
theorem light_run {s : Int} {r : Run} {acc : List Stt} (hs : 1 ≤ s) (h0 : 0 ≤ r.1) (hst : 1 ≤ r.2.1) (hc : 1 ≤ r.2.2) :
    (lightU (offOf acc) r < r.2.2 → (ap r.1 r.2.1 r.2.2.toNat).foldl (stepL false s) acc = (pcs s (lightR s (offOf acc) r).1 (lightR s (offOf acc) r).2.1 (lightR s (offOf acc) r).2.2.toNat).foldl joinS acc ∧ 0 ≤ (lightR s (offOf acc) r).1 ∧ 1 ≤ (lightR s (offOf acc) r).2.1 ∧ 1 ≤ (lightR s (offOf acc) r).2.2 ∧
      HeadB acc ((lightR s (offOf acc) r).1 + s) ∧ offOf ((pcs s (lightR s (offOf acc) r).1 (lightR s (offOf acc) r).2.1 (lightR s (offOf acc) r).2.2.toNat).foldl joinS acc) = lastM (lightR s (offOf acc) r) + s) ∧
    (¬ lightU (offOf acc) r < r.2.2 → (ap r.1 r.2.1 r.2.2.toNat).foldl (stepL false s) acc = acc) := by
  obtain ⟨f, st, c⟩ := r
  have h0 : 0 ≤ f := h0
  have hst : 1 ≤ st := hst
  have hc : 1 ≤ c := hc
  have gn : 0 ≤ (if offOf acc - f > 0 then offOf acc - f else 0) := by split <;> omega
  obtain ⟨u0, u1, u2⟩ := rup_spec gn hst
  obtain ⟨a0, a1, a2⟩ := rup_spec (n := s) (by omega) hst
  have hU : lightU (offOf acc) (f, st, c) = rup (if offOf acc - f > 0 then offOf acc - f else 0) st := rfl
  have hR : lightR s (offOf acc) (f, st, c) = (f + st * rup (if offOf acc - f > 0 then offOf acc - f else 0) st, st * rup s st, rup (c - rup (if offOf acc - f > 0 then offOf acc - f else 0) st) (rup s st)) := rfl
  rw [hU, hR]
  obtain ⟨u, hu⟩ : ∃ u : Nat, rup (if offOf acc - f > 0 then offOf acc - f else 0) st = (u : Int) := ⟨_, (Int.toNat_of_nonneg u0).symm⟩
  obtain ⟨a, ha⟩ : ∃ a : Nat, rup s st = (a : Int) := ⟨_, (Int.toNat_of_nonneg a0).symm⟩
  rw [hu] at u1 u2 ⊢
  rw [ha] at a1 a2 ⊢
  have a1' : 1 ≤ a := by
    cases a with
    | zero => simp at a1; omega
    | succ a => omega
  have pu0 : ∀ k : Nat, k < u → f + st * (k : Int) < offOf acc := fun k hk => by
    have l : st * ((k + 1 : Nat) : Int) ≤ st * (u : Int) := Int.mul_le_mul_of_nonneg_left (by omega) (by omega)
    rw [ap_mono hst] at l
    have := mul_nn hst k
    split at u2 <;> omega
  have pu1 : offOf acc ≤ f + st * (u : Int) := by
    split at u1 <;> omega
  have pa0 : st * ((a : Int) - 1) < s := by rw [Int.mul_sub, Int.mul_one]; omega
  have P := runP (u := u) (a := a) (acc := acc) hs hst h0 pu0 pu1 a1' pa0 a1 c.toNat
  constructor
  · intro g
    have g : (u : Int) < c := g
    obtain ⟨c0, c1, c2⟩ := rup_spec (n := c - (u : Int)) (b := (a : Int)) (by omega) (by omega)
    show _ = (pcs s _ _ (rup (c - (u : Int)) (a : Int)).toNat).foldl joinS acc ∧ _
    show (ap f st c.toNat).foldl (stepL false s) acc = (pcs s (f + st * (u : Int)) (st * (a : Int)) (rup (c - (u : Int)) (a : Int)).toNat).foldl joinS acc ∧ 0 ≤ f + st * (u : Int) ∧ 1 ≤ st * (a : Int) ∧ 1 ≤ rup (c - (u : Int)) (a : Int) ∧ HeadB acc (f + st * (u : Int) + s) ∧
      offOf ((pcs s (f + st * (u : Int)) (st * (a : Int)) (rup (c - (u : Int)) (a : Int)).toNat).foldl joinS acc) = f + st * (u : Int) + st * (a : Int) * (rup (c - (u : Int)) (a : Int) - 1) + s
    obtain ⟨n, hn⟩ : ∃ n : Nat, rup (c - (u : Int)) (a : Int) = (n : Int) := ⟨_, (Int.toNat_of_nonneg c0).symm⟩
    rw [hn] at c1 c2 ⊢
    have c1' : c.toNat - u ≤ a * n := by
      have : (c - (u : Int)) ≤ ((a * n : Nat) : Int) := by rw [Int.natCast_mul]; exact c1
      omega
    have c2' : a * n < c.toNat - u + a := by
      have : ((a * n : Nat) : Int) < c - (u : Int) + a := by rw [Int.natCast_mul]; exact c2
      omega
    have n1 : 1 ≤ n := by
      cases n with
      | zero => simp at c1'; omega
      | succ n => omega
    have hb : HeadB acc (f + st * (u : Int) + s) := headB_off (by omega)
    have hst2 : 1 ≤ st * (a : Int) := by omega
    rw [Int.toNat_natCast]
    refine ⟨P n (fun z => by omega) (fun _ => ⟨c1', c2'⟩), by have := mul_nn hst u; omega, hst2, by omega, hb, ?_⟩
    obtain ⟨m, rfl⟩ : ∃ m, n = m + 1 := ⟨n - 1, by omega⟩
    rw [offFold hs hst2 hb m, show ((m + 1 : Nat) : Int) - 1 = (m : Int) by omega]
  · intro g
    have g : ¬ (u : Int) < c := g
    exact P 0 (fun _ => rfl) (fun z => by
      have : c.toNat - u = 0 := by omega
      rw [this]
      simp
      omega)
/-! ### all runs -/
def Rel60 (F J : List Stt) : Prop := F = J ∨ (60 < F.length ∧ 60 < J.length)
def lightsR (s : Int) : Int → List Run → List Run
  | _, [] => []
  | off, r :: rs => if lightU off r < r.2.2 then lightR s off r :: lightsR s (lastM (lightR s off r) + s) rs else lightsR s off rs
theorem lights_eq (s : Int) : ∀ (rs : List Run) (found : List Run) (off : Int), (rs.foldl (lightS s) (found, off)).1 = found ++ lightsR s off rs
  | [], found, off => by simp [lightsR]
  | r :: rs, found, off => by
    rw [List.foldl_cons]
    by_cases g : lightU off r < r.2.2
    · rw [show lightS s (found, off) r = (found ++ [lightR s off r], lastM (lightR s off r) + s) from if_pos g, lights_eq s rs]
      simp only [lightsR, if_pos g]
      rw [List.append_assoc]
      rfl
    · rw [show lightS s (found, off) r = (found, off) from if_neg g, lights_eq s rs]
      simp only [lightsR, if_neg g]
theorem rel_join {F J : List Stt} {ps : List Stt} (h : Rel60 F J) : Rel60 (ps.foldl joinS F) (ps.foldl joinS J) := by
  rcases h with e | ⟨h1, h2⟩
  · exact .inl (by rw [e])
  · exact .inr ⟨Nat.lt_of_lt_of_le h1 (joinS_fold_len _ _), Nat.lt_of_lt_of_le h2 (joinS_fold_len _ _)⟩
theorem Rel60.trans {A B C : List Stt} (h : Rel60 A B) (k : Rel60 B C) : Rel60 A C := by
  rcases h with e | ⟨h1, h2⟩
  · rw [e]; exact k
  · rcases k with e | ⟨k1, k2⟩
    · exact .inr ⟨h1, by rw [← e]; exact h2⟩
    · exact .inr ⟨h1, k2⟩
theorem hold_all {s : Int} (hs : 1 ≤ s) : ∀ (rs : List Run) (b : Int) (F J : List Stt), RunsUp b rs → HeadB F (b + s) → Rel60 F J → Rel60 ((spreadAll rs).foldl (stepL true s) F) ((rs.flatMap (litP s)).foldl joinS J)
  | [], _, _, _, _, _, h => h
  | (f, st, c) :: rs, b, F, J, ⟨u1, u2, u3, u4⟩, hb, h => by
    have u1 : b < f := u1
    have u2 : 1 ≤ st := u2
    have u3 : 1 ≤ c := u3
    have hb' : HeadB F (f + s) := fun q hq => by have := hb q hq; omega
    rw [List.flatMap_cons, List.foldl_append]
    rw [show spreadAll ((f, st, c) :: rs) = ap f st c.toNat ++ spreadAll rs from List.flatMap_cons .., List.foldl_append]
    obtain ⟨e1, e2⟩ := runH hs u2 hb' c.toNat
    rw [e1]
    obtain ⟨n, hn⟩ : ∃ n : Nat, c.toNat = n + 1 := ⟨c.toNat - 1, by omega⟩
    refine hold_all hs rs (lastM (f, st, c)) _ _ u4 ?_ ?_
    · rw [hn]
      refine headB_off ?_
      rw [offFold hs u2 hb' n]
      unfold lastM
      rw [show (f, st, c).2.2 - 1 = (n : Int) by show c - 1 = _; omega]
      exact Int.le_refl _
    · refine Rel60.trans ?_ (rel_join h)
      rcases litP_rel hs u2 u3 hb' with e | ⟨l1, l2⟩
      · exact .inl e.symm
      · exact .inr ⟨l2, l1⟩
theorem pulse_all {s : Int} (hs : 1 ≤ s) : ∀ (rs : List Run) (b : Int) (F J : List Stt), -1 ≤ b → RunsUp b rs → Rel60 F J → Rel60 ((spreadAll rs).foldl (stepL false s) F) (((lightsR s (offOf F) rs).flatMap (litP s)).foldl joinS J)
  | [], _, _, _, _, _, h => h
  | r :: rs, b, F, J, hb, ⟨u1, u2, u3, u4⟩, h => by
    have hl : -1 ≤ lastM r := by
      unfold lastM
      have : 0 ≤ r.2.1 * (r.2.2 - 1) := Int.mul_nonneg (by omega) (by omega)
      omega
    rw [show spreadAll (r :: rs) = ap r.1 r.2.1 r.2.2.toNat ++ spreadAll rs from List.flatMap_cons .., List.foldl_append]
    obtain ⟨L1, L0⟩ := light_run (acc := F) hs (by omega : 0 ≤ r.1) u2 u3
    simp only [lightsR]
    by_cases g : lightU (offOf F) r < r.2.2
    · obtain ⟨e1, e2, e3, e4, e5, e6⟩ := L1 g
      rw [if_pos g, List.flatMap_cons, List.foldl_append, e1]
      have ih := pulse_all hs rs (lastM r) ((pcs s (lightR s (offOf F) r).1 (lightR s (offOf F) r).2.1 (lightR s (offOf F) r).2.2.toNat).foldl joinS F) ((litP s (lightR s (offOf F) r)).foldl joinS J) hl u4 (by
        refine Rel60.trans ?_ (rel_join h)
        rcases litP_rel (s := s) (f := (lightR s (offOf F) r).1) (st := (lightR s (offOf F) r).2.1) (c := (lightR s (offOf F) r).2.2) hs e3 e4 e5 with e | ⟨l1, l2⟩
        · exact .inl e.symm
        · exact .inr ⟨l2, l1⟩)
      rw [e6] at ih
      exact ih
    · rw [if_neg g, L0 g]
      exact pulse_all hs rs (lastM r) F J hl u4 h
theorem logOf_spec {l : Lamp} {rs : List Run} (hs : 1 ≤ l.2) (hr : RunsUp (-1) rs) : Rel60 (logF l (spreadAll rs)) (logOf l rs) := by
  obtain ⟨h, s⟩ := l
  have key : Rel60 ((spreadAll rs).foldl (stepL h s) []) (((if h then rs else lightsF s rs).flatMap (litP s)).foldl joinS []) := by
    cases h with
    | true => exact hold_all hs rs (-1) [] [] hr (fun q hq => by cases hq) (.inl rfl)
    | false =>
      have := pulse_all hs rs (-1) [] [] (Int.le_refl _) hr (.inl rfl)
      rw [show (if false = true then rs else lightsF s rs) = lightsR s 0 rs by
        show lightsF s rs = _
        unfold lightsF
        rw [lights_eq]
        rfl]
      exact this
  rcases key with e | ⟨h1, h2⟩
  · left
    show List.reverse _ = List.reverse _
    rw [e]
  · right
    refine ⟨?_, ?_⟩
    · show 60 < (List.reverse _).length
      rw [List.length_reverse]; exact h1
    · show 60 < (List.reverse _).length
      rw [List.length_reverse]; exact h2
end Lg

namespace Lg
open PySem PySem.Spec PyProof.Rows L2 Lm
/-! ### a for over a list or a tuple -/
def iSeq (K : PySem.W.Frag) (tl : TE) : TI := fun σ H R => tl σ H fun x H1 => ∃ a, x = .ref a ∧ (((∃ xs, SqL K H1 a xs) ∧ R (Itl K a) H1) ∨ ((∃ xs, SqT K H1 a xs) ∧ R (Itt K a) H1))
theorem pi_seq {X : Cx} {tg : Expr} {l : Expr} {tl : TE} (hl : PE X l tl) : PI X tg l (iSeq X.K tl) := by
  refine ⟨fun pins s σ H R I h => ?_⟩
  refine thn (hl.run pins s σ H _ I h) fun v s1 ⟨x, H1, I1, r1, q1⟩ => ?_
  obtain ⟨a, e, q⟩ := q1
  subst e
  cases r1
  rcases q with ⟨⟨xs, hq⟩, q⟩ | ⟨⟨xs, hq⟩, q⟩
  · obtain ⟨its, rv, p, hz⟩ := I1.list hq
    refine wpAny_pyIter_list p.isList ?_
    refine ⟨s1.heap.objs.size, [s1.heap.objs.size], _, _, H1, rfl, I1.kept (t' := s1.toks) fun b o e => Heap.get?_push_of_some _ e, turn_list a _, ⟨_, Heap.get?_push_size _ rfl, rfl, rfl⟩, fun b hb => ?_, q⟩
    have e : b = s1.heap.objs.size := by simpa using hb
    subst e
    exact I1.fpOk (Nat.le_refl _) (I1.hok.fresh (Nat.le_refl _))
  · obtain ⟨its, rv, p, hz⟩ := I1.tuple hq
    refine wpAny_pyIter_tuple (show s1.heap.IsTuple a its.toArray from p) ?_
    refine ⟨s1.heap.objs.size, [s1.heap.objs.size], _, _, H1, rfl, I1.kept (t' := s1.toks) fun b o e => Heap.get?_push_of_some _ e, turn_tuple a _, ⟨_, Heap.get?_push_size _ rfl, rfl, rfl⟩, fun b hb => ?_, q⟩
    have e : b = s1.heap.objs.size := by simpa using hb
    subst e
    exact I1.fpOk (Nat.le_refl _) (I1.hok.fresh (Nat.le_refl _))
/-! ### promises of the makers of logs -/
def runD (r : Run) : PyData := .tuple [.int r.1, .int r.2.1, .int r.2.2]
def runsD (rs : List Run) : PyData := .tuple (rs.map runD)
def RB (r : Run) : Prop := (0 ≤ r.1 ∧ r.1 ≤ 10000000000) ∧ (1 ≤ r.2.1 ∧ r.2.1 ≤ 10000000000) ∧ (1 ≤ r.2.2 ∧ r.2.2 ≤ 10000000000)
def sp_last2 (K : PySem.W.Frag) : Sp := sp_f K (fun r : Run => [runD r]) RB (fun r => .int (lastM r))
def sp_rup (K : PySem.W.Frag) : Sp := sp_f K (fun x : Int × Int => [.int x.1, .int x.2]) (fun x => 1 ≤ x.2 ∧ x.2 < 1073741824) (fun x => .int (rup x.1 x.2))
/-- a run of motions -/
structure RunOk (r : Run) : Prop where
  f : 0 ≤ r.1 ∧ r.1 ≤ 1000000000
  s : 1 ≤ r.2.1 ∧ r.2.1 ≤ 1000000000
  c : 1 ≤ r.2.2 ∧ r.2.2 ≤ 1000000001
  l : lastM r ≤ 1000000000
def sp_lighting (K : PySem.W.Frag) : Sp := sp_f K (fun x : Int × List Run => [.int x.1, runsD x.2]) (fun x => 1 ≤ x.1 ∧ x.1 ≤ 1000000000 ∧ x.2.length ≤ 400 ∧ (∀ r ∈ x.2, RunOk r)) (fun x => .list ((lightsF x.1 x.2).map runD))
def sp_lit (K : PySem.W.Frag) : Sp := fun vs H Q _ => ∃ (N : Addr → Prop) (s : Int) (r : Run), Occ N H ∧ Dqs K (cut N H) vs [.int s, runD r] ∧ (1 ≤ s ∧ s ≤ 1000000000) ∧ RB r ∧
  ∀ (p : Addr) (xs : List V) (H' : Hp), Same H H' → H' p = some (.lst xs) → ¬ N p → Dqs K (cut N H') xs ((litP s r).map pD) → Q (.ref p) H'
def sp_joined (K : PySem.W.Frag) : Sp := sp_f K (fun ps : List Stt => [.list (ps.map pD)]) (fun ps => ps.length ≤ 100000) (fun ps => logD (joinedF ps))
def sp_fx (K : PySem.W.Frag) (CT : Addr) (f : Str) (n : Int) {α : Type} (A : α → List PyData) (P : α → Prop) (F : α → PyData) (B : α → Bool) : Sp := fun vs H Q E => ∃ (N : Addr → Prop) (x : α), Occ N H ∧ Dqs K (cut N H) vs (A x) ∧ P x ∧
  (B x = false → ∀ r H', Same H H' → Dq K (cut N H') r (F x) → Q r H') ∧ (B x = true → ∀ d H', Same H H' → H' d = some (.xd [(f, .int n)]) → H d = none → E (.ref CT) (some d) H')
def sp_most (K : PySem.W.Frag) (CT : Addr) (n : Int) : Sp := sp_fx K CT "limit" n (fun ds : List PyData => [.int n, .tuple ds]) (fun _ => True) (fun ds => .tuple ds) (fun ds => decide (n < (ds.length : Int)))
def sp_logof (K : PySem.W.Frag) (CT : Addr) : Sp := sp_fx K CT "limit" 60 (fun x : Lamp × List Run => [lampD x.1, runsD x.2]) (fun x => 1 ≤ x.1.2 ∧ x.1.2 ≤ 1000000000 ∧ x.2.length ≤ 400 ∧ (∀ r ∈ x.2, RunOk r)) (fun x => logD (logOf x.1 x.2)) (fun x => decide (60 < (logOf x.1 x.2).length))
theorem dq_run {K : PySem.W.Frag} {G : Hp} {v : V} {q : Run} (h : Dq K G v (runD q)) : ∃ a, v = .ref a ∧ SqT K G a [.int q.1, .int q.2.1, .int q.2.2] := by
  obtain ⟨a, xs, rfl, h1, h2⟩ := dq_tup h
  obtain ⟨x, r, rfl, h3, h4⟩ := dqs_cons h2
  obtain ⟨y, r, rfl, h5, h6⟩ := dqs_cons h4
  obtain ⟨z, r, rfl, h7, h8⟩ := dqs_cons h6
  rw [dqs_nil h8, dq_int h3, dq_int h5, dq_int h7] at h1
  exact ⟨a, rfl, h1⟩
theorem dq_runT {K : PySem.W.Frag} {G : Hp} {a : Addr} {q : Run} (h : SqT K G a [.int q.1, .int q.2.1, .int q.2.2]) : Dq K G (.ref a) (runD q) := .tup h (.cons (.int _) (.cons (.int _) (.cons (.int _) .nil)))
theorem np_cut1 {N : Addr → Prop} {H : Hp} {f : Addr} : cut (NP N f) H = cut1 f (cut N H) := by
  funext b
  by_cases e : b = f
  · unfold cut1 cut
    rw [if_pos (show NP N f b from .inr e), if_pos e]
  · rw [cut1_at e]
    by_cases n : N b
    · unfold cut
      rw [if_pos (show NP N f b from .inl n), if_pos n]
    · rw [cut_at n, cut_at (show ¬ NP N f b from fun z => z.elim n e)]
/-- a list of made things that grows while nothing else changes -/
def GrowG (K : PySem.W.Frag) (N : Addr → Prop) (H : Hp) (f : Addr) {α : Type} (D : α → PyData) (as : List α) (Hi : Hp) : Prop := ∃ xs, Same H Hi ∧ Hi f = some (.lst xs) ∧ Dqs K (cut1 f (cut N Hi)) xs (as.map D)
section
variable {K : PySem.W.Frag} {N : Addr → Prop} {H Hi G : Hp} {f t : Addr} {zs vs : List V} {o : HO} {α : Type} {D : α → PyData} {as : List α} {x : α}
theorem GrowG.start (nf : H f = none) : GrowG K N H f D ([] : List α) (upd H f (.lst [])) := ⟨[], same_new nf, upd_same, .nil⟩
theorem GrowG.put (hv : ∀ G', SqT K G' t vs → Dq K G' (.ref t) (D x)) (nf : H f = none) (O : Occ N H) (si : Same H Hi) (sG : Same Hi G) (eG : G f = some o) (hz : Dqs K (cut1 f (cut N Hi)) zs (as.map D)) (nt : G t = none) :
    GrowG K N H f D (as ++ [x]) (upd (upd G t (.tup vs)) f (.lst (zs ++ [.ref t]))) := by
  obtain ⟨s5, e5⟩ := app_cut (vs := vs) (o' := .lst (zs ++ [.ref t])) ((O.keep si).keep sG) eG nt
  refine ⟨_, same_upd ((si.trans sG).trans (same_new nt)) nf, upd_same, ?_⟩
  rw [List.map_append]
  exact dqs_snoc (hz.mono ((cut_mono (cut_mono sG)).trans s5)) (hv _ (.inl (.inl e5)))
theorem grow_list {ps : List PyData} (O : Occ N H) (nf : H f = none) (e : Hi f = some (.lst zs)) (h : Dqs K (cut1 f (cut N Hi)) zs ps) : Dq K (cut N Hi) (.ref f) (.list ps) :=
  .lst (.inl (.inl (by rw [cut_at fun z => O f z nf]; exact e))) (h.mono cut_same)
end
theorem size_le {n : Nat} (h : n ≤ 1000000) : n < sizeLine := by rw [PySem.sizeLine_eq]; omega
theorem joinS_len1 (acc : List Stt) (p : Stt) : (joinS acc p).length ≤ acc.length + 1 := by
  cases acc with
  | nil => simp [joinS]
  | cons q r => simp only [joinS]; split <;> simp
theorem joinS_fold_le : ∀ (ps acc : List Stt), (ps.foldl joinS acc).length ≤ acc.length + ps.length
  | [], _ => Nat.le_refl _
  | p :: r, acc => by
    have a := joinS_fold_le r (joinS acc p)
    have b := joinS_len1 acc p
    rw [List.foldl_cons, List.length_cons]
    omega
theorem litP_len {s : Int} {r : Run} : (litP s r).length ≤ 61 := by
  unfold litP
  split
  · exact (by decide : 1 ≤ 61)
  · unfold pcs
    rw [List.length_map, List.length_range]
    split <;> omega
theorem flat_len {s : Int} : ∀ rs : List Run, (rs.flatMap (litP s)).length ≤ rs.length * 61
  | [] => Nat.le_refl _
  | r :: rs => by
    rw [List.flatMap_cons, List.length_append, List.length_cons]
    have := flat_len (s := s) rs
    have := litP_len (s := s) (r := r)
    omega
theorem lightsR_len (s : Int) : ∀ (rs : List Run) (off : Int), (lightsR s off rs).length ≤ rs.length
  | [], _ => Nat.le_refl _
  | r :: rs, off => by
    simp only [lightsR]
    have a := lightsR_len s rs
    split
    · rw [List.length_cons, List.length_cons]; have := a (lastM (lightR s off r) + s); omega
    · rw [List.length_cons]; have := a off; omega
theorem lightsF_eq (s : Int) (rs : List Run) : lightsF s rs = lightsR s 0 rs := by
  unfold lightsF
  rw [lights_eq]
  rfl
theorem rup_one {n b : Int} (h : 1 ≤ n) (hb : 1 ≤ b) : 1 ≤ rup n b := by
  obtain ⟨h0, h1, _⟩ := rup_spec (n := n) (b := b) (by omega) hb
  have : rup n b ≠ 0 := fun e => by rw [e] at h1; simp at h1; omega
  omega
theorem rup_le {n b : Int} (h : 0 ≤ n) (hb : 1 ≤ b) : rup n b ≤ n := by
  obtain ⟨h0, h1, h2⟩ := rup_spec (n := n) (b := b) h hb
  by_cases e : rup n b ≤ n
  · exact e
  · have l : b * (n + 1) ≤ b * rup n b := Int.mul_le_mul_of_nonneg_left (by omega) (by omega)
    have l2 : 1 * n ≤ b * n := Int.mul_le_mul_of_nonneg_right hb h
    rw [Int.mul_add] at l
    omega
/-- what lights a pulse lamp is small -/
theorem lightU_nn {off : Int} {r : Run} (hst : 1 ≤ r.2.1) : 0 ≤ lightU off r := (rup_spec (by split <;> omega) hst).1
theorem lightR_b {s off : Int} {r : Run} (hs : 1 ≤ s ∧ s ≤ 1000000000) (hr : RunOk r) (g : lightU off r < r.2.2) : RB (lightR s off r) ∧ 0 ≤ lightU off r ∧ 1 ≤ rup s r.2.1 ∧ rup s r.2.1 ≤ 1000000000 := by
  obtain ⟨f, st, c⟩ := r
  obtain ⟨⟨f0, f1⟩, ⟨s0, s1⟩, ⟨c0, c1⟩, hl⟩ := hr
  have f0 : 0 ≤ f := f0
  have s0 : 1 ≤ st := s0
  have s1 : st ≤ 1000000000 := s1
  have c1 : c ≤ 1000000001 := c1
  have hl : f + st * (c - 1) ≤ 1000000000 := hl
  have hu := lightU_nn (off := off) (r := (f, st, c)) s0
  have e : lightR s off (f, st, c) = (f + st * lightU off (f, st, c), st * rup s st, rup (c - lightU off (f, st, c)) (rup s st)) := rfl
  rw [e]
  have g : lightU off (f, st, c) < c := g
  generalize lightU off (f, st, c) = u at hu g
  obtain ⟨a0, a1, a2⟩ := rup_spec (n := s) (b := st) (by omega) s0
  have a3 := rup_one hs.1 s0
  have a4 := rup_le (n := s) (b := st) (by omega) s0
  show RB (f + st * u, st * rup s st, rup (c - u) (rup s st)) ∧ 0 ≤ u ∧ 1 ≤ rup s st ∧ rup s st ≤ 1000000000
  have m1 : st * u ≤ st * (c - 1) := Int.mul_le_mul_of_nonneg_left (by omega) (by omega)
  have m0 : 0 ≤ st * u := Int.mul_nonneg (by omega) hu
  have b1 := rup_one (n := c - u) (b := rup s st) (by omega) a3
  have b2 := rup_le (n := c - u) (b := rup s st) (by omega) a3
  exact ⟨⟨⟨by show 0 ≤ f + st * u; omega, by show f + st * u ≤ _; omega⟩, ⟨by show 1 ≤ st * rup s st; omega, by show st * rup s st ≤ _; omega⟩, ⟨b1, by show rup (c - u) (rup s st) ≤ _; omega⟩⟩, hu, a3, by omega⟩
theorem ite_val {b : Bool} {ta tb : TE} {σ : L2.St} {H : Hp} {Q : VK} (P : V → Hp → Prop) (rest : ∀ v H', P v H' → Q v H') (h : ∀ Q' : VK, (∀ v H', P v H' → Q' v H') → if b = true then ta σ H Q' else tb σ H Q') : if b = true then ta σ H Q else tb σ H Q := h Q rest
theorem lightsR_ok {s : Int} (hs : 1 ≤ s ∧ s ≤ 1000000000) : ∀ (rs : List Run) (off : Int), (∀ r ∈ rs, RunOk r) → ∀ r ∈ lightsR s off rs, RB r
  | [], _, _, r, h => nomatch h
  | x :: rs, off, hok, r, h => by
    simp only [lightsR] at h
    split at h
    · rename_i g
      rcases List.mem_cons.mp h with e | e
      · rw [e]; exact (lightR_b hs (hok x List.mem_cons_self) g).1
      · exact lightsR_ok hs rs _ (fun y hy => hok y (List.mem_cons_of_mem _ hy)) r e
    · exact lightsR_ok hs rs _ (fun y hy => hok y (List.mem_cons_of_mem _ hy)) r h
theorem RunOk.rb {r : Run} (h : RunOk r) : RB r := by
  have a := h.f
  have b := h.s
  have c := h.c
  exact ⟨by omega, by omega, by omega⟩
end Lg

namespace Lg
open PySem PySem.Spec PyProof.Rows L2 Lm
theorem FnOk.imp {P : Program} {w : World} {K : PySem.W.Frag} {mg : Str → Option Value} {base : Heap} {CX : CXT} {k : Nat} {f : Addr} {fd : FuncData} {ps : List Str} {sp sp' : Sp} (F : FnOk P w K mg base CX k f fd ps sp) (h : ∀ vs H Q E, sp' vs H Q E → sp vs H Q E) : FnOk P w K mg base CX k f fd ps sp' := by
  constructor
  · exact fun vs H Q E z => F.len vs H Q E (h _ _ _ _ z)
  · intros
    first
      | exact F.run _ _ _ _ _ _ _ _ _ (by assumption) (by assumption) (by assumption) (by assumption) (h _ _ _ _ (by assumption))
      | exact F.go _ _ _ _ _ _ _ _ _ (by assumption) (by assumption) (by assumption) (by assumption) (h _ _ _ _ (by assumption))
/-! ### the pot as a source -/
def potAt (p dl al : Addr) (_ : Nat) (H : Hp) : Prop := (∃ t : Int, H p = some (.dK [(.inr "deep", .ref dl), (.inr "all", .ref al), (.inr "times", .int t)])) ∧ (∃ ns : List Int, H dl = some (.lst (ns.map V.int)) ∧ ns.length ≤ 64) ∧
  (∃ ns : List Int, H al = some (.lst (ns.map V.int)) ∧ ns ≠ [] ∧ ns.length ≤ 64) ∧ al ≠ dl
def pot (p dl al : Addr) : Src where
  at_ := potAt p dl al
  own := fun a => a = p ∨ a = dl ∨ a = al
  frame := fun h ⟨h1, h2, h3, h4⟩ => ⟨by rw [h p (.inl rfl)]; exact h1, by rw [h dl (.inr (.inl rfl))]; exact h2, by rw [h al (.inr (.inr rfl))]; exact h3, h4⟩
  less := fun _ h => h
  full := fun ⟨⟨t, h1⟩, ⟨ns, h2, _⟩, ⟨ms, h3, _⟩, _⟩ h => by
    rcases h with rfl | rfl | rfl
    · rw [h1]; exact fun z => nomatch z
    · rw [h2]; exact fun z => nomatch z
    · rw [h3]; exact fun z => nomatch z
section
variable {p dl al : Addr} {Z H H' : Hp} {b c : Nat}
theorem iv_pot (P : Iv (pot p dl al) Z b H) : PotAt Z H p dl al := ⟨P.src.1, P.src.2.1, P.src.2.2.1, P.src.2.2.2, P.zz, P.zo p (.inl rfl), P.zo dl (.inr (.inl rfl))⟩
theorem pot_iv (P : PotAt Z H p dl al) (z : Z al = none) : Iv (pot p dl al) Z b H := ⟨⟨P.ob, P.de, P.li, P.ne⟩, P.zz, fun a ha => by
  rcases ha with rfl | rfl | rfl
  · exact P.zp
  · exact P.zd
  · exact z⟩
theorem pot_hid : Same (hid (pot p dl al) Z H) (Lm.hid Z p dl H) := fun x o e => by
  have n := hid_some e
  rw [Lm.hid_at (fun z => n.1 (.inl z)) ⟨fun z => n.1 (.inr (.inl z)), n.2⟩]
  exact hid_same _ _ e
theorem pot_kp (k : Lm.Kp Z p dl H H') : Kp (pot p dl al) Z H H' := fun x o e => by
  have n := hid_some e
  have h := k x o (pot_hid _ _ e)
  rw [hid_at n]
  exact Lm.hid_same _ _ _ _ _ h
def sp_draw : Sp := fun vs H Q _ => ∃ (Z : Hp) (p dl al : Addr) (n : Int), vs = [.ref p, .int n] ∧ Iv (pot p dl al) Z 0 H ∧ 0 < n ∧ n < 1073741824 ∧
  ∀ (r : Int) (H' : Hp), Iv (pot p dl al) Z 0 H' → Kp (pot p dl al) Z H H' → 0 ≤ r → r < n → Q (.int r) H'
def sp_one : Sp := fun vs H Q _ => ∃ (Z : Hp) (p dl al l : Addr) (xs : List V), vs = [.ref p, .ref l] ∧ Iv (pot p dl al) Z 0 H ∧ hid (pot p dl al) Z H l = some (.lst xs) ∧ xs ≠ [] ∧ xs.length ≤ 1000 ∧
  ∀ (x : V) (H' : Hp), x ∈ xs → Iv (pot p dl al) Z 0 H' → Kp (pot p dl al) Z H H' → Q x H'
def sp_opened (K : PySem.W.Frag) : Sp := fun vs H Q _ => ∃ (a : Addr) (ns : List Int), vs = [.ref a] ∧ SqL K H a (ns.map V.int) ∧ ns.length ≤ 63 ∧ ∀ (p dl al : Addr) (H' : Hp), Iv (pot p dl al) (fun _ => none) 0 H' → Same H H' → Q (.ref p) H'
theorem draw_imp (vs : List V) (H : Hp) (Q : VK) (E : XK) (h : sp_draw vs H Q E) : Lm.sp_draw vs H Q E := by
  obtain ⟨Z, p, dl, al, n, e, P, n0, n1, q⟩ := h
  exact ⟨Z, p, dl, al, n, e, iv_pot P, n0, n1, fun r H' P' k' r0 r1 => q r H' (pot_iv P' (P.zo al (.inr (.inr rfl)))) (pot_kp k') r0 r1⟩
theorem one_imp (vs : List V) (H : Hp) (Q : VK) (E : XK) (h : sp_one vs H Q E) : Lm.sp_one vs H Q E := by
  obtain ⟨Z, p, dl, al, l, xs, e, P, hl, n0, n1, q⟩ := h
  exact ⟨Z, p, dl, al, l, xs, e, iv_pot P, pot_hid _ _ hl, n0, n1, fun x H' hx P' k' => q x H' hx (pot_iv P' (P.zo al (.inr (.inr rfl)))) (pot_kp k')⟩
theorem opened_imp (K : PySem.W.Frag) (vs : List V) (H : Hp) (Q : VK) (E : XK) (h : sp_opened K vs H Q E) : Lm.sp_opened K vs H Q E := by
  obtain ⟨a, ns, e, hS, hl, q⟩ := h
  exact ⟨a, ns, e, hS, hl, fun p dl al H' P' s' => q p dl al H' (pot_iv P' rfl) s'⟩
variable {K : PySem.W.Frag} {H0 : Hp} {σ : L2.St} {te : TE} {R : VR} {n : Nat}
theorem ev_draw {i : Nat} {b : Int} (e : σ[i]? = some (some (.ref p))) (hb : b < 1073741824) (h : Ev (pot p dl al) Z n H0 σ te (IR 1 b)) : Ev (pot p dl al) Z n H0 σ (tCall sp_draw [] E0 (tCons (tVar i) (tCons te tNil))) (IR 0 (b - 1)) :=
  fun H bb Q P k q => ⟨_, e, h H bb _ P k fun v H1 P1 k1 ⟨m, em, n1, n2⟩ => ⟨Z, p, dl, al, m, by rw [em]; rfl, P1.less (Nat.zero_le _), by omega, by omega, fun x H2 P2 k2 r1 r2 => q _ _ ⟨P2.src, P2.zz, P2.zo⟩ (k1.trans k2) ⟨x, rfl, r1, by omega⟩⟩⟩
theorem ev_drawC {i : Nat} {m : Int} (e : σ[i]? = some (some (.ref p)) := by rfl) (h0 : 1 ≤ m := by decide) (h1 : m < 1073741824 := by decide) : Ev (pot p dl al) Z 0 H0 σ (tCall sp_draw [] E0 (tCons (tVar i) (tCons (tC (.int m)) tNil))) (IR 0 (m - 1)) :=
  ev_draw (b := m) e h1 (ev_int.wide h0 (Int.le_refl _))
theorem ev_one {i m : Nat} (e : σ[i]? = some (some (.ref p))) (hn : m ≤ 1000) {m0 : Nat} (hm : Mo R) (h : Ev (pot p dl al) Z n H0 σ te (LsR (m0 + 1) m R)) : Ev (pot p dl al) Z n H0 σ (tCall sp_one [] E0 (tCons (tVar i) (tCons te tNil))) R :=
  fun H b Q P k q => ⟨_, e, h H b _ P k fun v H1 P1 k1 ⟨l, xs, el, g, l1, l2, l3⟩ => ⟨Z, p, dl, al, l, xs, by rw [el]; rfl, P1.less (Nat.zero_le _), g, (fun z => by subst z; simp at l1), by omega, fun x H2 hx P2 k2 => q _ _ ⟨P2.src, P2.zz, P2.zo⟩ (k1.trans k2) (hm _ _ _ k2 (l3 x hx))⟩⟩
end
end Lg

namespace Lg
open PySem PySem.Spec PyProof.Rows L2 Lm
def sp_lampP (K : PySem.W.Frag) : Sp := fun vs H Q _ => ∃ (Z : Hp) (p dl al : Addr) (g : Int), vs = [.ref p, .int g] ∧ Iv (pot p dl al) Z 0 H ∧ 1 ≤ g ∧ g ≤ 1000000000 ∧
  ∀ (x : V) (H' : Hp) (l : Lamp), Iv (pot p dl al) Z 0 H' → Kp (pot p dl al) Z H H' → Dq K (hid (pot p dl al) Z H') x (lampD l) → 1 ≤ l.2 → l.2 ≤ 1000000000 → Q x H'
/-- minutes: rising, from 0 on -/
def MinsP (ms : List Int) : Prop := Asc (-1) ms ∧ ms.length ≤ 60 ∧ ∀ m ∈ ms, 0 ≤ m ∧ m ≤ 10000
def intsT (ms : List Int) : PyData := .tuple (ms.map .int)
def sp_minsP (K : PySem.W.Frag) : Sp := fun vs H Q _ => ∃ (Z : Hp) (p dl al : Addr) (u : Int), vs = [.ref p, .int u] ∧ Iv (pot p dl al) Z 0 H ∧ 0 ≤ u ∧ u ≤ 60 ∧
  ∀ (x : V) (H' : Hp) (ms : List Int), Iv (pot p dl al) Z 0 H' → Kp (pot p dl al) Z H H' → Dq K (hid (pot p dl al) Z H') x (intsT ms) → MinsP ms → Q x H'
def sp_runsP (K : PySem.W.Frag) : Sp := fun vs H Q _ => ∃ (Z : Hp) (p dl al : Addr) (v : V) (ms : List Int), vs = [.ref p, v] ∧ Iv (pot p dl al) Z 0 H ∧ Dq K (hid (pot p dl al) Z H) v (intsT ms) ∧ MinsP ms ∧
  ∀ (x : V) (H' : Hp) (rs : List Run), Iv (pot p dl al) Z 0 H' → Kp (pot p dl al) Z H H' → Dq K (hid (pot p dl al) Z H') x (runsD rs) → spreadAll rs = ms → RunsUp (-1) rs → rs.length ≤ 60 → (∀ r ∈ rs, RunOk r) → Q x H'
def sp_played (K : PySem.W.Frag) : Sp := fun vs H Q _ => ∃ (N : Addr → Prop) (x y : V) (l : Lamp) (ms : List Int), vs = [x, y] ∧ Occ N H ∧ Dq K (cut N H) x (lampD l) ∧ (Dq K (cut N H) y (.list (ms.map .int)) ∨ Dq K (cut N H) y (intsT ms)) ∧ (∀ m ∈ ms, 0 ≤ m) ∧ ms.length ≤ 900 ∧
  ∀ r H', Same H H' → Dq K (cut N H') r (logD (logF l ms)) → Q r H'
def toldD (l : Lamp) (rs : List Run) : PyData := if 60 < (logOf l rs).length then .list [.int 60] else logD (logOf l rs)
def sp_told (K : PySem.W.Frag) : Sp := sp_f K (fun x : Lamp × List Run => [lampD x.1, runsD x.2]) (fun x => 1 ≤ x.1.2 ∧ x.1.2 ≤ 1000000000 ∧ x.2.length ≤ 400 ∧ (∀ r ∈ x.2, RunOk r)) (fun x => toldD x.1 x.2)
/-! ### runs of rising minutes -/
theorem asc_app : ∀ {b : Int} {xs ys : List Int}, Asc b (xs ++ ys) → Asc b xs ∧ (∀ x ∈ xs, ∀ y ∈ ys, x < y) ∧ (∀ x ∈ xs, b < x) ∧ (∀ y ∈ ys, b < y) ∧ (ys.Pairwise (· < ·))
  | b, [], ys, h => by
    have k : ∀ {b : Int} {ys : List Int}, Asc b ys → (∀ y ∈ ys, b < y) ∧ ys.Pairwise (· < ·) := fun {b ys} => by
      induction ys generalizing b with
      | nil => exact fun _ => ⟨(fun y h => nomatch h), List.Pairwise.nil⟩
      | cons y r ih =>
        rintro ⟨h1, h2⟩
        obtain ⟨i1, i2⟩ := ih h2
        refine ⟨fun z hz => ?_, List.pairwise_cons.mpr ⟨i1, i2⟩⟩
        rcases List.mem_cons.mp hz with e | e
        · omega
        · have := i1 z e; omega
    exact ⟨trivial, (fun x h => nomatch h), (fun x h => nomatch h), (k h).1, (k h).2⟩
  | b, x :: xs, ys, ⟨h1, h2⟩ => by
    obtain ⟨i1, i2, i3, i4, i5⟩ := asc_app h2
    refine ⟨⟨h1, i1⟩, fun z hz y hy => ?_, fun z hz => ?_, fun y hy => by have := i4 y hy; omega, i5⟩
    · rcases List.mem_cons.mp hz with e | e
      · rw [e]; exact i4 y hy
      · exact i2 z e y hy
    · rcases List.mem_cons.mp hz with e | e
      · omega
      · have := i3 z e; omega
theorem asc_of : ∀ {b : Int} {ys : List Int}, (∀ y ∈ ys, b < y) → ys.Pairwise (· < ·) → Asc b ys
  | _, [], _, _ => trivial
  | b, y :: r, h, p => by
    obtain ⟨p1, p2⟩ := List.pairwise_cons.mp p
    exact ⟨h y List.mem_cons_self, asc_of p1 p2⟩
theorem ap_mem {f st : Int} {n k : Nat} (h : k < n) : f + st * (k : Int) ∈ ap f st n := List.mem_map.mpr ⟨k, List.mem_range.mpr h, rfl⟩
theorem runs_up : ∀ {rs : List Run} {b : Int}, Asc b (spreadAll rs) → (∀ r ∈ rs, 1 ≤ r.2.1 ∧ 1 ≤ r.2.2) → RunsUp b rs
  | [], _, _, _ => trivial
  | r :: rs, b, h, hv => by
    rw [show spreadAll (r :: rs) = ap r.1 r.2.1 r.2.2.toNat ++ spreadAll rs from List.flatMap_cons ..] at h
    obtain ⟨i1, i2, i3, i4, i5⟩ := asc_app h
    have v := hv r List.mem_cons_self
    have m0 := i3 _ (ap_mem (f := r.1) (st := r.2.1) (n := r.2.2.toNat) (k := 0) (by omega))
    have m1 := ap_mem (f := r.1) (st := r.2.1) (n := r.2.2.toNat) (k := r.2.2.toNat - 1) (by omega)
    have em : r.1 + r.2.1 * ((r.2.2.toNat - 1 : Nat) : Int) = lastM r := by
      unfold lastM
      rw [show ((r.2.2.toNat - 1 : Nat) : Int) = r.2.2 - 1 by omega]
    rw [em] at m1
    refine ⟨by simpa using m0, v.1, v.2, runs_up (asc_of (fun y hy => i2 _ m1 y hy) i5) fun x hx => hv x (List.mem_cons_of_mem _ hx)⟩
theorem runs_ok {rs : List Run} {B : Int} (hB : B ≤ 1000000000) (h : ∀ m ∈ spreadAll rs, 0 ≤ m ∧ m ≤ B) (hv : ∀ r ∈ rs, (1 ≤ r.2.1 ∧ r.2.1 ≤ 1000000000) ∧ (1 ≤ r.2.2 ∧ r.2.2 ≤ 1000000000)) : ∀ r ∈ rs, RunOk r := fun r hr => by
  obtain ⟨v1, v2⟩ := hv r hr
  have mem : ∀ k : Nat, k < r.2.2.toNat → r.1 + r.2.1 * (k : Int) ∈ spreadAll rs := fun k hk => List.mem_flatMap.mpr ⟨r, hr, ap_mem hk⟩
  have m0 := h _ (mem 0 (by omega))
  have m1 := h _ (mem (r.2.2.toNat - 1) (by omega))
  have em : r.1 + r.2.1 * ((r.2.2.toNat - 1 : Nat) : Int) = lastM r := by
    unfold lastM
    rw [show ((r.2.2.toNat - 1 : Nat) : Int) = r.2.2 - 1 by omega]
  rw [em] at m1
  simp at m0
  exact ⟨by omega, v1, by omega, by omega⟩
/-- neighbours that are near (in reverse) -/
def Near60 : List Int → Prop
  | b :: a :: r => 1 ≤ b - a ∧ b - a ≤ 60 ∧ Near60 (a :: r)
  | _ => True
/-- what _law_played keeps: the end of the last stretch, or -1 -/
def darkOf : List Stt → Int
  | [] => -1
  | q :: _ => q.2
theorem spread_snoc (rs : List Run) (r : Run) : spreadAll (rs ++ [r]) = spreadAll rs ++ ap r.1 r.2.1 r.2.2.toNat := by
  unfold spreadAll
  rw [List.flatMap_append]
  simp
theorem ap_take {rem : List Int} {r0 d : Int} {s : Nat} (hs : s ≤ rem.length) (h : ∀ j : Nat, j < s → rem[j]? = some (r0 + d * (j : Int))) : rem = ap r0 d s ++ rem.drop s := by
  have e : rem.take s = ap r0 d s := by
    apply List.ext_getElem?
    intro j
    unfold ap
    rw [List.getElem?_take, List.getElem?_map]
    by_cases hj : j < s
    · rw [if_pos hj, h j hj, List.getElem?_range hj]; rfl
    · rw [if_neg hj, List.getElem?_eq_none (by rw [List.length_range]; omega)]; rfl
  rw [← e, List.take_append_drop]
/-- the first s of these numbers are evenly apart -/
def PreR (rem : List Int) (r0 d : Int) (s : Nat) : Prop := 1 ≤ s ∧ s ≤ rem.length ∧ (∀ j : Nat, j < s → rem[j]? = some (r0 + d * (j : Int))) ∧ (2 ≤ rem.length → 2 ≤ s)
theorem cutV_drop (xs : List V) {n : Nat} (h : n ≤ xs.length) : cutV xs (some (n : Int)) none = xs.drop n := by
  unfold cutV
  rw [HT.sIx_none, HT.sIx_nat, Nat.min_eq_left h, List.take_of_length_le (by rw [List.length_drop]; omega)]
theorem tst_of {t : TT} {σ : L2.St} {H : Hp} {Q : Bool → Hp → Prop} (P : Bool → Hp → Prop) (h2 : ∀ b H', P b H' → Q b H') (h1 : ∀ Q' : Bool → Hp → Prop, (∀ b H', P b H' → Q' b H') → t σ H Q') : t σ H Q := h1 Q h2
theorem te_of {t : TE} {σ : L2.St} {H : Hp} {Q : VK} (P : V → Hp → Prop) (h2 : ∀ b H', P b H' → Q b H') (h1 : ∀ Q' : VK, (∀ b H', P b H' → Q' b H') → t σ H Q') : t σ H Q := h1 Q h2
theorem atI_pre2 {α : Type} {xs : List α} {u v : α} : atI (xs ++ [u] ++ [v]) (-2) = some u := by
  unfold atI ixN
  have l : (xs ++ [u] ++ [v]).length = xs.length + 2 := by simp
  rw [l]
  rw [if_neg (by decide), if_pos (by omega)]
  show (xs ++ [u] ++ [v])[_]? = _
  have e : ((-2 : Int) + ((xs.length + 2 : Nat) : Int)).toNat = xs.length := by omega
  first
    | rw [e, List.append_assoc, List.getElem?_append_right (Nat.le_refl _), Nat.sub_self]; rfl
    | (rw [show ((((xs.length + 2 : Nat) : Int) + (-2 : Int)).toNat) = xs.length by omega, List.append_assoc, List.getElem?_append_right (Nat.le_refl _), Nat.sub_self]; rfl)
end Lg

namespace Lg
open PySem PySem.Spec PyProof.Rows L2 Lm
theorem told_small {l : Lamp} {rs : List Run} (hs : 1 ≤ l.2) (hr : RunsUp (-1) rs) (h : (logF l (spreadAll rs)).length ≤ 60) : toldD l rs = logD (logF l (spreadAll rs)) := by
  unfold toldD
  rcases logOf_spec hs hr with e | ⟨e, _⟩
  · rw [← e, if_neg (by omega)]
  · omega
theorem told_big {l : Lamp} {rs : List Run} (hs : 1 ≤ l.2) (hr : RunsUp (-1) rs) (h : 60 < (logF l (spreadAll rs)).length) : toldD l rs = .list [.int 60] := by
  unfold toldD
  rcases logOf_spec hs hr with e | ⟨_, e⟩
  · rw [← e, if_pos h]
  · rw [if_pos e]
theorem logF_le (l : Lamp) (ms : List Int) : (logF l ms).length ≤ ms.length := by
  have := logF_len l.1 l.2 ms []
  unfold logF
  rw [List.length_reverse]
  simpa using this
theorem logF_grow (l : Lamp) (f st : Int) {n m : Nat} (h : n ≤ m) : (logF l (ap f st n)).length ≤ (logF l (ap f st m)).length := by
  induction m with
  | zero => obtain rfl : n = 0 := by omega
            exact Nat.le_refl _
  | succ m ih =>
    rcases (show n ≤ m ∨ n = m + 1 by omega) with e | e
    · refine Nat.le_trans (ih e) ?_
      unfold logF
      rw [List.length_reverse, List.length_reverse, ap_succ, List.foldl_append]
      exact stepL_fold_len _ _ _ _
    · rw [e]; exact Nat.le_refl _
theorem stepL_bd {h : Bool} {s B m : Int} (hs : 0 ≤ s) (hm : 0 ≤ m ∧ m ≤ B) {qs : List Stt} (hq : ∀ q ∈ qs, (0 ≤ q.1 ∧ q.1 ≤ B) ∧ 0 ≤ q.2 ∧ q.2 ≤ B + s) : ∀ q ∈ stepL h s qs m, (0 ≤ q.1 ∧ q.1 ≤ B) ∧ 0 ≤ q.2 ∧ q.2 ≤ B + s := by
  cases qs with
  | nil =>
    intro q hq
    rw [List.mem_singleton.mp hq]
    exact ⟨hm, by show 0 ≤ m + s; omega, by show m + s ≤ B + s; omega⟩
  | cons p r =>
    have hp := hq p List.mem_cons_self
    simp only [stepL]
    split
    · intro q hz
      rcases List.mem_cons.mp hz with e | e
      · rw [e]; exact ⟨hm, by show 0 ≤ m + s; omega, by show m + s ≤ B + s; omega⟩
      · exact hq q e
    · split
      · intro q hz
        rcases List.mem_cons.mp hz with e | e
        · rw [e]; exact ⟨hp.1, by show 0 ≤ m + s; omega, by show m + s ≤ B + s; omega⟩
        · exact hq q (List.mem_cons_of_mem _ e)
      · exact hq
theorem logF_bd {l : Lamp} {B : Int} (hs : 0 ≤ l.2) : ∀ {ms : List Int}, (∀ m ∈ ms, 0 ≤ m ∧ m ≤ B) → ∀ q ∈ logF l ms, (0 ≤ q.1 ∧ q.1 ≤ B) ∧ 0 ≤ q.2 ∧ q.2 ≤ B + l.2 := by
  have go : ∀ (ms : List Int) (qs : List Stt), (∀ m ∈ ms, 0 ≤ m ∧ m ≤ B) → (∀ q ∈ qs, (0 ≤ q.1 ∧ q.1 ≤ B) ∧ 0 ≤ q.2 ∧ q.2 ≤ B + l.2) → ∀ q ∈ ms.foldl (stepL l.1 l.2) qs, (0 ≤ q.1 ∧ q.1 ≤ B) ∧ 0 ≤ q.2 ∧ q.2 ≤ B + l.2 := by
    intro ms
    induction ms with
    | nil => exact fun qs _ h => h
    | cons m r ih => exact fun qs hm hq => ih _ (fun x hx => hm x (List.mem_cons_of_mem _ hx)) (stepL_bd hs (hm m List.mem_cons_self) hq)
  intro ms hm q hq
  exact go ms [] hm (fun q h => nomatch h) q (List.mem_reverse.mp hq)
theorem logF_sm {l : Lamp} {B : Int} (hs : 0 ≤ l.2 ∧ l.2 ≤ 1000000000) (hB : B ≤ 1000000000) {ms : List Int} (hm : ∀ m ∈ ms, 0 ≤ m ∧ m ≤ B) (h60 : (logF l ms).length ≤ 60) : Sm 2103 2 (logD (logF l ms)) :=
  Sm.tuple (c := 60) (n := 33) (k := 1) (fun d hd => by
    obtain ⟨q, hq, rfl⟩ := List.mem_map.mp hd
    have := logF_bd hs.1 hm q hq
    exact pD_sm (by omega) (by omega)) (by rw [List.length_map]; exact h60)
theorem run_sm {r : Run} (h : RunOk r) : Sm 48 1 (runD r) :=
  Sm.tuple (c := 3) (n := 13) (k := 0) (ds := [.int r.1, .int r.2.1, .int r.2.2]) (fun d hd => by
    obtain ⟨h1, h2, h3⟩ := h.rb
    rcases List.mem_cons.mp hd with e | e
    · rw [e]; exact Sm.int (by omega)
    · rcases List.mem_cons.mp e with e | e
      · rw [e]; exact Sm.int (by omega)
      · rw [List.mem_singleton.mp e]; exact Sm.int (by omega)) (Nat.le_refl _)
theorem runs_sm {rs : List Run} (hl : rs.length ≤ 60) (h : ∀ r ∈ rs, RunOk r) : Sm 3003 2 (runsD rs) :=
  Sm.tuple (c := 60) (n := 48) (k := 1) (fun d hd => by
    obtain ⟨q, hq, rfl⟩ := List.mem_map.mp hd
    exact run_sm (h q hq)) (by rw [List.length_map]; exact hl)
/-! ### each minute by itself -/
def ones (ms : List Int) : List Run := ms.map fun m => (m, 1, 1)
theorem ones_spread (ms : List Int) : spreadAll (ones ms) = ms := by
  induction ms with
  | nil => rfl
  | cons m r ih =>
    show ap m 1 1 ++ spreadAll (ones r) = _
    rw [ih]
    show [m + 1 * ((0 : Nat) : Int)] ++ r = _
    simp
theorem ones_facts {ms : List Int} (h : MinsP ms) : spreadAll (ones ms) = ms ∧ RunsUp (-1) (ones ms) ∧ (ones ms).length ≤ 60 ∧ ∀ r ∈ ones ms, RunOk r := by
  have v : ∀ r ∈ ones ms, (1 ≤ r.2.1 ∧ r.2.1 ≤ 1000000000) ∧ (1 ≤ r.2.2 ∧ r.2.2 ≤ 1000000000) := fun r hr => by
    obtain ⟨m, _, rfl⟩ := List.mem_map.mp hr
    exact ⟨⟨Int.le_refl 1, (by decide : (1:Int) ≤ 1000000000)⟩, Int.le_refl 1, (by decide : (1:Int) ≤ 1000000000)⟩
  exact ⟨ones_spread ms, runs_up (by rw [ones_spread]; exact h.1) (fun r hr => ⟨(v r hr).1.1, (v r hr).2.1⟩), by unfold ones; rw [List.length_map]; exact h.2.1, runs_ok (B := 10000) (by decide) (by rw [ones_spread]; exact h.2.2) v⟩
theorem one_run {f st c : Int} (hf : 0 ≤ f) (hs : 1 ≤ st) (hc : 1 ≤ c) : RunsUp (-1) [(f, st, c)] := ⟨by show -1 < f; omega, hs, hc, trivial⟩
theorem one_spread {f st c : Int} : spreadAll [(f, st, c)] = ap f st c.toNat := by
  show ap f st c.toNat ++ [] = _
  rw [List.append_nil]
theorem ap_bd {f st B : Int} {n : Nat} (hf : 0 ≤ f) (hs : 0 ≤ st) (h : f + st * (n : Int) ≤ B) : ∀ m ∈ ap f st n, 0 ≤ m ∧ m ≤ B := fun m hm => by
  obtain ⟨k, hk, rfl⟩ := List.mem_map.mp hm
  have hk := List.mem_range.mp hk
  have h1 : 0 ≤ st * (k : Int) := Int.mul_nonneg hs (by omega)
  have h2 : st * (k : Int) ≤ st * (n : Int) := Int.mul_le_mul_of_nonneg_left (by omega) hs
  exact ⟨by omega, by omega⟩
def dueD (g : List Stt) : PyData := if 60 < g.length then .list [.int 60] else logD g
end Lg

namespace Lg
open PySem PySem.Spec PyProof.Rows L2 Lm
/-! ### runs that grow -/
def endL : Int → List Run → Int
  | b, [] => b
  | _, r :: rs => endL (lastM r) rs
theorem runsUp_snoc : ∀ {b : Int} {rs : List Run} {x : Run}, RunsUp b rs → endL b rs < x.1 → 1 ≤ x.2.1 → 1 ≤ x.2.2 → RunsUp b (rs ++ [x]) ∧ endL b (rs ++ [x]) = lastM x
  | _, [], _, _, h, h1, h2 => ⟨⟨h, h1, h2, trivial⟩, rfl⟩
  | _, r :: rs, x, ⟨u1, u2, u3, u4⟩, h, h1, h2 => by
    obtain ⟨i1, i2⟩ := runsUp_snoc (b := lastM r) u4 h h1 h2
    exact ⟨⟨u1, u2, u3, i1⟩, i2⟩
theorem spread_bd {rs : List Run} (h : ∀ r ∈ rs, RunOk r) : ∀ m ∈ spreadAll rs, 0 ≤ m ∧ m ≤ 1000000000 := fun m hm => by
  obtain ⟨r, hr, hx⟩ := List.mem_flatMap.mp hm
  obtain ⟨k, hk, rfl⟩ := List.mem_map.mp hx
  have hk := List.mem_range.mp hk
  obtain ⟨⟨f0, f1⟩, ⟨s0, s1⟩, ⟨c0, c1⟩, hl⟩ := h r hr
  unfold lastM at hl
  have h1 : 0 ≤ r.2.1 * (k : Int) := Int.mul_nonneg (by omega) (by omega)
  have h2 : r.2.1 * (k : Int) ≤ r.2.1 * (r.2.2 - 1) := Int.mul_le_mul_of_nonneg_left (by omega) (by omega)
  exact ⟨by omega, by omega⟩
/-! ### put: joined, but never more than 61 -/
def putR : List Stt → Stt → List Stt
  | [], p => [p]
  | q :: r, p => if p.1 ≤ q.2 then (q.1, if p.2 < q.2 then q.2 else p.2) :: r else if (q :: r).length < 61 then p :: q :: r else q :: r
theorem put_eq {qs : List Stt} {p : Stt} (h : qs.length < 61) : putR qs p = joinS qs p := by
  cases qs with
  | nil => rfl
  | cons q r =>
    simp only [putR, joinS]
    rw [if_pos h]
    split
    · congr 2
      split <;> split <;> omega
    · rfl
theorem put_len (qs : List Stt) (p : Stt) : qs.length ≤ (putR qs p).length ∧ 1 ≤ (putR qs p).length := by
  cases qs with
  | nil => simp [putR]
  | cons q r =>
    simp only [putR]
    split
    · simp
    · split <;> simp
theorem put_max (qs : List Stt) (p : Stt) (h : qs.length ≤ 61) : (putR qs p).length ≤ 61 := by
  cases qs with
  | nil => simp [putR]
  | cons q r =>
    simp only [putR]
    split
    · simpa using h
    · split
      · simp only [List.length_cons] at *; omega
      · exact h
theorem put_rel {F qs : List Stt} {p : Stt} (h : Rel60 F qs) : Rel60 (joinS F p) (putR qs p) := by
  rcases h with rfl | ⟨h1, h2⟩
  · by_cases g : F.length < 61
    · exact .inl (put_eq g).symm
    · exact .inr ⟨Nat.lt_of_lt_of_le (by omega) (joinS_len _ _).1, Nat.lt_of_lt_of_le (by omega) (put_len _ _).1⟩
  · exact .inr ⟨Nat.lt_of_lt_of_le h1 (joinS_len _ _).1, Nat.lt_of_lt_of_le h2 (put_len _ _).1⟩
/-- what the hold lamps have of the runs so far -/
def heldB (s : Int) (rs : List Run) : List Stt := (spreadAll rs).foldl (stepL true s) []
theorem held_snoc (s : Int) (rs : List Run) (r : Run) : heldB s (rs ++ [r]) = (ap r.1 r.2.1 r.2.2.toNat).foldl (stepL true s) (heldB s rs) := by
  unfold heldB
  rw [spread_snoc, List.foldl_append]
def pulB (s : Int) (rs : List Run) : List Stt := (spreadAll rs).foldl (stepL false s) []
theorem pul_snoc (s : Int) (rs : List Run) (r : Run) : pulB s (rs ++ [r]) = (ap r.1 r.2.1 r.2.2.toNat).foldl (stepL false s) (pulB s rs) := by
  unfold pulB
  rw [spread_snoc, List.foldl_append]
/-- the next run of hold lamps -/
theorem held_run {s b f st c : Int} {rs : List Run} (hs : 1 ≤ s) (hb : HeadB (heldB s rs) (b + s)) (h1 : b < f) (h2 : 1 ≤ st) (h3 : 1 ≤ c) :
    heldB s (rs ++ [(f, st, c)]) = (pcs s f st c.toNat).foldl joinS (heldB s rs) ∧ HeadB (heldB s (rs ++ [(f, st, c)])) (lastM (f, st, c) + s) ∧ (st ≤ s → heldB s (rs ++ [(f, st, c)]) = joinS (heldB s rs) (f, f + st * (c - 1) + s)) ∧
    (s < st → ∀ n : Nat, 62 ≤ n → 60 < ((pcs s f st n).foldl joinS (heldB s rs)).length) := by
  rw [held_snoc]
  generalize heldB s rs = acc at hb
  have hb' : HeadB acc (f + s) := fun q hq => by have := hb q hq; omega
  obtain ⟨e1, e2⟩ := runH hs h2 hb' c.toNat
  obtain ⟨n, hn⟩ : ∃ n : Nat, c.toNat = n + 1 := ⟨c.toNat - 1, by omega⟩
  have hc : c - 1 = (n : Int) := by omega
  show (ap f st c.toNat).foldl _ _ = _ ∧ HeadB ((ap f st c.toNat).foldl _ _) _ ∧ (_ → (ap f st c.toNat).foldl _ _ = _) ∧ _
  rw [e1]
  refine ⟨rfl, ?_, fun h => ?_, fun h m hm => ?_⟩
  · rw [hn]
    refine headB_off ?_
    rw [offFold hs h2 hb' n]
    unfold lastM
    show f + st * (n : Int) + s ≤ f + st * (c - 1) + s
    rw [hc]
    exact Int.le_refl _
  · rw [hn, touch hs h2 h hb' n, hc]
  · obtain ⟨m, rfl⟩ : ∃ k, m = k + 1 := ⟨m - 1, by omega⟩
    obtain ⟨i1, i2, _⟩ := apart_len (f := f) hs h m acc hb'
    cases acc with
    | nil => have := i2 rfl; omega
    | cons q r => simp only [List.length_cons] at i1; omega
/-! ### numbers of whole steps -/
theorem rup_uniq {x b q : Int} (hx : 0 ≤ x) (hb : 1 ≤ b) (h1 : x ≤ b * q) (h2 : b * q < x + b) : rup x b = q := by
  obtain ⟨_, r1, r2⟩ := rup_spec hx hb
  generalize rup x b = z at r1 r2
  have a1 : b * z - b * q < b := by omega
  have a2 : b * q - b * z < b := by omega
  rw [← Int.mul_sub] at a1 a2
  have : ∀ t : Int, b * t < b → t < 1 := fun t ht => by
    by_cases h : t < 1
    · exact h
    · have : b * 1 ≤ b * t := Int.mul_le_mul_of_nonneg_left (by omega) (by omega)
      omega
  have t1 := this _ a1
  have t2 := this _ a2
  omega
theorem neg_fdiv {x b : Int} (hb : 1 ≤ b) : x ≤ b * -((-x).fdiv b) ∧ b * -((-x).fdiv b) < x + b := by
  rw [Int.fdiv_eq_ediv_of_nonneg _ (by omega)]
  have h1 : b * (-x / b) ≤ -x := Int.mul_ediv_self_le (by omega)
  have h2 : -x < (-x / b + 1) * b := Int.lt_ediv_add_one_mul_self _ (by omega)
  rw [Int.add_mul, Int.one_mul, Int.mul_comm] at h2
  rw [Int.mul_neg]
  omega
theorem neg_fdiv_uniq {x b q : Int} (hb : 1 ≤ b) (h1 : x ≤ b * q) (h2 : b * q < x + b) : -((-x).fdiv b) = q := by
  obtain ⟨r1, r2⟩ := neg_fdiv (x := x) hb
  generalize -((-x).fdiv b) = z at r1 r2
  have a1 : b * z - b * q < b := by omega
  have a2 : b * q - b * z < b := by omega
  rw [← Int.mul_sub] at a1 a2
  have : ∀ t : Int, b * t < b → t < 1 := fun t ht => by
    by_cases h : t < 1
    · exact h
    · have : b * 1 ≤ b * t := Int.mul_le_mul_of_nonneg_left (by omega) (by omega)
      omega
  have t1 := this _ a1
  have t2 := this _ a2
  omega
end Lg

namespace Lg
open PySem PySem.Spec PyProof.Rows L2 Lm
/-- how many stays a light goes on for -/
def sizeP (s st c k : Int) : Int := if st ≤ s ∧ s.fmod st = 0 then 1 + (c - 1 - k).fdiv (s.fdiv st) else 1
def PL (s f st c : Int) (F : List Stt) (k dark : Int) (qs : List Stt) : Prop :=
  let u := lightU (offOf F) (f, st, c)
  let R := lightR s (offOf F) (f, st, c)
  (k = u ∧ qs = F ∧ dark = offOf F) ∨ (u < c ∧ ∃ j : Nat, 1 ≤ j ∧ (j : Int) ≤ R.2.2 ∧ k = u + rup s st * (j : Int) ∧ qs = (pcs s R.1 R.2.1 j).foldl joinS F ∧ dark = R.1 + R.2.1 * ((j : Int) - 1) + s ∧ (st ≤ s ∧ s.fmod st = 0 → (j : Int) = R.2.2))
section
variable {s f st c : Int} {F qs : List Stt} {k dark : Int}
theorem light_nn (hst : 1 ≤ st) : 0 ≤ lightU (offOf F) (f, st, c) ∧ offOf F ≤ f + st * lightU (offOf F) (f, st, c) := by
  have gn : 0 ≤ (if offOf F - f > 0 then offOf F - f else 0) := by split <;> omega
  obtain ⟨u0, u1, u2⟩ := rup_spec gn hst
  have hU : lightU (offOf F) (f, st, c) = rup (if offOf F - f > 0 then offOf F - f else 0) st := rfl
  rw [hU]
  refine ⟨u0, ?_⟩
  split at u1 <;> split <;> omega
/-- where the walk over a run begins -/
theorem light_start (hst : 1 ≤ st) : lightU (offOf F) (f, st, c) = if f < offOf F then (if (0 : Int) < -((f - offOf F).fdiv st) then -((f - offOf F).fdiv st) else 0) else 0 := by
  have hU : lightU (offOf F) (f, st, c) = rup (if offOf F - f > 0 then offOf F - f else 0) st := rfl
  rw [hU]
  by_cases h : f < offOf F
  · rw [if_pos h, if_pos (by omega)]
    obtain ⟨n1, n2⟩ := neg_fdiv (x := offOf F - f) hst
    rw [show -(offOf F - f) = f - offOf F by omega] at n1 n2
    have e := rup_uniq (x := offOf F - f) (by omega) hst n1 n2
    rw [e]
    have p : 0 < -((f - offOf F).fdiv st) := by
      apply Classical.byContradiction
      intro z
      have := Int.mul_le_mul_of_nonneg_left (show -((f - offOf F).fdiv st) ≤ 0 by omega) (show 0 ≤ st by omega)
      rw [Int.mul_zero] at this
      omega
    rw [if_pos p]
  · rw [if_neg h, if_neg (by omega)]
    exact rup_uniq (Int.le_refl _) hst (by simp) (by simp; omega)
theorem pl_start (hst : 1 ≤ st) : PL s f st c F (lightU (offOf F) (f, st, c)) (offOf F) F := .inl ⟨rfl, rfl, rfl⟩
theorem pl_step (hs : 1 ≤ s) (hst : 1 ≤ st) (hf : 0 ≤ f) (hc : 1 ≤ c) (h : PL s f st c F k dark qs) (hk : k < c) (hl : qs.length < 61) :
    PL s f st c F (-((f - (f + st * k + s * sizeP s st c k)).fdiv st)) (f + st * k + s * sizeP s st c k) (putR qs (f + st * k, f + st * k + s * sizeP s st c k)) ∧ k < -((f - (f + st * k + s * sizeP s st c k)).fdiv st) := by
  rw [put_eq hl]
  obtain ⟨a0, a1, a2⟩ := rup_spec (n := s) (by omega) hst
  obtain ⟨u0, u1⟩ := light_nn (F := F) (f := f) (c := c) hst
  have hR : lightR s (offOf F) (f, st, c) = (f + st * lightU (offOf F) (f, st, c), st * rup s st, rup (c - lightU (offOf F) (f, st, c)) (rup s st)) := rfl
  unfold PL at h ⊢
  rw [hR] at h ⊢
  dsimp only at h ⊢
  generalize lightU (offOf F) (f, st, c) = u at h u0 u1 ⊢
  have a1' : 1 ≤ rup s st := by
    apply Classical.byContradiction
    intro z
    have := Int.mul_le_mul_of_nonneg_left (show rup s st ≤ 0 by omega) (show 0 ≤ st by omega)
    rw [Int.mul_zero] at this
    omega
  have uc : u < c := by
    rcases h with ⟨rfl, _, _⟩ | ⟨h, _⟩
    · exact hk
    · exact h
  obtain ⟨n0, n1, n2⟩ := rup_spec (n := c - u) (b := rup s st) (by omega) a1'
  have div : st ≤ s ∧ s.fmod st = 0 → s.fdiv st = rup s st ∧ st * rup s st = s := fun ⟨_, d2⟩ => by
    have e : s = st * (s.fdiv st) := by
      have := Int.mul_fdiv_add_fmod s st
      omega
    have e2 : rup s st = s.fdiv st := rup_uniq (by omega) hst (by omega) (by omega)
    exact ⟨e2.symm, by rw [e2]; exact e.symm⟩
  -- the number of the light under way
  obtain ⟨j, hj, ek, eq, ed⟩ : ∃ j : Nat, (j : Int) < rup (c - u) (rup s st) ∧ k = u + rup s st * (j : Int) ∧ qs = (pcs s (f + st * u) (st * rup s st) j).foldl joinS F ∧ (st ≤ s ∧ s.fmod st = 0 → j = 0) := by
    have lt : ∀ j : Nat, u + rup s st * (j : Int) < c → (j : Int) < rup (c - u) (rup s st) := fun j hj => by
      apply Classical.byContradiction
      intro z
      have := Int.mul_le_mul_of_nonneg_left (show rup (c - u) (rup s st) ≤ (j : Int) by omega) (show 0 ≤ rup s st by omega)
      omega
    rcases h with ⟨rfl, rfl, _⟩ | ⟨_, j, j1, j2, rfl, rfl, _, j3⟩
    · exact ⟨0, lt 0 (by simpa using hk), by simp, rfl, fun _ => rfl⟩
    · refine ⟨j, lt j hk, rfl, rfl, fun d => ?_⟩
      have e := j3 d
      have := lt j hk
      omega
  have here : f + st * k = f + st * u + st * rup s st * (j : Int) := by
    rw [ek, Int.mul_add, Int.mul_assoc]
    omega
  by_cases d : st ≤ s ∧ s.fmod st = 0
  · obtain ⟨d1, d2⟩ := div d
    obtain rfl := ed d
    have ek : k = u := by rw [ek]; simp
    have esz : sizeP s st c k = rup (c - u) (rup s st) := by
      unfold sizeP
      rw [if_pos d, d1, ek]
      symm
      refine rup_uniq (by omega) a1' ?_ ?_
      · have := Int.lt_ediv_add_one_mul_self (c - 1 - u) (show 0 < rup s st by omega)
        rw [Int.fdiv_eq_ediv_of_nonneg _ (by omega), Int.mul_add, Int.mul_one]
        rw [Int.add_mul, Int.one_mul, Int.mul_comm] at this
        omega
      · have := Int.mul_ediv_self_le (x := c - 1 - u) (show rup s st ≠ 0 by omega)
        rw [Int.fdiv_eq_ediv_of_nonneg _ (by omega), Int.mul_add, Int.mul_one]
        omega
    rw [esz]
    obtain ⟨m, hm⟩ : ∃ m : Nat, rup (c - u) (rup s st) = ((m + 1 : Nat) : Int) := ⟨(rup (c - u) (rup s st)).toNat - 1, by omega⟩
    rw [hm] at n1 n2 ⊢
    have tch := touch (s := s) (f := f + st * u) (st := s) (acc := F) hs hs (Int.le_refl _) (headB_off (by omega)) m
    have e1 : s * ((m + 1 : Nat) : Int) = s * (m : Int) + s := by rw [show ((m + 1 : Nat) : Int) = (m : Int) + 1 by omega, Int.mul_add, Int.mul_one]
    have kq : -((f - (f + st * k + s * ((m + 1 : Nat) : Int))).fdiv st) = u + rup s st * ((m + 1 : Nat) : Int) := by
      rw [show f - (f + st * k + s * ((m + 1 : Nat) : Int)) = -(st * k + s * ((m + 1 : Nat) : Int)) by omega]
      have e3 : st * (u + rup s st * ((m + 1 : Nat) : Int)) = st * k + s * ((m + 1 : Nat) : Int) := by rw [Int.mul_add, ← Int.mul_assoc, d2, ek]
      exact neg_fdiv_uniq hst (by omega) (by omega)
    have pos : 0 < rup s st * ((m + 1 : Nat) : Int) := Int.mul_pos (by omega) (by omega)
    rw [kq]
    refine ⟨.inr ⟨uc, m + 1, by omega, Int.le_refl _, rfl, ?_, ?_, fun _ => rfl⟩, by omega⟩
    · rw [d2, tch, eq, ek, e1]
      show joinS F _ = joinS F _
      congr 2
      omega
    · rw [d2, ek, e1, show ((m + 1 : Nat) : Int) - 1 = (m : Int) by omega]
      omega
  · have esz : sizeP s st c k = 1 := if_neg d
    rw [esz, Int.mul_one]
    have kq : -((f - (f + st * k + s)).fdiv st) = u + rup s st * ((j + 1 : Nat) : Int) := by
      rw [show f - (f + st * k + s) = -(st * k + s) by omega]
      have e3 : u + rup s st * ((j + 1 : Nat) : Int) = k + rup s st := by rw [ek, show ((j + 1 : Nat) : Int) = (j : Int) + 1 by omega, Int.mul_add, Int.mul_one]; omega
      rw [e3]
      refine neg_fdiv_uniq hst ?_ ?_
      · rw [Int.mul_add]; omega
      · rw [Int.mul_add]; omega
    rw [kq]
    refine ⟨.inr ⟨uc, j + 1, by omega, by omega, rfl, ?_, ?_, fun z => absurd z d⟩, ?_⟩
    · rw [pcs_succ, List.foldl_append, eq, here]
      rfl
    · rw [here, show ((j + 1 : Nat) : Int) - 1 = (j : Int) by omega]
    · rw [ek, show ((j + 1 : Nat) : Int) = (j : Int) + 1 by omega, Int.mul_add, Int.mul_one]
      omega
theorem pcs_le {s f st : Int} {F : List Stt} {i j : Nat} (h : i ≤ j) : ((pcs s f st i).foldl joinS F).length ≤ ((pcs s f st j).foldl joinS F).length := by
  induction j with
  | zero => obtain rfl : i = 0 := by omega
            exact Nat.le_refl _
  | succ j ih =>
    rcases (show i ≤ j ∨ i = j + 1 by omega) with e | e
    · refine Nat.le_trans (ih e) ?_
      rw [pcs_succ, List.foldl_append]
      exact joinS_fold_len _ _
    · rw [e]; exact Nat.le_refl _
/-- where the walk over a run ends -/
theorem pl_end {rs : List Run} (hs : 1 ≤ s) (hst : 1 ≤ st) (hf : 0 ≤ f) (hc : 1 ≤ c) (h : PL s f st c (pulB s rs) k dark qs) (hx : ¬ k < c ∨ 61 ≤ qs.length) :
    (pulB s (rs ++ [(f, st, c)]) = qs ∧ dark = offOf (pulB s (rs ++ [(f, st, c)]))) ∨ (60 < (pulB s (rs ++ [(f, st, c)])).length ∧ 60 < qs.length) := by
  rw [pul_snoc]
  generalize pulB s rs = F at h
  obtain ⟨L1, L0⟩ := light_run (s := s) (r := (f, st, c)) (acc := F) hs hf hst hc
  have mono : F.length ≤ ((ap f st c.toNat).foldl (stepL false s) F).length := stepL_fold_len _ _ _ _
  show ((ap f st c.toNat).foldl (stepL false s) F = qs ∧ dark = offOf ((ap f st c.toNat).foldl (stepL false s) F)) ∨ (60 < ((ap f st c.toNat).foldl (stepL false s) F).length ∧ _)
  have L1 : lightU (offOf F) (f, st, c) < c → (ap f st c.toNat).foldl (stepL false s) F = _ ∧ _ := L1
  have L0 : ¬ lightU (offOf F) (f, st, c) < c → (ap f st c.toNat).foldl (stepL false s) F = F := L0
  rcases h with ⟨rfl, rfl, rfl⟩ | ⟨uc, j, j1, j2, rfl, rfl, rfl, j3⟩
  · rcases hx with hx | hx
    · rw [L0 hx]
      exact .inl ⟨rfl, rfl⟩
    · exact .inr ⟨by omega, by omega⟩
  · obtain ⟨e1, e2, e3, e4, e5, e6⟩ := L1 uc
    rw [e1]
    rcases hx with hx | hx
    · have hR : lightR s (offOf F) (f, st, c) = (f + st * lightU (offOf F) (f, st, c), st * rup s st, rup (c - lightU (offOf F) (f, st, c)) (rup s st)) := rfl
      have a1' : 1 ≤ rup s st := rup_one hs hst
      obtain ⟨n0, n1, n2⟩ := rup_spec (n := c - lightU (offOf F) (f, st, c)) (b := rup s st) (by omega) a1'
      have ej : (j : Int) = (lightR s (offOf F) (f, st, c)).2.2 := by
        apply Classical.byContradiction
        intro z
        rw [hR] at j2 z
        dsimp only at j2 z
        have := Int.mul_le_mul_of_nonneg_left (show (j : Int) ≤ rup (c - lightU (offOf F) (f, st, c)) (rup s st) - 1 by omega) (show 0 ≤ rup s st by omega)
        rw [Int.mul_sub, Int.mul_one] at this
        omega
      have ejn : (lightR s (offOf F) (f, st, c)).2.2.toNat = j := by omega
      refine .inl ⟨by rw [ejn], ?_⟩
      rw [e6]
      unfold lastM
      rw [← ej]
    · refine .inr ⟨?_, by omega⟩
      refine Nat.lt_of_lt_of_le (show 60 < _ from hx) (pcs_le (by omega))
end
end Lg

namespace Lg
open PySem PySem.Spec PyProof.Rows L2 Lm
def sp_farP (K : PySem.W.Frag) : Sp := fun vs H Q _ => ∃ (Z : Hp) (p dl al : Addr) (u : Int), vs = [.ref p, .int u] ∧ Iv (pot p dl al) Z 0 H ∧ 0 ≤ u ∧ u ≤ 60 ∧
  ∀ (x : V) (H' : Hp) (rs : List Run), Iv (pot p dl al) Z 0 H' → Kp (pot p dl al) Z H H' → Dq K (hid (pot p dl al) Z H') x (runsD rs) → RunsUp (-1) rs → rs.length ≤ 60 → (∀ r ∈ rs, RunOk r) → Q x H'
def logL (qs : List Stt) : PyData := .list (qs.reverse.map pD)
/-- a list of pairs that stands by itself, its end first -/
def LL (K : PySem.W.Frag) (G : Hp) (a : Addr) (qs : List Stt) : Prop := ∃ xs, G a = some (.lst xs) ∧ Dqs K G xs (qs.reverse.map pD)
theorem LL.mono {K : PySem.W.Frag} {G G' : Hp} {a : Addr} {qs : List Stt} (s : Same G G') (h : LL K G a qs) : LL K G' a qs := let ⟨xs, e, d⟩ := h; ⟨xs, s _ _ e, d.mono s⟩
theorem LL.dq {K : PySem.W.Frag} {G : Hp} {a : Addr} {qs : List Stt} (h : LL K G a qs) : Dq K G (.ref a) (logL qs) := let ⟨_, e, d⟩ := h; .lst (.inl (.inl e)) d
def sp_put (K : PySem.W.Frag) : Sp := fun vs H Q _ => ∃ (N : Addr → Prop) (a : Addr) (qs : List Stt) (p : Stt), vs = [.ref a, .int p.1, .int p.2] ∧ Occ N H ∧ LL K (cut N H) a qs ∧ qs.length ≤ 61 ∧
  ∀ (r : Addr) (H' : Hp), Same H H' → LL K (cut N H') r (putR qs p) → Q (.ref r) H'
def sp_back (K : PySem.W.Frag) (B : Int → List Run → List Stt) : Sp := fun vs H Q _ => ∃ (N : Addr → Prop) (s : Int) (rs : List Run), Occ N H ∧ Dqs K (cut N H) vs [.int s, runsD rs] ∧ 1 ≤ s ∧ s ≤ 1000000000 ∧ rs.length ≤ 400 ∧ (∀ r ∈ rs, RunOk r) ∧ RunsUp (-1) rs ∧
  ∀ (r : Addr) (H' : Hp) (qs : List Stt), Same H H' → LL K (cut N H') r qs → qs.length ≤ 61 → Rel60 (B s rs) qs → Q (.ref r) H'
abbrev sp_held (K : PySem.W.Frag) : Sp := sp_back K heldB
abbrev sp_pulsed (K : PySem.W.Frag) : Sp := sp_back K pulB
theorem drop_get {α : Type} {xs : List α} {i : Nat} {x : α} (h : xs[i]? = some x) : xs.drop i = x :: xs.drop (i + 1) := by
  obtain ⟨hi, rfl⟩ := List.getElem?_eq_some_iff.mp h
  exact List.drop_eq_getElem_cons hi
theorem take_snoc {α : Type} {xs : List α} {i : Nat} {x : α} (h : xs[i]? = some x) : xs.take (i + 1) = xs.take i ++ [x] := by
  rw [List.take_add_one, h]
  rfl
theorem cutV_init {xs : List V} {v : V} : cutV (xs ++ [v]) none (some (-1)) = xs := by
  unfold cutV
  rw [HT.sIx_none, List.drop_zero, Nat.sub_zero]
  have e : HT.sIx (xs ++ [v]).length (xs ++ [v]).length (some (-1)) = xs.length := by
    unfold HT.sIx
    simp
    try omega
  rw [e]
  simp
theorem call_lenK {X : Cx} {K : PySem.W.Frag} (h : X.K = K) : CallR X (.builtin "len") (fun xs H Q => ∃ p ys, xs = [.ref p] ∧ (SqL K H p ys ∨ SqT K H p ys) ∧ Q (.int ys.length) H) := h ▸ call_len_seq
theorem call_tupleK {X : Cx} {K : PySem.W.Frag} (h : X.K = K) : CallR X (.type "tuple") (fun xs H Q => ∃ p ys, xs = [.ref p] ∧ ((SqL K H p ys ∧ ∀ l, H l = none → Q (.ref l) (upd H l (.tup ys))) ∨ (SqT K H p ys ∧ Q (.ref p) H))) := h ▸ call_tuple_of
/-- the booked answer, once the runs were walked -/
theorem told_due {l : Lamp} {rs : List Run} {qs : List Stt} (hs : 1 ≤ l.2) (hr : RunsUp (-1) rs) (h : Rel60 ((spreadAll rs).foldl (stepL l.1 l.2) []) qs) : toldD l rs = dueD qs.reverse ∧ (qs.length ≤ 60 → qs.reverse = logF l (spreadAll rs)) := by
  have e : logF l (spreadAll rs) = ((spreadAll rs).foldl (stepL l.1 l.2) []).reverse := rfl
  rcases h with h | ⟨h1, h2⟩
  · have e2 : qs.reverse = logF l (spreadAll rs) := by rw [e, h]
    refine ⟨?_, fun _ => e2⟩
    rw [e2]
    unfold dueD
    by_cases g : 60 < (logF l (spreadAll rs)).length
    · rw [if_pos g]; exact told_big hs hr g
    · rw [if_neg g]; exact told_small hs hr (by omega)
  · refine ⟨?_, fun z => by omega⟩
    unfold dueD
    rw [if_pos (by rw [List.length_reverse]; exact h2)]
    exact told_big hs hr (by rw [e, List.length_reverse]; exact h1)
section
variable {K : PySem.W.Frag} {Z H0 : Hp} {p dl al : Addr} {σ : L2.St} {tg : TE} {n : Nat}
theorem ev_lampStay {i : Nat} (e : σ[i]? = some (some (.ref p))) (h : Ev (pot p dl al) Z n H0 σ tg (IR 1 1000000000)) : Ev (pot p dl al) Z n H0 σ (tOp (rIxT K) (tCall (sp_lampP K) [] E0 (tCons (tVar i) (tCons tg tNil))) (tC (.int 1))) (IR 1 1000000000) :=
  fun H b Q P k q => ⟨_, e, h H b _ P k fun v H1 P1 k1 ⟨g, eg, g1, g2⟩ => ⟨Z, p, dl, al, g, by rw [eg]; rfl, P1.less (Nat.zero_le _), g1, g2, fun x H' l P' k' d' l1 l2 => by
    obtain ⟨a1, rfl, ga⟩ := dq_lamp d'
    exact ⟨a1, _, 1, .int l.2, rfl, rfl, Same.seqT hid_same ga, atI_nat (j := 1) rfl, q _ _ ⟨P'.src, P'.zz, P'.zo⟩ (k1.trans k') ⟨l.2, rfl, l1, l2⟩⟩⟩⟩
end
theorem due_sm {l : Lamp} {rs : List Run} {qs : List Stt} (hs : 1 ≤ l.2 ∧ l.2 ≤ 1000000000) (hr : RunsUp (-1) rs) (ok : ∀ r ∈ rs, RunOk r) (h : Rel60 ((spreadAll rs).foldl (stepL l.1 l.2) []) qs) : Sm 2103 2 (dueD qs.reverse) := by
  unfold dueD
  by_cases g : 60 < qs.reverse.length
  · rw [if_pos g]
    exact (Sm.list (c := 1) (n := 13) (k := 0) (ds := [.int 60]) (fun d hd => by rw [List.mem_singleton.mp hd]; exact Sm.int (by decide)) (Nat.le_refl _)).wide (by decide) (by decide)
  · rw [if_neg g]
    rw [List.length_reverse] at g
    have e := (told_due hs.1 hr h).2 (by omega)
    rw [e]
    refine logF_sm ⟨by omega, hs.2⟩ (B := 1000000000) (Int.le_refl _) (spread_bd ok) ?_
    rw [← e, List.length_reverse]
    omega
end Lg

namespace Lg
open PySem PySem.Spec PyProof.Rows L2 Lm
def topS (i : Nat) : Stmt := PySem.Challenge.pw_lampstays_k05_far_logs.main.body.getD i (.Pass ⟨0, 0, 0, 0⟩)
abbrev s_last_minute : Stmt := topS 2
abbrev n_last_minute : List Str := ["run", "first", "step", "count"]
theorem sc_last_minute : FnScope n_last_minute ["run"] (defScope s_last_minute) := ⟨rfl, rfl, rfl, by decide +kernel, rfl, by decide +kernel, by decide +kernel⟩
abbrev s_log_of : Stmt := topS 9
abbrev n_log_of : List Str := ["lamp", "motions", "kind", "stay", "lighting", "pieces", "run"]
theorem sc_log_of : FnScope n_log_of ["lamp", "motions"] (defScope s_log_of) := ⟨rfl, rfl, rfl, by decide +kernel, rfl, by decide +kernel, by decide +kernel⟩
abbrev s_lighting_runs : Stmt := topS 10
abbrev n_lighting_runs : List Str := ["stay", "motions", "found", "off", "first", "step", "count", "unseen", "apart", "run"]
theorem sc_lighting_runs : FnScope n_lighting_runs ["stay", "motions"] (defScope s_lighting_runs) := ⟨rfl, rfl, rfl, by decide +kernel, rfl, by decide +kernel, by decide +kernel⟩
abbrev s_rounded_up : Stmt := topS 11
abbrev n_rounded_up : List Str := ["number", "by"]
theorem sc_rounded_up : FnScope n_rounded_up ["number", "by"] (defScope s_rounded_up) := ⟨rfl, rfl, rfl, by decide +kernel, rfl, by decide +kernel, by decide +kernel⟩
abbrev s_lit_pieces : Stmt := topS 12
abbrev n_lit_pieces : List Str := ["stay", "run", "first", "step", "count", "shown", "at"]
theorem sc_lit_pieces : FnScope n_lit_pieces ["stay", "run"] (defScope s_lit_pieces) := ⟨rfl, rfl, rfl, by decide +kernel, rfl, by decide +kernel, by decide +kernel⟩
abbrev s_joined : Stmt := topS 13
abbrev n_joined : List Str := ["pieces", "stretches", "on", "off", "begin", "end"]
theorem sc_joined : FnScope n_joined ["pieces"] (defScope s_joined) := ⟨rfl, rfl, rfl, by decide +kernel, rfl, by decide +kernel, by decide +kernel⟩
abbrev s_at_most : Stmt := topS 14
abbrev n_at_most : List Str := ["limit", "parts"]
theorem sc_at_most : FnScope n_at_most ["limit", "parts"] (defScope s_at_most) := ⟨rfl, rfl, rfl, by decide +kernel, rfl, by decide +kernel, by decide +kernel⟩
abbrev s_l_opened : Stmt := topS 16
abbrev n_l_opened : List Str := ["script", "cell", "cells"]
theorem sc_l_opened : FnScope n_l_opened ["script"] (defScope s_l_opened) := ⟨rfl, rfl, rfl, by decide +kernel, rfl, by decide +kernel, by decide +kernel⟩
abbrev s_l_draw : Stmt := topS 17
abbrev n_l_draw : List Str := ["pot", "many", "rest", "times", "cells", "seed"]
theorem sc_l_draw : FnScope n_l_draw ["pot", "many"] (defScope s_l_draw) := ⟨rfl, rfl, rfl, by decide +kernel, rfl, by decide +kernel, by decide +kernel⟩
abbrev s_l_one : Stmt := topS 18
abbrev n_l_one : List Str := ["pot", "items"]
theorem sc_l_one : FnScope n_l_one ["pot", "items"] (defScope s_l_one) := ⟨rfl, rfl, rfl, by decide +kernel, rfl, by decide +kernel, by decide +kernel⟩
abbrev s_l_lamp : Stmt := topS 19
abbrev n_l_lamp : List Str := ["pot", "great", "stay"]
theorem sc_l_lamp : FnScope n_l_lamp ["pot", "great"] (defScope s_l_lamp) := ⟨rfl, rfl, rfl, by decide +kernel, rfl, by decide +kernel, by decide +kernel⟩
abbrev s_l_far_runs : Stmt := topS 20
abbrev n_l_far_runs : List Str := ["pot", "upto", "found", "here", "most", "k", "step", "count", "pause"]
theorem sc_l_far_runs : FnScope n_l_far_runs ["pot", "upto"] (defScope s_l_far_runs) := ⟨rfl, rfl, rfl, by decide +kernel, rfl, by decide +kernel, by decide +kernel⟩
abbrev s_l_told : Stmt := topS 21
abbrev n_l_told : List Str := ["lamp", "runs", "found", "error"]
theorem sc_l_told : FnScope n_l_told ["lamp", "runs"] (defScope s_l_told) := ⟨rfl, rfl, rfl, by decide +kernel, rfl, by decide +kernel, by decide +kernel⟩
abbrev s_l_put : Stmt := topS 22
abbrev n_l_put : List Str := ["log", "on", "off"]
theorem sc_l_put : FnScope n_l_put ["log", "on", "off"] (defScope s_l_put) := ⟨rfl, rfl, rfl, by decide +kernel, rfl, by decide +kernel, by decide +kernel⟩
abbrev s_l_held : Stmt := topS 23
abbrev n_l_held : List Str := ["stay", "runs", "log", "first", "step", "count", "k", "here"]
theorem sc_l_held : FnScope n_l_held ["stay", "runs"] (defScope s_l_held) := ⟨rfl, rfl, rfl, by decide +kernel, rfl, by decide +kernel, by decide +kernel⟩
abbrev s_l_pulsed : Stmt := topS 24
abbrev n_l_pulsed : List Str := ["stay", "runs", "log", "dark", "first", "step", "count", "k", "here", "size"]
theorem sc_l_pulsed : FnScope n_l_pulsed ["stay", "runs"] (defScope s_l_pulsed) := ⟨rfl, rfl, rfl, by decide +kernel, rfl, by decide +kernel, by decide +kernel⟩
abbrev s_law : Stmt := topS 25
abbrev n_law : List Str := ["script", "pot", "turn", "runs", "stay", "due", "log", "kind"]
theorem sc_law : FnScope n_law ["script"] (defScope s_law) := ⟨rfl, rfl, rfl, by decide +kernel, rfl, by decide +kernel, by decide +kernel⟩
abbrev s_X_BadLog : Stmt := inClass (topS 5) 0
abbrev n_X_BadLog : List Str := ["self", "error"]
theorem sc_X_BadLog : FnScope n_X_BadLog ["self", "error"] (defScope s_X_BadLog) := ⟨rfl, rfl, rfl, by decide +kernel, rfl, by decide +kernel, by decide +kernel⟩
abbrev s_X_TooLarge : Stmt := inClass (topS 6) 0
abbrev n_X_TooLarge : List Str := ["self", "limit"]
theorem sc_X_TooLarge : FnScope n_X_TooLarge ["self", "limit"] (defScope s_X_TooLarge) := ⟨rfl, rfl, rfl, by decide +kernel, rfl, by decide +kernel, by decide +kernel⟩
abbrev s_X_TooMany : Stmt := inClass (topS 7) 0
abbrev n_X_TooMany : List Str := ["self", "limit"]
theorem sc_X_TooMany : FnScope n_X_TooMany ["self", "limit"] (defScope s_X_TooMany) := ⟨rfl, rfl, rfl, by decide +kernel, rfl, by decide +kernel, by decide +kernel⟩
structure All (K : PySem.W.Frag) (mg : Str → Option Value) where
  f_last_minute : Addr
  fd_last_minute : FuncData
  D_last_minute : Def K mg "last_minute" s_last_minute ["run"] f_last_minute fd_last_minute
  f_log_of : Addr
  fd_log_of : FuncData
  D_log_of : Def K mg "log_of" s_log_of ["lamp", "motions"] f_log_of fd_log_of
  f_lighting_runs : Addr
  fd_lighting_runs : FuncData
  D_lighting_runs : Def K mg "lighting_runs" s_lighting_runs ["stay", "motions"] f_lighting_runs fd_lighting_runs
  f_rounded_up : Addr
  fd_rounded_up : FuncData
  D_rounded_up : Def K mg "rounded_up" s_rounded_up ["number", "by"] f_rounded_up fd_rounded_up
  f_lit_pieces : Addr
  fd_lit_pieces : FuncData
  D_lit_pieces : Def K mg "lit_pieces" s_lit_pieces ["stay", "run"] f_lit_pieces fd_lit_pieces
  f_joined : Addr
  fd_joined : FuncData
  D_joined : Def K mg "joined" s_joined ["pieces"] f_joined fd_joined
  f_at_most : Addr
  fd_at_most : FuncData
  D_at_most : Def K mg "at_most" s_at_most ["limit", "parts"] f_at_most fd_at_most
  f_l_opened : Addr
  fd_l_opened : FuncData
  D_l_opened : Def K mg "_law_opened" s_l_opened ["script"] f_l_opened fd_l_opened
  f_l_draw : Addr
  fd_l_draw : FuncData
  D_l_draw : Def K mg "_law_draw" s_l_draw ["pot", "many"] f_l_draw fd_l_draw
  f_l_one : Addr
  fd_l_one : FuncData
  D_l_one : Def K mg "_law_one" s_l_one ["pot", "items"] f_l_one fd_l_one
  f_l_lamp : Addr
  fd_l_lamp : FuncData
  D_l_lamp : Def K mg "_law_lamp" s_l_lamp ["pot", "great"] f_l_lamp fd_l_lamp
  f_l_far_runs : Addr
  fd_l_far_runs : FuncData
  D_l_far_runs : Def K mg "_law_far_runs" s_l_far_runs ["pot", "upto"] f_l_far_runs fd_l_far_runs
  f_l_told : Addr
  fd_l_told : FuncData
  D_l_told : Def K mg "_law_told" s_l_told ["lamp", "runs"] f_l_told fd_l_told
  f_l_put : Addr
  fd_l_put : FuncData
  D_l_put : Def K mg "_law_put" s_l_put ["log", "on", "off"] f_l_put fd_l_put
  f_l_held : Addr
  fd_l_held : FuncData
  D_l_held : Def K mg "_law_held" s_l_held ["stay", "runs"] f_l_held fd_l_held
  f_l_pulsed : Addr
  fd_l_pulsed : FuncData
  D_l_pulsed : Def K mg "_law_pulsed" s_l_pulsed ["stay", "runs"] f_l_pulsed fd_l_pulsed
  f_law : Addr
  fd_law : FuncData
  D_law : Def K mg "law" s_law ["script"] f_law fd_law
  C_LampError : Addr
  g_LampError : mg "LampError" = some (.ref C_LampError)
  C_BadLog : Addr
  g_BadLog : mg "BadLog" = some (.ref C_BadLog)
  fI_BadLog : Addr
  fdI_BadLog : FuncData
  X_BadLog : ExC K mg "BadLog" "BadLog.__init__" "error" C_BadLog fI_BadLog fdI_BadLog s_X_BadLog
  C_TooLarge : Addr
  g_TooLarge : mg "TooLarge" = some (.ref C_TooLarge)
  fI_TooLarge : Addr
  fdI_TooLarge : FuncData
  X_TooLarge : ExC K mg "TooLarge" "TooLarge.__init__" "limit" C_TooLarge fI_TooLarge fdI_TooLarge s_X_TooLarge
  C_TooMany : Addr
  g_TooMany : mg "TooMany" = some (.ref C_TooMany)
  fI_TooMany : Addr
  fdI_TooMany : FuncData
  X_TooMany : ExC K mg "TooMany" "TooMany.__init__" "limit" C_TooMany fI_TooMany fdI_TooMany s_X_TooMany
  kit0 : PySem.W.exmOne K (.ref C_TooLarge) (.ref C_LampError) = some true
  kit1 : PySem.W.kitOne K (.ref C_TooLarge) (.ref C_TooLarge) = some true
  kit2 : PySem.W.kitAny K (.ref C_TooLarge) ([C_BadLog, C_TooMany].map Value.ref) = some false
  z_abs : mg "abs" = none
  z_int : mg "int" = none
  z_isinstance : mg "isinstance" = none
  z_len : mg "len" = none
  z_max : mg "max" = none
  z_min : mg "min" = none
  z_range : mg "range" = none
  z_repr : mg "repr" = none
  z_tuple : mg "tuple" = none
  t_MAX_STRETCHES : Tok
  c_MAX_STRETCHES : mg "MAX_STRETCHES" = some (.int 60 t_MAX_STRETCHES)
section
variable {P : Program} {w : World} {K : PySem.W.Frag} {mg : Str → Option Value} {base : Heap}
theorem ok_X_BadLog (T : All K mg) : FnOk P w K mg base CX0 1 T.fI_BadLog T.fdI_BadLog ["self", "error"] (sp_init K "error") := by
  have nd := sc_X_BadLog.nd
  refine T.X_BadLog.F.ok sc_X_BadLog (fun vs H Q E h => ?_) (fun cdv A outer s H vs Q E hr h => ?_)
  · obtain ⟨a, C, v, rfl, _⟩ := h
    rfl
  · obtain ⟨a, C, v, rfl, ox, no, ha, q⟩ := h
    refine ⟨_, pss_one (ps_ost (pv 0) (pv 1)), ?_⟩
    exact ⟨v, rfl, .ref a, rfl, a, C, rfl, ox, no, .inl ⟨ha, fun dx n ne => q dx n ne⟩⟩
theorem ok_X_TooLarge (T : All K mg) : FnOk P w K mg base CX0 1 T.fI_TooLarge T.fdI_TooLarge ["self", "limit"] (sp_init K "limit") := by
  have nd := sc_X_TooLarge.nd
  refine T.X_TooLarge.F.ok sc_X_TooLarge (fun vs H Q E h => ?_) (fun cdv A outer s H vs Q E hr h => ?_)
  · obtain ⟨a, C, v, rfl, _⟩ := h
    rfl
  · obtain ⟨a, C, v, rfl, ox, no, ha, q⟩ := h
    refine ⟨_, pss_one (ps_ost (pv 0) (pv 1)), ?_⟩
    exact ⟨v, rfl, .ref a, rfl, a, C, rfl, ox, no, .inl ⟨ha, fun dx n ne => q dx n ne⟩⟩
theorem ok_X_TooMany (T : All K mg) : FnOk P w K mg base CX0 1 T.fI_TooMany T.fdI_TooMany ["self", "limit"] (sp_init K "limit") := by
  have nd := sc_X_TooMany.nd
  refine T.X_TooMany.F.ok sc_X_TooMany (fun vs H Q E h => ?_) (fun cdv A outer s H vs Q E hr h => ?_)
  · obtain ⟨a, C, v, rfl, _⟩ := h
    rfl
  · obtain ⟨a, C, v, rfl, ox, no, ha, q⟩ := h
    refine ⟨_, pss_one (ps_ost (pv 0) (pv 1)), ?_⟩
    exact ⟨v, rfl, .ref a, rfl, a, C, rfl, ox, no, .inl ⟨ha, fun dx n ne => q dx n ne⟩⟩
theorem ok_last_minute (T : All K mg) : FnOk P w K mg base CX0 1 T.f_last_minute T.fd_last_minute ["run"] (sp_last2 K) := by
  have nd := sc_last_minute.nd
  refine T.D_last_minute.F.ok sc_last_minute (fun vs H Q E h => ?_) (fun cdv A outer s H vs Q E hr h => ?_)
  · obtain ⟨N, x, _, hd, _⟩ := h
    exact hd.len
  · obtain ⟨N, ⟨f, st, c⟩, O, hd, ⟨⟨f0, f1⟩, ⟨s0, s1⟩, ⟨c0, c1⟩⟩, qq⟩ := h
    have s0 : 1 ≤ st := s0
    have s1 : st ≤ 10000000000 := s1
    obtain ⟨v1, _, rfl, hd1, hd⟩ := dqs_cons hd
    obtain rfl := dqs_nil hd
    obtain ⟨a, rfl, g⟩ := dq_run hd1
    refine ⟨_, (pss_cons (ps_asg (pv 0) (pg_tup rfl (pgs_cons (pg_name (i := 1) nd rfl (by first | exact Or.inl rfl | exact Or.inr rfl)) (pgs_cons (pg_name (i := 2) nd rfl (by first | exact Or.inl rfl | exact Or.inr rfl)) (pgs_cons (pg_name (i := 3) nd rfl (by first | exact Or.inl rfl | exact Or.inr rfl)) pgs_nil)))))
  (pss_one (ps_ret (pe_op op_add (pv 1) (pe_op op_mul (pv 2) (pe_op op_sub (pv 3) pe_int)))))), ?_⟩
    refine ⟨.ref a, rfl, a, _, rfl, Same.seqT cut_same g, rfl, _, _, rfl, _, _, rfl, _, _, rfl, rfl, ?_⟩
    exact ⟨.int f, rfl, .int st, rfl, .int c, rfl, c, 1, rfl, rfl, st, _, rfl, rfl, .inl ⟨by omega, by omega⟩, f, _, rfl, rfl, qq _ _ (Same.refl _) (.int _)⟩
theorem ok_at_most (T : All K mg) {n : Int} : FnOk P w K mg base (L2.CX P w) 3 T.f_at_most T.fd_at_most ["limit", "parts"] (sp_most K T.C_TooLarge n) := by
  have nd := sc_at_most.nd
  refine T.D_at_most.F.okX sc_at_most (fun vs H Q E h => ?_) (fun cdv A outer s H vs Q E hr h => ?_)
  · obtain ⟨N, x, _, hd, _⟩ := h
    exact hd.len
  · obtain ⟨N, ds, O, hd, _, q1, q2⟩ := h
    obtain ⟨v1, _, rfl, hd1, hd⟩ := dqs_cons hd
    obtain ⟨v2, _, rfl, hd2, hd⟩ := dqs_cons hd
    obtain rfl := dqs_nil hd
    obtain rfl := dq_int hd1
    obtain ⟨a, ys, rfl, g, hy⟩ := dq_tup hd2
    have len := hy.len
    refine ⟨_, (pss_cons (ps_if (pt_cmpR op_gt (pe_callB call_len_seq (by rfl) T.z_len (by decide +kernel) (pa_cons (pv 1) pa_nil)) (pv 0) (nomark _))
    (pss_one (ps_raise rfl (takes_of rfl rfl rfl rfl) (pmk_oex T.X_TooLarge.ox T.X_TooLarge.iC T.X_TooLarge.tI (ok_X_TooLarge T) (hr.mono (by decide)) T.X_TooLarge.b .nil pass0 (by rfl) T.X_TooLarge.g (pa_cons (pv 0) pa_nil))))
    pss_nil)
  (pss_one (ps_ret (pv 1)))), ?_⟩
    refine ⟨.ref a, rfl, a, ys, rfl, .inr (Same.seqT cut_same g), .int n, rfl, _, n, rfl, rfl, _, rfl, ite2 (fun h1 => ?_) (fun h1 => ?_)⟩
    · have h1' : n < (ys.length : Int) := of_decide_eq_true h1
      exact ⟨.int n, rfl, mkO_run T.X_TooLarge.ox T.X_TooLarge.no fun d H' s1 nd hd => q2 (decide_eq_true (by rw [← len]; exact h1')) d H' s1 hd nd⟩
    · have h1' : ¬ n < (ys.length : Int) := fun z => h1 (decide_eq_true z)
      exact ⟨.ref a, rfl, q1 (decide_eq_false (by rw [← len]; exact h1')) _ _ (Same.refl _) hd2⟩
theorem ok_joined (T : All K mg) : FnOk P w K mg base CX0 1 T.f_joined T.fd_joined ["pieces"] (sp_joined K) := by
  have nd := sc_joined.nd
  refine T.D_joined.F.ok sc_joined (fun vs H Q E h => ?_) (fun cdv A outer s H vs Q E hr h => ?_)
  · obtain ⟨N, x, _, hd, _⟩ := h
    exact hd.len
  · obtain ⟨N, ps, O, hd, hl, qq⟩ := h
    have hl : ps.length ≤ 100000 := hl
    obtain ⟨v1, _, rfl, hd1, hd⟩ := dqs_cons hd
    obtain rfl := dqs_nil hd
    obtain ⟨a, ys, rfl, g, hy⟩ := dq_lst hd1
    have len := hy.len
    rw [List.length_map] at len
    refine ⟨_, (pss_cons (ps_set (i := 1) nd rfl (by first | exact Or.inl rfl | exact Or.inr rfl) (pe_lst pa_nil))
  (pss_cons (ps_for PassesOwn.never rfl (pi_list (pv 0)) (pg_tup rfl (pgs_cons (pg_name (i := 2) nd rfl (by first | exact Or.inl rfl | exact Or.inr rfl)) (pgs_cons (pg_name (i := 3) nd rfl (by first | exact Or.inl rfl | exact Or.inr rfl)) pgs_nil)))
    (pss_one (ps_if (PW.pt (pw_and (pt_truth (pv 1) (by intro _; rfl)) (pw_and1 (pt_cmpR op_le (pv 2) (pe_ix ix_tup (pe_ix ix_list (pv 1) (pe_un un_neg pe_int) (fun _ _ => rfl)) pe_int (fun _ _ => rfl)) (nomark _)))))
    (pss_cons (ps_asg (pe_ix ix_list (pv 1) (pe_un un_neg pe_int) (fun _ _ => rfl)) (pg_tup rfl (pgs_cons (pg_name (i := 4) nd rfl (by first | exact Or.inl rfl | exact Or.inr rfl)) (pgs_cons (pg_name (i := 5) nd rfl (by first | exact Or.inl rfl | exact Or.inr rfl)) pgs_nil))))
  (pss_one (ps_asg (pe_tup (pa_cons (pv 4) (pa_cons (pe_callB (call_max2 rfl) (by rfl) T.z_max (by decide +kernel) (pa_cons (pv 5) (pa_cons (pv 3) pa_nil))) pa_nil))) (pg_sub (pv 1) (pe_un un_neg pe_int) set_list))))
    (pss_one (ps_expr (pe_bm PySem.F.plainAttrs_list PySem.F.slot_list_append PySem.F.type_list_append mt_append (pv 1) (pa_cons (pe_tup (pa_cons (pv 2) (pa_cons (pv 3) pa_nil))) pa_nil)))))))
  (pss_one (ps_ret (pe_callTy call_tuple_of (by rfl) T.z_tuple (by decide +kernel) (pa_cons (pv 1) pa_nil)))))), ?_⟩
    refine s_set ⟨Nat.zero_le _, fun f nf => ?_⟩
    refine s_lst ⟨.ref a, rfl, a, rfl, ⟨_, Same.seqL (cut_same.trans (same_new nf)) g⟩, for_it walk_list (fun i σ Hi => (∃ y2 y3 y4 y5, σ = [some (.ref a), some (.ref f), y2, y3, y4, y5]) ∧ GrowG K N H f pD ((ps.take i).foldl joinS []).reverse Hi) ⟨⟨_, _, _, _, rfl⟩, GrowG.start nf⟩ (fun i σ H1 _ h => by
        obtain ⟨_, xs, s1, _⟩ := h
        exact Same.seqL (cut_same.trans s1) g) ?_ ?_⟩
    · rintro i x σ Hi H' hi ⟨⟨y2, y3, y4, y5, rfl⟩, xs, si, ei, hx⟩ ⟨rfl, hxi⟩
      obtain ⟨⟨on, off⟩, hq, dq⟩ := dqs_get hy hxi
      obtain ⟨ax, rfl, gx⟩ := dq_pair dq
      refine ⟨ax, _, rfl, Same.seqT (cut_same.trans si) gx, rfl, _, _, rfl, _, _, rfl, rfl, ?_⟩
      have nx := foldl_take joinS [] ps hq
      have lq := joinS_fold_le (ps.take i) []
      rw [List.length_take] at lq
      have lx := hx.len
      rw [List.length_map, List.length_reverse] at lx
      have li : i < ps.length := (List.getElem?_eq_some_iff.mp hq).1
      generalize (ps.take i).foldl joinS [] = qs at hx nx lq lx
      have tf : ∀ t, H' t = none → f ≠ t := fun t nt e => by rw [← e, ei] at nt; cases nt
      have lz : xs.length < sizeLine := size_le (by rw [lx]; simp at lq; omega)
      refine s_if1 ⟨.ref f, rfl, _, .inl ⟨xs, .inl (.inl ei), rfl⟩, ?_⟩
      cases qs with
      | nil =>
        obtain rfl := dqs_nil hx
        refine iteF ?_
        refine ⟨.ref f, rfl, .inl ⟨rfl, _, .inl (.inl ei)⟩, .int on, rfl, .int off, rfl, sz2, fun t nt => ?_⟩
        refine ⟨f, [], _, rfl, rfl, by rw [upd_ne (tf t nt)]; exact ei, small1000 (Nat.zero_le _), ⟨_, _, _, _, rfl⟩, ?_⟩
        rw [nx]
        exact GrowG.put (D := pD) (x := (on, off)) (fun G' h => dq_pairT h) nf O si (Same.refl _) ei hx nt
      | cons q r =>
        rw [List.reverse_cons, List.map_append] at hx
        have hx0 := hx
        obtain ⟨zs, v, rfl, hz, hv⟩ := dqs_snoc_inv hx
        obtain ⟨tq, rfl, gq⟩ := dq_pair hv
        have gq' := Same.seqT (cut_same.trans cut_same) gq
        refine iteT_e (by simp) ?_
        refine ⟨.int on, rfl, .ref f, rfl, 1, rfl, f, _, -1, .ref tq, rfl, rfl, .inl (.inl ei), atI_last _ _, tq, _, 1, .int q.2, rfl, rfl, gq', atI_nat (j := 1) rfl, on, q.2, rfl, rfl, _, rfl, ite2 (fun g3 => ?_) (fun g3 => ?_)⟩
        · have g3' : on ≤ q.2 := of_decide_eq_true g3
          refine ⟨.ref f, rfl, 1, rfl, f, _, -1, .ref tq, rfl, rfl, .inl (.inl ei), atI_last _ _, tq, _, rfl, gq', rfl, _, _, rfl, _, _, rfl, rfl, ?_⟩
          refine ⟨.int q.1, rfl, .int q.2, rfl, .int off, rfl, q.2, off, rfl, sz2, fun t nt => ?_⟩
          refine ⟨.ref f, rfl, 1, rfl, f, _, -1, zs.length, rfl, rfl, by rw [upd_ne (tf t nt)]; exact ei, ixN_last, ⟨_, _, _, _, rfl⟩, ?_⟩
          rw [nx]
          simp only [joinS, if_pos g3']
          rw [List.reverse_cons, set_last]
          exact GrowG.put (D := pD) (x := (q.1, if off > q.2 then off else q.2)) (fun G' h => dq_pairT h) nf O si (Same.refl _) ei hz nt
        · have g3' : ¬ on ≤ q.2 := fun z => g3 (decide_eq_true z)
          refine ⟨.ref f, rfl, .inl ⟨rfl, _, .inl (.inl ei)⟩, .int on, rfl, .int off, rfl, sz2, fun t nt => ?_⟩
          refine ⟨f, _, _, rfl, rfl, by rw [upd_ne (tf t nt)]; exact ei, lz, ⟨_, _, _, _, rfl⟩, ?_⟩
          rw [nx]
          simp only [joinS, if_neg g3']
          rw [List.reverse_cons, List.reverse_cons]
          exact GrowG.put (D := pD) (x := (on, off)) (fun G' h => dq_pairT h) nf O si (Same.refl _) ei (by rw [List.map_append]; exact hx0) nt
    · rintro σ Hi ⟨⟨y2, y3, y4, y5, rfl⟩, xs, si, ei, hx⟩
      rw [len, List.take_length] at hx
      refine ⟨.ref f, rfl, f, xs, rfl, .inl ⟨.inl (.inl ei), fun t nt => ?_⟩⟩
      exact qq _ _ (si.trans (same_new nt)) (GrowAt.tup O si hx nt)
theorem ok_rounded_up (T : All K mg) : FnOk P w K mg base CX0 1 T.f_rounded_up T.fd_rounded_up ["number", "by"] (sp_rup K) := by
  have nd := sc_rounded_up.nd
  refine T.D_rounded_up.F.ok sc_rounded_up (fun vs H Q E h => ?_) (fun cdv A outer s H vs Q E hr h => ?_)
  · obtain ⟨N, x, _, hd, _⟩ := h
    exact hd.len
  · obtain ⟨N, ⟨n, b⟩, O, hd, ⟨h1, h2⟩, qq⟩ := h
    have h1 : 1 ≤ b := h1
    have h2 : b < 1073741824 := h2
    obtain ⟨v1, _, rfl, hd1, hd⟩ := dqs_cons hd
    obtain ⟨v2, _, rfl, hd2, hd⟩ := dqs_cons hd
    obtain rfl := dqs_nil hd
    obtain rfl := dq_int hd1
    obtain rfl := dq_int hd2
    refine ⟨_, (pss_one (ps_ret (pe_op op_fdivN (pe_op op_sub (pe_op op_add (pv 0) (pv 1)) pe_int) (pv 1)))), ?_⟩
    exact ⟨.int n, rfl, .int b, rfl, n, b, rfl, rfl, _, _, rfl, rfl, .int b, rfl, _, _, rfl, rfl, ⟨by omega, by omega⟩, qq _ _ (Same.refl _) (.int _)⟩
theorem ok_lighting_runs (T : All K mg) : FnOk P w K mg base CX0 2 T.f_lighting_runs T.fd_lighting_runs ["stay", "motions"] (sp_lighting K) := by
  have nd := sc_lighting_runs.nd
  refine T.D_lighting_runs.F.ok sc_lighting_runs (fun vs H Q E h => ?_) (fun cdv A outer s H vs Q E hr h => ?_)
  · obtain ⟨N, x, _, hd, _⟩ := h
    exact hd.len
  · obtain ⟨N, ⟨sy, rs⟩, O, hd, ⟨y0, y1, hl, hok⟩, qq⟩ := h
    have y0 : 1 ≤ sy := y0
    have y1 : sy ≤ 1000000000 := y1
    have hl : rs.length ≤ 400 := hl
    obtain ⟨v1, _, rfl, hd1, hd⟩ := dqs_cons hd
    obtain ⟨v2, _, rfl, hd2, hd⟩ := dqs_cons hd
    obtain rfl := dqs_nil hd
    obtain rfl := dq_int hd1
    obtain ⟨a, ys, rfl, g, hy⟩ := dq_tup hd2
    have len := hy.len
    rw [List.length_map] at len
    refine ⟨_, (pss_cons (ps_set (i := 2) nd rfl (by first | exact Or.inl rfl | exact Or.inr rfl) (pe_lst pa_nil))
  (pss_cons (ps_set (i := 3) nd rfl (by first | exact Or.inl rfl | exact Or.inr rfl) pe_int)
  (pss_cons (ps_for PassesOwn.never rfl (pi_tup (pv 1)) (pg_tup rfl (pgs_cons (pg_name (i := 4) nd rfl (by first | exact Or.inl rfl | exact Or.inr rfl)) (pgs_cons (pg_name (i := 5) nd rfl (by first | exact Or.inl rfl | exact Or.inr rfl)) (pgs_cons (pg_name (i := 6) nd rfl (by first | exact Or.inl rfl | exact Or.inr rfl)) pgs_nil))))
    (pss_cons (ps_set (i := 7) nd rfl (by first | exact Or.inl rfl | exact Or.inr rfl) (pe_call (ok_rounded_up T) (hr.mono (by decide)) (by rfl) T.D_rounded_up.g T.D_rounded_up.F.kp T.D_rounded_up.b .nil pass0 (pa_cons (pe_callB (call_max2 rfl) (by rfl) T.z_max (by decide +kernel) (pa_cons pe_int (pa_cons (pe_op op_sub (pv 3) (pv 4)) pa_nil))) (pa_cons (pv 5) pa_nil))))
  (pss_cons (ps_set (i := 8) nd rfl (by first | exact Or.inl rfl | exact Or.inr rfl) (pe_call (ok_rounded_up T) (hr.mono (by decide)) (by rfl) T.D_rounded_up.g T.D_rounded_up.F.kp T.D_rounded_up.b .nil pass0 (pa_cons (pv 0) (pa_cons (pv 5) pa_nil))))
  (pss_one (ps_if (pt_cmpR op_lt (pv 7) (pv 6) (nomark _))
    (pss_cons (ps_set (i := 9) nd rfl (by first | exact Or.inl rfl | exact Or.inr rfl) (pe_tup (pa_cons (pe_op op_add (pv 4) (pe_op op_mul (pv 5) (pv 7))) (pa_cons (pe_op op_mul (pv 5) (pv 8)) (pa_cons (pe_call (ok_rounded_up T) (hr.mono (by decide)) (by rfl) T.D_rounded_up.g T.D_rounded_up.F.kp T.D_rounded_up.b .nil pass0 (pa_cons (pe_op op_sub (pv 6) (pv 7)) (pa_cons (pv 8) pa_nil))) pa_nil)))))
  (pss_cons (ps_expr (pe_bm PySem.F.plainAttrs_list PySem.F.slot_list_append PySem.F.type_list_append mt_append (pv 2) (pa_cons (pv 9) pa_nil)))
  (pss_one (ps_set (i := 3) nd rfl (by first | exact Or.inl rfl | exact Or.inr rfl) (pe_op op_add (pe_call (ok_last_minute T) (hr.mono (by decide)) (by rfl) T.D_last_minute.g T.D_last_minute.F.kp T.D_last_minute.b .nil pass0 (pa_cons (pv 9) pa_nil)) (pv 0))))))
    pss_nil)))))
  (pss_one (ps_ret (pv 2)))))), ?_⟩
    refine s_set ⟨Nat.zero_le _, fun f nf => ?_⟩
    refine s_set ?_
    refine ⟨.ref a, rfl, a, rfl, ⟨_, Same.seqT (cut_same.trans (same_new nf)) g⟩, for_it walk_tup (fun i σ Hi => ∃ y4 y5 y6 y7 y8 y9, σ = [some (.int sy), some (.ref a), some (.ref f), some (.int ((rs.take i).foldl (lightS sy) ([], 0)).2), y4, y5, y6, y7, y8, y9] ∧ GrowG K N H f runD ((rs.take i).foldl (lightS sy) ([], 0)).1 Hi ∧ ((rs.take i).foldl (lightS sy) ([], 0)).1.length ≤ i) ⟨_, _, _, _, _, _, rfl, GrowG.start nf, Nat.le_refl _⟩ (fun i σ H1 _ h => by
        obtain ⟨_, _, _, _, _, _, _, ⟨xs, s1, _⟩, _⟩ := h
        exact Same.seqT (cut_same.trans s1) g) ?_ ?_⟩
    · rintro i x σ Hi H' hi ⟨y4, y5, y6, y7, y8, y9, rfl, ⟨xs, si, ei, hx⟩, hlen⟩ ⟨rfl, hxi⟩
      obtain ⟨rn, hq, dq⟩ := dqs_get hy hxi
      have nx := foldl_take (lightS sy) ([], 0) rs hq
      have ro := hok rn (List.mem_of_getElem? hq)
      have li : i < rs.length := (List.getElem?_eq_some_iff.mp hq).1
      generalize (rs.take i).foldl (lightS sy) ([], 0) = fo at hx nx hlen
      obtain ⟨found, off⟩ := fo
      have hlen : found.length ≤ i := hlen
      have hx : Dqs K (cut1 f (cut N H')) xs (found.map runD) := hx
      have lx := hx.len
      rw [List.length_map] at lx
      have LB := lightR_b (off := off) ⟨y0, y1⟩ ro
      have LN := lightU_nn (off := off) ro.s.1
      have a3 := rup_one (n := sy) y0 ro.s.1
      have a4 := rup_le (n := sy) (b := rn.2.1) (by omega) ro.s.1
      have hU : lightU off rn = rup (if off - rn.1 > 0 then off - rn.1 else 0) rn.2.1 := rfl
      have hR : lightR sy off rn = (rn.1 + rn.2.1 * lightU off rn, rn.2.1 * rup sy rn.2.1, rup (rn.2.2 - lightU off rn) (rup sy rn.2.1)) := rfl
      have hS : lightS sy (found, off) rn = if lightU off rn < rn.2.2 then (found ++ [lightR sy off rn], lastM (lightR sy off rn) + sy) else (found, off) := rfl
      rw [hS] at nx
      obtain ⟨ra, rfl, gr⟩ := dq_run dq
      have bs := ro.s
      have bc := ro.c
      have bf := ro.f
      obtain ⟨fi, st, co⟩ := rn
      dsimp only at *
      have Oi := O.keep si
      refine ⟨ra, _, rfl, Same.seqT (cut_same.trans si) gr, rfl, _, _, rfl, _, _, rfl, _, _, rfl, rfl, ?_⟩
      -- unseen
      refine s_set ⟨.int off, rfl, .int fi, rfl, off, fi, rfl, rfl, 0, _, rfl, .int st, rfl, NP N f, (_, st), np_occ Oi ei, .cons (.int _) (.cons (.int _) .nil), ⟨bs.1, by show st < 1073741824; omega⟩, fun r H1 s1 hr1 => ?_⟩
      obtain rfl : r = .int (lightU off (fi, st, co)) := dq_int hr1
      -- apart
      refine s_set ⟨.int sy, rfl, .int st, rfl, NP N f, (sy, st), (np_occ Oi ei).keep s1, .cons (.int _) (.cons (.int _) .nil), ⟨bs.1, by show st < 1073741824; omega⟩, fun r H2 s2 hr2 => ?_⟩
      obtain rfl : r = .int (rup sy st) := dq_int hr2
      have s12 := s1.trans s2
      have e2 := s12 _ _ ei
      have O2 := Oi.keep s12
      refine s_if1 ⟨.int (lightU off (fi, st, co)), rfl, .int co, rfl, _, co, rfl, rfl, _, rfl, ite2 (fun g1 => ?_) (fun g1 => ?_)⟩
      · have g1' : lightU off (fi, st, co) < co := of_decide_eq_true g1
        obtain ⟨rb, _, _, _⟩ := LB g1'
        rw [if_pos g1'] at nx
        rw [hR] at nx rb
        generalize lightU off (fi, st, co) = u at g1' nx rb LN
        -- run
        refine s_set ⟨.int fi, rfl, .int st, rfl, .int u, rfl, st, u, rfl, rfl, .inl ⟨by omega, by omega⟩, fi, _, rfl, rfl, .int st, rfl, .int (rup sy st), rfl, st, _, rfl, rfl, .inl ⟨by omega, by omega⟩, .int co, rfl, .int u, rfl, co, u, rfl, rfl, .int (rup sy st), rfl, NP N f, (co - u, rup sy st), np_occ O2 e2, .cons (.int _) (.cons (.int _) .nil), ⟨a3, by show rup sy st < 1073741824; omega⟩, fun r H3 s3 hr3 => ?_⟩
        obtain rfl : r = .int (rup (co - u) (rup sy st)) := dq_int hr3
        refine ⟨Nat.le_of_lt (small1000 (show 3 ≤ 1000 by decide)), fun t nt => ?_⟩
        have s13 := s12.trans s3
        have e3 := s3 _ _ e2
        have tf : f ≠ t := fun e => by rw [← e, e3] at nt; cases nt
        have put := GrowG.put (D := runD) (x := (fi + st * u, st * rup sy st, rup (co - u) (rup sy st))) (vs := [.int (fi + st * u), .int (st * rup sy st), .int (rup (co - u) (rup sy st))]) (fun G' h => dq_runT h) nf O si s13 e3 hx nt
        refine s_expr ⟨.ref f, rfl, .inl ⟨rfl, _, .inl (.inl (by rw [upd_ne tf]; exact e3))⟩, .ref t, rfl, f, xs, _, rfl, rfl, by rw [upd_ne tf]; exact e3, small1000 (by omega), ?_⟩
        refine s_set1 ⟨.ref t, rfl, NP N f, (fi + st * u, st * rup sy st, rup (co - u) (rup sy st)), ?_, .cons ?_ .nil, rb, fun r H5 s5 hr5 => ?_⟩
        · exact np_occ ((O2.keep s3).upd.upd) upd_same
        · refine dq_runT (.inl (.inl ?_))
          rw [cut_at, upd_ne tf.symm, upd_same]
          exact fun z => z.elim (fun n => (O2.keep s3) t n nt) tf.symm
        · obtain rfl := dq_int hr5
          refine ⟨.int sy, rfl, _, _, rfl, rfl, ?_⟩
          refine ⟨some (.int fi), some (.int st), some (.int co), some (.int u), some (.int (rup sy st)), some (.ref t), ?_, ?_, ?_⟩
          · rw [nx]
            rfl
          · rw [nx]
            obtain ⟨zs, p1, p2, p3⟩ := put
            exact ⟨zs, p1.trans s5, s5 _ _ p2, p3.mono (cut_mono (cut_mono s5))⟩
          · rw [nx]
            show (found ++ [_]).length ≤ i + 1
            rw [List.length_append]
            simp
            omega
      · have g1' : ¬ lightU off (fi, st, co) < co := fun z => g1 (decide_eq_true z)
        rw [if_neg g1'] at nx
        refine ⟨some (.int fi), some (.int st), some (.int co), some (.int (lightU off (fi, st, co))), some (.int (rup sy st)), y9, ?_, ?_, ?_⟩
        · rw [nx]; rfl
        · rw [nx]
          exact ⟨xs, si.trans s12, e2, hx.mono (cut_mono (cut_mono s12))⟩
        · rw [nx]; show found.length ≤ i + 1; omega
    · rintro σ Hi ⟨y4, y5, y6, y7, y8, y9, rfl, ⟨xs, si, ei, hx⟩, hlen⟩
      rw [len, List.take_length] at hx
      exact ⟨.ref f, rfl, qq _ _ si (grow_list O nf ei hx)⟩
theorem ok_lit_pieces (T : All K mg) : FnOk P w K mg base CX0 2 T.f_lit_pieces T.fd_lit_pieces ["stay", "run"] (sp_lit K) := by
  have nd := sc_lit_pieces.nd
  refine T.D_lit_pieces.F.ok sc_lit_pieces (fun vs H Q E h => ?_) (fun cdv A outer s H vs Q E hr h => ?_)
  · obtain ⟨N, x, r, _, hd, _⟩ := h
    exact hd.len
  · obtain ⟨N, sy, ⟨f, st, c⟩, O, hd, ⟨y0, y1⟩, hrb, qq⟩ := h
    obtain ⟨⟨f0, f1⟩, ⟨s0, s1⟩, ⟨c0, c1⟩⟩ := id hrb
    have f0 : 0 ≤ f := f0
    have s0 : 1 ≤ st := s0
    have s1 : st ≤ 10000000000 := s1
    have c0 : 1 ≤ c := c0
    have c1 : c ≤ 10000000000 := c1
    obtain ⟨v1, _, rfl, hd1, hd⟩ := dqs_cons hd
    obtain ⟨v2, _, rfl, hd2, hd⟩ := dqs_cons hd
    obtain rfl := dqs_nil hd
    obtain rfl := dq_int hd1
    obtain ⟨a, rfl, g⟩ := dq_run hd2
    refine ⟨_, (pss_cons (ps_asg (pv 1) (pg_tup rfl (pgs_cons (pg_name (i := 2) nd rfl (by first | exact Or.inl rfl | exact Or.inr rfl)) (pgs_cons (pg_name (i := 3) nd rfl (by first | exact Or.inl rfl | exact Or.inr rfl)) (pgs_cons (pg_name (i := 4) nd rfl (by first | exact Or.inl rfl | exact Or.inr rfl)) pgs_nil)))))
  (pss_cons (ps_if (pt_cmpR op_le (pv 3) (pv 0) (nomark _))
    (pss_one (ps_ret (pe_lst (pa_cons (pe_tup (pa_cons (pv 2) (pa_cons (pe_op op_add (pe_call (ok_last_minute T) (hr.mono (by decide)) (by rfl) T.D_last_minute.g T.D_last_minute.F.kp T.D_last_minute.b .nil pass0 (pa_cons (pv 1) pa_nil)) (pv 0)) pa_nil))) pa_nil))))
    pss_nil)
  (pss_cons (ps_set (i := 5) nd rfl (by first | exact Or.inl rfl | exact Or.inr rfl) (pe_callB (call_min2 rfl) (by rfl) T.z_min (by decide +kernel) (pa_cons (pv 4) (pa_cons (pe_op op_add (pe_glob (v := .int 60) (by rfl) T.c_MAX_STRETCHES ⟨_, rfl⟩) pe_int) pa_nil))))
  (pss_one (ps_ret (pe_lc (own := [("at", 6)]) rfl nd (pi_range1 (by rfl) T.z_range (pa_cons (pv 5) pa_nil)) (blkOk_by (own := [("at", 6)]) (N := n_lit_pieces) (sc := defScope s_lit_pieces) (by decide +kernel)) (fun _ _ _ _ _ => (pg_name (i := 6) nd rfl (by first | exact Or.inl rfl | exact Or.inr rfl))) (fun _ _ _ _ _ => pts_nil) (fun _ _ _ _ _ => (pe_tup (pa_cons (pe_op op_add (pv 2) (pe_op op_mul (pv 3) (pv 6))) (pa_cons (pe_op op_add (pe_op op_add (pv 2) (pe_op op_mul (pv 3) (pv 6))) (pv 0)) pa_nil)))))))))), ?_⟩
    refine ⟨.ref a, rfl, a, _, rfl, Same.seqT cut_same g, rfl, _, _, rfl, _, _, rfl, _, _, rfl, rfl, ?_⟩
    refine ⟨.int st, rfl, .int sy, rfl, st, sy, rfl, rfl, _, rfl, ite2 (fun h1 => ?_) (fun h1 => ?_)⟩
    · have h1' : st ≤ sy := of_decide_eq_true h1
      refine ⟨.int f, rfl, .ref a, rfl, N, (f, st, c), O, .cons hd2 .nil, hrb, fun r H1 s1 hr1 => ?_⟩
      obtain rfl := dq_int hr1
      refine ⟨.int sy, rfl, _, _, rfl, rfl, sz2, fun t nt => ⟨Nat.le_of_lt (small1000 (Nat.le_add_left 1 999)), fun l nl => ?_⟩⟩
      have s2 := s1.trans (same_new (o := .tup [.int f, .int (lastM (f, st, c) + sy)]) nt)
      have O2 := O.keep s2
      refine qq l _ _ (s2.trans (same_new nl)) upd_same (fun z => O2 l z nl) ?_
      unfold litP
      rw [if_pos (show (f, st, c).2.1 ≤ sy from h1')]
      refine .cons (dq_pairT (q := (f, lastM (f, st, c) + sy)) (.inl (.inl ?_))) .nil
      exact cut_mono (same_new nl) _ _ (cut_new (O.keep s1) nt)
    · have h1' : ¬ st ≤ sy := fun z => h1 (decide_eq_true z)
      refine ⟨.int c, rfl, 60, 1, rfl, rfl, c, _, rfl, ?_⟩
      refine ⟨_, rfl, _, rfl, by show -(2 ^ 62) ≤ (if (60 + 1 : Int) < c then (60 + 1 : Int) else c); split <;> omega, by show (if (60 + 1 : Int) < c then (60 + 1 : Int) else c) < 2 ^ 62; split <;> omega, fun D nD => ?_⟩
      have n61 : (if (60 + 1 : Int) < c then (60 + 1 : Int) else c).toNat ≤ 61 := by split <;> omega
      refine lc_range (fun k Hk => GrowG K N H D pD (pcs sy f st k) Hk) (GrowG.start nD) ?_ ?_
      · rintro k Hk hk ⟨acc, sk, ek, dk⟩
        have hk' : k < 61 := by
          have : k < (if (60 + 1 : Int) < c then (60 + 1 : Int) else c).toNat := hk
          omega
        have la := dk.len
        rw [List.length_map] at la
        unfold pcs at la
        rw [List.length_map, List.length_range] at la
        refine ⟨by first | rfl | simp only [wipe, List.set_set], yes_if ?_⟩
        refine ⟨.int f, rfl, .int st, rfl, .int (0 + (k : Int)), rfl, st, _, rfl, rfl, .inl ⟨by omega, by omega⟩, f, _, rfl, rfl, .int f, rfl, .int st, rfl, .int (0 + (k : Int)), rfl, st, _, rfl, rfl, .inl ⟨by omega, by omega⟩, f, _, rfl, rfl, .int sy, rfl, _, _, rfl, rfl, sz2, fun t nt => ?_⟩
        have tD : D ≠ t := fun e => by rw [← e, ek] at nt; cases nt
        refine ⟨acc, by rw [upd_ne tD]; exact ek, small1000 (by omega), ?_⟩
        have z := GrowG.put (D := pD) (x := (f + st * (k : Int), f + st * (k : Int) + sy)) (vs := [.int (f + st * (k : Int)), .int (f + st * (k : Int) + sy)]) (fun G' h => dq_pairT h) nD O sk (Same.refl _) ek dk nt
        rw [← pcs_succ] at z
        rw [Int.zero_add]
        exact z
      · rintro Hn ⟨acc, sn, en, dn⟩
        refine qq D acc Hn sn en (fun z => O D z nD) ?_
        unfold litP
        rw [if_neg (show ¬ (f, st, c).2.1 ≤ sy from h1')]
        exact dn.mono cut_same
theorem ok_log_of (T : All K mg) : FnOk P w K mg base (L2.CX P w) 4 T.f_log_of T.fd_log_of ["lamp", "motions"] (sp_logof K T.C_TooLarge) := by
  have nd := sc_log_of.nd
  refine T.D_log_of.F.okX sc_log_of (fun vs H Q E h => ?_) (fun cdv A outer s H vs Q E hr h => ?_)
  · obtain ⟨N, x, _, hd, _⟩ := h
    exact hd.len
  · obtain ⟨N, ⟨⟨kd, sy⟩, rs⟩, O, hd, ⟨y0, y1, hl, hok⟩, q1, q2⟩ := h
    have y0 : 1 ≤ sy := y0
    have y1 : sy ≤ 1000000000 := y1
    have hl : rs.length ≤ 400 := hl
    obtain ⟨v1, _, rfl, hd1, hd⟩ := dqs_cons hd
    obtain ⟨v2, _, rfl, hd2, hd⟩ := dqs_cons hd
    obtain rfl := dqs_nil hd
    obtain ⟨al, rfl, g1⟩ := dq_lamp hd1
    refine ⟨_, (pss_cons (ps_asg (pv 0) (pg_tup rfl (pgs_cons (pg_name (i := 2) nd rfl (by first | exact Or.inl rfl | exact Or.inr rfl)) (pgs_cons (pg_name (i := 3) nd rfl (by first | exact Or.inl rfl | exact Or.inr rfl)) pgs_nil))))
  (pss_cons (ps_set (i := 4) nd rfl (by first | exact Or.inl rfl | exact Or.inr rfl) (pe_ifExp (pt_cmpR op_eq (pv 2) pe_str (nomark _)) (pv 1) (pe_call (ok_lighting_runs T) (hr.mono (by decide)) (by rfl) T.D_lighting_runs.g T.D_lighting_runs.F.kp T.D_lighting_runs.b .nil pass0 (pa_cons (pv 3) (pa_cons (pv 1) pa_nil)))))
  (pss_cons (ps_set (i := 5) nd rfl (by first | exact Or.inl rfl | exact Or.inr rfl) (pe_lst pa_nil))
  (pss_cons (ps_for (passes_of rfl) rfl (pi_seq (pv 4)) (pg_name (i := 6) nd rfl (by first | exact Or.inl rfl | exact Or.inr rfl))
    (pss_one (ps_expr (pe_bm PySem.F.plainAttrs_list PySem.F.slot_list_extend PySem.F.type_list_extend mt_extend (pv 5) (pa_cons (pe_call (ok_lit_pieces T) (hr.mono (by decide)) (by rfl) T.D_lit_pieces.g T.D_lit_pieces.F.kp T.D_lit_pieces.b .nil pass0 (pa_cons (pv 3) (pa_cons (pv 6) pa_nil))) pa_nil)))))
  (pss_one (ps_ret (pe_call (E := E) (ok_at_most T (n := 60)) (hr.mono (by decide)) (by rfl) T.D_at_most.g T.D_at_most.F.kp T.D_at_most.b .nil (passes_call (takes_of rfl rfl rfl rfl) (fun _ _ _ _ h => h)) (pa_cons (pe_glob (v := .int 60) (by rfl) T.c_MAX_STRETCHES ⟨_, rfl⟩) (pa_cons (pe_call (ok_joined T) (hr.mono (by decide)) (by rfl) T.D_joined.g T.D_joined.F.kp T.D_joined.b .nil pass0 (pa_cons (pv 5) pa_nil)) pa_nil))))))))), ?_⟩
    refine ⟨.ref al, rfl, al, _, rfl, Same.seqT cut_same g1, rfl, _, _, rfl, _, _, rfl, rfl, ?_⟩
    refine ⟨.str (kindS kd), rfl, rfl, _, rfl, ?_⟩
    refine ite_val (P := fun vL H1 => ∃ ws : List Run, Same H H1 ∧ (Dq K (cut N H1) vL (.tuple (ws.map runD)) ∨ Dq K (cut N H1) vL (.list (ws.map runD))) ∧ ws.length ≤ 400 ∧ (∀ r ∈ ws, RB r) ∧ (if kd then rs else lightsF sy rs) = ws) ?rest ?ways
    case ways =>
      intro Q' hQ
      refine ite_b (fun hk => ?_) (fun hk => ?_)
      · rw [kindS_hold] at hk
        exact ⟨v2, rfl, hQ _ _ ⟨rs, Same.refl _, .inl hd2, hl, fun r hr => (hok r hr).rb, by rw [hk]; rfl⟩⟩
      · rw [kindS_hold] at hk
        refine ⟨.int sy, rfl, v2, rfl, N, (sy, rs), O, .cons (.int _) (.cons hd2 .nil), ⟨y0, y1, hl, hok⟩, fun r H1 s1 hr1 => hQ _ _ ⟨lightsF sy rs, s1, .inr hr1, ?_, ?_, by rw [hk]; rfl⟩⟩
        · rw [lightsF_eq]; exact Nat.le_trans (lightsR_len sy rs 0) hl
        · rw [lightsF_eq]; exact lightsR_ok ⟨y0, y1⟩ rs 0 hok
    rintro vL H1 ⟨ws, s1, hv, hwl, hwb, hwe⟩
    refine ⟨Nat.zero_le _, fun f nf => ?_⟩
    have nf0 : H f = none := s1.free nf
    have O1 := O.keep s1
    obtain ⟨aL, xsL, rfl, hdL, hsq⟩ : ∃ aL xsL, vL = .ref aL ∧ Dqs K (cut N H1) xsL (ws.map runD) ∧ (SqL K (cut N H1) aL xsL ∨ SqT K (cut N H1) aL xsL) := by
      rcases hv with h | h
      · obtain ⟨a, xs, e, g, hh⟩ := dq_tup h
        exact ⟨a, xs, e, hh, .inr g⟩
      · obtain ⟨a, xs, e, g, hh⟩ := dq_lst h
        exact ⟨a, xs, e, hh, .inl g⟩
    have lenL := hdL.len
    rw [List.length_map] at lenL
    -- the pieces so far
    let Pv : Nat → L2.St → Hp → Prop := fun i σ Hi => (∃ y6, σ = [some (.ref al), some v2, some (.str (kindS kd)), some (.int sy), some (.ref aL), some (.ref f), y6]) ∧ GrowG K N H1 f pD ((ws.take i).flatMap (litP sy)) Hi
    have h0 : Pv 0 [some (.ref al), some v2, some (.str (kindS kd)), some (.int sy), some (.ref aL), some (.ref f), none] (upd H1 f (.lst [])) := ⟨⟨none, rfl⟩, GrowG.start nf⟩
    have turn : ∀ (D : Ends) (i : Nat) (x : V) (σ : L2.St) (Hi : Hp), Pv i σ Hi → xsL[i]? = some x → D.nx = Pv (i + 1) → tDrop (tBM K "list" rExtend (tVar 5) (tCons (tCall (sp_lit K) [] E0 (tCons (tVar 3) (tCons (tVar 6) tNil))) tNil)) D (σ.set 6 (some x)) Hi := by
      rintro D i x σ Hi ⟨⟨y6, rfl⟩, xs, si, ei, hx⟩ hxi hD
      obtain ⟨rn, hq, dq⟩ := dqs_get hdL hxi
      have rb := hwb rn (List.mem_of_getElem? hq)
      have li : i < ws.length := (List.getElem?_eq_some_iff.mp hq).1
      have lx := hx.len
      rw [List.length_map] at lx
      have fl := flat_len (s := sy) (ws.take i)
      rw [List.length_take] at fl
      have ll := litP_len (s := sy) (r := rn)
      refine ⟨.ref f, rfl, .inl ⟨rfl, _, .inl (.inl ei)⟩, .int sy, rfl, x, rfl, NP N f, sy, rn, np_occ (O1.keep si) ei, .cons (.int _) (.cons (dq.mono (np_new nf si)) .nil), ⟨y0, y1⟩, rb, fun p zs H3 s3 e3 np dz => ?_⟩
      have lz := dz.len
      rw [List.length_map] at lz
      refine ⟨f, p, xs, zs, rfl, rfl, s3 _ _ ei, e3, Nat.le_of_lt (size_le (by omega)), ?_⟩
      rw [hD]
      refine ⟨⟨_, rfl⟩, _, same_upd (si.trans s3) nf, upd_same, ?_⟩
      rw [List.take_add_one, hq]
      show Dqs K _ _ ((List.flatMap (litP sy) (ws.take i ++ [rn])).map pD)
      rw [List.flatMap_append, List.map_append, set_cut]
      refine Dqs.app (hx.mono (cut_mono (cut_mono s3))) ?_
      rw [← np_cut1]
      simpa using dz
    have fin : ∀ (σ : L2.St) (Hn : Hp), Pv ws.length σ Hn → tRet (tCall (sp_most K T.C_TooLarge 60) [] E (tCons (tC (.int 60)) (tCons (tCall (sp_joined K) [] E0 (tCons (tVar 5) tNil)) tNil))) { nx := fun _ H' => Q .non H', rt := Q } σ Hn := by
      rintro σ Hn ⟨⟨y6, rfl⟩, xs, si, ei, hx⟩
      rw [List.take_length] at hx
      have Oi := O1.keep si
      refine ⟨.ref f, rfl, N, ws.flatMap (litP sy), Oi, .cons (grow_list O1 nf ei hx) .nil, ?_, fun r H5 s5 hr5 => ?_⟩
      · have := flat_len (s := sy) ws
        show (ws.flatMap (litP sy)).length ≤ 100000
        omega
      have hLo : joinedF (ws.flatMap (litP sy)) = logOf (kd, sy) rs := by
        unfold logOf
        rw [← hwe]
      have hr5 : Dq K (cut N H5) r (logD (joinedF (ws.flatMap (litP sy)))) := hr5
      rw [hLo] at hr5
      refine ⟨N, (logOf (kd, sy) rs).map pD, Oi.keep s5, .cons (.int 60) (.cons hr5 .nil), trivial, fun hB r6 H6 s6 d6 => ?_, fun hB d H6 s6 e6 n6 => ?_⟩
      · refine q1 ?_ r6 H6 (s1.trans (si.trans (s5.trans s6))) d6
        have hB := of_decide_eq_false hB
        rw [List.length_map] at hB
        exact decide_eq_false (show ¬ 60 < (logOf (kd, sy) rs).length by omega)
      · refine q2 ?_ d H6 (s1.trans (si.trans (s5.trans s6))) e6 ((s1.trans (si.trans s5)).free n6)
        have hB := of_decide_eq_true hB
        rw [List.length_map] at hB
        exact decide_eq_true (show 60 < (logOf (kd, sy) rs).length by omega)
    rcases hsq with hsq | hsq
    · refine ⟨.ref aL, rfl, aL, rfl, .inl ⟨⟨xsL, Same.seqL (cut_same.trans (same_new nf)) hsq⟩, for_it (walk_list (K := K) (a := aL) (xs := xsL)) Pv h0 (fun i σ H1 _ h => Same.seqL (cut_same.trans h.2.choose_spec.1) hsq) ?_ ?_⟩⟩
      · rintro i x σ Hi H' hi hP ⟨rfl, hxi⟩
        exact turn _ i x σ _ hP hxi rfl
      · intro σ Hn hP
        rw [lenL] at hP
        exact fin σ Hn hP
    · refine ⟨.ref aL, rfl, aL, rfl, .inr ⟨⟨xsL, Same.seqT (cut_same.trans (same_new nf)) hsq⟩, for_it (walk_tup (K := K) (a := aL) (xs := xsL)) Pv h0 (fun i σ H1 _ h => Same.seqT (cut_same.trans h.2.choose_spec.1) hsq) ?_ ?_⟩⟩
      · rintro i x σ Hi H' hi hP ⟨rfl, hxi⟩
        exact turn _ i x σ _ hP hxi rfl
      · intro σ Hn hP
        rw [lenL] at hP
        exact fin σ Hn hP
theorem ok_l_opened0 (T : All K mg) : FnOk P w K mg base CX0 1 T.f_l_opened T.fd_l_opened ["script"] (Lm.sp_opened K) := by
  have nd := sc_l_opened.nd
  refine T.D_l_opened.F.ok sc_l_opened (fun vs H Q E h => ?_) (fun cdv A outer s H vs Q E hr h => ?_)
  · obtain ⟨a, ns, rfl, _⟩ := h
    rfl
  · obtain ⟨a, ns, rfl, hS, hl, q⟩ := h
    refine ⟨_, (pss_cons (ps_setLc (i := 2) (own := [("cell", 1)]) rfl nd rfl rfl (sw_true rfl rfl rfl (by decide +kernel)) (pi_list (pe_slice sl_list (pv 0) po_none (po_some pe_int))) (blkOk_by (own := [("cell", 1)]) (N := n_l_opened) (sc := defScope s_l_opened) (by decide +kernel)) (fun _ _ _ _ _ => (pg_name (i := 1) nd rfl (by first | exact Or.inl rfl | exact Or.inr rfl))) (fun _ _ _ _ _ => pts_nil) (fun _ _ _ _ _ => (pe_callB call_abs (by rfl) T.z_abs (by decide +kernel) (pa_cons (pv 1) pa_nil))))
  (pss_one (ps_ret (pe_disp (pps_cons pe_str (pe_lc (own := [("cell", 1)]) rfl nd (pi_list (pv 2)) (blkOk_by (own := [("cell", 1)]) (N := n_l_opened) (sc := defScope s_l_opened) (by decide +kernel)) (fun _ _ _ _ _ => (pg_name (i := 1) nd rfl (by first | exact Or.inl rfl | exact Or.inr rfl))) (fun _ _ _ _ _ => (pts_one (pt_cmpR op_ge (pv 1) (pe_op op_pow pe_int pe_int) (nomark _)))) (fun _ _ _ _ _ => (pv 1))) (pps_cons pe_str (pe_op op_cat (pv 2) (pe_op op_rep (pe_lst (pa_cons pe_int pa_nil)) (pe_callTy call_int1 (by rfl) T.z_int (by decide +kernel) (pa_cons (pe_cmpR (op_eqE hr.units0) (pv 2) (pe_lst pa_nil) (nomark _)) pa_nil)))) (pps_cons pe_str pe_int pps_nil))) (by rfl) (by rfl) (fun z => by cases z) (by decide))))), ?_⟩
    have cut : cutV (ns.map V.int) none (some 64) = ns.map V.int := cut_all (by rw [List.length_map]; omega)
    -- cells
    refine ⟨.ref a, rfl, 64, rfl, a, _, rfl, hS, fun c nc => ⟨c, rfl, ⟨_, .inl (.inl upd_same)⟩, fun D nD => ?_⟩⟩
    rw [cut] at nD ⊢
    have nDc : D ≠ c := (ne_of_none upd_same nD).symm
    have nD0 : H D = none := (Lm.same_new (o := .lst (ns.map V.int)) nc).free nD
    refine lc_list (K := K) (a := c) (xs := ns.map V.int) (fun i H1 => H1 D = some (.lst ((ns.take i).map fun n => V.int (if n < 0 then -n else n))) ∧ H1 c = some (.lst (ns.map V.int)) ∧ Same H H1)
      ⟨upd_same, by rw [upd_ne nDc.symm]; exact upd_same, same_upd2 (Lm.same_new nc) nD0⟩ (fun i H1 _ h => .inl (.inl h.2.1)) ?_ ?_
    · rintro i x H1 hx ⟨eD, ec, s1⟩
      obtain ⟨n, hn, rfl⟩ : ∃ n, ns[i]? = some n ∧ x = V.int n := by
        rw [List.getElem?_map] at hx
        cases e : ns[i]? with
        | none => rw [e] at hx; cases hx
        | some n => rw [e] at hx; exact ⟨n, rfl, (Option.some.inj hx).symm⟩
      have hi : i < ns.length := (List.getElem?_eq_some_iff.mp hn).1
      refine ⟨rfl, yes_if ?_⟩
      refine ⟨.int n, rfl, n, rfl, _, eD, small1000 (by simp; omega), ?_, ?_, same_upd2 s1 nD0⟩
      · rw [upd_same, List.take_add_one, hn, List.map_append]
        rfl
      · rw [upd_ne nDc.symm]
        exact ec
    · rintro H1 ⟨eD, ec, s1⟩
      rw [List.length_map, List.take_length] at eD
      generalize hcs : (ns.map fun n => if n < 0 then -n else n) = cs
      have eD : H1 D = some (.lst (cs.map V.int)) := by
        rw [eD, ← hcs, List.map_map]
        rfl
      have lcs : cs.length ≤ 63 := by rw [← hcs, List.length_map]; exact hl
      -- {'deep': .., 'all': .., 'times': 0}
      intro pp np
      have nDp : D ≠ pp := ne_of_none eD np
      have np0 : H pp = none := s1.free np
      -- [cell for cell in cells if ..]
      refine ⟨.ref D, rfl, D, rfl, ⟨cs.map V.int, .inl (.inl (by rw [upd_ne nDp]; exact eD))⟩, fun E2 nE => ?_⟩
      have nEp : E2 ≠ pp := (ne_of_none upd_same nE).symm
      have nE1 : H1 E2 = none := (Lm.same_new (o := .dK []) np).free nE
      have nED : E2 ≠ D := (ne_of_none eD nE1).symm
      have nE0 : H E2 = none := s1.free nE1
      refine lc_list (K := K) (a := D) (xs := cs.map V.int) (fun i H2 => (∃ ds : List Int, H2 E2 = some (.lst (ds.map V.int)) ∧ ds.length ≤ i) ∧ H2 D = some (.lst (cs.map V.int)) ∧ H2 pp = some (.dK []) ∧ Same H H2)
        ⟨⟨[], upd_same, Nat.le_refl _⟩, by rw [upd_ne nED.symm, upd_ne nDp]; exact eD, by rw [upd_ne nEp.symm]; exact upd_same, same_upd2 (same_upd2 s1 np0) nE0⟩ (fun i H2 _ h => .inl (.inl h.2.1)) ?_ ?_
      · rintro i x H2 hx ⟨⟨ds, eE, ld⟩, eD2, ep2, s2⟩
        obtain ⟨n, hn, rfl⟩ : ∃ n, cs[i]? = some n ∧ x = V.int n := by
          rw [List.getElem?_map] at hx
          cases e : cs[i]? with
          | none => rw [e] at hx; cases hx
          | some n => rw [e] at hx; exact ⟨n, rfl, (Option.some.inj hx).symm⟩
        have hi : i < cs.length := (List.getElem?_eq_some_iff.mp hn).1
        refine ⟨rfl, .int n, rfl, 10, 18, rfl, rfl, ⟨by decide, by decide, by decide⟩, n, _, rfl, rfl, _, rfl, ite2 (fun _ => ?_) (fun _ => ?_)⟩
        · refine ⟨.int n, rfl, _, eE, small1000 (by simp; omega), ⟨ds ++ [n], ?_, by simp; omega⟩, ?_, ?_, same_upd2 s2 nE0⟩
          · rw [upd_same, List.map_append]
            rfl
          · rw [upd_ne nED.symm]; exact eD2
          · rw [upd_ne nEp.symm]; exact ep2
        · exact ⟨⟨ds, eE, by omega⟩, eD2, ep2, s2⟩
      · rintro H2 ⟨⟨ds, eE, ld⟩, eD2, ep2, s2⟩
        rw [List.length_map] at ld
        -- cells + [53] * int(cells == [])
        refine ⟨.ref D, rfl, Nat.le_of_lt (small1000 (by decide)), fun f nf => ⟨.ref D, rfl, Nat.zero_le _, fun g ng => ?_⟩⟩
        have s3 : Same H2 (upd H2 f (.lst [V.int 53])) := Lm.same_new nf
        have s4 : Same (upd H2 f (.lst [V.int 53])) (upd (upd H2 f (.lst [V.int 53])) g (.lst [])) := Lm.same_new ng
        have ef : (upd (upd H2 f (.lst [V.int 53])) g (.lst [])) f = some (.lst [V.int 53]) := s4 _ _ upd_same
        have eD4 : (upd (upd H2 f (.lst [V.int 53])) g (.lst [])) D = some (.lst (cs.map V.int)) := s4 _ _ (s3 _ _ eD2)
        refine ⟨D, g, _, rfl, rfl, .inl (.inl eD4), .inl (.inl upd_same), .inr ⟨_, rfl, f, _, [V.int 53], rfl, rfl, ef, ?_, ?_, ?_, fun r nr => ?_⟩⟩
        · split <;> decide
        · split <;> decide
        · split <;> exact Nat.le_of_lt (small1000 (by decide))
        have s5 := Lm.same_new (o := .lst (List.replicate (if (cs.map V.int).isEmpty = true then (1 : Int) else 0).toNat [V.int 53]).flatten) nr
        refine ⟨D, r, _, _, rfl, rfl, s5 _ _ eD4, upd_same, Nat.le_of_lt (small1000 ?_), fun al na => ?_⟩
        · cases cs with
          | nil => decide
          | cons x xs => simp at lcs ⊢; omega
        have s6 := Lm.same_new (o := .lst (cs.map V.int ++ (List.replicate (if (cs.map V.int).isEmpty = true then (1 : Int) else 0).toNat [V.int 53]).flatten)) na
        have s7 : Same H2 _ := ((s3.trans s4).trans s5).trans s6
        refine ⟨s7 _ _ ep2, [(Sum.inr "deep", V.ref E2), (Sum.inr "all", V.ref al), (Sum.inr "times", V.int 0)], rfl, Nat.le_add_left 3 12, ?_⟩
        have nal : al ≠ pp := (ne_of_none (((s3.trans s4).trans s5) _ _ ep2) na).symm
        have nalE : al ≠ E2 := (ne_of_none (((s3.trans s4).trans s5) _ _ eE) na).symm
        refine q pp E2 al _ ⟨⟨0, upd_same⟩, ⟨ds, by rw [upd_ne nEp]; exact s7 _ _ eE, by omega⟩, ?_, nalE, (fun b x e => nomatch e), rfl, rfl⟩ (same_upd2 (s2.trans s7) np0)
        cases cs with
        | nil => exact ⟨[53], by rw [upd_ne nal, upd_same]; rfl, by simp, by decide⟩
        | cons x xs =>
          refine ⟨x :: xs, by rw [upd_ne nal, upd_same]; simp, by simp, by simp at lcs ⊢; omega⟩
theorem ok_l_opened (T : All K mg) : FnOk P w K mg base CX0 1 T.f_l_opened T.fd_l_opened ["script"] (sp_opened K) := (ok_l_opened0 T).imp (opened_imp K)
theorem ok_l_draw0 (T : All K mg) : FnOk P w K mg base CX0 1 T.f_l_draw T.fd_l_draw ["pot", "many"] Lm.sp_draw := by
  have nd := sc_l_draw.nd
  refine T.D_l_draw.F.ok sc_l_draw (fun vs H Q E h => ?_) (fun cdv A outer s H vs Q E hr h => ?_)
  · obtain ⟨Z, p, dl, al, n, rfl, _⟩ := h
    rfl
  · obtain ⟨Z, p, dl, al, n, rfl, hP, n0, n1, q⟩ := h
    have hu := hu_of hr
    refine ⟨_, (pss_cons (ps_while PassesOwn.never (pt_cmpR (op_neE hr.units0) (pe_dget hu (pv 0) pe_str (fun _ _ => rfl)) (pe_lst pa_nil) (nomark _))
    (pss_cons (ps_set (i := 2) nd rfl (by first | exact Or.inl rfl | exact Or.inr rfl) (pe_bm PySem.F.plainAttrs_list PySem.F.slot_list_pop PySem.F.type_list_pop mt_popAt (pe_dget hu (pv 0) pe_str (fun _ _ => rfl)) (pa_cons pe_int pa_nil)))
  (pss_one (ps_if (pt_cmpR op_gt (pv 2) pe_int (nomark _))
    (pss_cons (ps_expr (pe_bm PySem.F.plainAttrs_list PySem.F.slot_list_insert PySem.F.type_list_insert mt_insert (pe_dget hu (pv 0) pe_str (fun _ _ => rfl)) (pa_cons pe_int (pa_cons (pe_op op_fdivN (pv 2) (pv 1)) pa_nil))))
  (pss_one (ps_ret (pe_op op_modN (pv 2) (pv 1)))))
    pss_nil))))
  (pss_cons (ps_par (i := 3) (j := 4) (by rfl) nd rfl rfl (by decide) rfl rfl (pa_cons (pe_dget hu (pv 0) pe_str (fun _ _ => rfl)) (pa_cons (pe_dget hu (pv 0) pe_str (fun _ _ => rfl)) pa_nil)) (by rfl))
  (pss_cons (ps_dput hu (pv 0) pe_str (pe_op op_add (pv 3) pe_int) rfl)
  (pss_cons (ps_set (i := 5) nd rfl (by first | exact Or.inl rfl | exact Or.inr rfl) (pe_op op_add (pe_op op_modN (pe_ix ix_list (pv 4) (pe_op op_modN (pv 3) (pe_callB call_len_seq (by rfl) T.z_len (by decide +kernel) (pa_cons (pv 4) pa_nil))) (fun _ _ => rfl)) pe_int) (pe_op op_mul pe_int (pe_op op_add (pv 3) pe_int))))
  (pss_cons (ps_set (i := 5) nd rfl (by first | exact Or.inl rfl | exact Or.inr rfl) (pe_op op_modN (pe_op op_mul (pe_op op_modN (pv 5) pe_int) (pe_op op_add (pe_op op_modN (pv 5) pe_int) pe_int)) pe_int))
  (pss_cons (ps_set (i := 5) nd rfl (by first | exact Or.inl rfl | exact Or.inr rfl) (pe_op op_modN (pe_op op_mul (pe_op op_modN (pe_op op_add (pe_op op_mul (pv 5) (pv 5)) (pe_op op_mul pe_int (pv 3))) pe_int) pe_int) pe_int))
  (pss_one (ps_ret (pe_op op_modN (pe_op op_fdivN (pv 5) pe_int) (pv 1)))))))))), ?_⟩
    refine ⟨fun m σ H' => (∃ y2, σ = [some (.ref p), some (.int n), y2, none, none, none]) ∧ PotAt Z H' p dl al ∧ (∃ ns : List Int, H' dl = some (.lst (ns.map V.int)) ∧ ns.length = m) ∧ Lm.Kp Z p dl H H', ?_, ?_⟩
    · obtain ⟨ns, e, _⟩ := hP.de
      exact ⟨ns.length, ⟨_, rfl⟩, hP, ⟨ns, e, rfl⟩, Lm.Kp.refl _ _ _⟩
    · rintro m σ H1 ⟨⟨y2, rfl⟩, P1, ⟨ns, ed, em⟩, k1⟩
      obtain ⟨t, ep⟩ := P1.ob
      have npd := P1.pd
      refine ⟨_, rfl, p, .ref dl, rfl, DGet.k (k := Sum.inr "deep") ep, Nat.zero_le _, fun l nl => ?_⟩
      have fr := P1.free nl
      have ed1 : (upd H1 l (.lst [])) dl = some (.lst (ns.map V.int)) := by rw [upd_ne fr.2.1.symm]; exact ed
      have ep1 : (upd H1 l (.lst [])) p = some (.dK [(.inr "deep", .ref dl), (.inr "all", .ref al), (.inr "times", .int t)]) := by rw [upd_ne fr.1.symm]; exact ep
      have P2 := P1.new (o := .lst []) nl
      have k2 : Lm.Kp Z p dl H (upd H1 l (.lst [])) := k1.trans (Lm.Kp.new nl)
      refine ⟨dl, l, _, rfl, rfl, .inl (.inl ed1), .inl (.inl upd_same), _, rfl, ?_⟩
      cases ns with
      | cons x r =>
        refine iteT ⟨_, fun σ' H' z => z, ?_⟩
        have eP : ∀ o, (upd (upd H1 l (.lst [])) dl o) p = some (.dK [(.inr "deep", .ref dl), (.inr "all", .ref al), (.inr "times", .int t)]) := fun o => by rw [upd_ne npd]; exact ep1
        obtain ⟨ns2, e2, l2⟩ := P1.de
        have lr : r.length ≤ 63 := by
          rw [ed] at e2
          have q2 : (x :: r).map V.int = ns2.map V.int := HO.lst.inj (Option.some.inj e2)
          have q3 := congrArg List.length q2
          simp at q3
          omega
        have P3 : ∀ r' : List Int, r'.length ≤ 64 → PotAt Z (upd (upd H1 l (.lst [])) dl (.lst (r'.map V.int))) p dl al := fun r' hr' => by
          obtain ⟨ns3, e3, h3⟩ := P2.li
          exact ⟨⟨t, eP _⟩, ⟨r', upd_same, hr'⟩, ⟨ns3, by rw [upd_ne P1.ne]; exact e3, h3⟩, P1.ne, Lm.zz_upd P2.zz P2.zd, P2.zp, P2.zd⟩
        have k3 : ∀ H2 o, Lm.Kp Z p dl H2 (upd H2 dl o) := fun H2 o b u e => by
          have nn := Lm.hid_some e
          rw [Lm.hid_at nn.1 nn.2] at e ⊢
          rw [upd_ne nn.2.1]
          exact e
        refine ⟨_, rfl, p, .ref dl, rfl, DGet.k (k := Sum.inr "deep") ep1, .inl ⟨rfl, _, .inl (.inl ed1)⟩, dl, _, 0, 0, .int x, rfl, rfl, ed1, by decide, by decide, seq0 (by simp), rfl, ?_⟩
        refine ⟨_, rfl, x, 0, rfl, rfl, _, rfl, ite2 (fun gx => ?_) (fun gx => ?_)⟩
        · refine ⟨_, rfl, p, .ref dl, rfl, DGet.k (k := Sum.inr "deep") (eP _), .inl ⟨rfl, _, .inl (.inl upd_same)⟩, _, rfl, _, rfl, x, n, rfl, rfl, ⟨by omega, by omega⟩, dl, _, 0, _, rfl, rfl, upd_same, small1000 (by simp; omega), by decide, by decide, ?_⟩
          refine ⟨_, rfl, _, rfl, x, n, rfl, rfl, by omega, ?_⟩
          rw [upd_upd]
          refine q _ _ ?_ (k2.trans (k3 _ _)) (fmodB n0).1 (fmodB n0).2
          exact P3 (x.fdiv n :: r) (by simp; omega)
        · refine ⟨r.length, by rw [← em]; exact Nat.lt_succ_self _, ⟨_, rfl⟩, P3 r (by omega), ⟨r, upd_same, rfl⟩, k2.trans (k3 _ _)⟩
      | nil =>
        refine iteF ?_
        obtain ⟨cs, ec, nc, lc⟩ := P2.li
        have nal : al ≠ p := P1.pa
        refine ⟨_, rfl, p, .int t, rfl, DGet.k (k := Sum.inr "times") ep1, _, rfl, p, .ref al, rfl, DGet.k (k := Sum.inr "all") ep1, _, _, rfl, ?_⟩
        refine ⟨_, rfl, t, 1, rfl, rfl, _, rfl, p, _, rfl, DPut.k (k := Sum.inr "times") ep1 (small1000 (by simp)), ?_⟩
        have eal : ∀ o, (upd (upd H1 l (.lst [])) p o) al = some (.lst (cs.map V.int)) := fun o => by rw [upd_ne nal]; exact ec
        have lpos : (0 : Int) < ((cs.map V.int).length : Int) := by
          cases cs with
          | nil => exact absurd rfl nc
          | cons c r => simp
        have bx := fmodB (a := t) lpos
        obtain ⟨c, hc⟩ : ∃ c, cs[(t.fmod ((cs.map V.int).length : Int)).toNat]? = some c := by
          have hb : (t.fmod ((cs.map V.int).length : Int)).toNat < cs.length := by
            rw [List.length_map] at bx ⊢
            omega
          exact ⟨_, List.getElem?_eq_getElem hb⟩
        refine ⟨_, rfl, _, rfl, _, rfl, al, _, rfl, .inl (.inl (.inl (eal _))), t, _, rfl, rfl, by omega, al, _, _, .int c, rfl, rfl, .inl (.inl (eal _)), at_of (j := (t.fmod ((cs.map V.int).length : Int)).toNat) (by omega) (by rw [List.getElem?_map, hc]; rfl), c, 4294967291, rfl, rfl, (show (4294967291 : Int) ≠ 0 by decide), ?_⟩
        have m2 : ∀ z : Int, 0 ≤ z.fmod 4294967291 ∧ z.fmod 4294967291 < 4294967291 := fun z => fmodB (by decide)
        refine ⟨_, rfl, t, 1, rfl, rfl, 2246822519, _, rfl, rfl, .inl ⟨by decide, by decide⟩, _, _, rfl, rfl, ?_⟩
        have w1 : (4294967291 : Int) ≠ 0 := by decide
        have w2 : (50021 : Int) ≠ 0 := by decide
        refine ⟨_, rfl, _, _, rfl, rfl, w1, _, rfl, _, _, rfl, rfl, w2, _, _, rfl, rfl, _, _, rfl, rfl, .inl ⟨by have := (m2 (c.fmod 4294967291 + 2246822519 * (t + 1))).1; omega, by have := (m2 (c.fmod 4294967291 + 2246822519 * (t + 1))).2; omega⟩, _, _, rfl, rfl, w1, ?_⟩
        dsimp only [gName, List.set]
        generalize hz : ((c.fmod 4294967291 + 2246822519 * (t + 1)).fmod 4294967291 * ((c.fmod 4294967291 + 2246822519 * (t + 1)).fmod 50021 + 13)).fmod 4294967291 = z
        have bz : 0 ≤ z ∧ z < 4294967291 := by rw [← hz]; exact m2 _
        refine ⟨_, rfl, _, rfl, z, z, rfl, rfl, .inl ⟨by omega, by omega⟩, _, rfl, 668265263, t, rfl, rfl, .inl ⟨by decide, by decide⟩, _, _, rfl, rfl, _, _, rfl, rfl, w1, _, _, rfl, rfl, .inr ⟨by decide, by decide⟩, _, _, rfl, rfl, w1, ?_⟩
        refine ⟨_, rfl, _, _, rfl, rfl, ⟨by decide, by decide⟩, _, rfl, _, _, rfl, rfl, by omega, ?_⟩
        refine q _ _ ?_ ?_ (fmodB n0).1 (fmodB n0).2
        · exact ⟨⟨t + 1, upd_same⟩, ⟨[], by rw [upd_ne npd.symm]; exact ed1, by decide⟩, ⟨cs, eal _, nc, lc⟩, P1.ne, Lm.zz_upd P2.zz P2.zp, P2.zp, P2.zd⟩
        · refine k2.trans fun b u e => ?_
          have nn := Lm.hid_some e
          rw [Lm.hid_at nn.1 nn.2] at e ⊢
          rw [upd_ne nn.1]
          exact e
theorem ok_l_draw (T : All K mg) : FnOk P w K mg base CX0 1 T.f_l_draw T.fd_l_draw ["pot", "many"] sp_draw := (ok_l_draw0 T).imp draw_imp
theorem ok_l_one0 (T : All K mg) : FnOk P w K mg base CX0 2 T.f_l_one T.fd_l_one ["pot", "items"] Lm.sp_one := by
  have nd := sc_l_one.nd
  refine T.D_l_one.F.ok sc_l_one (fun vs H Q E h => ?_) (fun cdv A outer s H vs Q E hr h => ?_)
  · obtain ⟨Z, p, dl, al, l, xs, rfl, _⟩ := h
    rfl
  · obtain ⟨Z, p, dl, al, l, xs, rfl, hP, hl, ne, hn, q⟩ := h
    refine ⟨_, (pss_one (ps_ret (pe_ix ix_list (pv 1) (pe_call (ok_l_draw0 T) (hr.mono (by decide)) (by rfl) T.D_l_draw.g T.D_l_draw.F.kp T.D_l_draw.b .nil pass0 (pa_cons (pv 0) (pa_cons (pe_callB call_len_seq (by rfl) T.z_len (by decide +kernel) (pa_cons (pv 1) pa_nil)) pa_nil))) (fun _ _ => rfl)))), ?_⟩
    have pos : 0 < xs.length := by
      cases xs with
      | nil => exact absurd rfl ne
      | cons x r => simp
    refine ⟨.ref l, rfl, .ref p, rfl, .ref l, rfl, l, xs, rfl, .inl (.inl (.inl (Lm.hid_same _ _ _ _ _ hl))), Z, p, dl, al, (xs.length : Int), rfl, hP, by omega, by omega, fun r H2 P2 k2 r0 r1 => ?_⟩
    have hb : r.toNat < xs.length := by omega
    refine ⟨l, xs, r, xs[r.toNat], rfl, rfl, .inl (.inl (Lm.hid_same _ _ _ _ _ (k2 _ _ hl))), at_of (j := r.toNat) (by omega) (List.getElem?_eq_getElem hb), ?_⟩
    exact q _ _ (List.getElem_mem hb) P2 k2
theorem ok_l_one (T : All K mg) : FnOk P w K mg base CX0 2 T.f_l_one T.fd_l_one ["pot", "items"] sp_one := (ok_l_one0 T).imp one_imp
theorem ok_l_lamp (T : All K mg) : FnOk P w K mg base CX0 3 T.f_l_lamp T.fd_l_lamp ["pot", "great"] (sp_lampP K) := by
  have nd := sc_l_lamp.nd
  refine T.D_l_lamp.F.ok sc_l_lamp (fun vs H Q E h => ?_) (fun cdv A outer s H vs Q E hr h => ?_)
  · obtain ⟨Z, p, dl, al, g, rfl, _⟩ := h
    rfl
  · obtain ⟨Z, p, dl, al, g, rfl, hP, g0, g1, q⟩ := h
    refine ⟨_, (pss_cons (ps_set (i := 2) nd rfl (by first | exact Or.inl rfl | exact Or.inr rfl) (pe_call (ok_l_one T) (hr.mono (by decide)) (by rfl) T.D_l_one.g T.D_l_one.F.kp T.D_l_one.b .nil pass0 (pa_cons (pv 0) (pa_cons (pe_lst (pa_cons pe_int (pa_cons pe_int (pa_cons (pe_op op_add pe_int (pe_call (ok_l_draw T) (hr.mono (by decide)) (by rfl) T.D_l_draw.g T.D_l_draw.F.kp T.D_l_draw.b .nil pass0 (pa_cons (pv 0) (pa_cons pe_int pa_nil)))) (pa_cons (pe_op op_add pe_int (pe_call (ok_l_draw T) (hr.mono (by decide)) (by rfl) T.D_l_draw.g T.D_l_draw.F.kp T.D_l_draw.b .nil pass0 (pa_cons (pv 0) (pa_cons pe_int pa_nil)))) (pa_cons (pe_op op_add pe_int (pe_call (ok_l_draw T) (hr.mono (by decide)) (by rfl) T.D_l_draw.g T.D_l_draw.F.kp T.D_l_draw.b .nil pass0 (pa_cons (pv 0) (pa_cons (pv 1) pa_nil)))) (pa_cons (pv 1) pa_nil))))))) pa_nil))))
  (pss_one (ps_ret (pe_tup (pa_cons (pe_call (ok_l_one T) (hr.mono (by decide)) (by rfl) T.D_l_one.g T.D_l_one.F.kp T.D_l_one.b .nil pass0 (pa_cons (pv 0) (pa_cons (pe_lst (pa_cons pe_str (pa_cons pe_str pa_nil))) pa_nil))) (pa_cons (pv 2) pa_nil)))))), ?_⟩
    refine s_set ?_
    refine (ev_one (m0 := 5) (m := 6) (R := IR 1 1000000000) (by rfl) (by decide) IR.mo (ev_lst (by decide) IR.mo
      (eall_cons IR.mo (ev_int.wide (by decide) (by decide)) (eall_cons IR.mo (ev_int.wide (by decide) (by decide))
      (eall_cons IR.mo ((ev_add (a := 1) (b := 1) ev_int (ev_drawC (m := 12))).wide (by decide) (by decide))
      (eall_cons IR.mo ((ev_add (a := 1) (b := 1) ev_int (ev_drawC (m := 40))).wide (by decide) (by decide))
      (eall_cons IR.mo ((ev_add (a := 1) (b := 1) ev_int (ev_draw (b := g) (by rfl) (by omega) (ev_ivar (by rfl) g0 (Int.le_refl _)))).wide (by omega) (by omega))
      (eall_cons IR.mo (ev_ivar (by rfl) g0 g1) eall_nil)))))))).run hP (b := 0) (by omega) fun v H1 P1 k1 r1 => ?_
    obtain ⟨st, rfl, s0, s1⟩ := r1
    refine s_ret (r_tup ?_)
    refine (eva_pair KS.mo EI_mo (ev_one (m0 := 1) (m := 2) (by rfl) (by decide) KS.mo ev_kinds) (ev_iv (g := st) (by rfl))).run P1 (b := 0) (by omega) fun vs H2 P2 k2 r2 => ?_
    obtain ⟨_, _, rfl, ⟨kd, rfl⟩, rfl⟩ := r2
    refine ⟨sz2, fun t nt => ?_⟩
    obtain ⟨P3, k3, e3⟩ := laid (o := .tup [.str (kindS kd), .int st]) P2 nt
    exact q _ _ (kd, st) P3 (k1.trans (k2.trans k3)) (dq_lampT (.inl (.inl e3))) s0 s1
theorem ok_l_far_runs (T : All K mg) : FnOk P w K mg base CX0 3 T.f_l_far_runs T.fd_l_far_runs ["pot", "upto"] (sp_farP K) := by
  have nd := sc_l_far_runs.nd
  refine T.D_l_far_runs.F.ok sc_l_far_runs (fun vs H Q E h => ?_) (fun cdv A outer s H vs Q E hr h => ?_)
  · obtain ⟨Z, p, dl, al, u, rfl, _⟩ := h
    rfl
  · obtain ⟨Z, p, dl, al, u, rfl, hP, u0, u1, q⟩ := h
    refine ⟨_, (pss_cons (ps_par3 (i := 2) (j := 3) (l := 4) (by rfl) nd rfl rfl rfl (by decide) (by decide) (by decide) rfl rfl rfl (pa_cons (pe_lst pa_nil) (pa_cons (pe_call (ok_l_one T) (hr.mono (by decide)) (by rfl) T.D_l_one.g T.D_l_one.F.kp T.D_l_one.b .nil pass0 (pa_cons (pv 0) (pa_cons (pe_lst (pa_cons pe_int (pa_cons (pe_call (ok_l_draw T) (hr.mono (by decide)) (by rfl) T.D_l_draw.g T.D_l_draw.F.kp T.D_l_draw.b .nil pass0 (pa_cons (pv 0) (pa_cons pe_int pa_nil))) (pa_cons (pe_call (ok_l_draw T) (hr.mono (by decide)) (by rfl) T.D_l_draw.g T.D_l_draw.F.kp T.D_l_draw.b .nil pass0 (pa_cons (pv 0) (pa_cons (pe_op op_pow pe_int pe_int) pa_nil))) pa_nil)))) pa_nil))) (pa_cons (pe_op op_pow pe_int pe_int) pa_nil))) (by rfl))
  (pss_cons (ps_for PassesOwn.never rfl (pi_range1 (by rfl) T.z_range (pa_cons (pe_call (ok_l_draw T) (hr.mono (by decide)) (by rfl) T.D_l_draw.g T.D_l_draw.F.kp T.D_l_draw.b .nil pass0 (pa_cons (pv 0) (pa_cons (pe_op op_add (pv 1) pe_int) pa_nil))) pa_nil)) (pg_name (i := 5) nd rfl (by first | exact Or.inl rfl | exact Or.inr rfl))
    (pss_cons (ps_set (i := 6) nd rfl (by first | exact Or.inl rfl | exact Or.inr rfl) (pe_call (ok_l_one T) (hr.mono (by decide)) (by rfl) T.D_l_one.g T.D_l_one.F.kp T.D_l_one.b .nil pass0 (pa_cons (pv 0) (pa_cons (pe_lst (pa_cons pe_int (pa_cons pe_int (pa_cons (pe_op op_add pe_int (pe_call (ok_l_draw T) (hr.mono (by decide)) (by rfl) T.D_l_draw.g T.D_l_draw.F.kp T.D_l_draw.b .nil pass0 (pa_cons (pv 0) (pa_cons pe_int pa_nil)))) (pa_cons (pe_op op_add pe_int (pe_call (ok_l_draw T) (hr.mono (by decide)) (by rfl) T.D_l_draw.g T.D_l_draw.F.kp T.D_l_draw.b .nil pass0 (pa_cons (pv 0) (pa_cons (pe_op op_pow pe_int pe_int) pa_nil)))) (pa_cons (pe_op op_pow pe_int pe_int) pa_nil)))))) pa_nil))))
  (pss_cons (ps_set (i := 7) nd rfl (by first | exact Or.inl rfl | exact Or.inr rfl) (pe_op op_add pe_int (pe_callB (call_min2 rfl) (by rfl) T.z_min (by decide +kernel) (pa_cons (pe_op op_fdivN (pe_op op_sub (pv 4) (pv 3)) (pv 6)) (pa_cons (pe_call (ok_l_one T) (hr.mono (by decide)) (by rfl) T.D_l_one.g T.D_l_one.F.kp T.D_l_one.b .nil pass0 (pa_cons (pv 0) (pa_cons (pe_lst (pa_cons pe_int (pa_cons pe_int (pa_cons (pe_call (ok_l_draw T) (hr.mono (by decide)) (by rfl) T.D_l_draw.g T.D_l_draw.F.kp T.D_l_draw.b .nil pass0 (pa_cons (pv 0) (pa_cons pe_int pa_nil))) (pa_cons (pe_call (ok_l_draw T) (hr.mono (by decide)) (by rfl) T.D_l_draw.g T.D_l_draw.F.kp T.D_l_draw.b .nil pass0 (pa_cons (pv 0) (pa_cons (pe_op op_pow pe_int pe_int) pa_nil))) (pa_cons (pv 4) pa_nil)))))) pa_nil))) pa_nil)))))
  (pss_one (ps_if (pt_cmpR op_le (pv 3) (pv 4) (nomark _))
    (pss_cons (ps_expr (pe_bm PySem.F.plainAttrs_list PySem.F.slot_list_append PySem.F.type_list_append mt_append (pv 2) (pa_cons (pe_tup (pa_cons (pv 3) (pa_cons (pe_ifExp (pt_cmpR op_gt (pv 7) pe_int (nomark _)) (pv 6) pe_int) (pa_cons (pv 7) pa_nil)))) pa_nil)))
  (pss_cons (ps_set (i := 8) nd rfl (by first | exact Or.inl rfl | exact Or.inr rfl) (pe_call (ok_l_one T) (hr.mono (by decide)) (by rfl) T.D_l_one.g T.D_l_one.F.kp T.D_l_one.b .nil pass0 (pa_cons (pv 0) (pa_cons (pe_lst (pa_cons pe_int (pa_cons pe_int (pa_cons (pe_op op_add pe_int (pe_call (ok_l_draw T) (hr.mono (by decide)) (by rfl) T.D_l_draw.g T.D_l_draw.F.kp T.D_l_draw.b .nil pass0 (pa_cons (pv 0) (pa_cons pe_int pa_nil)))) (pa_cons (pe_op op_add pe_int (pe_call (ok_l_draw T) (hr.mono (by decide)) (by rfl) T.D_l_draw.g T.D_l_draw.F.kp T.D_l_draw.b .nil pass0 (pa_cons (pv 0) (pa_cons (pe_op op_pow pe_int pe_int) pa_nil)))) pa_nil))))) pa_nil))))
  (pss_one (ps_set (i := 3) nd rfl (by first | exact Or.inl rfl | exact Or.inr rfl) (pe_op op_add (pe_op op_add (pv 3) (pe_op op_mul (pv 6) (pe_op op_sub (pv 7) pe_int))) (pv 8))))))
    pss_nil)))))
  (pss_one (ps_ret (pe_callTy call_tuple_of (by rfl) T.z_tuple (by decide +kernel) (pa_cons (pv 2) pa_nil)))))), ?_⟩
    refine s_par3 ⟨Nat.zero_le _, fun f nf => ?_⟩
    obtain ⟨P1, k1, e1⟩ := laid (o := .lst []) hP nf
    have ff := hP.free nf
    refine (eva_cons IR.mo (ev_one (m0 := 2) (m := 3) (R := IR 0 100000000) (by rfl) (by decide) IR.mo (ev_lst (by decide) IR.mo (eall_cons IR.mo (ev_int.wide (by decide) (by decide)) (eall_cons IR.mo ((ev_drawC (m := 100)).wide (by decide) (by decide))
      (eall_cons IR.mo ((ev_draw (b := 100000000) (by rfl) (by decide) ((ev_pow (by decide)).wide (by decide) (by decide))).wide (by decide) (by decide)) eall_nil))))) (eva_cons IR.mo (ev_pow (by decide)) eva_nil)).run P1 (b := 0) (by omega) fun vs H2 P2 k2 r2 => ?_
    obtain ⟨_, _, rfl, ⟨b, rfl, b0, b1⟩, _, _, rfl, ⟨mm, rfl, m0, m1⟩, rfl⟩ := r2
    have em : mm = 1000000000 := by
      have a : (10 : Int) ^ (9 : Int).toNat = 1000000000 := by decide
      omega
    subst em
    clear m0 m1
    refine ⟨_, _, _, rfl, ?_⟩
    refine s_rng ?_
    refine (eva_cons IR.mo (ev_draw (b := u + 1) (by rfl) (by omega) ((ev_add (ev_ivar (lo := u) (hi := u) (by rfl) (Int.le_refl _) (Int.le_refl _)) (ev_int (i := 1))).wide (by omega) (by omega))) eva_nil).run P2 (b := 0) (by omega) fun vs H3 P3 k3 r3 => ?_
    obtain ⟨_, _, rfl, ⟨n, rfl, n0, n1⟩, rfl⟩ := r3
    refine ⟨n, rfl, by omega, by omega, for_it walk_range (fun i σ Hi => ∃ rs xs b y5 y6 y7 y8, σ = [some (.ref p), some (.int u), some (.ref f), some (.int b), some (.int 1000000000), y5, y6, y7, y8] ∧ Iv (pot p dl al) Z 0 Hi ∧ Kp (pot p dl al) Z H Hi ∧ Hi f = some (.lst xs) ∧ Dqs K (cut1 f (hid (pot p dl al) Z Hi)) xs (rs.map runD) ∧
      rs.length ≤ i ∧ 0 ≤ b ∧ b ≤ 1010000000 ∧ RunsUp (-1) rs ∧ endL (-1) rs < b ∧ ∀ r ∈ rs, RunOk r) ⟨[], [], b, _, _, _, _, rfl, P3, (k1.trans k2).trans k3, k3.at_ ff (k2.at_ ff upd_same), .nil, Nat.le_refl _, b0, by omega, trivial, by show (-1 : Int) < b; omega, (fun r hr => nomatch hr)⟩ (fun i σ H1 _ h => trivial) ?_ ?_⟩
    · rintro i x σ Hi H' hi ⟨rs, xs, b, y5, y6, y7, y8, rfl, Pi, ki, ei, hx, la, b0, b1, up, eb, ok⟩ ⟨rfl, rfl⟩
      have hi' : i < 60 := by
        have : i < n.toNat := hi
        omega
      refine s_set ?_
      refine (ev_one (m0 := 4) (m := 5) (R := IR 1 100000000) (by rfl) (by decide) IR.mo (ev_lst (by decide) IR.mo (eall_cons IR.mo (ev_int.wide (by decide) (by decide)) (eall_cons IR.mo (ev_int.wide (by decide) (by decide))
        (eall_cons IR.mo ((ev_add (a := 1) (b := 1) ev_int (ev_drawC (m := 30))).wide (by decide) (by decide))
        (eall_cons IR.mo ((ev_add (a := 1) (b := 1) ev_int (ev_draw (b := 1000000) (by rfl) (by decide) ((ev_pow (by decide)).wide (by decide) (by decide)))).wide (by decide) (by decide))
        (eall_cons IR.mo ((ev_pow (by decide)).wide (by decide) (by decide)) eall_nil))))))).run Pi (b := 0) (by omega) fun v H4 P4 k4 r4 => ?_
      obtain ⟨st, rfl, s0, s1⟩ := r4
      refine s_set ⟨.int 1000000000, rfl, .int b, rfl, _, _, rfl, rfl, .int st, rfl, _, _, rfl, rfl, ⟨by omega, by omega⟩, ?_⟩
      refine (eva_cons IR.mo (ev_one (m0 := 4) (m := 5) (R := IR 0 1000000000) (by rfl) (by decide) IR.mo (ev_lst (by decide) IR.mo (eall_cons IR.mo (ev_int.wide (by decide) (by decide)) (eall_cons IR.mo (ev_int.wide (by decide) (by decide))
        (eall_cons IR.mo ((ev_drawC (m := 6)).wide (by decide) (by decide))
        (eall_cons IR.mo ((ev_draw (b := 10000000) (by rfl) (by decide) ((ev_pow (by decide)).wide (by decide) (by decide))).wide (by decide) (by decide))
        (eall_cons IR.mo (ev_ivar (g := 1000000000) (lo := 0) (hi := 1000000000) (by rfl) (by decide) (Int.le_refl _)) eall_nil))))))) eva_nil).run P4 (b := 0) (by omega) fun vs H5 P5 k5 r5 => ?_
      obtain ⟨_, _, rfl, ⟨x, rfl, x0, x1⟩, rfl⟩ := r5
      refine ⟨_, _, rfl, 1, _, rfl, rfl, ?_⟩
      have f5 := k5.at_ ff (k4.at_ ff ei)
      have k45 : Kp (pot p dl al) Z H' H5 := Kp.trans k4 k5
      have hx5 : Dqs K (cut1 f (hid (pot p dl al) Z H5)) xs (rs.map runD) := hx.mono (cut_mono k45)
      have k05 := ki.trans k45
      refine s_if1 ?_
      refine ⟨.int b, rfl, .int 1000000000, rfl, _, _, rfl, rfl, _, rfl, ite2 (fun g => ?_) (fun g => ?_)⟩
      · have g' : b ≤ 1000000000 := of_decide_eq_true g
        have F := far_step (m := 1000000000 - b) (st := st) (x := x) (by omega) s0 x0
        generalize (if x < (1000000000 - b).fdiv st then x else (1000000000 - b).fdiv st) = kk at F ⊢
        obtain ⟨F0, F1, F2, F3⟩ := F
        refine s_expr ⟨.ref f, rfl, .inl ⟨rfl, _, .inl (.inl f5)⟩, ?_⟩
        refine r_cons (r_tup ⟨.int b, rfl, ?_⟩)
        refine te_of (fun v G => G = H5 ∧ ∃ s2 : Int, v = .int s2 ∧ 1 ≤ s2 ∧ s2 ≤ 100000000 ∧ s2 * kk = st * kk) ?_ ?_
        · rintro _ G ⟨eG, s2, rfl, s20, s21, s22⟩
          subst eG
          refine ⟨.int (1 + kk), rfl, Nat.le_of_lt (small1000 (show 3 ≤ 1000 by decide)), fun t nt => ?_⟩
          have tf : f ≠ t := fun e => by rw [← e, f5] at nt; cases nt
          have lx := hx5.len
          rw [List.length_map] at lx
          refine ⟨f, xs, _, rfl, rfl, by rw [upd_ne tf]; exact f5, small1000 (by omega), ?_⟩
          obtain ⟨P6, k6⟩ := app_iv (vs := [.int b, .int s2, .int (1 + kk)]) (o := .lst (xs ++ [.ref t])) hP nf P5 k05 nt
          obtain ⟨s5, e5⟩ := app_cut (vs := [.int b, .int s2, .int (1 + kk)]) (o' := .lst (xs ++ [.ref t])) P5.occ f5 nt
          have f6 : (upd (upd G t (.tup [.int b, .int s2, .int (1 + kk)])) f (.lst (xs ++ [.ref t]))) f = some (.lst (xs ++ [.ref t])) := upd_same
          have hx6 : Dqs K (cut1 f (hid (pot p dl al) Z (upd (upd G t (.tup [.int b, .int s2, .int (1 + kk)])) f (.lst (xs ++ [.ref t]))))) (xs ++ [.ref t]) ((rs ++ [(b, s2, 1 + kk)]).map runD) := by
            rw [List.map_append]
            exact dqs_snoc (hx5.mono s5) (dq_runT (q := (b, s2, 1 + kk)) (.inl (.inl e5)))
          generalize upd (upd G t (.tup [.int b, .int s2, .int (1 + kk)])) f (.lst (xs ++ [.ref t])) = H6 at P6 k6 f6 hx6 ⊢
          refine s_set ?_
          refine (ev_one (m0 := 3) (m := 4) (R := IR 1 10000000) (by rfl) (by decide) IR.mo (ev_lst (by decide) IR.mo (eall_cons IR.mo (ev_int.wide (by decide) (by decide)) (eall_cons IR.mo (ev_int.wide (by decide) (by decide))
            (eall_cons IR.mo ((ev_add (a := 1) (b := 1) ev_int (ev_drawC (m := 99))).wide (by decide) (by decide))
            (eall_cons IR.mo ((ev_add (a := 1) (b := 1) ev_int (ev_draw (b := 10000000) (by rfl) (by decide) ((ev_pow (by decide)).wide (by decide) (by decide)))).wide (by decide) (by decide)) eall_nil)))))).run P6 (b := 0) (by omega) fun v H8 P8 k8 r8 => ?_
          obtain ⟨pz, rfl, z0, z1⟩ := r8
          have ek : (1 + kk - 1) = kk := by omega
          have eL : lastM (b, s2, 1 + kk) = b + st * kk := by
            unfold lastM
            show b + s2 * (1 + kk - 1) = _
            rw [ek, s22]
          obtain ⟨up2, eb2⟩ := runsUp_snoc (x := (b, s2, 1 + kk)) up eb s20 (by show 1 ≤ 1 + kk; omega)
          refine s_set1 ⟨.int b, rfl, .int st, rfl, .int (1 + kk), rfl, _, _, rfl, rfl, st, _, rfl, rfl, .inl ⟨by omega, by omega⟩, b, _, rfl, rfl, .int pz, rfl, _, _, rfl, rfl, rs ++ [(b, s2, 1 + kk)], xs ++ [.ref t], _, _, _, _, _, rfl, P8, k6.trans k8, k8.at_ ff f6, hx6.mono (cut_mono k8), ?_, ?_, ?_, up2, ?_, ?_⟩
          · rw [List.length_append]; show rs.length + 1 ≤ i + 1; omega
          · rw [ek]; omega
          · rw [ek]; omega
          · rw [eb2, eL, ek]; omega
          · intro r hr
            rcases List.mem_append.mp hr with h | h
            · exact ok r h
            · rw [List.mem_singleton.mp h]
              exact ⟨⟨b0, g'⟩, ⟨s20, by show s2 ≤ 1000000000; omega⟩, ⟨by show 1 ≤ 1 + kk; omega, by show 1 + kk ≤ 1000000001; omega⟩, by rw [eL]; omega⟩
        · intro Q' hQ
          refine ⟨.int (1 + kk), rfl, _, 1, rfl, rfl, _, rfl, ite2 (fun g2 => ?_) (fun g2 => ?_)⟩
          · exact ⟨.int st, rfl, hQ _ _ ⟨rfl, st, rfl, s0, s1, rfl⟩⟩
          · have g2' : ¬ 1 < 1 + kk := fun z => g2 (decide_eq_true z)
            obtain rfl : kk = 0 := by omega
            exact hQ _ _ ⟨rfl, 1, rfl, by decide, by decide, by simp⟩
      · exact ⟨rs, xs, b, _, _, _, _, rfl, P5, k05, f5, hx5, by omega, b0, b1, up, eb, ok⟩
    · rintro σ Hi ⟨rs, xs, b, y5, y6, y7, y8, rfl, Pi, ki, ei, hx, la, b0, b1, up, eb, ok⟩
      refine ⟨.ref f, rfl, f, xs, rfl, .inl ⟨.inl (.inl ei), fun t nt => ?_⟩⟩
      obtain ⟨P7, k7, e7⟩ := laid (o := .tup xs) Pi nt
      exact q _ _ rs P7 (ki.trans k7) (.tup (.inl (.inl e7)) (hx.mono (cut_same.trans k7))) up (by omega) ok
theorem ok_l_told (T : All K mg) : FnOk P w K mg base CX0 5 T.f_l_told T.fd_l_told ["lamp", "runs"] (sp_told K) := by
  have nd := sc_l_told.nd
  refine T.D_l_told.F.ok sc_l_told (fun vs H Q E h => ?_) (fun cdv A outer s H vs Q E hr h => ?_)
  · obtain ⟨N, x, _, hd, _⟩ := h
    exact hd.len
  · obtain ⟨N, ⟨l, rs⟩, O, hd, hp, qq⟩ := h
    obtain ⟨v1, _, rfl, hd1, hd'⟩ := dqs_cons hd
    obtain ⟨v2, _, rfl, hd2, hd'⟩ := dqs_cons hd'
    obtain rfl := dqs_nil hd'
    refine ⟨_, (pss_cons (ps_set (i := 2) nd rfl (by first | exact Or.inl rfl | exact Or.inr rfl) pe_non)
  (pss_cons (ps_try_as (i := 3) rfl rfl nd rfl rfl ⟨rfl, by decide, .inl T.g_LampError⟩ takes0 (fun W pn xe tk _ => (pss_one (ps_set (i := 2) nd rfl (by first | exact Or.inl rfl | exact Or.inr rfl) (pe_callS (ok_log_of T) (hr.mono (by decide)) (by rfl) T.D_log_of.g T.D_log_of.F.kp T.D_log_of.b (fun σ => passAt tk σ) (pa_cons (pv 0) (pa_cons (pv 1) pa_nil)))))) (fun a oe cls d pn hz hf => (pss_cons (ps_set (i := 2) nd rfl (by first | exact Or.inl rfl | exact Or.inr rfl) pe_str)
  (pss_one (ps_if (PW.pt (pw_and (pt_val (pe_callB (call_isX hz hf) (by rfl) T.z_isinstance (by decide +kernel) (pa_cons (pv 3) (pa_cons (pe_glob (v := .ref T.C_TooLarge) (by rfl) T.g_TooLarge rfl) pa_nil)))) (pw_and1 (pt_not (pt_val (pe_callB (call_isX hz hf) (by rfl) T.z_isinstance (by decide +kernel) (pa_cons (pv 3) (pa_cons (pe_tup (pa_cons (pe_glob (v := .ref T.C_BadLog) (by rfl) T.g_BadLog rfl) (pa_cons (pe_glob (v := .ref T.C_TooMany) (by rfl) T.g_TooMany rfl) pa_nil))) pa_nil))))))))
    (pss_one (ps_set (i := 2) nd rfl (by first | exact Or.inl rfl | exact Or.inr rfl) (pe_lst (pa_cons (pe_xf T.X_TooLarge.xf T.X_TooLarge.no hz hf (pv 3)) pa_nil))))
    pss_nil)))))
  (pss_one (ps_ret (pv 2))))), ?_⟩
    refine s_set ?_
    refine ⟨v1, rfl, v2, rfl, N, (l, rs), O, .cons hd1 (.cons hd2 .nil), hp, fun hB r H1 s1 d1 => ?_, fun hB d H1 s1 e1 n1 => ?_⟩
    · have hB' := of_decide_eq_false hB
      refine ⟨r, rfl, qq r H1 s1 ?_⟩
      show Dq K _ r (toldD l rs)
      unfold toldD
      rw [if_neg hB']
      exact d1
    · have hB' := of_decide_eq_true hB
      refine ⟨true, T.kit0, fun _ a na => ?_, fun z => Bool.noConfusion z⟩
      refine ⟨.ref a, rfl, T.C_TooLarge, _, d, _, true, rfl, rfl, rfl, e1, T.X_TooLarge.xf, T.X_TooLarge.is, .inl ⟨_, fun u z => z, T.kit1⟩, true, rfl, ?_⟩
      refine iteT ⟨.ref a, rfl, Nat.le_of_lt (small1000 (show 2 ≤ 1000 by decide)), fun t nt => ?_⟩
      have s2 := same_new (o := .tup [.ref T.C_BadLog, .ref T.C_TooMany]) nt
      refine ⟨T.C_TooLarge, _, d, _, false, rfl, rfl, rfl, s2 _ _ e1, T.X_TooLarge.xf, T.X_TooLarge.is, .inr ⟨t, [T.C_BadLog, T.C_TooMany], rfl, upd_same, T.kit2⟩, false, rfl, ?_⟩
      refine iteT ⟨.ref a, rfl, rfl, rfl, d, _, _, rfl, s2 _ _ e1, rfl, Nat.le_of_lt (small1000 (Nat.le_add_left 1 999)), fun u nu => ?_⟩
      have s3 := s1.trans (s2.trans (same_new (o := .lst [.int 60]) nu))
      refine ⟨.ref u, rfl, qq _ _ s3 ?_⟩
      show Dq K _ _ (toldD l rs)
      unfold toldD
      rw [if_pos hB']
      exact .lst (.inl (.inl (cut_new (O.keep (s1.trans s2)) nu))) (.cons (.int 60) .nil)
theorem ok_l_put (T : All K mg) : FnOk P w K mg base CX0 1 T.f_l_put T.fd_l_put ["log", "on", "off"] (sp_put K) := by
  have nd := sc_l_put.nd
  refine T.D_l_put.F.ok sc_l_put (fun vs H Q E h => ?_) (fun cdv A outer s H vs Q E hr h => ?_)
  · obtain ⟨N, a, qs, p, rfl, _⟩ := h
    rfl
  · obtain ⟨N, a, qs, ⟨on, off⟩, rfl, O, ⟨xs, ga, hx⟩, hl, qq⟩ := h
    dsimp only
    have gH := cut_same _ _ ga
    have lx := hx.len
    rw [List.length_map, List.length_reverse] at lx
    refine ⟨_, (pss_cons (ps_if (PW.pt (pw_and (pt_cmpR (op_neE hr.units0) (pv 0) (pe_lst pa_nil) (nomark _)) (pw_and1 (pt_cmpR op_le (pv 1) (pe_ix ix_tup (pe_ix ix_list (pv 0) (pe_un un_neg pe_int) (fun _ _ => rfl)) pe_int (fun _ _ => rfl)) (nomark _)))))
    (pss_one (ps_ret (pe_op op_cat (pe_slice sl_list (pv 0) po_none (po_some (pe_un un_neg pe_int))) (pe_lst (pa_cons (pe_tup (pa_cons (pe_ix ix_tup (pe_ix ix_list (pv 0) (pe_un un_neg pe_int) (fun _ _ => rfl)) pe_int (fun _ _ => rfl)) (pa_cons (pe_callB (call_max2 rfl) (by rfl) T.z_max (by decide +kernel) (pa_cons (pv 2) (pa_cons (pe_ix ix_tup (pe_ix ix_list (pv 0) (pe_un un_neg pe_int) (fun _ _ => rfl)) pe_int (fun _ _ => rfl)) pa_nil))) pa_nil))) pa_nil)))))
    pss_nil)
  (pss_one (ps_ret (pe_op op_cat (pv 0) (pe_op op_rep (pe_lst (pa_cons (pe_tup (pa_cons (pv 1) (pa_cons (pv 2) pa_nil))) pa_nil)) (pe_callTy call_int1 (by rfl) T.z_int (by decide +kernel) (pa_cons (pe_cmpR op_lt (pe_callB call_len_seq (by rfl) T.z_len (by decide +kernel) (pa_cons (pv 0) pa_nil)) pe_int (nomark _)) pa_nil))))))), ?_⟩
    -- what comes behind the if
    have tail : ∀ (G : Hp) (Q' : VK), Same H G → (∀ (r : Addr) (H' : Hp), Same G H' → LL K (cut N H') r (if qs.length < 61 then (on, off) :: qs else qs) → Q' (.ref r) H') → (tOp rCat (tVar 0) (tOp rRep (tLst (tCons (tTup (tCons (tVar 1) (tCons (tVar 2) tNil))) tNil)) (tCB (fun xs H Q => (∃ i, xs = [V.int i] ∧ Q (V.int i) H) ∨ ∃ k, xs = [V.bl k] ∧ Q (V.int (if k = true then 1 else 0)) H) (tCons (tOp (rI0 fun i j => V.bl (decide (i < j))) (tCB (fun xs H_1 Q => ∃ p ys, xs = [V.ref p] ∧ (SqL K H_1 p ys ∨ SqT K H_1 p ys) ∧ Q (V.int (ys.length : Int)) H_1) (tCons (tVar 0) tNil)) (tC (V.int 61))) tNil)))) [some (.ref a), some (.int on), some (.int off)] G Q' := by
      intro G Q' sG hQ
      have gG := sG _ _ gH
      refine ⟨.ref a, rfl, .int on, rfl, .int off, rfl, sz2, fun t nt => ⟨Nat.le_of_lt (small1000 (Nat.le_add_left 1 999)), fun l nl => ?_⟩⟩
      have s1 : Same G (upd G t (.tup [.int on, .int off])) := same_new nt
      have s2 : Same (upd G t (.tup [.int on, .int off])) (upd (upd G t (.tup [.int on, .int off])) l (.lst [.ref t])) := same_new nl
      have g2 := s2 _ _ (s1 _ _ gG)
      have O1 := (O.keep sG).keep s1
      have dt : Dq K (cut N (upd G t (.tup [.int on, .int off]))) (.ref t) (pD (on, off)) := dq_pairT (q := (on, off)) (.inl (.inl (cut_new (O.keep sG) nt)))
      refine ⟨.ref a, rfl, a, xs, rfl, .inl (.inl (.inl g2)), _, 61, rfl, rfl, .inr ⟨_, rfl, ?_⟩⟩
      by_cases g : xs.length < 61
      · rw [decide_eq_true (show (xs.length : Int) < 61 by omega)]
        refine ⟨l, 1, [.ref t], rfl, rfl, upd_same, by decide, by decide, Nat.le_of_lt (small1000 (Nat.le_add_left 1 999)), fun m nm => ?_⟩
        have s3 := same_new (o := .lst ((List.replicate (1 : Int).toNat [V.ref t]).flatten)) nm
        refine ⟨a, m, xs, [.ref t], rfl, rfl, s3 _ _ g2, upd_same, Nat.le_of_lt (small1000 (by simp; omega)), fun z nz => ?_⟩
        have s4 := same_new (o := .lst (xs ++ [.ref t])) nz
        refine hQ z _ (s1.trans (s2.trans (s3.trans s4))) ⟨xs ++ [.ref t], cut_new ((O1.keep s2).keep s3) nz, ?_⟩
        rw [if_pos (by omega), List.reverse_cons, List.map_append]
        exact Dqs.app (hx.mono (cut_mono (sG.trans (s1.trans (s2.trans (s3.trans s4)))))) (.cons (dt.mono (cut_mono (s2.trans (s3.trans s4)))) .nil)
      · rw [decide_eq_false (show ¬ (xs.length : Int) < 61 by omega)]
        refine ⟨l, 0, [.ref t], rfl, rfl, upd_same, by decide, by decide, Nat.zero_le _, fun m nm => ?_⟩
        have s3 := same_new (o := .lst ((List.replicate (0 : Int).toNat [V.ref t]).flatten)) nm
        refine ⟨a, m, xs, [], rfl, rfl, s3 _ _ g2, upd_same, Nat.le_of_lt (small1000 (by simp; omega)), fun z nz => ?_⟩
        obtain ⟨ys, hys⟩ : ∃ ys, ys = xs ++ ([] : List V) := ⟨_, rfl⟩
        rw [← hys]
        have hx' : Dqs K (cut N H) ys (qs.reverse.map pD) := by rw [hys, List.append_nil]; exact hx
        have s4 := same_new (o := .lst ys) nz
        refine hQ z _ (s1.trans (s2.trans (s3.trans s4))) ⟨ys, cut_new ((O1.keep s2).keep s3) nz, ?_⟩
        rw [if_neg (by omega)]
        exact hx'.mono (cut_mono (sG.trans (s1.trans (s2.trans (s3.trans s4)))))
    refine s_ifn ⟨.ref a, rfl, Nat.zero_le _, fun gg ng => ?_⟩
    have sg : Same H (upd H gg (.lst [])) := same_new ng
    have gG := sg _ _ gH
    refine ⟨a, gg, xs, rfl, rfl, .inl (.inl gG), .inl (.inl upd_same), _, rfl, ?_⟩
    cases qs with
    | nil =>
      obtain rfl := dqs_nil hx
      refine iteF ?_
      refine s_ret (tail _ _ sg fun r H' s' h' => qq r H' (sg.trans s') ?_)
      exact h'
    | cons q r =>
      rw [List.reverse_cons, List.map_append] at hx
      have hx0 := hx
      obtain ⟨zs, v, rfl, hz, hv⟩ := dqs_snoc_inv hx
      obtain ⟨tq, rfl, gq⟩ := dq_pair hv
      have gq' := Same.seqT (cut_same.trans sg) gq
      refine iteT_e (by simp) ?_
      refine ⟨.int on, rfl, .ref a, rfl, 1, rfl, a, _, -1, .ref tq, rfl, rfl, .inl (.inl gG), atI_last _ _, tq, _, 1, .int q.2, rfl, rfl, gq', atI_nat (j := 1) rfl, on, q.2, rfl, rfl, _, rfl, ite2 (fun g3 => ?_) (fun g3 => ?_)⟩
      · have g3' : on ≤ q.2 := of_decide_eq_true g3
        refine s_ret ⟨.ref a, rfl, 1, rfl, -1, rfl, a, _, rfl, .inl (.inl gG), fun b nb => ?_⟩
        rw [cutV_init]
        have sb : Same (upd H gg (.lst [])) (upd (upd H gg (.lst [])) b (.lst zs)) := same_new nb
        have gG2 := sb _ _ gG
        have gq2 := Same.seqT sb gq'
        have Ob := (O.keep sg).keep sb
        have sB := sg.trans sb
        have eb : (upd (upd H gg (.lst [])) b (.lst zs)) b = some (.lst zs) := upd_same
        generalize upd (upd H gg (.lst [])) b (.lst zs) = Hb at sb gG2 gq2 Ob sB eb ⊢
        refine ⟨.ref a, rfl, 1, rfl, a, _, -1, .ref tq, rfl, rfl, .inl (.inl gG2), atI_last _ _, tq, _, 0, .int q.1, rfl, rfl, gq2, atI_nat (j := 0) rfl, .int off, rfl, .ref a, rfl, 1, rfl, a, _, -1, .ref tq, rfl, rfl, .inl (.inl gG2), atI_last _ _, tq, _, 1, .int q.2, rfl, rfl, gq2, atI_nat (j := 1) rfl, off, q.2, rfl, sz2, fun t nt => ⟨Nat.le_of_lt (small1000 (Nat.le_add_left 1 999)), fun l nl => ?_⟩⟩
        have s1 := same_new (o := .tup [.int q.1, .int (if q.2 > off then q.2 else off)]) nt
        have dt : Dq K (cut N (upd Hb t (.tup [.int q.1, .int (if q.2 > off then q.2 else off)]))) (.ref t) (pD (q.1, if q.2 > off then q.2 else off)) := dq_pairT (q := (q.1, if q.2 > off then q.2 else off)) (.inl (.inl (cut_new Ob nt)))
        have s2 := same_new (o := .lst [.ref t]) nl
        have lz : zs.length ≤ 61 := by
          have := lx
          simp at this hl
          omega
        refine ⟨b, l, zs, [.ref t], rfl, rfl, s2 _ _ (s1 _ _ eb), upd_same, Nat.le_of_lt (small1000 (by simp; omega)), fun z nz => ?_⟩
        have s3 := same_new (o := .lst (zs ++ [.ref t])) nz
        refine qq z _ (sB.trans (s1.trans (s2.trans s3))) ⟨zs ++ [.ref t], cut_new ((Ob.keep s1).keep s2) nz, ?_⟩
        simp only [putR]
        rw [if_pos g3', List.reverse_cons, List.map_append]
        exact Dqs.app (hz.mono (cut_mono (sB.trans (s1.trans (s2.trans s3))))) (.cons (dt.mono (cut_mono (s2.trans s3))) .nil)
      · have g3' : ¬ on ≤ q.2 := fun z => g3 (decide_eq_true z)
        refine s_ret (tail _ _ sg fun z H' s' h' => qq z H' (sg.trans s') ?_)
        simp only [putR]
        rw [if_neg g3']
        exact h'
theorem ok_l_held (T : All K mg) : FnOk P w K mg base CX0 2 T.f_l_held T.fd_l_held ["stay", "runs"] (sp_held K) := by
  have nd := sc_l_held.nd
  refine T.D_l_held.F.ok sc_l_held (fun vs H Q E h => ?_) (fun cdv A outer s H vs Q E hr h => ?_)
  · obtain ⟨N, s, rs, _, hd, _⟩ := h
    exact hd.len
  · obtain ⟨N, sy, rs, O, hd, y0, y1, hl, hok, hup, qq⟩ := h
    obtain ⟨v1, _, rfl, hd1, hd⟩ := dqs_cons hd
    obtain ⟨v2, _, rfl, hd2, hd⟩ := dqs_cons hd
    obtain rfl := dqs_nil hd
    obtain rfl := dq_int hd1
    obtain ⟨a, ys, rfl, g, hy⟩ := dq_tup hd2
    have len := hy.len
    rw [List.length_map] at len
    refine ⟨_, (pss_cons (ps_set (i := 2) nd rfl (by first | exact Or.inl rfl | exact Or.inr rfl) (pe_lst pa_nil))
  (pss_cons (ps_for PassesOwn.never rfl (pi_tup (pv 1)) (pg_tup rfl (pgs_cons (pg_name (i := 3) nd rfl (by first | exact Or.inl rfl | exact Or.inr rfl)) (pgs_cons (pg_name (i := 4) nd rfl (by first | exact Or.inl rfl | exact Or.inr rfl)) (pgs_cons (pg_name (i := 5) nd rfl (by first | exact Or.inl rfl | exact Or.inr rfl)) pgs_nil))))
    (pss_cons (ps_if (pt_cmpR op_le (pv 4) (pv 0) (nomark _))
    (pss_one (ps_set (i := 2) nd rfl (by first | exact Or.inl rfl | exact Or.inr rfl) (pe_call (ok_l_put T) (hr.mono (by decide)) (by rfl) T.D_l_put.g T.D_l_put.F.kp T.D_l_put.b .nil pass0 (pa_cons (pv 2) (pa_cons (pv 3) (pa_cons (pe_op op_add (pe_op op_add (pv 3) (pe_op op_mul (pv 4) (pe_op op_sub (pv 5) pe_int))) (pv 0)) pa_nil))))))
    pss_nil)
  (pss_one (ps_for PassesOwn.never rfl (pi_range1 (by rfl) T.z_range (pa_cons (pe_op op_mul (pe_callB (call_min2 rfl) (by rfl) T.z_min (by decide +kernel) (pa_cons (pv 5) (pa_cons pe_int pa_nil))) (pe_callTy call_int1 (by rfl) T.z_int (by decide +kernel) (pa_cons (pe_cmpR op_gt (pv 4) (pv 0) (nomark _)) pa_nil))) pa_nil)) (pg_name (i := 6) nd rfl (by first | exact Or.inl rfl | exact Or.inr rfl))
    (pss_cons (ps_set (i := 7) nd rfl (by first | exact Or.inl rfl | exact Or.inr rfl) (pe_op op_add (pv 3) (pe_op op_mul (pv 4) (pv 6))))
  (pss_one (ps_set (i := 2) nd rfl (by first | exact Or.inl rfl | exact Or.inr rfl) (pe_call (ok_l_put T) (hr.mono (by decide)) (by rfl) T.D_l_put.g T.D_l_put.F.kp T.D_l_put.b .nil pass0 (pa_cons (pv 2) (pa_cons (pv 7) (pa_cons (pe_op op_add (pv 7) (pv 0)) pa_nil)))))))))))
  (pss_one (ps_ret (pv 2))))), ?_⟩
    refine s_set ⟨Nat.zero_le _, fun f nf => ?_⟩
    have sf : Same H (upd H f (.lst [])) := same_new nf
    refine ⟨.ref a, rfl, a, rfl, ⟨_, Same.seqT (cut_same.trans sf) g⟩, for_it walk_tup (fun i σ Hi => ∃ b l qs y4 y5 y6 y7 y8, σ = [some (.int sy), some (.ref a), some (.ref l), y4, y5, y6, y7, y8] ∧ Same H Hi ∧ LL K (cut N Hi) l qs ∧ qs.length ≤ 61 ∧ Rel60 (heldB sy (rs.take i)) qs ∧ HeadB (heldB sy (rs.take i)) (b + sy) ∧ RunsUp b (rs.drop i)) ⟨-1, f, [], _, _, _, _, _, rfl, sf, ⟨[], cut_new O nf, .nil⟩, Nat.zero_le _, .inl rfl, (fun q hq => nomatch hq), hup⟩ (fun i σ H1 _ h => by
        obtain ⟨_, _, _, _, _, _, _, _, _, s1, _⟩ := h
        exact Same.seqT (cut_same.trans s1) g) ?_ ?_⟩
    · rintro i x σ Hi H' hi ⟨b, l, qs, y4, y5, y6, y7, y8, rfl, si, hL, l61, rel, hb, up⟩ ⟨rfl, hxi⟩
      obtain ⟨⟨fi, st, co⟩, hq, dq⟩ := dqs_get hy hxi
      rw [drop_get hq] at up
      obtain ⟨u1, u2, u3, u4⟩ := up
      have u1 : b < fi := u1
      have u2 : 1 ≤ st := u2
      have u3 : 1 ≤ co := u3
      have ro := hok _ (List.mem_of_getElem? hq)
      obtain ⟨e1, e2, e3, e4⟩ := held_run (s := sy) (rs := rs.take i) y0 hb u1 u2 u3
      rw [← take_snoc hq] at e1 e2 e3
      obtain ⟨ra, rfl, gr⟩ := dq_run dq
      have bs := ro.s
      have bc := ro.c
      dsimp only at bs bc gr
      refine ⟨ra, _, rfl, Same.seqT (cut_same.trans si) gr, rfl, _, _, rfl, _, _, rfl, _, _, rfl, rfl, ?_⟩
      dsimp only
      refine s_ifn' (fun σ' G => ∃ l' qs', σ' = [some (.int sy), some (.ref a), some (.ref l'), some (.int fi), some (.int st), some (.int co), y7, y8] ∧ Same H G ∧ LL K (cut N G) l' qs' ∧ qs'.length ≤ 61 ∧ (st ≤ sy → Rel60 (heldB sy (rs.take (i + 1))) qs') ∧ (sy < st → Rel60 (heldB sy (rs.take i)) qs')) ?rest ?two
      case two =>
        intro X hX
        refine ⟨.int st, rfl, .int sy, rfl, st, sy, rfl, rfl, _, rfl, ite2 (fun g1 => ?_) (fun g1 => ?_)⟩
        · have g1' : st ≤ sy := of_decide_eq_true g1
          refine s_set1 ⟨.ref l, rfl, .int fi, rfl, .int fi, rfl, .int st, rfl, .int co, rfl, co, 1, rfl, rfl, st, _, rfl, rfl, .inl ⟨by omega, by omega⟩, fi, _, rfl, rfl, .int sy, rfl, _, _, rfl, rfl, N, l, qs, (fi, fi + st * (co - 1) + sy), rfl, O.keep si, hL, l61, fun r G sG hr => hX _ _ ⟨r, _, rfl, si.trans sG, hr, put_max _ _ l61, fun _ => ?_, fun z => by omega⟩⟩
          rw [e3 g1']
          exact put_rel rel
        · have g1' : ¬ st ≤ sy := fun z => g1 (decide_eq_true z)
          exact hX _ _ ⟨l, qs, rfl, si, hL, l61, fun z => absurd z g1', fun _ => rel⟩
      rintro _ H1 ⟨l1, q1, rfl, s1, hL1, l611, r1, r2⟩
      refine s_rng1 ⟨.int co, rfl, co, 62, rfl, .int st, rfl, .int sy, rfl, st, sy, rfl, rfl, .inr ⟨_, rfl, ?_⟩⟩
      obtain ⟨n, en, n1, n2, n3⟩ : ∃ n : Nat, (if (62 : Int) < co then (62 : Int) else co) = (n : Int) ∧ n ≤ 62 ∧ (co ≤ 62 → n = co.toNat) ∧ (62 < co → n = 62) := ⟨(if (62 : Int) < co then (62 : Int) else co).toNat, by split <;> omega, by split <;> omega, fun h => by rw [if_neg (by omega)], fun h => by rw [if_pos h]; rfl⟩
      rw [en]
      by_cases g : sy < st
      · rw [decide_eq_true g]
        refine ⟨_, _, rfl, rfl, .inl ⟨by omega, by omega⟩, (n : Int), by simp, by omega, by omega, for_it walk_range (fun k σ Hk => ∃ l' qs' y7 y8, σ = [some (.int sy), some (.ref a), some (.ref l'), some (.int fi), some (.int st), some (.int co), y7, y8] ∧ Same H Hk ∧ LL K (cut N Hk) l' qs' ∧ qs'.length ≤ 61 ∧ Rel60 ((pcs sy fi st k).foldl joinS (heldB sy (rs.take i))) qs') ⟨l1, q1, _, _, rfl, s1, hL1, l611, r2 g⟩ (fun _ _ _ _ _ => trivial) ?_ ?_⟩
        · rintro k _ σ _ Hk hk ⟨l', qs', y7, y8, rfl, sk, hLk, lk, rk⟩ ⟨rfl, rfl⟩
          refine s_set ⟨.int fi, rfl, .int st, rfl, .int (0 + (k : Int)), rfl, st, _, rfl, rfl, .inl ⟨by omega, by omega⟩, fi, _, rfl, rfl, ?_⟩
          refine s_set1 ⟨.ref l', rfl, .int (fi + st * (0 + (k : Int))), rfl, .int (fi + st * (0 + (k : Int))), rfl, .int sy, rfl, _, _, rfl, rfl, N, l', qs', (fi + st * (0 + (k : Int)), fi + st * (0 + (k : Int)) + sy), rfl, O.keep sk, hLk, lk, fun r G sG hr => ⟨r, _, _, _, rfl, sk.trans sG, hr, put_max _ _ lk, ?_⟩⟩
          rw [pcs_succ, List.foldl_append, Int.zero_add]
          exact put_rel rk
        · rintro σ Hk ⟨l', qs', y7, y8, rfl, sk, hLk, lk, rk⟩
          rw [Int.toNat_natCast] at rk
          refine ⟨lastM (fi, st, co), l', qs', _, _, _, _, _, rfl, sk, hLk, lk, ?_, e2, u4⟩
          by_cases hc : co ≤ 62
          · rw [e1, ← n2 hc]
            exact rk
          · rw [n3 (by omega)] at rk
            have z := e4 g 62 (Nat.le_refl _)
            refine .inr ⟨by rw [e1]; exact e4 g _ (by omega), ?_⟩
            rcases rk with e | ⟨_, e⟩
            · rw [← e]; exact z
            · exact e
      · rw [decide_eq_false g]
        refine ⟨_, _, rfl, rfl, .inl ⟨by omega, by omega⟩, 0, by simp, by omega, by omega, for_it walk_range (fun k σ Hk => ∃ l' qs' y7 y8, σ = [some (.int sy), some (.ref a), some (.ref l'), some (.int fi), some (.int st), some (.int co), y7, y8] ∧ Same H Hk ∧ LL K (cut N Hk) l' qs' ∧ qs'.length ≤ 61 ∧ Rel60 (heldB sy (rs.take (i + 1))) qs') ⟨l1, q1, _, _, rfl, s1, hL1, l611, r1 (by omega)⟩ (fun _ _ _ _ _ => trivial) ?_ ?_⟩
        · rintro k _ σ _ Hk hk _ _
          exact absurd hk (by simp)
        · rintro σ Hk ⟨l', qs', y7, y8, rfl, sk, hLk, lk, rk⟩
          exact ⟨lastM (fi, st, co), l', qs', _, _, _, _, _, rfl, sk, hLk, lk, rk, e2, u4⟩
    · rintro σ Hi ⟨b, l, qs, y4, y5, y6, y7, y8, rfl, si, hL, l61, rel, hb, up⟩
      rw [len, List.take_length] at rel
      exact ⟨.ref l, rfl, qq l _ qs si hL l61 rel⟩
theorem ok_l_pulsed (T : All K mg) : FnOk P w K mg base CX0 2 T.f_l_pulsed T.fd_l_pulsed ["stay", "runs"] (sp_pulsed K) := by
  have nd := sc_l_pulsed.nd
  refine T.D_l_pulsed.F.ok sc_l_pulsed (fun vs H Q E h => ?_) (fun cdv A outer s H vs Q E hr h => ?_)
  · obtain ⟨N, s, rs, _, hd, _⟩ := h
    exact hd.len
  · obtain ⟨N, sy, rs, O, hd, y0, y1, hl, hok, hup, qq⟩ := h
    obtain ⟨v1, _, rfl, hd1, hd⟩ := dqs_cons hd
    obtain ⟨v2, _, rfl, hd2, hd⟩ := dqs_cons hd
    obtain rfl := dqs_nil hd
    obtain rfl := dq_int hd1
    obtain ⟨a, ys, rfl, g, hy⟩ := dq_tup hd2
    have len := hy.len
    rw [List.length_map] at len
    refine ⟨_, (pss_cons (ps_par (i := 2) (j := 3) (by rfl) nd rfl rfl (by decide) rfl rfl (pa_cons (pe_lst pa_nil) (pa_cons pe_int pa_nil)) (by rfl))
  (pss_cons (ps_for PassesOwn.never rfl (pi_tup (pv 1)) (pg_tup rfl (pgs_cons (pg_name (i := 4) nd rfl (by first | exact Or.inl rfl | exact Or.inr rfl)) (pgs_cons (pg_name (i := 5) nd rfl (by first | exact Or.inl rfl | exact Or.inr rfl)) (pgs_cons (pg_name (i := 6) nd rfl (by first | exact Or.inl rfl | exact Or.inr rfl)) pgs_nil))))
    (pss_cons (ps_set (i := 7) nd rfl (by first | exact Or.inl rfl | exact Or.inr rfl) (pe_ifExp (pt_cmpR op_lt (pv 4) (pv 3) (nomark _)) (pe_callB (call_max2 rfl) (by rfl) T.z_max (by decide +kernel) (pa_cons pe_int (pa_cons (pe_un un_neg (pe_op op_fdivN (pe_op op_sub (pv 4) (pv 3)) (pv 5))) pa_nil))) pe_int))
  (pss_one (ps_while PassesOwn.never (PW.pt (pw_and (pt_cmpR op_lt (pv 7) (pv 6) (nomark _)) (pw_and1 (pt_cmpR op_lt (pe_callB call_len_seq (by rfl) T.z_len (by decide +kernel) (pa_cons (pv 2) pa_nil)) pe_int (nomark _)))))
    (pss_cons (ps_set (i := 8) nd rfl (by first | exact Or.inl rfl | exact Or.inr rfl) (pe_op op_add (pv 4) (pe_op op_mul (pv 5) (pv 7))))
  (pss_cons (ps_set (i := 9) nd rfl (by first | exact Or.inl rfl | exact Or.inr rfl) (pe_ifExp (PW.pt (pw_and (pt_cmpR op_ge (pv 0) (pv 5) (nomark _)) (pw_and1 (pt_cmpR op_eq (pe_op op_modN (pv 0) (pv 5)) pe_int (nomark _))))) (pe_op op_add pe_int (pe_op op_fdivN (pe_op op_sub (pe_op op_sub (pv 6) pe_int) (pv 7)) (pe_op op_fdivN (pv 0) (pv 5)))) pe_int))
  (pss_cons (ps_set (i := 2) nd rfl (by first | exact Or.inl rfl | exact Or.inr rfl) (pe_call (ok_l_put T) (hr.mono (by decide)) (by rfl) T.D_l_put.g T.D_l_put.F.kp T.D_l_put.b .nil pass0 (pa_cons (pv 2) (pa_cons (pv 8) (pa_cons (pe_op op_add (pv 8) (pe_op op_mul (pv 0) (pv 9))) pa_nil)))))
  (pss_cons (ps_set (i := 3) nd rfl (by first | exact Or.inl rfl | exact Or.inr rfl) (pe_op op_add (pv 8) (pe_op op_mul (pv 0) (pv 9))))
  (pss_one (ps_set (i := 7) nd rfl (by first | exact Or.inl rfl | exact Or.inr rfl) (pe_un un_neg (pe_op op_fdivN (pe_op op_sub (pv 4) (pv 3)) (pv 5)))))))))))))
  (pss_one (ps_ret (pv 2))))), ?_⟩
    refine s_par ⟨Nat.zero_le _, fun f nf => ⟨_, _, rfl, ?_⟩⟩
    have sf : Same H (upd H f (.lst [])) := same_new nf
    refine ⟨.ref a, rfl, a, rfl, ⟨_, Same.seqT (cut_same.trans sf) g⟩, for_it walk_tup (fun i σ Hi => ∃ l qs dk y4 y5 y6 y7 y8 y9, σ = [some (.int sy), some (.ref a), some (.ref l), some (.int dk), y4, y5, y6, y7, y8, y9] ∧ Same H Hi ∧ LL K (cut N Hi) l qs ∧ qs.length ≤ 61 ∧ ((pulB sy (rs.take i) = qs ∧ dk = offOf (pulB sy (rs.take i))) ∨ (60 < (pulB sy (rs.take i)).length ∧ 60 < qs.length))) ⟨f, [], 0, _, _, _, _, _, _, rfl, sf, ⟨[], cut_new O nf, .nil⟩, Nat.zero_le _, .inl ⟨rfl, rfl⟩⟩ (fun i σ H1 _ h => by
        obtain ⟨_, _, _, _, _, _, _, _, _, _, s1, _⟩ := h
        exact Same.seqT (cut_same.trans s1) g) ?_ ?_⟩
    · rintro i x σ Hi H' hi ⟨l, qs, dk, y4, y5, y6, y7, y8, y9, rfl, si, hL, l61, rel⟩ ⟨rfl, hxi⟩
      obtain ⟨⟨fi, st, co⟩, hq, dq⟩ := dqs_get hy hxi
      have ro := hok _ (List.mem_of_getElem? hq)
      have tk := take_snoc hq
      obtain ⟨ra, rfl, gr⟩ := dq_run dq
      have bs := ro.s
      have bc := ro.c
      have bf := ro.f
      dsimp only at bs bc bf gr
      refine ⟨ra, _, rfl, Same.seqT (cut_same.trans si) gr, rfl, _, _, rfl, _, _, rfl, _, _, rfl, rfl, ?_⟩
      dsimp only
      refine s_set (te_of (fun v G => ∃ k0, v = .int k0 ∧ G = H' ∧ ((pulB sy (rs.take i) = qs ∧ dk = offOf (pulB sy (rs.take i))) → k0 = lightU (offOf (pulB sy (rs.take i))) (fi, st, co))) ?_ ?_)
      case _ =>
        rintro _ G ⟨k0, rfl, rfl, hk0⟩
        have inv0 : PL sy fi st co (pulB sy (rs.take i)) k0 dk qs ∨ (60 < (pulB sy (rs.take i)).length ∧ 60 < qs.length) := by
          rcases rel with h | h
          · obtain rfl := hk0 h
            obtain ⟨rfl, rfl⟩ := h
            exact .inl (pl_start bs.1)
          · exact .inr h
        refine ⟨fun m σ G => ∃ l qs dk k y8 y9, σ = [some (.int sy), some (.ref a), some (.ref l), some (.int dk), some (.int fi), some (.int st), some (.int co), some (.int k), y8, y9] ∧ Same H G ∧ LL K (cut N G) l qs ∧ qs.length ≤ 61 ∧ (PL sy fi st co (pulB sy (rs.take i)) k dk qs ∨ (60 < (pulB sy (rs.take i)).length ∧ 60 < qs.length)) ∧ (co - k).toNat = m, ⟨_, l, qs, dk, k0, y8, y9, rfl, si, hL, l61, inv0, rfl⟩, ?_⟩
        clear inv0 hk0 rel hL l61 si
        rintro m σ G ⟨l, qs, dk, k, y8, y9, rfl, sG, hL, l61, hPL, rfl⟩
        refine tst_of (fun b G' => G' = G ∧ (b = true → k < co ∧ qs.length < 61) ∧ (b = false → ¬ k < co ∨ 61 ≤ qs.length)) ?_ ?_
        · rintro b Gb ⟨eG, hbt, hbf⟩
          subst eG
          cases b with
          | true =>
            obtain ⟨kc, ql⟩ := hbt rfl
            have hPL' : PL sy fi st co (pulB sy (rs.take i)) k dk qs := by
              rcases hPL with h | ⟨_, h⟩
              · exact h
              · omega
            obtain ⟨st1, st2⟩ := pl_step y0 bs.1 bf.1 bc.1 hPL' kc ql
            refine iteT ⟨_, fun σ' H' z => z, ?_⟩
            refine s_set ⟨.int fi, rfl, .int st, rfl, .int k, rfl, st, k, rfl, rfl, .inl ⟨by omega, by omega⟩, fi, _, rfl, rfl, ?_⟩
            refine s_set (te_of (fun v G' => v = .int (sizeP sy st co k) ∧ G' = Gb) ?_ ?_)
            · rintro _ Gc ⟨rfl, rfl⟩
              refine s_set ⟨.ref l, rfl, .int (fi + st * k), rfl, .int (fi + st * k), rfl, .int sy, rfl, .int (sizeP sy st co k), rfl, sy, _, rfl, rfl, .inl ⟨by omega, by omega⟩, fi + st * k, _, rfl, rfl, N, l, qs, (fi + st * k, fi + st * k + sy * sizeP sy st co k), rfl, O.keep sG, hL, l61, fun r G2 s2 hr => ?_⟩
              refine s_set ⟨.int (fi + st * k), rfl, .int sy, rfl, .int (sizeP sy st co k), rfl, sy, _, rfl, rfl, .inl ⟨by omega, by omega⟩, fi + st * k, _, rfl, rfl, ?_⟩
              refine s_set1 ⟨.int fi, rfl, .int (fi + st * k + sy * sizeP sy st co k), rfl, fi, _, rfl, rfl, .int st, rfl, _, _, rfl, rfl, ⟨by omega, by omega⟩, _, rfl, ?_⟩
              exact ⟨_, by omega, r, _, _, _, _, _, rfl, sG.trans s2, hr, put_max _ _ l61, .inl st1, rfl⟩
            · intro Q' hQ
              have no : ¬ (st ≤ sy ∧ sy.fmod st = 0) → Q' (.int 1) Gb := fun h => hQ _ _ ⟨by unfold sizeP; rw [if_neg h], rfl⟩
              refine ⟨.int sy, rfl, .int st, rfl, sy, st, rfl, rfl, _, rfl, ite2 (fun g1 => ?_) (fun g1 => ?_)⟩
              · have g1' : st ≤ sy := of_decide_eq_true g1
                refine ⟨.int sy, rfl, .int st, rfl, sy, st, rfl, rfl, by omega, rfl, _, rfl, ite2 (fun g2 => ?_) (fun g2 => ?_)⟩
                · have g2' : sy.fmod st = 0 := V.int.inj (of_decide_eq_true g2)
                  have q1 : 1 ≤ sy.fdiv st := by
                    rw [Int.fdiv_eq_ediv_of_nonneg _ (by omega)]
                    exact Int.le_ediv_of_mul_le (by omega) (by omega)
                  have q2 : sy.fdiv st ≤ sy := by
                    rw [Int.fdiv_eq_ediv_of_nonneg _ (by omega)]
                    exact Int.ediv_le_self _ (by omega)
                  refine ⟨.int co, rfl, co, 1, rfl, rfl, .int k, rfl, _, k, rfl, rfl, .int sy, rfl, .int st, rfl, sy, st, rfl, rfl, ⟨by omega, by omega⟩, _, _, rfl, rfl, ⟨by omega, by omega⟩, 1, _, rfl, rfl, hQ _ _ ⟨?_, rfl⟩⟩
                  unfold sizeP
                  rw [if_pos ⟨g1', g2'⟩]
                · exact no fun h => g2 (decide_eq_true (by show V.int (sy.fmod st) = V.int 0; rw [h.2]))
              · exact no fun h => g1 (decide_eq_true h.1)
          | false =>
            refine iteF ?_
            refine ⟨l, qs, dk, _, _, _, _, _, _, rfl, sG, hL, l61, ?_⟩
            rw [tk]
            rcases hPL with h | ⟨h1, h2⟩
            · exact pl_end y0 bs.1 bf.1 bc.1 h (hbf rfl)
            · refine .inr ⟨?_, h2⟩
              rw [pul_snoc]
              exact Nat.lt_of_lt_of_le h1 (stepL_fold_len _ _ _ _)
        · intro Q' hQ
          obtain ⟨xs, gl, dx⟩ := hL
          have lx := dx.len
          rw [List.length_map, List.length_reverse] at lx
          refine ⟨.int k, rfl, .int co, rfl, k, co, rfl, rfl, _, rfl, ite2 (fun g1 => ?_) (fun g1 => ?_)⟩
          · have g1' : k < co := of_decide_eq_true g1
            refine ⟨.ref l, rfl, l, xs, rfl, .inl (.inl (.inl (cut_same _ _ gl))), _, 61, rfl, rfl, _, rfl, hQ _ _ ⟨rfl, fun h => ⟨g1', ?_⟩, fun h => .inr ?_⟩⟩
            · have := of_decide_eq_true h
              omega
            · have := of_decide_eq_false h
              omega
          · exact hQ _ _ ⟨rfl, fun z => Bool.noConfusion z, fun _ => .inl fun z => g1 (decide_eq_true z)⟩
      case _ =>
        intro Q' hQ
        refine ⟨.int fi, rfl, .int dk, rfl, fi, dk, rfl, rfl, _, rfl, ite2 (fun g1 => ?_) (fun g1 => ?_)⟩
        · have g1' : fi < dk := of_decide_eq_true g1
          refine ⟨.int fi, rfl, .int dk, rfl, fi, dk, rfl, rfl, .int st, rfl, _, _, rfl, rfl, ⟨by omega, by omega⟩, _, rfl, _, _, rfl, hQ _ _ ⟨_, rfl, rfl, fun h => ?_⟩⟩
          obtain ⟨_, rfl⟩ := h
          rw [light_start bs.1, if_pos g1']
        · have g1' : ¬ fi < dk := fun z => g1 (decide_eq_true z)
          refine hQ _ _ ⟨_, rfl, rfl, fun h => ?_⟩
          obtain ⟨_, rfl⟩ := h
          rw [light_start bs.1, if_neg g1']
    · rintro σ Hi ⟨l, qs, dk, y4, y5, y6, y7, y8, y9, rfl, si, hL, l61, rel⟩
      rw [len, List.take_length] at rel
      refine ⟨.ref l, rfl, qq l _ qs si hL l61 ?_⟩
      rcases rel with ⟨h, _⟩ | h
      · exact .inl h
      · exact .inr h
theorem ok_law (T : All K mg) : FnG P w K mg base CX0 6 T.f_law T.fd_law ["script"] (sp_law K) := by
  have nd := sc_law.nd
  refine Lm.Fun.okG T.D_law.F sc_law (fun vs H Q E h => ?_) (fun cdv A outer s H vs Q E hgd hr h => ?_)
  · obtain ⟨a, ns, rfl, _⟩ := h
    rfl
  · obtain ⟨a, ns, rfl, hS, hl, q⟩ := h
    refine ⟨_, (pss_cons (ps_set (i := 1) nd rfl (by first | exact Or.inl rfl | exact Or.inr rfl) (pe_call (ok_l_opened T) (hr.mono (by decide)) (by rfl) T.D_l_opened.g T.D_l_opened.F.kp T.D_l_opened.b .nil pass0 (pa_cons (pv 0) pa_nil)))
  (pss_cons (ps_for PassesOwn.never rfl (pi_range1 (by rfl) T.z_range (pa_cons pe_int pa_nil)) (pg_name (i := 2) nd rfl (by first | exact Or.inl rfl | exact Or.inr rfl))
    (pss_cons (ps_set (i := 3) nd rfl (by first | exact Or.inl rfl | exact Or.inr rfl) (pe_call (ok_l_far_runs T) (hr.mono (by decide)) (by rfl) T.D_l_far_runs.g T.D_l_far_runs.F.kp T.D_l_far_runs.b .nil pass0 (pa_cons (pv 1) (pa_cons pe_int pa_nil))))
  (pss_one (ps_for PassesOwn.never rfl (pi_list (pe_lst (pa_cons (pe_ix ix_tup (pe_call (ok_l_lamp T) (hr.mono (by decide)) (by rfl) T.D_l_lamp.g T.D_l_lamp.F.kp T.D_l_lamp.b .nil pass0 (pa_cons (pv 1) (pa_cons (pe_op op_pow pe_int pe_int) pa_nil))) pe_int (fun _ _ => rfl)) (pa_cons (pe_op op_add pe_int (pe_call (ok_l_draw T) (hr.mono (by decide)) (by rfl) T.D_l_draw.g T.D_l_draw.F.kp T.D_l_draw.b .nil pass0 (pa_cons (pv 1) (pa_cons (pe_op op_pow pe_int pe_int) pa_nil)))) (pa_cons (pe_call (ok_l_one T) (hr.mono (by decide)) (by rfl) T.D_l_one.g T.D_l_one.F.kp T.D_l_one.b .nil pass0 (pa_cons (pv 1) (pa_cons (pe_lst (pa_cons pe_int (pa_cons (pe_op op_pow pe_int pe_int) (pa_cons (pe_op op_pow pe_int pe_int) pa_nil)))) pa_nil))) pa_nil))))) (pg_name (i := 4) nd rfl (by first | exact Or.inl rfl | exact Or.inr rfl))
    (pss_cons (ps_set (i := 5) nd rfl (by first | exact Or.inl rfl | exact Or.inr rfl) (pe_lst (pa_cons (pe_call (ok_l_held T) (hr.mono (by decide)) (by rfl) T.D_l_held.g T.D_l_held.F.kp T.D_l_held.b .nil pass0 (pa_cons (pv 4) (pa_cons (pv 3) pa_nil))) (pa_cons (pe_call (ok_l_pulsed T) (hr.mono (by decide)) (by rfl) T.D_l_pulsed.g T.D_l_pulsed.F.kp T.D_l_pulsed.b .nil pass0 (pa_cons (pv 4) (pa_cons (pv 3) pa_nil))) pa_nil))))
  (pss_cons (ps_setLc (i := 5) (own := [("log", 6)]) rfl nd rfl rfl (sw_true rfl rfl rfl (by decide +kernel)) (pi_list (pv 5)) (blkOk_by (own := [("log", 6)]) (N := n_law) (sc := defScope s_law) (by decide +kernel)) (fun _ _ _ _ _ => (pg_name (i := 6) nd rfl (by first | exact Or.inl rfl | exact Or.inr rfl))) (fun _ _ _ _ _ => pts_nil) (fun _ _ _ _ _ => (pe_ifExp (pt_cmpR op_lt (pe_callB (call_lenK (K := K) rfl) (by rfl) T.z_len (by decide +kernel) (pa_cons (pv 6) pa_nil)) pe_int (nomark _)) (pe_callTy (call_tupleK (K := K) rfl) (by rfl) T.z_tuple (by decide +kernel) (pa_cons (pv 6) pa_nil)) (pe_lst (pa_cons pe_int pa_nil)))))
  (pss_one (ps_if (pt_cmpR op_ne (pe_callB (call_reprD hgd hr) (by rfl) T.z_repr (by decide +kernel) (pa_cons (pe_lc (own := [("kind", 7)]) rfl nd (pi_list (pe_lst (pa_cons pe_str (pa_cons pe_str pa_nil)))) (blkOk_by (own := [("kind", 7)]) (N := n_law) (sc := defScope s_law) (by decide +kernel)) (fun _ _ _ _ _ => (pg_name (i := 7) nd rfl (by first | exact Or.inl rfl | exact Or.inr rfl))) (fun _ _ _ _ _ => pts_nil) (fun _ _ _ _ _ => (pe_call (ok_l_told T) (hr.mono (by decide)) (by rfl) T.D_l_told.g T.D_l_told.F.kp T.D_l_told.b .nil pass0 (pa_cons (pe_tup (pa_cons (pv 7) (pa_cons (pv 4) pa_nil))) (pa_cons (pv 3) pa_nil))))) pa_nil)) (pe_callB (call_reprD hgd hr) (by rfl) T.z_repr (by decide +kernel) (pa_cons (pv 5) pa_nil)) (nomark _))
    (pss_one (ps_ret pe_bl))
    pss_nil))))))))
  (pss_one (ps_ret pe_bl)))), ?_⟩
    refine s_set ⟨.ref a, rfl, a, ns, rfl, hS, hl, fun p dl al H1 P1 s1 => ?_⟩
    generalize hZ : (fun _ => none : Hp) = Z at P1
    refine s_rng ⟨14, rfl, by omega, by omega, for_it walk_range (fun i σ Hi => ∃ y2 y3 y4 y5 y6 y7, σ = [some (.ref a), some (.ref p), y2, y3, y4, y5, y6, y7] ∧ Iv (pot p dl al) Z 0 Hi) ⟨_, _, _, _, _, _, rfl, P1⟩ (fun _ _ _ _ _ => trivial) ?_ ?_⟩
    · rintro i _ σ _ Hi hi ⟨y2, y3, y4, y5, y6, y7, rfl, Pi⟩ ⟨rfl, rfl⟩
      refine s_set ⟨.ref p, rfl, Z, p, dl, al, 4, rfl, Pi, by decide, by decide, fun x3 H2 rs P2 k2 d2 up l60 ok => ?_⟩
      refine s_lst1 ?_
      refine (ev_lst (m := 3) (n' := 3) (R := IR 1 1000000000) (by decide) IR.mo (eall_cons IR.mo (ev_lampStay (K := K) (by rfl) ((ev_pow (by decide)).wide (by decide) (by decide)))
        (eall_cons IR.mo ((ev_add (a := 1) (b := 1) ev_int (ev_draw (b := 1000000) (by rfl) (by decide) ((ev_pow (by decide)).wide (by decide) (by decide)))).wide (by decide) (by decide))
        (eall_cons IR.mo (ev_one (m0 := 2) (m := 3) (R := IR 1 1000000000) (by rfl) (by decide) IR.mo (ev_lst (by decide) IR.mo (eall_cons IR.mo (ev_int.wide (by decide) (by decide)) (eall_cons IR.mo ((ev_pow (by decide)).wide (by decide) (by decide)) (eall_cons IR.mo ((ev_pow (by decide)).wide (by decide) (by decide)) eall_nil))))) eall_nil)))).run P2 (b := 0) (by omega) fun v H3 P3 k3 r3 => ?_
      obtain ⟨L, xs, rfl, gL, _, _, hxs⟩ := r3
      have d3 := d2.mono k3
      refine ⟨L, rfl, ⟨_, .inl (.inl (hid_same _ _ gL))⟩, for_it (walk_list (K := K) (a := L) (xs := xs)) (fun m σ Hm => ∃ y4 y5 y6 y7, σ = [some (.ref a), some (.ref p), some (.int (0 + (i : Int))), some x3, y4, y5, y6, y7] ∧ Iv (pot p dl al) Z 0 Hm ∧ Kp (pot p dl al) Z H3 Hm) ⟨_, _, _, _, rfl, P3, Kp.refl⟩ (fun m σ Hm _ h => by
        obtain ⟨_, _, _, _, _, _, k⟩ := h
        exact .inl (.inl (hid_same _ _ (k _ _ gL)))) ?_ ?_⟩
      · rintro m x4 σ _ Hm hm ⟨y4, y5, y6, y7, rfl, Pm, km⟩ ⟨rfl, hx4⟩
        obtain ⟨sy, rfl, y0, y1⟩ := hxs x4 (List.mem_of_getElem? hx4)
        have dm := d3.mono km
        -- due
        refine s_set ⟨.int sy, rfl, x3, rfl, NZ (pot p dl al) Z, sy, rs, Pm.occ, .cons (.int _) (.cons dm .nil), y0, y1, Nat.le_trans l60 (by decide), ok, up, fun l1 G1 q1 s1 hL1 n1 r1 => ?_⟩
        have dm1 := dm.mono (cut_mono s1)
        refine ⟨.int sy, rfl, x3, rfl, NZ (pot p dl al) Z, sy, rs, Pm.occ.keep s1, .cons (.int _) (.cons dm1 .nil), y0, y1, Nat.le_trans l60 (by decide), ok, up, fun l2 G2 q2 s2 hL2 n2 r2 => ⟨sz2, fun t nt => ?_⟩⟩
        have s12 := s1.trans s2
        have st : Same G2 (upd G2 t (.lst [.ref l1, .ref l2])) := same_new nt
        have hd1 := (hL1.mono (cut_mono (s2.trans st))).dq
        have hd2 := (hL2.mono (cut_mono st)).dq
        have sB := s12.trans st
        have gt : (upd G2 t (.lst [.ref l1, .ref l2])) t = some (.lst [.ref l1, .ref l2]) := upd_same
        generalize upd G2 t (.lst [.ref l1, .ref l2]) = Hb at st hd1 hd2 sB gt ⊢
        have PB := Pm.keep sB
        obtain ⟨t1, _⟩ := told_due (l := (true, sy)) y0 up r1
        obtain ⟨t2, _⟩ := told_due (l := (false, sy)) y0 up r2
        have sm1 := due_sm (l := (true, sy)) ⟨y0, y1⟩ up ok r1
        have sm2 := due_sm (l := (false, sy)) ⟨y0, y1⟩ up ok r2
        have fine : Fine (.list [dueD q1.reverse, dueD q2.reverse]) := (two_sm' sm1 sm2).fine (by decide) (by decide)
        refine s_set ⟨.ref t, rfl, t, rfl, ⟨_, .inl (.inl gt)⟩, fun D nD => ?_⟩
        refine lc_map (K := K) (N := NZ (pot p dl al) Z) (D := logL) (F := fun qs => dueD qs.reverse) (as := [q1, q2]) (walk_list (K := K) (a := t) (xs := [.ref l1, .ref l2])) (fun H' s => .inl (.inl (s _ _ gt))) nD PB.occ (.cons hd1 (.cons hd2 .nil)) (by show 2 ≤ 900; decide) ?_ ?_
        · intro G x y Q' hy OG sG sH hx q'
          have ly : y.length ≤ 61 := by
            rcases List.mem_cons.mp hy with e | e
            · rw [e]; exact n1
            · rw [List.mem_singleton.mp e]; exact n2
          obtain ⟨b, ys, rfl, gb, hb⟩ := dq_lst hx
          have lb := hb.len
          rw [List.length_map, List.length_reverse] at lb
          refine ⟨.ref b, rfl, b, ys, rfl, .inl (Same.seqL cut_same gb), _, 61, rfl, rfl, _, rfl, ite2 (fun g => ?_) (fun g => ?_)⟩
          · have g' := of_decide_eq_true g
            refine ⟨.ref b, rfl, b, ys, rfl, .inl ⟨Same.seqL cut_same gb, fun u nu => q' _ _ (same_new nu) ?_⟩⟩
            unfold dueD
            rw [if_neg (by rw [List.length_reverse]; omega)]
            exact .tup (.inl (.inl (cut_new OG nu))) (hb.mono (cut_mono (same_new nu)))
          · have g' : ¬ (ys.length : Int) < 61 := fun z => g (decide_eq_true z)
            refine ⟨Nat.le_of_lt (small1000 (Nat.le_add_left 1 999)), fun u nu => q' _ _ (same_new nu) ?_⟩
            unfold dueD
            rw [if_pos (by rw [List.length_reverse]; omega)]
            exact .lst (.inl (.inl (cut_new OG nu))) (.cons (.int 60) .nil)
        intro Hc acc sc ec Oc dacc
        have dacc' := dacc.mono cut_same
        have sC := sB.trans sc
        have dmc := dm.mono (cut_mono sC)
        have PC := Pm.keep sC
        -- told
        refine s_if1 ⟨sz2, fun L2 nL2 => ?_⟩
        have sL : Same Hc (upd Hc L2 (.lst [.str "hold", .str "pulse"])) := same_new nL2
        have gL2 : (upd Hc L2 (.lst [.str "hold", .str "pulse"])) L2 = some (.lst [.str "hold", .str "pulse"]) := upd_same
        have ec2 := sL _ _ ec
        have dacc2 := dacc'.mono sL
        have dmd := dmc.mono (cut_mono sL)
        have PD := PC.keep sL
        have sD := sC.trans sL
        generalize upd Hc L2 (.lst [.str "hold", .str "pulse"]) = Hd at gL2 ec2 dacc2 dmd PD sD ⊢
        refine ⟨L2, rfl, ⟨_, .inl (.inl gL2)⟩, fun D2 nD2 => ?_⟩
        refine lc_map (K := K) (N := NZ (pot p dl al) Z) (D := fun kd => .str (kindS kd)) (F := fun kd => toldD (kd, sy) rs) (as := [true, false]) (walk_list (K := K) (a := L2) (xs := [.str "hold", .str "pulse"])) (fun H' s => .inl (.inl (s _ _ gL2))) nD2 PD.occ (.cons (.str _) (.cons (.str _) .nil)) (by show 2 ≤ 900; decide) ?_ ?_
        · intro G x kd Q' hk OG sG sH hx q'
          obtain rfl := dq_str hx
          refine ⟨.str (kindS kd), rfl, .int sy, rfl, sz2, fun t1 nt1 => ?_⟩
          have q1 : Same G (upd G t1 (.tup [.str (kindS kd), .int sy])) := same_new nt1
          refine ⟨x3, rfl, NP (NZ (pot p dl al) Z) D2, ((kd, sy), rs), OG.keep q1, .cons (dq_lampT (.inl (.inl (cut_new OG nt1)))) (.cons ((dmd.mono sG).mono (cut_mono q1)) .nil), ⟨y0, y1, Nat.le_trans l60 (by show 60 ≤ 400; decide), ok⟩, fun v Gy sy' dv => q' v Gy (q1.trans sy') dv⟩
        intro He acc2 se ee Oe dacc3
        have ee3 : [true, false].map (fun kd => toldD (kd, sy) rs) = [dueD q1.reverse, dueD q2.reverse] := by
          show [toldD (true, sy) rs, toldD (false, sy) rs] = _
          rw [t1, t2]
        rw [ee3] at dacc3
        refine ⟨.ref D2, .list [dueD q1.reverse, dueD q2.reverse], rfl, .lst (.inl (.inl ee)) (dacc3.mono cut_same), fine, ?_⟩
        refine ⟨.ref D, rfl, .ref D, .list [dueD q1.reverse, dueD q2.reverse], rfl, .lst (.inl (.inl (se _ _ ec2))) (dacc2.mono se), fine, ?_⟩
        refine ⟨rfl, false, ne_self, iteF ?_⟩
        exact ⟨_, _, _, _, rfl, PD.keep se, km.trans (Kp.of (sD.trans se))⟩
      · rintro σ Hm ⟨y4, y5, y6, y7, rfl, Pm, km⟩
        exact ⟨_, _, _, _, _, _, rfl, Pm⟩
    · rintro σ Hi ⟨y2, y3, y4, y5, y6, y7, rfl, Pi⟩
      exact q Hi
end
theorem all_mk {K : PySem.W.Frag} {h : Heap} {mg : Str → Option Value} (X : K.In h) (G : h.Ns mainGlobals mg)
  {f0 : Addr} {od0 an0 : Option Addr} {sl0 : Array (Option Value)} {oc0 kV0 dc0 pm0 cd0 ct0 : Value}
  (a0 : PySem.W.nsIn K mainGlobals "last_minute" = some (some (.ref f0))) (l0 : K.lookup f0 = some ⟨oc0, od0, .func (PySem.W.fnOf "last_minute" "last_minute" (defArgs s_last_minute) (defBody s_last_minute) (defScope s_last_minute) .none kV0 dc0 pm0 an0 cd0 ct0), sl0⟩) (c0 : PySem.W.codeIn K cd0 "last_minute" = true) (k0 : PySem.W.keepIn K (.ref f0) = true)
  {f1 : Addr} {od1 an1 : Option Addr} {sl1 : Array (Option Value)} {oc1 kV1 dc1 pm1 cd1 ct1 : Value}
  (a1 : PySem.W.nsIn K mainGlobals "log_of" = some (some (.ref f1))) (l1 : K.lookup f1 = some ⟨oc1, od1, .func (PySem.W.fnOf "log_of" "log_of" (defArgs s_log_of) (defBody s_log_of) (defScope s_log_of) .none kV1 dc1 pm1 an1 cd1 ct1), sl1⟩) (c1 : PySem.W.codeIn K cd1 "log_of" = true) (k1 : PySem.W.keepIn K (.ref f1) = true)
  {f2 : Addr} {od2 an2 : Option Addr} {sl2 : Array (Option Value)} {oc2 kV2 dc2 pm2 cd2 ct2 : Value}
  (a2 : PySem.W.nsIn K mainGlobals "lighting_runs" = some (some (.ref f2))) (l2 : K.lookup f2 = some ⟨oc2, od2, .func (PySem.W.fnOf "lighting_runs" "lighting_runs" (defArgs s_lighting_runs) (defBody s_lighting_runs) (defScope s_lighting_runs) .none kV2 dc2 pm2 an2 cd2 ct2), sl2⟩) (c2 : PySem.W.codeIn K cd2 "lighting_runs" = true) (k2 : PySem.W.keepIn K (.ref f2) = true)
  {f3 : Addr} {od3 an3 : Option Addr} {sl3 : Array (Option Value)} {oc3 kV3 dc3 pm3 cd3 ct3 : Value}
  (a3 : PySem.W.nsIn K mainGlobals "rounded_up" = some (some (.ref f3))) (l3 : K.lookup f3 = some ⟨oc3, od3, .func (PySem.W.fnOf "rounded_up" "rounded_up" (defArgs s_rounded_up) (defBody s_rounded_up) (defScope s_rounded_up) .none kV3 dc3 pm3 an3 cd3 ct3), sl3⟩) (c3 : PySem.W.codeIn K cd3 "rounded_up" = true) (k3 : PySem.W.keepIn K (.ref f3) = true)
  {f4 : Addr} {od4 an4 : Option Addr} {sl4 : Array (Option Value)} {oc4 kV4 dc4 pm4 cd4 ct4 : Value}
  (a4 : PySem.W.nsIn K mainGlobals "lit_pieces" = some (some (.ref f4))) (l4 : K.lookup f4 = some ⟨oc4, od4, .func (PySem.W.fnOf "lit_pieces" "lit_pieces" (defArgs s_lit_pieces) (defBody s_lit_pieces) (defScope s_lit_pieces) .none kV4 dc4 pm4 an4 cd4 ct4), sl4⟩) (c4 : PySem.W.codeIn K cd4 "lit_pieces" = true) (k4 : PySem.W.keepIn K (.ref f4) = true)
  {f5 : Addr} {od5 an5 : Option Addr} {sl5 : Array (Option Value)} {oc5 kV5 dc5 pm5 cd5 ct5 : Value}
  (a5 : PySem.W.nsIn K mainGlobals "joined" = some (some (.ref f5))) (l5 : K.lookup f5 = some ⟨oc5, od5, .func (PySem.W.fnOf "joined" "joined" (defArgs s_joined) (defBody s_joined) (defScope s_joined) .none kV5 dc5 pm5 an5 cd5 ct5), sl5⟩) (c5 : PySem.W.codeIn K cd5 "joined" = true) (k5 : PySem.W.keepIn K (.ref f5) = true)
  {f6 : Addr} {od6 an6 : Option Addr} {sl6 : Array (Option Value)} {oc6 kV6 dc6 pm6 cd6 ct6 : Value}
  (a6 : PySem.W.nsIn K mainGlobals "at_most" = some (some (.ref f6))) (l6 : K.lookup f6 = some ⟨oc6, od6, .func (PySem.W.fnOf "at_most" "at_most" (defArgs s_at_most) (defBody s_at_most) (defScope s_at_most) .none kV6 dc6 pm6 an6 cd6 ct6), sl6⟩) (c6 : PySem.W.codeIn K cd6 "at_most" = true) (k6 : PySem.W.keepIn K (.ref f6) = true)
  {f7 : Addr} {od7 an7 : Option Addr} {sl7 : Array (Option Value)} {oc7 kV7 dc7 pm7 cd7 ct7 : Value}
  (a7 : PySem.W.nsIn K mainGlobals "_law_opened" = some (some (.ref f7))) (l7 : K.lookup f7 = some ⟨oc7, od7, .func (PySem.W.fnOf "_law_opened" "_law_opened" (defArgs s_l_opened) (defBody s_l_opened) (defScope s_l_opened) .none kV7 dc7 pm7 an7 cd7 ct7), sl7⟩) (c7 : PySem.W.codeIn K cd7 "_law_opened" = true) (k7 : PySem.W.keepIn K (.ref f7) = true)
  {f8 : Addr} {od8 an8 : Option Addr} {sl8 : Array (Option Value)} {oc8 kV8 dc8 pm8 cd8 ct8 : Value}
  (a8 : PySem.W.nsIn K mainGlobals "_law_draw" = some (some (.ref f8))) (l8 : K.lookup f8 = some ⟨oc8, od8, .func (PySem.W.fnOf "_law_draw" "_law_draw" (defArgs s_l_draw) (defBody s_l_draw) (defScope s_l_draw) .none kV8 dc8 pm8 an8 cd8 ct8), sl8⟩) (c8 : PySem.W.codeIn K cd8 "_law_draw" = true) (k8 : PySem.W.keepIn K (.ref f8) = true)
  {f9 : Addr} {od9 an9 : Option Addr} {sl9 : Array (Option Value)} {oc9 kV9 dc9 pm9 cd9 ct9 : Value}
  (a9 : PySem.W.nsIn K mainGlobals "_law_one" = some (some (.ref f9))) (l9 : K.lookup f9 = some ⟨oc9, od9, .func (PySem.W.fnOf "_law_one" "_law_one" (defArgs s_l_one) (defBody s_l_one) (defScope s_l_one) .none kV9 dc9 pm9 an9 cd9 ct9), sl9⟩) (c9 : PySem.W.codeIn K cd9 "_law_one" = true) (k9 : PySem.W.keepIn K (.ref f9) = true)
  {f10 : Addr} {od10 an10 : Option Addr} {sl10 : Array (Option Value)} {oc10 kV10 dc10 pm10 cd10 ct10 : Value}
  (a10 : PySem.W.nsIn K mainGlobals "_law_lamp" = some (some (.ref f10))) (l10 : K.lookup f10 = some ⟨oc10, od10, .func (PySem.W.fnOf "_law_lamp" "_law_lamp" (defArgs s_l_lamp) (defBody s_l_lamp) (defScope s_l_lamp) .none kV10 dc10 pm10 an10 cd10 ct10), sl10⟩) (c10 : PySem.W.codeIn K cd10 "_law_lamp" = true) (k10 : PySem.W.keepIn K (.ref f10) = true)
  {f11 : Addr} {od11 an11 : Option Addr} {sl11 : Array (Option Value)} {oc11 kV11 dc11 pm11 cd11 ct11 : Value}
  (a11 : PySem.W.nsIn K mainGlobals "_law_far_runs" = some (some (.ref f11))) (l11 : K.lookup f11 = some ⟨oc11, od11, .func (PySem.W.fnOf "_law_far_runs" "_law_far_runs" (defArgs s_l_far_runs) (defBody s_l_far_runs) (defScope s_l_far_runs) .none kV11 dc11 pm11 an11 cd11 ct11), sl11⟩) (c11 : PySem.W.codeIn K cd11 "_law_far_runs" = true) (k11 : PySem.W.keepIn K (.ref f11) = true)
  {f12 : Addr} {od12 an12 : Option Addr} {sl12 : Array (Option Value)} {oc12 kV12 dc12 pm12 cd12 ct12 : Value}
  (a12 : PySem.W.nsIn K mainGlobals "_law_told" = some (some (.ref f12))) (l12 : K.lookup f12 = some ⟨oc12, od12, .func (PySem.W.fnOf "_law_told" "_law_told" (defArgs s_l_told) (defBody s_l_told) (defScope s_l_told) .none kV12 dc12 pm12 an12 cd12 ct12), sl12⟩) (c12 : PySem.W.codeIn K cd12 "_law_told" = true) (k12 : PySem.W.keepIn K (.ref f12) = true)
  {f13 : Addr} {od13 an13 : Option Addr} {sl13 : Array (Option Value)} {oc13 kV13 dc13 pm13 cd13 ct13 : Value}
  (a13 : PySem.W.nsIn K mainGlobals "_law_put" = some (some (.ref f13))) (l13 : K.lookup f13 = some ⟨oc13, od13, .func (PySem.W.fnOf "_law_put" "_law_put" (defArgs s_l_put) (defBody s_l_put) (defScope s_l_put) .none kV13 dc13 pm13 an13 cd13 ct13), sl13⟩) (c13 : PySem.W.codeIn K cd13 "_law_put" = true) (k13 : PySem.W.keepIn K (.ref f13) = true)
  {f14 : Addr} {od14 an14 : Option Addr} {sl14 : Array (Option Value)} {oc14 kV14 dc14 pm14 cd14 ct14 : Value}
  (a14 : PySem.W.nsIn K mainGlobals "_law_held" = some (some (.ref f14))) (l14 : K.lookup f14 = some ⟨oc14, od14, .func (PySem.W.fnOf "_law_held" "_law_held" (defArgs s_l_held) (defBody s_l_held) (defScope s_l_held) .none kV14 dc14 pm14 an14 cd14 ct14), sl14⟩) (c14 : PySem.W.codeIn K cd14 "_law_held" = true) (k14 : PySem.W.keepIn K (.ref f14) = true)
  {f15 : Addr} {od15 an15 : Option Addr} {sl15 : Array (Option Value)} {oc15 kV15 dc15 pm15 cd15 ct15 : Value}
  (a15 : PySem.W.nsIn K mainGlobals "_law_pulsed" = some (some (.ref f15))) (l15 : K.lookup f15 = some ⟨oc15, od15, .func (PySem.W.fnOf "_law_pulsed" "_law_pulsed" (defArgs s_l_pulsed) (defBody s_l_pulsed) (defScope s_l_pulsed) .none kV15 dc15 pm15 an15 cd15 ct15), sl15⟩) (c15 : PySem.W.codeIn K cd15 "_law_pulsed" = true) (k15 : PySem.W.keepIn K (.ref f15) = true)
  {f16 : Addr} {od16 an16 : Option Addr} {sl16 : Array (Option Value)} {oc16 kV16 dc16 pm16 cd16 ct16 : Value}
  (a16 : PySem.W.nsIn K mainGlobals "law" = some (some (.ref f16))) (l16 : K.lookup f16 = some ⟨oc16, od16, .func (PySem.W.fnOf "law" "law" (defArgs s_law) (defBody s_law) (defScope s_law) .none kV16 dc16 pm16 an16 cd16 ct16), sl16⟩) (c16 : PySem.W.codeIn K cd16 "law" = true) (k16 : PySem.W.keepIn K (.ref f16) = true)
  {C_LampError : Addr} (gc_LampError : PySem.W.nsIn K mainGlobals "LampError" = some (some (.ref C_LampError)))
  {C_BadLog : Addr} (gc_BadLog : PySem.W.nsIn K mainGlobals "BadLog" = some (some (.ref C_BadLog)))
  {fI_BadLog : Addr} {nm_BadLog q_BadLog : Str} {N_BadLog : Addr} {bs_BadLog : List Value} {sn_BadLog : List Str} {sub_BadLog : List Value} {ab_BadLog : Bool} {col_BadLog : Option Bool} {dd_BadLog : Option Addr} {m0_BadLog m1_BadLog m2_BadLog m3_BadLog m5_BadLog : Option Value} {od_BadLog an_BadLog : Option Addr} {sl_BadLog : Array (Option Value)} {oc_BadLog kV_BadLog dc_BadLog pm_BadLog cd_BadLog ct_BadLog : Value}
  (xL_BadLog : K.lookup C_BadLog = some (PySem.excClassObj nm_BadLog q_BadLog C_BadLog N_BadLog bs_BadLog [.ref C_LampError, .type "ValueError", .type "Exception", .type "BaseException", .type "object"] true sn_BadLog sub_BadLog ab_BadLog col_BadLog dd_BadLog m0_BadLog m1_BadLog m2_BadLog m3_BadLog m5_BadLog "ValueError.__new__"))
  (sa_BadLog : PySem.W.findIn K (.ref C_BadLog) "__setattr__" = some (some (.builtin "object.__setattr__")))
  (eC_BadLog : PySem.W.subIn K (.ref C_BadLog) (.type "BaseException") = some true)
  (tC_BadLog : PySem.W.typeIn K (.ref C_BadLog) = some (.type "type"))
  (kC_BadLog : PySem.W.keepIn K (.ref C_BadLog) = true)
  (iC_BadLog : PySem.W.findIn K (.ref C_BadLog) "__init__" = some (some (.ref fI_BadLog)))
  (tI_BadLog : PySem.W.typeIn K (.ref fI_BadLog) = some (.type "function"))
  (no_BadLog : PySem.W.findIn K (.ref C_BadLog) "error" = some none)
  (ga_BadLog : PySem.W.findIn K (.ref C_BadLog) "__getattribute__" = some (some (.builtin "BaseException.__getattribute__")))
  (gg_BadLog : PySem.W.findIn K (.ref C_BadLog) "__getattr__" = some none)
  (hd_BadLog : PySem.W.hasDictIn K C_BadLog = true)
  (ha_BadLog : PySem.W.findIn K (.ref C_BadLog) "__class__" = some (some (.builtin "object.__class__")))
  (hn_BadLog : PySem.W.specialIn K (.builtin "object.__class__") "__get__" = some (some (.builtin "getset_descriptor.__get__")))
  (ht_BadLog : PySem.W.takesIn K (.builtin "object.__class__") = some true)
  (hm_BadLog : PySem.W.mroIn K C_BadLog (.type "object") = some true)
  (lI_BadLog : K.lookup fI_BadLog = some ⟨oc_BadLog, od_BadLog, .func (PySem.W.fnOf "__init__" "BadLog.__init__" (defArgs s_X_BadLog) (defBody s_X_BadLog) (defScope s_X_BadLog) .none kV_BadLog dc_BadLog pm_BadLog an_BadLog cd_BadLog ct_BadLog), sl_BadLog⟩)
  (cI_BadLog : PySem.W.codeIn K cd_BadLog "BadLog.__init__" = true)
  (kI_BadLog : PySem.W.keepIn K (.ref fI_BadLog) = true)
  {C_TooLarge : Addr} (gc_TooLarge : PySem.W.nsIn K mainGlobals "TooLarge" = some (some (.ref C_TooLarge)))
  {fI_TooLarge : Addr} {nm_TooLarge q_TooLarge : Str} {N_TooLarge : Addr} {bs_TooLarge : List Value} {sn_TooLarge : List Str} {sub_TooLarge : List Value} {ab_TooLarge : Bool} {col_TooLarge : Option Bool} {dd_TooLarge : Option Addr} {m0_TooLarge m1_TooLarge m2_TooLarge m3_TooLarge m5_TooLarge : Option Value} {od_TooLarge an_TooLarge : Option Addr} {sl_TooLarge : Array (Option Value)} {oc_TooLarge kV_TooLarge dc_TooLarge pm_TooLarge cd_TooLarge ct_TooLarge : Value}
  (xL_TooLarge : K.lookup C_TooLarge = some (PySem.excClassObj nm_TooLarge q_TooLarge C_TooLarge N_TooLarge bs_TooLarge [.ref C_LampError, .type "ValueError", .type "Exception", .type "BaseException", .type "object"] true sn_TooLarge sub_TooLarge ab_TooLarge col_TooLarge dd_TooLarge m0_TooLarge m1_TooLarge m2_TooLarge m3_TooLarge m5_TooLarge "ValueError.__new__"))
  (sa_TooLarge : PySem.W.findIn K (.ref C_TooLarge) "__setattr__" = some (some (.builtin "object.__setattr__")))
  (eC_TooLarge : PySem.W.subIn K (.ref C_TooLarge) (.type "BaseException") = some true)
  (tC_TooLarge : PySem.W.typeIn K (.ref C_TooLarge) = some (.type "type"))
  (kC_TooLarge : PySem.W.keepIn K (.ref C_TooLarge) = true)
  (iC_TooLarge : PySem.W.findIn K (.ref C_TooLarge) "__init__" = some (some (.ref fI_TooLarge)))
  (tI_TooLarge : PySem.W.typeIn K (.ref fI_TooLarge) = some (.type "function"))
  (no_TooLarge : PySem.W.findIn K (.ref C_TooLarge) "limit" = some none)
  (ga_TooLarge : PySem.W.findIn K (.ref C_TooLarge) "__getattribute__" = some (some (.builtin "BaseException.__getattribute__")))
  (gg_TooLarge : PySem.W.findIn K (.ref C_TooLarge) "__getattr__" = some none)
  (hd_TooLarge : PySem.W.hasDictIn K C_TooLarge = true)
  (ha_TooLarge : PySem.W.findIn K (.ref C_TooLarge) "__class__" = some (some (.builtin "object.__class__")))
  (hn_TooLarge : PySem.W.specialIn K (.builtin "object.__class__") "__get__" = some (some (.builtin "getset_descriptor.__get__")))
  (ht_TooLarge : PySem.W.takesIn K (.builtin "object.__class__") = some true)
  (hm_TooLarge : PySem.W.mroIn K C_TooLarge (.type "object") = some true)
  (lI_TooLarge : K.lookup fI_TooLarge = some ⟨oc_TooLarge, od_TooLarge, .func (PySem.W.fnOf "__init__" "TooLarge.__init__" (defArgs s_X_TooLarge) (defBody s_X_TooLarge) (defScope s_X_TooLarge) .none kV_TooLarge dc_TooLarge pm_TooLarge an_TooLarge cd_TooLarge ct_TooLarge), sl_TooLarge⟩)
  (cI_TooLarge : PySem.W.codeIn K cd_TooLarge "TooLarge.__init__" = true)
  (kI_TooLarge : PySem.W.keepIn K (.ref fI_TooLarge) = true)
  {C_TooMany : Addr} (gc_TooMany : PySem.W.nsIn K mainGlobals "TooMany" = some (some (.ref C_TooMany)))
  {fI_TooMany : Addr} {nm_TooMany q_TooMany : Str} {N_TooMany : Addr} {bs_TooMany : List Value} {sn_TooMany : List Str} {sub_TooMany : List Value} {ab_TooMany : Bool} {col_TooMany : Option Bool} {dd_TooMany : Option Addr} {m0_TooMany m1_TooMany m2_TooMany m3_TooMany m5_TooMany : Option Value} {od_TooMany an_TooMany : Option Addr} {sl_TooMany : Array (Option Value)} {oc_TooMany kV_TooMany dc_TooMany pm_TooMany cd_TooMany ct_TooMany : Value}
  (xL_TooMany : K.lookup C_TooMany = some (PySem.excClassObj nm_TooMany q_TooMany C_TooMany N_TooMany bs_TooMany [.ref C_LampError, .type "ValueError", .type "Exception", .type "BaseException", .type "object"] true sn_TooMany sub_TooMany ab_TooMany col_TooMany dd_TooMany m0_TooMany m1_TooMany m2_TooMany m3_TooMany m5_TooMany "ValueError.__new__"))
  (sa_TooMany : PySem.W.findIn K (.ref C_TooMany) "__setattr__" = some (some (.builtin "object.__setattr__")))
  (eC_TooMany : PySem.W.subIn K (.ref C_TooMany) (.type "BaseException") = some true)
  (tC_TooMany : PySem.W.typeIn K (.ref C_TooMany) = some (.type "type"))
  (kC_TooMany : PySem.W.keepIn K (.ref C_TooMany) = true)
  (iC_TooMany : PySem.W.findIn K (.ref C_TooMany) "__init__" = some (some (.ref fI_TooMany)))
  (tI_TooMany : PySem.W.typeIn K (.ref fI_TooMany) = some (.type "function"))
  (no_TooMany : PySem.W.findIn K (.ref C_TooMany) "limit" = some none)
  (ga_TooMany : PySem.W.findIn K (.ref C_TooMany) "__getattribute__" = some (some (.builtin "BaseException.__getattribute__")))
  (gg_TooMany : PySem.W.findIn K (.ref C_TooMany) "__getattr__" = some none)
  (hd_TooMany : PySem.W.hasDictIn K C_TooMany = true)
  (ha_TooMany : PySem.W.findIn K (.ref C_TooMany) "__class__" = some (some (.builtin "object.__class__")))
  (hn_TooMany : PySem.W.specialIn K (.builtin "object.__class__") "__get__" = some (some (.builtin "getset_descriptor.__get__")))
  (ht_TooMany : PySem.W.takesIn K (.builtin "object.__class__") = some true)
  (hm_TooMany : PySem.W.mroIn K C_TooMany (.type "object") = some true)
  (lI_TooMany : K.lookup fI_TooMany = some ⟨oc_TooMany, od_TooMany, .func (PySem.W.fnOf "__init__" "TooMany.__init__" (defArgs s_X_TooMany) (defBody s_X_TooMany) (defScope s_X_TooMany) .none kV_TooMany dc_TooMany pm_TooMany an_TooMany cd_TooMany ct_TooMany), sl_TooMany⟩)
  (cI_TooMany : PySem.W.codeIn K cd_TooMany "TooMany.__init__" = true)
  (kI_TooMany : PySem.W.keepIn K (.ref fI_TooMany) = true)
  (kit0 : PySem.W.exmOne K (.ref C_TooLarge) (.ref C_LampError) = some true)
  (kit1 : PySem.W.kitOne K (.ref C_TooLarge) (.ref C_TooLarge) = some true)
  (kit2 : PySem.W.kitAny K (.ref C_TooLarge) ([C_BadLog, C_TooMany].map Value.ref) = some false)
  (z_abs : PySem.W.nsIn K mainGlobals "abs" = some none)
  (z_int : PySem.W.nsIn K mainGlobals "int" = some none)
  (z_isinstance : PySem.W.nsIn K mainGlobals "isinstance" = some none)
  (z_len : PySem.W.nsIn K mainGlobals "len" = some none)
  (z_max : PySem.W.nsIn K mainGlobals "max" = some none)
  (z_min : PySem.W.nsIn K mainGlobals "min" = some none)
  (z_range : PySem.W.nsIn K mainGlobals "range" = some none)
  (z_repr : PySem.W.nsIn K mainGlobals "repr" = some none)
  (z_tuple : PySem.W.nsIn K mainGlobals "tuple" = some none)
  {t_MAX_STRETCHES : Tok} (c_MAX_STRETCHES : PySem.W.nsIn K mainGlobals "MAX_STRETCHES" = some (some (.int 60 t_MAX_STRETCHES)))
  : ∃ (T : All K mg) (kV dc pm : Value) (an : Option Addr) (cd ct : Value), T.fd_law = PySem.W.fnOf "law" "law" (defArgs s_law) (defBody s_law) (defScope s_law) .none kV dc pm an cd ct :=
  ⟨{ f_last_minute := f0, fd_last_minute := _, D_last_minute := ⟨fun_mk (st := s_last_minute) l0 c0 k0, PySem.W.mg_of X G a0, (fun_mk (st := s_last_minute) l0 c0 k0).binds (ps := ["run"]) fun _ _ _ _ _ _ us hl => match us, hl with | [_], _ => rfl⟩,
     f_log_of := f1, fd_log_of := _, D_log_of := ⟨fun_mk (st := s_log_of) l1 c1 k1, PySem.W.mg_of X G a1, (fun_mk (st := s_log_of) l1 c1 k1).binds (ps := ["lamp", "motions"]) fun _ _ _ _ _ _ us hl => match us, hl with | [_, _], _ => rfl⟩,
     f_lighting_runs := f2, fd_lighting_runs := _, D_lighting_runs := ⟨fun_mk (st := s_lighting_runs) l2 c2 k2, PySem.W.mg_of X G a2, (fun_mk (st := s_lighting_runs) l2 c2 k2).binds (ps := ["stay", "motions"]) fun _ _ _ _ _ _ us hl => match us, hl with | [_, _], _ => rfl⟩,
     f_rounded_up := f3, fd_rounded_up := _, D_rounded_up := ⟨fun_mk (st := s_rounded_up) l3 c3 k3, PySem.W.mg_of X G a3, (fun_mk (st := s_rounded_up) l3 c3 k3).binds (ps := ["number", "by"]) fun _ _ _ _ _ _ us hl => match us, hl with | [_, _], _ => rfl⟩,
     f_lit_pieces := f4, fd_lit_pieces := _, D_lit_pieces := ⟨fun_mk (st := s_lit_pieces) l4 c4 k4, PySem.W.mg_of X G a4, (fun_mk (st := s_lit_pieces) l4 c4 k4).binds (ps := ["stay", "run"]) fun _ _ _ _ _ _ us hl => match us, hl with | [_, _], _ => rfl⟩,
     f_joined := f5, fd_joined := _, D_joined := ⟨fun_mk (st := s_joined) l5 c5 k5, PySem.W.mg_of X G a5, (fun_mk (st := s_joined) l5 c5 k5).binds (ps := ["pieces"]) fun _ _ _ _ _ _ us hl => match us, hl with | [_], _ => rfl⟩,
     f_at_most := f6, fd_at_most := _, D_at_most := ⟨fun_mk (st := s_at_most) l6 c6 k6, PySem.W.mg_of X G a6, (fun_mk (st := s_at_most) l6 c6 k6).binds (ps := ["limit", "parts"]) fun _ _ _ _ _ _ us hl => match us, hl with | [_, _], _ => rfl⟩,
     f_l_opened := f7, fd_l_opened := _, D_l_opened := ⟨fun_mk (st := s_l_opened) l7 c7 k7, PySem.W.mg_of X G a7, (fun_mk (st := s_l_opened) l7 c7 k7).binds (ps := ["script"]) fun _ _ _ _ _ _ us hl => match us, hl with | [_], _ => rfl⟩,
     f_l_draw := f8, fd_l_draw := _, D_l_draw := ⟨fun_mk (st := s_l_draw) l8 c8 k8, PySem.W.mg_of X G a8, (fun_mk (st := s_l_draw) l8 c8 k8).binds (ps := ["pot", "many"]) fun _ _ _ _ _ _ us hl => match us, hl with | [_, _], _ => rfl⟩,
     f_l_one := f9, fd_l_one := _, D_l_one := ⟨fun_mk (st := s_l_one) l9 c9 k9, PySem.W.mg_of X G a9, (fun_mk (st := s_l_one) l9 c9 k9).binds (ps := ["pot", "items"]) fun _ _ _ _ _ _ us hl => match us, hl with | [_, _], _ => rfl⟩,
     f_l_lamp := f10, fd_l_lamp := _, D_l_lamp := ⟨fun_mk (st := s_l_lamp) l10 c10 k10, PySem.W.mg_of X G a10, (fun_mk (st := s_l_lamp) l10 c10 k10).binds (ps := ["pot", "great"]) fun _ _ _ _ _ _ us hl => match us, hl with | [_, _], _ => rfl⟩,
     f_l_far_runs := f11, fd_l_far_runs := _, D_l_far_runs := ⟨fun_mk (st := s_l_far_runs) l11 c11 k11, PySem.W.mg_of X G a11, (fun_mk (st := s_l_far_runs) l11 c11 k11).binds (ps := ["pot", "upto"]) fun _ _ _ _ _ _ us hl => match us, hl with | [_, _], _ => rfl⟩,
     f_l_told := f12, fd_l_told := _, D_l_told := ⟨fun_mk (st := s_l_told) l12 c12 k12, PySem.W.mg_of X G a12, (fun_mk (st := s_l_told) l12 c12 k12).binds (ps := ["lamp", "runs"]) fun _ _ _ _ _ _ us hl => match us, hl with | [_, _], _ => rfl⟩,
     f_l_put := f13, fd_l_put := _, D_l_put := ⟨fun_mk (st := s_l_put) l13 c13 k13, PySem.W.mg_of X G a13, (fun_mk (st := s_l_put) l13 c13 k13).binds (ps := ["log", "on", "off"]) fun _ _ _ _ _ _ us hl => match us, hl with | [_, _, _], _ => rfl⟩,
     f_l_held := f14, fd_l_held := _, D_l_held := ⟨fun_mk (st := s_l_held) l14 c14 k14, PySem.W.mg_of X G a14, (fun_mk (st := s_l_held) l14 c14 k14).binds (ps := ["stay", "runs"]) fun _ _ _ _ _ _ us hl => match us, hl with | [_, _], _ => rfl⟩,
     f_l_pulsed := f15, fd_l_pulsed := _, D_l_pulsed := ⟨fun_mk (st := s_l_pulsed) l15 c15 k15, PySem.W.mg_of X G a15, (fun_mk (st := s_l_pulsed) l15 c15 k15).binds (ps := ["stay", "runs"]) fun _ _ _ _ _ _ us hl => match us, hl with | [_, _], _ => rfl⟩,
     f_law := f16, fd_law := _, D_law := ⟨fun_mk (st := s_law) l16 c16 k16, PySem.W.mg_of X G a16, (fun_mk (st := s_law) l16 c16 k16).binds (ps := ["script"]) fun _ _ _ _ _ _ us hl => match us, hl with | [_], _ => rfl⟩,
     C_LampError := C_LampError, g_LampError := PySem.W.mg_of X G gc_LampError,
     C_BadLog := C_BadLog, g_BadLog := PySem.W.mg_of X G gc_BadLog,
     fI_BadLog := fI_BadLog, fdI_BadLog := _, X_BadLog := ⟨PySem.W.mg_of X G gc_BadLog, ⟨⟨_, _, _, _, _, _, _, _, _, _, _, _, _, _, _, xL_BadLog, by rfl⟩, sa_BadLog, eC_BadLog, tC_BadLog, kC_BadLog⟩, iC_BadLog, tI_BadLog, no_BadLog, ⟨ga_BadLog, gg_BadLog, eC_BadLog, hd_BadLog⟩, ⟨ha_BadLog, hn_BadLog, ht_BadLog, hm_BadLog⟩, fun_mk (st := s_X_BadLog) lI_BadLog cI_BadLog kI_BadLog, (fun_mk (st := s_X_BadLog) lI_BadLog cI_BadLog kI_BadLog).binds (ps := ["self", "error"]) fun _ _ _ _ _ _ us hl => match us, hl with | [_, _], _ => rfl⟩,
     C_TooLarge := C_TooLarge, g_TooLarge := PySem.W.mg_of X G gc_TooLarge,
     fI_TooLarge := fI_TooLarge, fdI_TooLarge := _, X_TooLarge := ⟨PySem.W.mg_of X G gc_TooLarge, ⟨⟨_, _, _, _, _, _, _, _, _, _, _, _, _, _, _, xL_TooLarge, by rfl⟩, sa_TooLarge, eC_TooLarge, tC_TooLarge, kC_TooLarge⟩, iC_TooLarge, tI_TooLarge, no_TooLarge, ⟨ga_TooLarge, gg_TooLarge, eC_TooLarge, hd_TooLarge⟩, ⟨ha_TooLarge, hn_TooLarge, ht_TooLarge, hm_TooLarge⟩, fun_mk (st := s_X_TooLarge) lI_TooLarge cI_TooLarge kI_TooLarge, (fun_mk (st := s_X_TooLarge) lI_TooLarge cI_TooLarge kI_TooLarge).binds (ps := ["self", "limit"]) fun _ _ _ _ _ _ us hl => match us, hl with | [_, _], _ => rfl⟩,
     C_TooMany := C_TooMany, g_TooMany := PySem.W.mg_of X G gc_TooMany,
     fI_TooMany := fI_TooMany, fdI_TooMany := _, X_TooMany := ⟨PySem.W.mg_of X G gc_TooMany, ⟨⟨_, _, _, _, _, _, _, _, _, _, _, _, _, _, _, xL_TooMany, by rfl⟩, sa_TooMany, eC_TooMany, tC_TooMany, kC_TooMany⟩, iC_TooMany, tI_TooMany, no_TooMany, ⟨ga_TooMany, gg_TooMany, eC_TooMany, hd_TooMany⟩, ⟨ha_TooMany, hn_TooMany, ht_TooMany, hm_TooMany⟩, fun_mk (st := s_X_TooMany) lI_TooMany cI_TooMany kI_TooMany, (fun_mk (st := s_X_TooMany) lI_TooMany cI_TooMany kI_TooMany).binds (ps := ["self", "limit"]) fun _ _ _ _ _ _ us hl => match us, hl with | [_, _], _ => rfl⟩,
     kit0 := kit0,
     kit1 := kit1,
     kit2 := kit2,
     z_abs := PySem.W.mg_none_of X G z_abs,
     z_int := PySem.W.mg_none_of X G z_int,
     z_isinstance := PySem.W.mg_none_of X G z_isinstance,
     z_len := PySem.W.mg_none_of X G z_len,
     z_max := PySem.W.mg_none_of X G z_max,
     z_min := PySem.W.mg_none_of X G z_min,
     z_range := PySem.W.mg_none_of X G z_range,
     z_repr := PySem.W.mg_none_of X G z_repr,
     z_tuple := PySem.W.mg_none_of X G z_tuple,
     t_MAX_STRETCHES := t_MAX_STRETCHES, c_MAX_STRETCHES := PySem.W.mg_of X G c_MAX_STRETCHES }, _, _, _, _, _, _, rfl⟩
theorem law_end {l : PySem.W.OpenLaw} {w : World} {K : PySem.W.Frag} {mg : Str → Option Value} {fa : Addr} (hmg : mg "law" = some (.ref fa))
    (M : ∃ (T : All K mg) (kV dc pm : Value) (an : Option Addr) (cd ct : Value), T.fd_law = PySem.W.fnOf "law" "law" (defArgs s_law) (defBody s_law) (defScope s_law) .none kV dc pm an cd ct) :
    ∃ fd : FuncData, (∀ (s : Shared) (u : Value), BindsTo s fd ⟨[u], []⟩ [("script", u)]) ∧ ∀ base : Heap, K.In base → base.Ns mainGlobals mg → FnG l.prog w K mg base CX0 6 fa fd ["script"] (sp_law K) := by
  obtain ⟨T, kV, dc, pm, an, cd, ct, hfd⟩ := M
  have e : T.f_law = fa := by
    have h := T.D_law.g
    rw [hmg] at h
    exact (Value.ref.inj (Option.some.inj h)).symm
  refine ⟨T.fd_law, fun s u => ?_, fun base _ _ => ?_⟩
  · rw [hfd]
    exact BindsTo.of_eq rfl
  · rw [← e]
    exact ok_law T
end Lg
open PySem PySem.W PyProof.Rows
set_option maxRecDepth 100000 in
set_option maxHeartbeats 0 in
theorem PySem.Challenge.cw_lampstays_k05_far_logs_holds : PySem.Challenge.rw_lampstays_k05_far_logs.Holds := by
  w_on; o_law; k_head; (case hw => w_witness2)
  k_fill
  refine Lm.walkG (l := PySem.Challenge.rw_lampstays_k05_far_logs) (n := 63) (k := 6) (sp := Lm.sp_law) (x := "script") rfl (by decide) rfl ⟨rfl, by decide, by decide⟩ (fun w h Y => PySem.W.kIn_of Y) ?F Lm.sp_law_ok
  case F =>
    intro w mg fa h KX G hmg
    refine Lg.law_end (l := PySem.Challenge.rw_lampstays_k05_far_logs) hmg ?lmT
    case lmT =>
      refine' Lg.all_mk KX G ?a0 ?l0 ?c0 ?k0 ?a1 ?l1 ?c1 ?k1 ?a2 ?l2 ?c2 ?k2 ?a3 ?l3 ?c3 ?k3 ?a4 ?l4 ?c4 ?k4 ?a5 ?l5 ?c5 ?k5 ?a6 ?l6 ?c6 ?k6 ?a7 ?l7 ?c7 ?k7 ?a8 ?l8 ?c8 ?k8 ?a9 ?l9 ?c9 ?k9 ?a10 ?l10 ?c10 ?k10 ?a11 ?l11 ?c11 ?k11 ?a12 ?l12 ?c12 ?k12 ?a13 ?l13 ?c13 ?k13 ?a14 ?l14 ?c14 ?k14 ?a15 ?l15 ?c15 ?k15 ?a16 ?l16 ?c16 ?k16 ?gc_LampError ?gc_BadLog ?xL_BadLog ?sa_BadLog ?eC_BadLog ?tC_BadLog ?kC_BadLog ?iC_BadLog ?tI_BadLog ?no_BadLog ?ga_BadLog ?gg_BadLog ?hd_BadLog ?ha_BadLog ?hn_BadLog ?ht_BadLog ?hm_BadLog ?lI_BadLog ?cI_BadLog ?kI_BadLog ?gc_TooLarge ?xL_TooLarge ?sa_TooLarge ?eC_TooLarge ?tC_TooLarge ?kC_TooLarge ?iC_TooLarge ?tI_TooLarge ?no_TooLarge ?ga_TooLarge ?gg_TooLarge ?hd_TooLarge ?ha_TooLarge ?hn_TooLarge ?ht_TooLarge ?hm_TooLarge ?lI_TooLarge ?cI_TooLarge ?kI_TooLarge ?gc_TooMany ?xL_TooMany ?sa_TooMany ?eC_TooMany ?tC_TooMany ?kC_TooMany ?iC_TooMany ?tI_TooMany ?no_TooMany ?ga_TooMany ?gg_TooMany ?hd_TooMany ?ha_TooMany ?hn_TooMany ?ht_TooMany ?hm_TooMany ?lI_TooMany ?cI_TooMany ?kI_TooMany ?kit0 ?kit1 ?kit2 ?z_abs ?z_int ?z_isinstance ?z_len ?z_max ?z_min ?z_range ?z_repr ?z_tuple ?c_MAX_STRETCHES
      (case a0 => k_is)
      (case l0 => k_is)
      (case c0 => k_is)
      (case k0 => k_is)
      (case a1 => k_is)
      (case l1 => k_is)
      (case c1 => k_is)
      (case k1 => k_is)
      (case a2 => k_is)
      (case l2 => k_is)
      (case c2 => k_is)
      (case k2 => k_is)
      (case a3 => k_is)
      (case l3 => k_is)
      (case c3 => k_is)
      (case k3 => k_is)
      (case a4 => k_is)
      (case l4 => k_is)
      (case c4 => k_is)
      (case k4 => k_is)
      (case a5 => k_is)
      (case l5 => k_is)
      (case c5 => k_is)
      (case k5 => k_is)
      (case a6 => k_is)
      (case l6 => k_is)
      (case c6 => k_is)
      (case k6 => k_is)
      (case a7 => k_is)
      (case l7 => k_is)
      (case c7 => k_is)
      (case k7 => k_is)
      (case a8 => k_is)
      (case l8 => k_is)
      (case c8 => k_is)
      (case k8 => k_is)
      (case a9 => k_is)
      (case l9 => k_is)
      (case c9 => k_is)
      (case k9 => k_is)
      (case a10 => k_is)
      (case l10 => k_is)
      (case c10 => k_is)
      (case k10 => k_is)
      (case a11 => k_is)
      (case l11 => k_is)
      (case c11 => k_is)
      (case k11 => k_is)
      (case a12 => k_is)
      (case l12 => k_is)
      (case c12 => k_is)
      (case k12 => k_is)
      (case a13 => k_is)
      (case l13 => k_is)
      (case c13 => k_is)
      (case k13 => k_is)
      (case a14 => k_is)
      (case l14 => k_is)
      (case c14 => k_is)
      (case k14 => k_is)
      (case a15 => k_is)
      (case l15 => k_is)
      (case c15 => k_is)
      (case k15 => k_is)
      (case a16 => k_is)
      (case l16 => k_is)
      (case c16 => k_is)
      (case k16 => k_is)
      (case gc_LampError => k_is)
      (case gc_BadLog => k_is)
      (case xL_BadLog => k_is)
      (case sa_BadLog => k_is)
      (case eC_BadLog => k_is)
      (case tC_BadLog => k_is)
      (case kC_BadLog => k_is)
      (case iC_BadLog => k_is)
      (case tI_BadLog => k_is)
      (case no_BadLog => k_is)
      (case ga_BadLog => k_is)
      (case gg_BadLog => k_is)
      (case hd_BadLog => k_is)
      (case ha_BadLog => k_is)
      (case hn_BadLog => k_is)
      (case ht_BadLog => k_is)
      (case hm_BadLog => k_is)
      (case lI_BadLog => k_is)
      (case cI_BadLog => k_is)
      (case kI_BadLog => k_is)
      (case gc_TooLarge => k_is)
      (case xL_TooLarge => k_is)
      (case sa_TooLarge => k_is)
      (case eC_TooLarge => k_is)
      (case tC_TooLarge => k_is)
      (case kC_TooLarge => k_is)
      (case iC_TooLarge => k_is)
      (case tI_TooLarge => k_is)
      (case no_TooLarge => k_is)
      (case ga_TooLarge => k_is)
      (case gg_TooLarge => k_is)
      (case hd_TooLarge => k_is)
      (case ha_TooLarge => k_is)
      (case hn_TooLarge => k_is)
      (case ht_TooLarge => k_is)
      (case hm_TooLarge => k_is)
      (case lI_TooLarge => k_is)
      (case cI_TooLarge => k_is)
      (case kI_TooLarge => k_is)
      (case gc_TooMany => k_is)
      (case xL_TooMany => k_is)
      (case sa_TooMany => k_is)
      (case eC_TooMany => k_is)
      (case tC_TooMany => k_is)
      (case kC_TooMany => k_is)
      (case iC_TooMany => k_is)
      (case tI_TooMany => k_is)
      (case no_TooMany => k_is)
      (case ga_TooMany => k_is)
      (case gg_TooMany => k_is)
      (case hd_TooMany => k_is)
      (case ha_TooMany => k_is)
      (case hn_TooMany => k_is)
      (case ht_TooMany => k_is)
      (case hm_TooMany => k_is)
      (case lI_TooMany => k_is)
      (case cI_TooMany => k_is)
      (case kI_TooMany => k_is)
      (case kit0 => first | kit_is | kts_exm)
      (case kit1 => first | kit_is | kts_exm)
      (case kit2 => first | kit_is | kts_exm)
      (case z_abs => k_is)
      (case z_int => k_is)
      (case z_isinstance => k_is)
      (case z_len => k_is)
      (case z_max => k_is)
      (case z_min => k_is)
      (case z_range => k_is)
      (case z_repr => k_is)
      (case z_tuple => k_is)
      (case c_MAX_STRETCHES => k_is)
