import PyProof.Rows.All
import Wide.All
import OpenK.AllK
import Wide.FinOn
import HandS.ForMost
import HandS.IsInst
import HandS.TupAny
import HandS.More
import HandS.Flow
import HandS.Style
import KE.GoesMore
import HandS.Walk
import PyProof.EqKinds
import KE.KEqDict
import HandS.Wide
import HandS.TryOnly
import KE.KExcIs
import HandS.ExcInit
import HandS.ExcIs
import HandS.ExcField
import HandS.ExcOwn
import HandS.WordsExc
import HandS.TupMul
import HandS.SetFor
import HandS.Strs
import HandS.Zip
import KE.KDictZip
import KE.GoesEnum
import HandS.EndTab
import HandS.EndOwn
import KE.KNestM
import PySem.Challenge.RW_lampstays_k13_quiet_minutes_and_calls
set_option Elab.async false
set_option linter.all false
set_option maxRecDepth 100000
set_option maxHeartbeats 4000000
namespace Lm
open PySem PySem.Spec PyProof.Rows L2
/-! ### data at values: None, bools, ints, texts, lists, tuples, dicts -/
def kD : L2.Key → PyData
  | .inl i => .int i
  | .inr x => .str x
mutual
inductive Dq (K : PySem.W.Frag) (H : Hp) : V → PyData → Prop
  | non : Dq K H .non .none
  | bl (b : Bool) : Dq K H (.bl b) (.bool b)
  | int (i : Int) : Dq K H (.int i) (.int i)
  | str (x : Str) : Dq K H (.str x) (.str x)
  | lst {a : Addr} {xs : List V} {ds : List PyData} : SqL K H a xs → Dqs K H xs ds → Dq K H (.ref a) (.list ds)
  | tup {a : Addr} {xs : List V} {ds : List PyData} : SqT K H a xs → Dqs K H xs ds → Dq K H (.ref a) (.tuple ds)
  | dct {a : Addr} {kvs : List (L2.Key × V)} {ds : List PyData} : H a = some (.dK kvs) → Dqs K H (kvs.map (·.2)) ds → Dq K H (.ref a) (.dict ((kvs.map fun kv => kD kv.1).zip ds))
inductive Dqs (K : PySem.W.Frag) (H : Hp) : List V → List PyData → Prop
  | nil : Dqs K H [] []
  | cons {v : V} {vs : List V} {d : PyData} {ds : List PyData} : Dq K H v d → Dqs K H vs ds → Dqs K H (v :: vs) (d :: ds)
end
theorem Dqs.len {K : PySem.W.Frag} {H : Hp} : ∀ {vs : List V} {ds : List PyData}, Dqs K H vs ds → vs.length = ds.length
  | _, _, .nil => rfl
  | _, _, .cons _ t => congrArg Nat.succ (Dqs.len t)
theorem Dqs.get {K : PySem.W.Frag} {H : Hp} : ∀ {vs : List V} {ds : List PyData} {i : Nat} {v : V}, Dqs K H vs ds → vs[i]? = some v → ∃ d, ds[i]? = some d ∧ Dq K H v d
  | _, _, _, _, .nil, e => by simp at e
  | _, _, 0, _, .cons r _, e => by simp at e; subst e; exact ⟨_, rfl, r⟩
  | _, _, i + 1, v, .cons _ t, e => by
    obtain ⟨u, h1, h2⟩ := Dqs.get (i := i) (v := v) t (by simpa using e)
    exact ⟨u, by simpa using h1, h2⟩
theorem Dqs.app {K : PySem.W.Frag} {H : Hp} : ∀ {xs ys : List V} {ds es : List PyData}, Dqs K H xs ds → Dqs K H ys es → Dqs K H (xs ++ ys) (ds ++ es)
  | _, _, _, _, .nil, s => s
  | _, _, _, _, .cons r t, s => .cons r (Dqs.app t s)
theorem Dqs.take {K : PySem.W.Frag} {H : Hp} : ∀ {xs : List V} {ds : List PyData} (n : Nat), Dqs K H xs ds → Dqs K H (xs.take n) (ds.take n)
  | _, _, 0, _ => .nil
  | _, _, _ + 1, .nil => .nil
  | _, _, n + 1, .cons r t => .cons r (Dqs.take n t)
theorem Dqs.drop {K : PySem.W.Frag} {H : Hp} : ∀ {xs : List V} {ds : List PyData} (n : Nat), Dqs K H xs ds → Dqs K H (xs.drop n) (ds.drop n)
  | _, _, 0, r => r
  | _, _, _ + 1, .nil => .nil
  | _, _, n + 1, .cons _ t => Dqs.drop n t
theorem Dqs.rev {K : PySem.W.Frag} {H : Hp} : ∀ {xs : List V} {ds : List PyData}, Dqs K H xs ds → Dqs K H xs.reverse ds.reverse
  | _, _, .nil => .nil
  | _, _, .cons r t => by
    rw [List.reverse_cons, List.reverse_cons]
    exact Dqs.app (Dqs.rev t) (.cons r .nil)
theorem Same.seqT {K : PySem.W.Frag} {H H' : Hp} {a : Addr} {xs : List V} (e : Same H H') (h : SqT K H a xs) : SqT K H' a xs := by
  rcases h with (h | ⟨o, h⟩) | h
  · exact .inl (.inl (e a _ h))
  · exact .inl (.inr ⟨o, e a _ h⟩)
  · exact .inr h
mutual
theorem Dq.mono {K : PySem.W.Frag} {H H' : Hp} (s : Same H H') : ∀ {v : V} {d : PyData}, Dq K H v d → Dq K H' v d
  | _, _, .non => .non
  | _, _, .bl b => .bl b
  | _, _, .int i => .int i
  | _, _, .str x => .str x
  | _, _, .lst h t => .lst (s.seq h) (Dqs.mono s t)
  | _, _, .tup h t => .tup (Same.seqT s h) (Dqs.mono s t)
  | _, _, .dct h t => .dct (s _ _ h) (Dqs.mono s t)
theorem Dqs.mono {K : PySem.W.Frag} {H H' : Hp} (s : Same H H') : ∀ {vs : List V} {ds : List PyData}, Dqs K H vs ds → Dqs K H' vs ds
  | _, _, .nil => .nil
  | _, _, .cons h t => .cons (Dq.mono s h) (Dqs.mono s t)
end
/-! ### what such a value is in the heap -/
theorem dk_reads {h : Heap} {P : Program} {w : World} : ∀ {xs : List (L2.Key × V)} {vs : List (L2.Key × Value)} {es : List DictEntry}, KV xs vs → Pairs (mixKind P w) es vs →
    ReadsAll h (es.map (·.key)) (xs.map fun kv => kD kv.1) [] ∧ Vals (xs.map (·.2)) (es.map (·.val))
  | _, _, _, .nil, .nil => ⟨.nil, .nil⟩
  | p :: xs, kv :: vs, en :: es, .cons r t, .cons q e u => by
    obtain ⟨h1, h2⟩ := dk_reads (h := h) t u
    obtain ⟨r1, r2⟩ := r
    refine ⟨?_, .cons (by show L2.RelV p.2 en.val; rw [e]; exact r2) h2⟩
    have q' : keyIs kv.1 en.key = true := q
    rw [← r1] at q'
    show ReadsAll h (en.key :: _) (kD p.1 :: _) []
    rcases keyIs_shape q' with ⟨i, t, e1, e2⟩ | ⟨x, t, e1, e2⟩
    · rw [e1, e2]
      exact ReadsAll.cons (as := []) (bs := []) (.int i t) h1
    · rw [e1, e2]
      exact ReadsAll.cons (as := []) (bs := []) (.str x t) h1
section
variable {X : Cx} {pins : List (Addr × Obj)} {σ : L2.St} {H : Hp} {s : Shared}
mutual
theorem Dq.reads (I : Inv X pins σ H s) : ∀ {v : V} {d : PyData} (u : Value), Dq X.K H v d → L2.RelV v u → ∃ as, Reads s.heap u d as
  | _, _, u, .non, r => by cases r; exact ⟨_, .none⟩
  | _, _, u, .bl b, r => by cases r; exact ⟨_, .bool b⟩
  | _, _, u, .int i, r => by obtain ⟨t, rfl⟩ := r; exact ⟨_, .int i t⟩
  | _, _, u, .str x, r => by obtain ⟨t, rfl⟩ := r; exact ⟨_, .str x t⟩
  | _, _, u, .lst hs ha, r => by
    cases r
    obtain ⟨its, rv, ⟨o, n, ho, hc, _, hd⟩, _⟩ := I.list hs
    obtain ⟨as, hr⟩ := Dqs.reads I its ha rv
    exact ⟨_, .list ho hc hd hr⟩
  | _, _, u, .tup hs ha, r => by
    cases r
    obtain ⟨its, rv, ⟨o, ho, hc, n, hd⟩, _⟩ := I.tuple hs
    obtain ⟨as, hr⟩ := Dqs.reads I its ha rv
    exact ⟨_, .tuple ho hc hd hr⟩
  | _, _, u, .dct (kvs := kvs) (ds := ds) hs ha, r => by
    cases r
    obtain ⟨_, hne, vs, kv, o, es, ep, ho, ex, hd, _, pr, _⟩ := I.hok _ _ hs
    obtain ⟨h1, h2⟩ := dk_reads (h := s.heap) kv pr
    obtain ⟨bs, hr⟩ := Dqs.reads I _ ha h2
    have hl := ha.len
    rw [List.length_map] at hl
    refine ⟨_, Reads.dict (as := []) (bs := bs) ho ex.1 hd ?_ ?_⟩
    · rw [List.map_fst_zip (by rw [List.length_map]; omega)]
      exact h1
    · rw [List.map_snd_zip (by rw [List.length_map]; omega)]
      exact hr
theorem Dqs.reads (I : Inv X pins σ H s) : ∀ {vs : List V} {ds : List PyData} (us : List Value), Dqs X.K H vs ds → Vals vs us → ∃ as, ReadsAll s.heap us ds as
  | _, _, us, .nil, r => by cases r; exact ⟨_, .nil⟩
  | _, _, us, .cons h1 h2, r => by
    cases r with
    | cons r1 r2 =>
      obtain ⟨as, q1⟩ := Dq.reads I _ h1 r1
      obtain ⟨bs, q2⟩ := Dqs.reads I _ h2 r2
      exact ⟨_, .cons q1 q2⟩
end
/-- keys of a dict have their text at any level -/
theorem keys_reprK {h : Heap} {P : Program} {w : World} : ∀ (xs : List (L2.Key × V)) {vs : List (L2.Key × Value)} {es : List DictEntry} {bs : List Addr} {n : Nat}, KV xs vs → Pairs (mixKind P w) es vs →
    PyData.showableAll (xs.map fun kv => kD kv.1) = true → (∀ t ∈ PyData.shownAll (xs.map fun kv => kD kv.1), t.length ≤ sizeLine) →
    ReprAllK P w bs h n (es.map (·.key)) (PyData.shownAll (xs.map fun kv => kD kv.1))
  | [], _, _, _, _, .nil, .nil, _, _ => .nil
  | p :: xs, kv :: vs, en :: es, bs, n, .cons r t, .cons q e u, hs, hz => by
    have hs' : (kD p.1).showable = true ∧ PyData.showableAll (xs.map fun kv => kD kv.1) = true := by simpa [PyData.showableAll] using hs
    have q' : keyIs kv.1 en.key = true := q
    rw [← r.1] at q'
    have z1 := hz (kD p.1).shown (by simp [PyData.shownAll])
    refine .cons (show ReprK P w bs h n en.key (kD p.1).shown from ?_) (keys_reprK xs t u hs'.2 fun t ht => hz t (by simp only [List.map_cons, PyData.shownAll]; exact List.mem_cons_of_mem _ ht))
    rcases keyIs_shape q' with ⟨i, t, e1, e2⟩ | ⟨x, t, e1, e2⟩
    · rw [e2]
      have y := hs'.1
      rw [e1] at y ⊢
      exact ReprK.of_is (ReprIs.int t (by simpa [PyData.showable, kD] using y)) _ _ _
    · rw [e2]
      rw [e1] at z1 ⊢
      exact ReprK.of_is (ReprIs.str x t (by simpa only [PyData.shown, kD] using z1)) _ _ _
mutual
theorem Dq.textK (I : Inv X pins σ H s) : ∀ {v : V} {d : PyData} (u : Value), Dq X.K H v d → L2.RelV v u → d.showable = true → d.shown.length ≤ sizeLine →
    ∃ bs, ReadAtMost s.heap d.depth bs ∧ ReprK X.prog X.w bs s.heap d.depth u d.shown
  | _, _, u, .non, r, _, _ => by
    cases r
    exact ⟨[], fun _ h => (nomatch h), by simp only [PyData.shown]; exact .of_is ReprIs.none _ _ _⟩
  | _, _, u, .bl b, r, _, _ => by
    cases r
    exact ⟨[], fun _ h => (nomatch h), by simp only [PyData.shown]; exact .of_is (ReprIs.bool b) _ _ _⟩
  | _, _, u, .int i, r, hs, _ => by
    obtain ⟨t, rfl⟩ := r
    exact ⟨[], fun _ h => (nomatch h), by simp only [PyData.shown]; exact .of_is (ReprIs.int t (by simpa [PyData.showable] using hs)) _ _ _⟩
  | _, _, u, .str x, r, _, hz => by
    obtain ⟨t, rfl⟩ := r
    exact ⟨[], fun _ h => (nomatch h), by simp only [PyData.shown]; exact .of_is (ReprIs.str x t (by simpa only [PyData.shown] using hz)) _ _ _⟩
  | _, _, u, .lst (ds := ds) hq ha, r, hs, hz => by
    obtain ⟨as, rd⟩ := Dq.reads I u (.lst hq ha) r
    cases r
    obtain ⟨its, rv, ⟨o, n, ho, hc, _, hd⟩, _⟩ := I.list hq
    have z : (listText (PyData.shownAll ds)).length ≤ sizeLine := by simpa only [PyData.shown] using hz
    obtain ⟨bs, hb, hk⟩ := Dqs.textK I its ha rv (by simpa [PyData.showable] using hs) fun t ht => Nat.le_trans (listText_mem_le ht) z
    have hn := not_mem_of_deeper rd (by simp only [PyData.depth]; omega) hb
    refine ⟨_, ReadAtMost.cons rd (by simp only [PyData.depth]; omega) hb, ?_⟩
    simp only [PyData.depth, PyData.shown]
    cases its with
    | nil =>
      cases rv
      cases ha
      simp only [PyData.shownAll, listText_nil]
      exact ReprK.listEmpty ho hc hd
    | cons x l => exact ReprK.list ho hc hd hn (by simpa using hk.length_eq) fun i y e => hk.item i y (by simpa using e)
  | _, _, u, .tup (ds := ds) hq ha, r, hs, hz => by
    obtain ⟨as, rd⟩ := Dq.reads I u (.tup hq ha) r
    cases r
    obtain ⟨its, rv, ⟨o, ho, hc, n, hd⟩, _⟩ := I.tuple hq
    have z : (tupleText (PyData.shownAll ds)).length ≤ sizeLine := by simpa only [PyData.shown] using hz
    obtain ⟨bs, hb, hk⟩ := Dqs.textK I its ha rv (by simpa [PyData.showable] using hs) fun t ht => Nat.le_trans (tupleText_mem_le ht) z
    have hn := not_mem_of_deeper rd (by simp only [PyData.depth]; omega) hb
    refine ⟨_, ReadAtMost.cons rd (by simp only [PyData.depth]; omega) hb, ?_⟩
    simp only [PyData.depth, PyData.shown]
    exact ReprK.tuple ho hc hd hn hk
  | _, _, u, .dct (kvs := kvs) (ds := ds) hq ha, r, hs, hz => by
    obtain ⟨as, rd⟩ := Dq.reads I u (.dct hq ha) r
    cases r
    obtain ⟨_, hne, vs, kv, o, es, ep, ho, ex, hd, _, pr, _⟩ := I.hok _ _ hq
    have hl := ha.len
    rw [List.length_map] at hl
    have f1 : ((kvs.map fun kv => kD kv.1).zip ds).map (·.1) = kvs.map fun kv => kD kv.1 := List.map_fst_zip (by rw [List.length_map]; omega)
    have f2 : ((kvs.map fun kv => kD kv.1).zip ds).map (·.2) = ds := List.map_snd_zip (by rw [List.length_map]; omega)
    have z : (dictText (PyData.shownKv ((kvs.map fun kv => kD kv.1).zip ds))).length ≤ sizeLine := by simpa only [PyData.shown] using hz
    obtain ⟨s1, s2⟩ := PyData.showableKv_split _ (show PyData.showableKv ((kvs.map fun kv => kD kv.1).zip ds) = true by simpa [PyData.showable] using hs)
    have zk := fun t ht => (let ⟨p, hp, l⟩ := PyData.shownKv_key_le ((kvs.map fun kv => kD kv.1).zip ds) t ht; Nat.le_trans l (Nat.le_trans (dictText_mem_le hp) z))
    have zv := fun t ht => (let ⟨p, hp, l⟩ := PyData.shownKv_val_le ((kvs.map fun kv => kD kv.1).zip ds) t ht; Nat.le_trans l (Nat.le_trans (dictText_mem_le hp) z))
    have dv := PyData.depthAll_vals_le ((kvs.map fun kv => kD kv.1).zip ds)
    rw [f1] at s1 zk
    rw [f2] at s2 zv dv
    obtain ⟨bs, hb, hk⟩ := Dqs.textK I _ ha (dk_reads (h := s.heap) kv pr).2 s2 zv
    have hb' : ReadAtMost s.heap (PyData.depthKv ((kvs.map fun kv => kD kv.1).zip ds)) bs := hb.mono dv
    have hn := not_mem_of_deeper rd (by simp only [PyData.depth]; omega) hb'
    refine ⟨_, ReadAtMost.cons rd (by simp only [PyData.depth]; omega) hb', ?_⟩
    simp only [PyData.depth, PyData.shown, PyData.shownKv_eq, f1, f2]
    exact ReprK.dict ho ex.1 hd hne hn (ReprEntriesK.of_two es.toList _ _ (keys_reprK kvs kv pr s1 zk) (hk.more_le (fun b hb => hb) dv))
theorem Dqs.textK (I : Inv X pins σ H s) : ∀ {vs : List V} {ds : List PyData} (us : List Value), Dqs X.K H vs ds → Vals vs us → PyData.showableAll ds = true → (∀ t ∈ PyData.shownAll ds, t.length ≤ sizeLine) →
    ∃ bs, ReadAtMost s.heap (PyData.depthAll ds) bs ∧ ReprAllK X.prog X.w bs s.heap (PyData.depthAll ds) us (PyData.shownAll ds)
  | _, _, us, .nil, r, _, _ => by
    cases r
    exact ⟨[], fun _ h => (nomatch h), by simp only [PyData.shownAll]; exact .nil⟩
  | _, _, us, .cons (d := d) (ds := ds) h1 h2, r, hs, hz => by
    cases r with
    | cons r1 r2 =>
      have hs' : d.showable = true ∧ PyData.showableAll ds = true := by simpa [PyData.showableAll] using hs
      obtain ⟨b1, p1, k1⟩ := Dq.textK I _ h1 r1 hs'.1 (hz _ (by simp only [PyData.shownAll]; exact List.mem_cons_self ..))
      obtain ⟨b2, p2, k2⟩ := Dqs.textK I _ h2 r2 hs'.2 fun t ht => hz t (by simp only [PyData.shownAll]; exact List.mem_cons_of_mem _ ht)
      refine ⟨b1 ++ b2, ?_, ?_⟩
      · simp only [PyData.depthAll]
        exact (p1.mono (Nat.le_max_left _ _)).append (p2.mono (Nat.le_max_right _ _))
      · simp only [PyData.depthAll, PyData.shownAll]
        exact .cons ((k1.more fun b hb => List.mem_append_left _ hb).level_le (Nat.le_max_left _ _)) (k2.more_le (fun b hb => List.mem_append_right _ hb) (Nat.le_max_right _ _))
end
end
/-! ### repr of data -/
/-- what repr takes: numbers that have a text, few levels, a text that fits -/
structure Fine (d : PyData) : Prop where
  sh : d.showable = true
  dp : d.depth ≤ 100
  sz : d.shown.length ≤ sizeLine
def rRepr (K : PySem.W.Frag) : List V → Hp → VK → Prop := fun xs H Q => ∃ v d, xs = [v] ∧ Dq K H v d ∧ Fine d ∧ Q (.str d.shown) H
theorem call_reprD {X : Cx} {k : Nat} (hg : X.A.guards = some []) (hr : Room k X.A) : CallR X (.builtin "repr") (rRepr X.K) := by
  intro pins s σ H xs us Q I r h
  obtain ⟨v, d, rfl, hd, F, q⟩ := h
  obtain ⟨u, rfl, ru⟩ := vals1 r
  have hun := hr.un
  have hdp := F.dp
  have hsz := F.sz
  have hsh := F.sh
  have fin : ∀ (h' : Heap) (t : Tok) (tk : Nat), (∀ b o, s.heap.get? b = some o → h'.get? b = some o) → EP X pins σ Q (.str d.shown t) { s with heap := h', toks := tk } :=
    fun h' t tk hk => ⟨.str _, H, I.kept (t' := tk) hk, ⟨_, rfl⟩, q⟩
  cases hd with
  | non => cases ru; exact PySem.P.repr_of_none (by simpa [PyData.shown] using fin s.heap s.toks _ fun _ _ e => e)
  | bl b => cases ru; exact PySem.P.repr_of_bool (by simpa [PyData.shown] using fin s.heap s.toks _ fun _ _ e => e)
  | int i =>
    obtain ⟨t, rfl⟩ := ru
    exact PySem.P.repr_of_int (by simpa [PyData.showable] using hsh) (by simpa [PyData.shown] using fin s.heap s.toks _ fun _ _ e => e)
  | str x =>
    obtain ⟨t, rfl⟩ := ru
    exact PySem.P.repr_of_str (by simpa [PyData.shown] using fin s.heap s.toks _ fun _ _ e => e) (by simpa [PyData.shown] using hsz)
  | @lst a vs ds hq ha =>
    obtain ⟨as, rd⟩ := Dq.reads I u (.lst hq ha) ru
    cases ru
    obtain ⟨its, rv, ⟨o, n, ho, hc, _, hdt⟩, _⟩ := I.list hq
    have z : (listText (PyData.shownAll ds)).length ≤ sizeLine := by simpa only [PyData.shown] using hsz
    obtain ⟨bs, hb, hk⟩ := Dqs.textK I its ha rv (by simpa [PyData.showable] using hsh) fun t ht => Nat.le_trans (listText_mem_le ht) z
    have hn := not_mem_of_deeper rd (by simp only [PyData.depth]; omega) hb
    simp only [PyData.depth] at hdp
    simp only [PyData.shown] at fin
    refine call_repr_slot (by omega) ⟨o, ho, hc⟩ PySem.F.slot_list_repr.toG ?_
    cases its with
    | nil =>
      cases rv
      cases ha
      simp only [PyData.shownAll, listText_nil] at fin
      exact call_list_repr_empty ⟨o, ho, hc⟩ ho hdt ⟨_, _, rfl, fin s.heap _ _ fun _ _ e => e⟩
    | cons x l =>
      exact call_list_reprK ho hc hdt hn (by simpa using hk.length_eq) (fun i y e => hk.item i y (by simpa using e)) hg (fun b _ => Clear.nil b) (by show X.A.units + 1 + (PyData.depthAll ds + 1) < cLine; omega) (fun _ _ e => e)
        (fun h' u tk e => ⟨_, _, rfl, fin h' u tk e⟩) z
  | @tup a vs ds hq ha =>
    obtain ⟨as, rd⟩ := Dq.reads I u (.tup hq ha) ru
    cases ru
    obtain ⟨its, rv, ⟨o, ho, hc, n, hdt⟩, _⟩ := I.tuple hq
    have z : (tupleText (PyData.shownAll ds)).length ≤ sizeLine := by simpa only [PyData.shown] using hsz
    obtain ⟨bs, hb, hk⟩ := Dqs.textK I its ha rv (by simpa [PyData.showable] using hsh) fun t ht => Nat.le_trans (tupleText_mem_le ht) z
    have hn := not_mem_of_deeper rd (by simp only [PyData.depth]; omega) hb
    simp only [PyData.depth] at hdp
    simp only [PyData.shown] at fin
    refine call_repr_slot (by omega) ⟨o, ho, hc⟩ PySem.F.slot_tuple_repr ?_
    exact call_tuple_reprK ho hc hdt hn hk hg (fun b _ => Clear.nil b) (by show X.A.units + 1 + (PyData.depthAll ds + 1) < cLine; omega) (fun _ _ e => e) (fun h' u tk e => ⟨_, _, rfl, fin h' u tk e⟩) z
  | @dct a kvs ds hq ha =>
    obtain ⟨as, rd⟩ := Dq.reads I u (.dct hq ha) ru
    cases ru
    obtain ⟨_, hne, vs, kv, o, es, ep, ho, ex, hdt, _, pr, _⟩ := I.hok _ _ hq
    have hl := ha.len
    rw [List.length_map] at hl
    have f1 : ((kvs.map fun kv => kD kv.1).zip ds).map (·.1) = kvs.map fun kv => kD kv.1 := List.map_fst_zip (by rw [List.length_map]; omega)
    have f2 : ((kvs.map fun kv => kD kv.1).zip ds).map (·.2) = ds := List.map_snd_zip (by rw [List.length_map]; omega)
    have z : (dictText (PyData.shownKv ((kvs.map fun kv => kD kv.1).zip ds))).length ≤ sizeLine := by simpa only [PyData.shown] using hsz
    obtain ⟨s1, s2⟩ := PyData.showableKv_split _ (show PyData.showableKv ((kvs.map fun kv => kD kv.1).zip ds) = true by simpa [PyData.showable] using hsh)
    have zk := fun t ht => (let ⟨p, hp, l⟩ := PyData.shownKv_key_le ((kvs.map fun kv => kD kv.1).zip ds) t ht; Nat.le_trans l (Nat.le_trans (dictText_mem_le hp) z))
    have zv := fun t ht => (let ⟨p, hp, l⟩ := PyData.shownKv_val_le ((kvs.map fun kv => kD kv.1).zip ds) t ht; Nat.le_trans l (Nat.le_trans (dictText_mem_le hp) z))
    have dv := PyData.depthAll_vals_le ((kvs.map fun kv => kD kv.1).zip ds)
    rw [f1] at s1 zk
    rw [f2] at s2 zv dv
    obtain ⟨bs, hb, hk⟩ := Dqs.textK I _ ha (dk_reads (h := s.heap) kv pr).2 s2 zv
    have hb' : ReadAtMost s.heap (PyData.depthKv ((kvs.map fun kv => kD kv.1).zip ds)) bs := hb.mono dv
    have hn := not_mem_of_deeper rd (by simp only [PyData.depth]; omega) hb'
    simp only [PyData.depth] at hdp
    simp only [PyData.shown, PyData.shownKv_eq, f1, f2] at fin
    rw [PyData.shownKv_eq, f1, f2] at z
    refine call_repr_slot (by omega) ⟨o, ho, ex.1⟩ PySem.F.slot_dict_repr ?_
    exact call_dict_reprK ho ex.1 hdt hne hn (ReprEntriesK.of_two es.toList _ _ (keys_reprK kvs kv pr s1 zk) (hk.more_le (fun b hb => hb) dv)) hg (fun b _ => Clear.nil b)
      (by show X.A.units + 1 + (PyData.depthKv ((kvs.map fun kv => kD kv.1).zip ds) + 1) < cLine; omega) (fun _ _ e => e) (fun h' u tk e => ⟨_, _, rfl, fin h' u tk e⟩) z
end Lm

namespace Lm
open PySem PySem.Spec PyProof.Rows L2
/-! ### a def's promise where no repr runs around -/
structure FnG (P : Program) (w : World) (K : PySem.W.Frag) (mg : Str → Option Value) (base : Heap) (CX : CXT) (k : Nat) (f : Addr) (fd : FuncData) (ps : List Str) (sp : Sp) : Prop where
  len : ∀ vs H Q E, sp vs H Q E → vs.length = ps.length
  go : ∀ (A : Around) (outer : List Env) (s : Shared) (H : Hp) (args : Args) (us : List Value) (vs : List V) (Q : VK) (E : XK), A.guards = some [] → Room k A →
    Env0 P w K mg base A outer s H → BindsTo s fd args (ps.zip us) → Vals vs us → sp vs H Q E → codeAny (model P w) A (.call (.ref f) args) (CR CX outer P w H s Q E) s
section
variable {P : Program} {w : World} {K : PySem.W.Frag} {mg : Str → Option Value} {base : Heap}
theorem FnG.mono {CX : CXT} {j k : Nat} {f : Addr} {fd : FuncData} {ps : List Str} {sp : Sp} (F : FnG P w K mg base CX j f fd ps sp) (h : j ≤ k) : FnG P w K mg base CX k f fd ps sp :=
  ⟨F.len, fun A o s H as us vs Q E g r => F.go A o s H as us vs Q E g (r.mono h)⟩
theorem Fun.okG {x qual : Str} {st : Stmt} {f : Addr} {fd : FuncData} {N ps : List Str} {k : Nat} {sp : Sp} (F : Fun K x qual st f fd) (S : FnScope N ps (defScope st)) (hlen : ∀ vs H Q E, sp vs H Q E → vs.length = ps.length)
    (hb : ∀ (cdv : Value) (A : Around) (outer : List Env) (s : Shared) (H : Hp) (vs : List V) (Q : VK) (E : XK), A.guards = some [] → Room k (A.deeper (envOfC qual (defScope st) s.heap.objs.size f cdv)) → sp vs H Q E →
      ∃ t, PSs (cxOf CX0 P w K mg base N qual (defScope st) f cdv A outer s H E).nox (defBody st) t ∧ t { nx := fun _ H' => Q .non H', rt := Q } (start N vs) H) : FnG P w K mg base CX0 (k + 1) f fd ps sp := by
  obtain ⟨oc, od, kV, doc, pm, an, cdv, ct, osl, rfl, lk, hcd⟩ := F.ex
  refine ⟨hlen, fun A outer s H args us vs Q E g hr e0 bd r hs => ?_⟩
  have hl := hlen _ _ _ _ hs
  have KX : K.In s.heap := e0.mod.kin.keeps fun b o e => (e0.bs b o e).1
  have nl : s.heap.NoLimit := e0.mod.nolimit.keeps fun b o e => (e0.bs b o e).1
  have kinds : ∀ y ∈ ps.zip us, (defScope st).names.lookup y.1 = some .local ∨ ((defScope st).names.lookup y.1 = some .cell ∧ ((cellsFrom (s.heap.objs.size + 1) (defScope st).names []).lookup y.1).isSome = true) := by
    rintro ⟨nm, v⟩ hy
    have hm := (List.of_mem_zip hy).1
    cases S.par nm hm with
    | inl q => exact .inl q
    | inr q => exact .inr ⟨q, PySem.W.cellsFrom_some _ _ _ (.inl q)⟩
  refine codeAny_call_function (hr.depth) (KX _ _ lk) rfl S.co S.gen rfl (PySem.W.codeRec_of KX hcd) (bd _ _ _ _ ?_)
  refine wpAny_newFunctionEnv_cells S.kind kinds ?_
  intro env he s1 x
  subst he
  refine ⟨nl.keeps x.toInCall.keep, codeAny_func ?_⟩
  obtain ⟨t, ht, hq⟩ := hb cdv A outer s H vs Q E g (hr.deeper _) hs
  have J := inv_start (CX := CX0) (E := E) S hr.hd e0 hl r x
  refine wpAny_mono (ht.nox.run [] s1 (start N vs) H _ J hq) ?_ (fun e s' z => z)
  intro fl s' z
  cases fl with
  | ret u => obtain ⟨v, σ2, H2, J2, rv, q⟩ := z; exact ⟨v, H2, J2.os, J2.bare, J2.base, J2.hok, rv, q⟩
  | next => obtain ⟨σ2, H2, J2, q⟩ := z; exact ⟨V.non, H2, J2.os, J2.bare, J2.base, J2.hok, rfl, q⟩
  | brk => obtain ⟨_, _, _, q⟩ := z; exact q.elim
  | cont => obtain ⟨_, _, _, q⟩ := z; exact q.elim
end
/-! ### the law's own call -/
theorem lawCallG {P : Program} {w : World} {K : PySem.W.Frag} {mg mb : Str → Option Value} {k : Nat} {fa a : Addr} {fd : FuncData} {x : Str} {sp : Sp} {s₁ : Shared} {vs : List Value} {ns : List Int}
    (KX : K.In s₁.heap) (hns : s₁.heap.Ns mainGlobals mg) (hb : s₁.heap.Ns builtinsNs mb) (hbb : ∀ x : Str, x ≠ "__name__" → mb x = bootBuiltins x) (hlim : s₁.heap.NoLimit) (hg : s₁.gens = #[])
    (ha : s₁.heap.get? a = some { cls := .type "list", data := .seq vs.toArray }) (hi : IntsAre vs ns) (hl : ns.length ≤ sizeLine) (hr : Room k callerA)
    (F : ∀ base : Heap, K.In base → base.Ns mainGlobals mg → FnG P w K mg base CX0 k fa fd [x] sp) (hbind : ∀ (s : Shared) (u : Value), BindsTo s fd ⟨[u], []⟩ [(x, u)])
    (hsp : ∀ H : Hp, Only H → SqL K H a (ns.map V.int) → sp [.ref a] H (fun v _ => v = .bl true) fun _ _ _ => False) :
    codeAny (model P w) callerA (.call (.ref fa) ⟨[.ref a], []⟩) (fun r s' => r = .ok (.ret (.bool true)) ∧ OldK s₁.heap s'.heap ∧ s'.os = s₁.os ∧ AllBare s'.gens) s₁ := by
  have rv := vals_ints hi
  have ln := hi.length
  have main : ∀ H : Hp, Only H → SqL K H a (ns.map V.int) → HOk P w H s₁.heap → (∀ b, H b ≠ none → b = a) → (H a ≠ none → K.lookup a = none) →
      codeAny (model P w) callerA (.call (.ref fa) ⟨[.ref a], []⟩) (fun r s' => r = .ok (.ret (.bool true)) ∧ OldK s₁.heap s'.heap ∧ s'.os = s₁.os ∧ AllBare s'.gens) s₁ := by
    intro H hO hS ok hA hK
    have nsd : ∀ {b : Addr} {m : Str → Option Value}, s₁.heap.Ns b m → (hidT s₁.heap H).Ns b m := by
      rintro b m ⟨o, es, ep, e, d, r⟩
      refine ⟨o, es, ep, hidT_get e ?_, d, r⟩
      cases q : H b with
      | none => rfl
      | some u =>
        have eb := hA b (by rw [q]; exact fun z => nomatch z)
        rw [eb, ha] at e
        cases e
        cases d
    have hKb : K.In (hidT s₁.heap H) := by
      intro b o e
      refine hidT_get (KX b o e) ?_
      cases q : H b with
      | none => rfl
      | some u =>
        have eb := hA b (by rw [q]; exact fun z => nomatch z)
        rw [eb, hK (by rw [← eb, q]; exact fun z => nomatch z)] at e
        cases e
    obtain ⟨mc, n1, n2⟩ := hlim
    have env : Env0 P w K mg (hidT s₁.heap H) callerA [] s₁ H :=
      { frames := rfl, mod := ⟨hKb, nsd hns, ⟨mb, nsd hb, hbb⟩, ⟨mc, nsd n1, n2⟩⟩, bs := fun b o e => of_hidT e, bsz := Nat.le_of_eq (hidT_size _ _), funs := trivial, frf := (fun b hb => absurd hb (by simp [frs])), hok := ok, bare := .of_eq hg }
    have run := (F _ hKb (nsd hns)).go callerA [] s₁ H ⟨[.ref a], []⟩ [.ref a] [.ref a] _ _ rfl hr env (hbind s₁ (.ref a)) (.cons rfl .nil) (hsp H hO hS)
    refine codeAny_mono run ?_
    intro r s' h
    match r, h with
    | .error e, h => exact False.elim h
    | .ok .next, h => exact False.elim h
    | .ok .brk, h => exact False.elim h
    | .ok .cont, h => exact False.elim h
    | .ok (.ret u), h =>
      obtain ⟨v, H', os, bare, un, ok', r', q⟩ := h
      have q' : v = .bl true := q
      subst q'
      cases (show u = Value.bool true from r')
      refine ⟨rfl, OldK.of_keep (fun b o e => ?_), os, bare⟩
      cases q : H b with
      | none => exact un.keep b o e q (by simp [frs]) (by simp)
      | some u =>
        cases hO b with
        | inl z => rw [q] at z; cases z
        | inr z =>
          obtain ⟨ob, xs, z⟩ := z
          have e1 := (ok b _ z).1
          have e2 := (ok' b _ (un.frzs b ob _ z)).1
          rw [e] at e1
          rw [e2, ← e1]
  cases hk : K.lookup a with
  | some o =>
    have e := KX a o hk
    rw [ha] at e
    cases e
    exact main (fun _ => none) (fun _ => .inl rfl) (.inr ⟨_, vs.toArray, _, hk, rfl, rfl, rfl, by rw [List.size_toArray, ln]; exact hl, by simpa using rv⟩) (fun b u z => nomatch z) (fun b z => absurd rfl z) fun z => absurd rfl z
  | none =>
    have self : ∀ {b : Addr}, (if b = a then some (HO.frz { cls := .type "list", data := .seq vs.toArray } (.lst (ns.map V.int))) else none) ≠ none → b = a := fun {b} z => by
      by_cases e : b = a
      · exact e
      · rw [if_neg e] at z
        exact absurd rfl z
    refine main (fun b => if b = a then some (.frz { cls := .type "list", data := .seq vs.toArray } (.lst (ns.map V.int))) else none) ?_ (.inl (.inr ⟨_, if_pos rfl⟩)) ?_ (fun b z => self z) fun _ => hk
    · intro b
      by_cases e : b = a
      · exact .inr ⟨_, _, if_pos e⟩
      · exact .inl (if_neg e)
    · intro b u z
      dsimp only at z
      have eb := self (b := b) (by rw [z]; exact fun q => nomatch q)
      rw [if_pos eb] at z
      cases z
      rw [eb]
      exact ⟨ha, by rw [List.length_map]; exact hl, vs, _, rv, ha⟩
/-- a law row's end -/
theorem walkG {l : PySem.W.OpenLaw} {n k : Nat} {q : Program} {loose : List Str} {XP : (Str → Option Value) → Heap → Prop} {YP : World → Heap → Prop} {d : DefRec} {K : Params → PySem.W.Frag} {sp : PySem.W.Frag → Sp} {x : Str}
    (hn : l.most = some n) (hn2 : n ≤ sizeLine) (hdf : d.params.defaults = []) (hr : Room k callerA) (hY : ∀ (w : World) (h : Heap), YP w h → (K w.params).In h)
    (F : ∀ (w : World) (mg : Str → Option Value) (fa : Addr) (h : Heap), (K w.params).In h → h.Ns mainGlobals mg → mg d.name = some (.ref fa) →
      ∃ fd : FuncData, (∀ (s : Shared) (u : Value), BindsTo s fd ⟨[u], []⟩ [(x, u)]) ∧
        ∀ base : Heap, (K w.params).In base → base.Ns mainGlobals mg → FnG l.prog w (K w.params) mg base CX0 k fa fd [x] (sp (K w.params)))
    (hsp : ∀ (K : PySem.W.Frag) (H : Hp) (a : Addr) (ns : List Int), ns.length ≤ n → Only H → SqL K H a (ns.map V.int) → sp K [.ref a] H (fun v _ => v = .bl true) fun _ _ _ => False) :
    PySem.W.WalkO q loose XP YP l.row.toRowW d [] (fun f vs => PySem.call f vs) := by
  refine Att.attach_call hn hdf ?_
  intro w s₀ s₁ mg mb fa o pm cd doc a vs ns G Y ho hd hcd hmg hobj hints hlen hg
  obtain ⟨fd, b, f⟩ := F w mg fa _ (hY w _ Y) G.T.g hmg
  exact lawCallG (hY w _ Y) G.T.g G.T.b G.T.builtins G.T.nolimit hg hobj hints (Nat.le_trans hlen hn2) hr f b (fun H hO hS => hsp _ H a ns hlen hO hS)
/-! ### a call of such a def -/
section
variable {X : Cx}
theorem pe_callG {k : Nat} {f : Addr} {fd : FuncData} {ps : List Str} {sp : Sp} {E : XK} {x : Str} {e : Expr} {es : List Expr} {t : TA} {p pos : Pos} (F : FnG X.prog X.w X.K X.mg X.base CX0 k f fd ps sp) (hgd : X.A.guards = some []) (hr : Room k X.A) (hg : Gl X x)
    (hm : X.mg x = some (.ref f)) (hk : PySem.W.keepIn X.K (.ref f) = true) (hb : Binds X.K fd ps []) (ha : PA X (e :: es) t) (hdb : (x == ("__debug__" : Str)) = false := by decide)
    (he : starEach (e :: es) X.env = (false, eval e X.env) :: starEach es X.env := by rfl) (hpl : (backTo pos (starEach es X.env)).any (·.1) = false := by rfl) :
    PE X (.Call (.Name x p) (e :: es) [] pos) (tCall sp [] E0 t) := by
  refine ⟨fun pins s σ H Q I h => ?_⟩
  refine wpAny_Call_Name_kw (ld_glob I hg hm ?_ hdb)
  refine PySem.W.callWith_K (h₀ := X.base) I.ok.mod.kin hk (thn (ha.run pos pins s σ H _ I h) ?_) he hpl
  rintro us s1 ⟨vs, H1, I1, r, q⟩
  refine ⟨I1.kIn, ?_⟩
  have q' : sp vs H1 Q E0 := by simpa using q
  have hl : us.length = ps.length := r.length.symm.trans (F.len _ _ _ _ q')
  have bd := hb s1 us I1.kIn (by simpa using hl)
  simp only [List.append_nil] at bd
  refine wpAny_call (codeAny_mono (F.go X.A X.stack s1 H1 ⟨us, []⟩ us vs Q E0 hgd hr I1.env0 bd r q') ?_)
  intro r s' hq
  match r, hq with
  | .ok (.ret u), hq => exact I1.after hq
  | .ok .next, hq => exact False.elim hq
  | .ok .brk, hq => exact False.elim hq
  | .ok .cont, hq => exact False.elim hq
  | .error e, hq => exact False.elim hq
end
end Lm

namespace Lm
open PySem PySem.Spec PyProof.Rows L2
section
variable {X : Cx} {a b c d : Expr} {ta tb tc td : TE} {pos : Pos}
/-! ### a op1 b op2 c op3 d -/
def tChain3 (r1 r2 r3 : R2) (ta tb tc td : TE) : TE := fun σ H Q => ta σ H fun x H1 => tb σ H1 fun y H2 => r1 x y H2 fun z H3 => ∃ k, z = .bl k ∧
  (if k = true then tc σ H3 fun w H4 => r2 y w H4 fun z2 H5 => ∃ k2, z2 = .bl k2 ∧ (if k2 = true then td σ H5 fun w2 H6 => r3 w w2 H6 Q else Q (.bl false) H5) else Q (.bl false) H3)
theorem pe_chain3 {o1 o2 o3 : CmpOp} {r1 r2 r3 : R2} (h1 : OpR X (compareOp o1) r1) (h2 : OpR X (compareOp o2) r2) (h3 : OpR X (compareOp o3) r3) (ha : PE X a ta) (hb : PE X b tb) (hc : PE X c tc) (hd : PE X d td)
    (hm : lastMarks [o1, o2, o3] [b, c, d] = false := by with_unfolding_all rfl) : PE X (.Compare a [o1, o2, o3] [b, c, d] pos) (tChain3 r1 r2 r3 ta tb tc td) := by
  constructor
  intro pins s σ H Q I h
  refine Compare_chain (thn (ha.run pins s σ H _ I h) ?_) hm
  rintro v s1 ⟨x, H1, I1, e1, q1⟩
  refine chain_link (thn (hb.run pins s1 σ H1 _ I1 q1) ?_)
  rintro u s2 ⟨y, H2, I2, e2, q2⟩
  refine thn (h1 pins s2 σ H2 x y v u _ I2 e1 e2 q2) ?_
  rintro w1 s3 ⟨z, H3, I3, e3, k, rfl, q3⟩
  cases e3
  refine wpAny_truthy_bool ?_
  cases k with
  | false => exact ite_ff ⟨.bl false, H3, I3, rfl, q3⟩
  | true =>
    refine ite_tt (chain_link (thn (hc.run pins s3 σ H3 _ I3 q3) ?_))
    rintro w2 s4 ⟨y4, H4, I4, e4, q4⟩
    refine thn (h2 pins s4 σ H4 y y4 u w2 _ I4 e2 e4 q4) ?_
    rintro w3 s5 ⟨z5, H5, I5, e5, k5, rfl, q5⟩
    cases e5
    refine wpAny_truthy_bool ?_
    cases k5 with
    | false => exact ite_ff ⟨.bl false, H5, I5, rfl, q5⟩
    | true =>
      refine ite_tt (chain_last (thn (hd.run pins s5 σ H5 _ I5 q5) ?_))
      rintro w6 s6 ⟨y6, H6, I6, e6, q6⟩
      exact h3 pins s6 σ H6 y4 y6 w2 w6 Q I6 e4 e6 q6
end
/-! ### t[::-1] of a tuple -/
section
variable {prog : Program} {w : World} {A : Around} {E : Value → Shared → Prop} {s : Shared}
theorem getItem_tuple_back {t sl : Addr} {items : Array Value} {vl vu vs : Value} {Q : Value → Shared → Prop} (ht : IsTup s.heap t items) (hs : s.heap.IsSliceOf sl vl vu vs) (pl : IsPart vl none) (pu : IsPart vu none) (ps : IsPart vs (some (-1)))
    (h : Q (.ref s.heap.objs.size) { s with heap := s.heap.push { cls := .type "tuple", data := .seq items.toList.reverse.toArray } }) (hsz : items.size ≤ sizeLine) : wpAny (model prog w) A (getItem (.ref t) (.ref sl)) Q E s := by
  have ok : sizeOk (.seq items.toList.reverse.toArray) := by
    show items.toList.reverse.toArray.size ≤ sizeLine
    simpa using hsz
  obtain ⟨os, hos, hcs, hds⟩ := id hs
  have isSl : s.TypeIs (.ref sl) "slice" := ⟨os, hos, hcs⟩
  unfold getItem
  try with_reducible refine wpAny_holding ?_
  first | refine wpAny_bind (wpAny_pure ?_) | skip
  refine wpAny_bind (wpAny_sequenceKey ht.typeIs (by decide) ?_)
  refine wpAny_bind (wpAny_callSpecial?_slot (name := Str.ofString "__getitem__") ht.typeIs PyProof.Rows.slot_tuple_getitem (wpAny_call_entry PyProof.Rows.slot_tuple_getitem ht.typeIs entry_tuple_getitem ?_ (args_tuple_getitem _ _)))
  show wpAny _ _ (Builtin.Tuple.tupleItemsOf (.ref t) >>= _) _ _ s
  refine wpAny_bind (tupleItemsOf_ ht ?_)
  refine wpAny_bind (wpAny_typeOf isSl ?_)
  rw [if_pos (by decide)]
  refine wpAny_bind ?_
  unfold Builtin.Slice.sliceApplied Builtin.Slice.sliceFields
  refine wpAny_bind (wpAny_bind (wpAny_field hos hds (x := vl) rfl (wpAny_bind (wpAny_field hos hds (x := vu) rfl (wpAny_bind (wpAny_field hos hds (x := vs) rfl (wpAny_pure ?_)))))))
  refine wpAny_bind (HT.slicePart_ ps ?_)
  show wpAny _ _ (if ((-1 : Int) == 0) = true then _ else _) _ _ s
  rw [if_neg (by decide)]
  refine wpAny_bind (HT.slicePart_ pl (wpAny_bind (HT.slicePart_ pu (wpAny_bind (wpAny_pure ?_)))))
  have e1 : Builtin.Slice.sliceAdjust none none (-1) (items.size : Int) = ((items.size : Int) - 1, -1) := rfl
  have e2 : Builtin.Slice.slicePlaces ((items.size : Int) - 1) (-1) (-1) = items.size := by
    unfold Builtin.Slice.slicePlaces
    simp only [show ¬ ((-1 : Int) > 0) by decide, if_false, show (- -1 : Int) = 1 by decide, Int.ediv_one]
    split <;> omega
  show wpAny _ _ (match Builtin.Slice.sliceAdjust none none (-1) (items.size : Int) with | (lo, hi) => pure (lo, (-1 : Int), Builtin.Slice.slicePlaces lo hi (-1))) _ _ s
  rw [e1]
  show wpAny _ _ (pure ((items.size : Int) - 1, (-1 : Int), Builtin.Slice.slicePlaces ((items.size : Int) - 1) (-1) (-1))) _ _ s
  rw [e2]
  refine wpAny_pure ?_
  have no : ¬ ((((items.size : Int) - 1) == 0 && (-1 : Int) == 1 && items.size == items.size) = true) := by simp
  show wpAny _ _ (if (((items.size : Int) - 1) == 0 && (-1 : Int) == 1 && items.size == items.size) = true then _ else _) _ _ s
  rw [if_neg no]
  have pick : ((List.range items.size).filterMap fun (k : Nat) => items[(((items.size : Int) - 1) + (k : Int) * -1).toNat]?).toArray = items.toList.reverse.toArray := by
    rw [← PySem.W.krv_all items, ← List.filterMap_reverse, ← PySem.W.krv_range, List.filterMap_map]
    have cg : ∀ (l : List Nat), (∀ k ∈ l, k < items.size) → (l.filterMap fun (k : Nat) => items[(((items.size : Int) - 1) + (k : Int) * -1).toNat]?) = l.filterMap ((fun k => items[k]?) ∘ fun k => items.size - 1 - k) := by
      intro l
      induction l with
      | nil => intro _; rfl
      | cons k l ih =>
        intro hl
        have e : (((items.size : Int) - 1) + (k : Int) * -1).toNat = items.size - 1 - k := by
          have := hl k List.mem_cons_self
          omega
        rw [List.filterMap_cons, List.filterMap_cons, ih fun j hj => hl j (List.mem_cons_of_mem _ hj), e]
        rfl
    rw [cg _ fun k hk => List.mem_range.mp hk]
  rw [pick]
  first
    | exact wpAny_bind (m := Builtin.Tuple.tupleExact _) (wpAny_newObj_type (wpAny_pure ⟨_, rfl, wpAny_pure h⟩) ok)
    | exact wpAny_bind (m := Builtin.Tuple.tupleExact _) (wpAny_newObj_type (wpAny_bind (wpAny_pure (wpAny_pure ⟨_, rfl, wpAny_pure h⟩))) ok)
    | exact wpAny_bind (wpAny_bind (m := Builtin.Tuple.tupleExact _) (wpAny_newObj_type (wpAny_pure (wpAny_pure ⟨_, rfl, wpAny_pure h⟩)) ok))
    | exact wpAny_bind (wpAny_bind (m := Builtin.Tuple.tupleExact _) (wpAny_newObj_type (wpAny_pure ⟨_, rfl, wpAny_pure h⟩) ok))
end
section
variable {X : Cx}
def tRevT (K : PySem.W.Frag) (te : TE) : TE := fun σ H Q => te σ H fun x H1 => ∃ a xs, x = .ref a ∧ SqT K H1 a xs ∧ ∀ p, H1 p = none → Q (.ref p) (upd H1 p (.tup xs.reverse))
theorem pe_revT {e : Expr} {te : TE} {k : Nat} {p1 p2 p3 pos : Pos} (he : PE X e te) : PE X (.Subscript e (.Slice none none (some (.UnaryOp .USub (.Constant (.int 1) k p1) p2)) p3) pos) (tRevT X.K te) := by
  constructor
  intro pins s σ H Q I h
  refine Subscript_ (thn (he.run pins s σ H _ I h) ?_)
  rintro v s1 ⟨x, H1, I1, r1, a, xs, rfl, hx, q⟩
  cases r1
  have step : PO X (some (.UnaryOp .USub (.Constant (.int 1) k p1) p2)) (tPart (tUn (rU fun i => .int (-i)) (tC (.int 1)))) := po_some (pe_un un_neg pe_int)
  refine wpAny_Slice (thn (po_none.run pins s1 σ H1 (fun o H2 => o = none ∧ H2 = H1) I1 ⟨rfl, rfl⟩) ?_)
  rintro vl s2 ⟨l, H2, I2, pl, rfl, rfl⟩
  refine thn (po_none.run pins s2 σ H2 (fun o H3 => o = none ∧ H3 = H2) I2 ⟨rfl, rfl⟩) ?_
  rintro vu s3 ⟨u, H3, I3, pu, rfl, rfl⟩
  refine thn (step.run pins s3 σ H3 (fun o H4 => o = some (-1) ∧ H4 = H3) I3 ⟨1, rfl, -1, rfl, rfl, rfl⟩) ?_
  rintro vs s4 ⟨o, H4, I4, ps, rfl, rfl⟩
  have I5 : Inv X pins σ H4 { s4 with heap := s4.heap.push { cls := .type "slice", data := .fields #[vl, vu, vs] } } := I4.kept (t' := s4.toks) fun b ob q => Heap.get?_push_of_some _ q
  obtain ⟨its, r, ht, hz⟩ := I5.tuple hx
  have hlen := r.length
  show wpAny (model X.prog X.w) X.A (subscriptTail e (.Slice none none (some (.UnaryOp .USub (.Constant (.int 1) k p1) p2)) p3) (.ref a) (.ref s4.heap.objs.size)) _ _ _
  refine tail_any (ops := [.ref a, .ref s4.heap.objs.size]) ht.typeIs PyProof.Rows.slot_tuple_getitem.lookup ?_ (by with_unfolding_all rfl)
  refine getItem_tuple_back ht (Heap.IsSliceOf.new _ vl vu vs) pl pu ps ?_ (by rw [List.size_toArray]; omega)
  refine ⟨.ref _, _, I5.laid (t' := s4.toks) (o := .tup xs.reverse) (fun b ob q => Heap.get?_push_of_some _ q) (Nat.le_refl _) ?_, rfl, q _ (I5.hok.fresh (Nat.le_refl _))⟩
  exact ⟨by rw [List.length_reverse]; exact hz, its.reverse, r.reverse, IsTup.new _ _⟩
end
/-! ### enumerate of a tuple -/
section
set_option maxHeartbeats 1000000 in
theorem meets_enum_tup (t : Addr) (o : Obj) (items : Array Value) (n : Nat) (dd : Option Addr) (sl : Array (Option Value)) :
    Meets (Builtin.«enumerate.__new__» ⟨[.type "enumerate", .ref t], []⟩) (fun _ R s => s.heap.get? t = some { cls := .type "tuple", dict := dd, data := .seq items n, slots := sl } ∧
      R (.ok (.ret (.ref (s.heap.push { cls := .type "tuple_iterator", data := .fields #[.ref t, .int 0 0] }).objs.size)))
        { s with heap := (s.heap.push { cls := .type "tuple_iterator", data := .fields #[.ref t, .int 0 0] }).push { cls := .type "enumerate", data := .fields #[.none, .bool false, .ref s.heap.objs.size, rawInt 0, .none, .none] } }) :=
  .of_wp fun prog w A R s h => by
    obtain ⟨hp, g, d, tk, os⟩ := s
    obtain ⟨hl, h⟩ := h
    have hsub := sub_enumerate
    have hT : Heap.IsTuple (Shared.heap ⟨hp, g, d, tk, os⟩) t items := ⟨_, hl, rfl, n, rfl⟩
    have q1 : ∀ {A' : Around} {E : Value → Shared → Prop} {Q : Value → Shared → Prop}, Q (.ref hp.objs.size) ⟨hp.push { cls := .type "tuple_iterator", data := .fields #[.ref t, .int 0 0] }, g, d, tk, os⟩ → wpAny (model prog w) A' (pyIter (.ref t)) Q E ⟨hp, g, d, tk, os⟩ :=
      fun q => wpAny_pyIter_tuple hT q
    wp_walk using q1
    refine wpAny_stack_any fun st => wpAny_pure ?_
    split
    · rename_i c _ _ _ _ _
      cases (c == Value.type "enumerate") <;> (wp_walk using q1; exact ⟨_, rfl, h⟩)
    · wp_walk using q1
      exact ⟨_, rfl, h⟩
variable {prog : Program} {w : World} {A : Around} {E : Value → Shared → Prop} {s : Shared}
theorem call_enum_tup {t : Addr} {items : Array Value} {Q : Value → Shared → Prop} (hT : s.heap.IsTuple t items)
    (h : ∀ h', IsEnum h' (s.heap.objs.size + 1) s.heap.objs.size 0 .none → h'.IsTupleIter s.heap.objs.size t 0 → (∀ b o, s.heap.get? b = some o → h'.get? b = some o) → Q (.ref (s.heap.objs.size + 1)) { s with heap := h' }) :
    wpAny (model prog w) A (call (.type "enumerate") [.ref t]) Q E s := by
  obtain ⟨⟨c, dd, dt, sl⟩, hl, hc, n, hd⟩ := hT
  have hc' : c = .type "tuple" := hc
  have hd' : dt = .seq items n := hd
  subst hc' hd'
  refine callType_new F.called_enumerate (by decide) (F.typeCall_enumerate_1 _) (F.newCall_enumerate_1 _) (fun obj => F.args_object_init_2 obj _) F.entry_enumerate_new (meets_enum_tup t default items n dd sl) ⟨hl, ?_⟩
  have hz : (s.heap.push { cls := .type "tuple_iterator", data := .fields #[.ref t, .int 0 0] }).objs.size = s.heap.objs.size + 1 := Heap.size_push ..
  show _ ∧ _
  rw [hz]
  have he : IsEnum ((s.heap.push { cls := .type "tuple_iterator", data := .fields #[.ref t, .int 0 0] }).push { cls := .type "enumerate", data := .fields #[.none, .bool false, .ref s.heap.objs.size, rawInt 0, .none, .none] }) (s.heap.objs.size + 1) s.heap.objs.size 0 .none := by
    have q := Heap.get?_push_size (s.heap.push { cls := .type "tuple_iterator", data := .fields #[.ref t, .int 0 0] }) (o := { cls := .type "enumerate", data := .fields #[.none, .bool false, .ref s.heap.objs.size, rawInt 0, .none, .none] }) rfl
    rw [hz] at q
    exact q
  exact ⟨⟨_, he, rfl⟩, h _ he ⟨_, Heap.get?_push_of_some _ (Heap.get?_push_size _ rfl), rfl, rfl⟩ fun b o x => Heap.get?_push_of_some _ (Heap.get?_push_of_some _ x)⟩
end
/-- the tuple at a, each item in a new pair with its number -/
def Iet (K : PySem.W.Frag) (a : Addr) : It :=
  ⟨fun i H => ∃ (xs : List V) (x : V), SqT K H a xs ∧ xs[i]? = some x, fun i H v H' => ∃ T x, v = .ref T ∧ H T = none ∧ H' = upd H T (.tup [.int (i : Nat), x]) ∧ ∀ xs, SqT K H a xs → xs[i]? = some x, fun i H => ∃ xs : List V, SqT K H a xs ∧ xs.length ≤ i⟩
theorem turn_enumT {P : Program} {w : World} {K : PySem.W.Frag} {elts : List Expr} {kk : Nat} {tpos : Pos} (a e it : Addr) :
    Turn P w K (.Tuple elts kk tpos) (Iet K a) [e, it] e (fun i h => (∃ old, IsEnum h e it ((i : Nat) : Int) old) ∧ h.IsTupleIter it a i ∧ e ≠ it) where
  mem := by simp
  obj := by
    rintro i h ⟨⟨old, he⟩, ⟨o, ho, hc, hd⟩, _⟩ b hb
    have e' : b = e ∨ b = it := by simpa using hb
    cases e' with
    | inl z => rw [z]; exact ⟨_, he, fun v q => nomatch q⟩
    | inr z => rw [z]; exact ⟨o, ho, fun v q => by rw [hd] at q; cases q⟩
  keep := by
    rintro i h h' ⟨⟨old, he⟩, hi, hne⟩ k
    exact ⟨⟨old, k e (by simp) _ he⟩, hi.at fun o q => k it (by simp) o q, hne⟩
  item := by
    intro X hP hw hK hc i pins s σ H E I hf st hg
    subst hP hw hK
    obtain ⟨⟨old, he⟩, hit, hne⟩ := st
    obtain ⟨xs, x, hq, hx⟩ := hg
    obtain ⟨its, rv, p, hz⟩ := I.tuple hq
    obtain ⟨u, hu, ru⟩ := rv.get hx
    have hel : e < s.heap.objs.size := Heap.lt_size he
    have hil : it < s.heap.objs.size := by obtain ⟨_, q, _⟩ := hit; exact Heap.lt_size q
    have hai : a ≠ it := by
      rintro rfl
      obtain ⟨o1, g1, c1, _⟩ := hit
      obtain ⟨o2, g2, c2, _⟩ := p
      rw [g1] at g2
      cases g2
      rw [c1] at c2
      exact absurd c2 (by simp)
    have hae : a ≠ e := by
      rintro rfl
      obtain ⟨o2, g2, c2, _⟩ := p
      have g1 : s.heap.get? a = some _ := he
      rw [g1] at g2
      cases g2
      exact absurd c2 (by simp)
    have hu' : its.toArray[i]? = some u := by simpa using hu
    have hlt : i < its.toArray.size := (Array.getElem?_eq_some_iff.mp hu').1
    refine wpAny_pyNext_enum_itemD (Draws.tuple (A := X.A.in1) (prog := X.prog) (w := X.w) (I.ok.hd hc) it a hai its.toArray) he ⟨hit, p⟩ hlt hne (by simp [hne, hae.symm]) ?_
    intro y h' tk hy ho st' hT hsz hk
    have ey : y = u := Option.some.inj ((show its.toArray[i]? = some y from hy).symm.trans hu')
    subst ey
    refine ⟨_, rfl, wpAny_letOwnedTupleGo_enum (s := { s with heap := h', toks := tk + 1 }) ho ?_⟩
    intro h'' he' sb
    have hT2 : h''.get? s.heap.objs.size = some { cls := .type "tuple", data := .seq #[.int i tk, y] } := (sb.2 _ (Nat.ne_of_gt hel)).trans hT
    have new : ObjOk X.prog X.w (upd H s.heap.objs.size (.tup [.int (i : Nat), x])) h'' s.heap.objs.size (.tup [.int (i : Nat), x]) := ⟨by show 2 ≤ sizeLine; decide, [.int i tk, y], .cons ⟨_, rfl⟩ (.cons ru .nil), ⟨_, hT2, rfl, _, rfl⟩⟩
    have old2 : ∀ b ob, b ∉ [e, it] → s.heap.get? b = some ob → h''.get? b = some ob := fun b ob hb q => (sb.2 b (fun z => hb (by simp [z]))).trans (hk b ob (fun z => hb (by simp [z])) (fun z => hb (by simp [z])) q)
    have I1 : Inv X pins σ (upd H s.heap.objs.size (.tup [.int (i : Nat), x])) { s with heap := h'', toks := tk + 1 } := I.turnedNew (ch := [e, it]) old2 hf (Nat.le_refl _) new
    refine ⟨.ref s.heap.objs.size, _, I1, rfl, ⟨_, x, rfl, I.hok.fresh (Nat.le_refl _), rfl, fun ys hy => by rw [I.tuple_inj hy hq]; exact hx⟩, ⟨⟨y, ?_⟩, st'.1.at fun o q => (sb.2 it (Ne.symm hne)).trans q, hne⟩, ?_⟩
    · have e1 : ((i + 1 : Nat) : Int) = (i : Int) + 1 := by omega
      rw [e1]
      exact he'
    · intro b hb
      have hb' : b < s.heap.objs.size := by
        have e' : b = e ∨ b = it := by simpa using hb
        cases e' with
        | inl z => rw [z]; exact hel
        | inr z => rw [z]; exact hil
      rw [upd_ne (Nat.ne_of_lt hb')]
      exact (hf b hb).1
  done := by
    intro X hP hw hK hc i pins s σ H E I hf st hg
    subst hP hw hK
    obtain ⟨⟨old, he⟩, hit, hne⟩ := st
    obtain ⟨xs, hq, hx⟩ := hg
    obtain ⟨its, rv, p, hz⟩ := I.tuple hq
    obtain ⟨f0, f1, f2, f3, f4, f5⟩ := hf it (by simp)
    have hl := rv.length
    have isE : s.TypeIs (.ref e) "enumerate" := ⟨_, he, rfl⟩
    unfold pyNext
    refine wpAny_bind (wpAny_attempt (wpAny_callSpecial?_slot (name := Str.ofString "__next__") isE F.slot_enumerate_next (wpAny_call_entry F.slot_enumerate_next isE F.entry_enumerate_next ?_ (F.args_enumerate_next_1 _))))
    show wpAny _ _ (field (.ref e) 2 >>= _) _ _ _
    refine wpAny_bind (wpAny_field he rfl (x := .ref it) rfl ?_)
    refine wpAny_bind (wpAny_nextOf_tuple_end (I.ok.hd hc) hit p (by simp; omega) ?_)
    rintro h' x eb ⟨o, ho, hcl⟩
    refine wpAny_bind (wpAny_isInstance (T := "StopIteration") (b := true) ⟨o, ho, hcl⟩ isSubtype_stop ?_)
    exact wpAny_pure ⟨rfl, I.turned (t' := s.toks) (fun b o hb q => eb b o hb q) f0 f1 f3 f4 f5⟩
  self := by
    rintro A i s Q E ⟨⟨_, he⟩, _⟩ h
    exact wpAny_pyIter_enum he h
def iEnumT (K : PySem.W.Frag) (ta : TA) : TI := fun σ H R => ta σ H fun vs H1 => ∃ a xs, vs = [.ref a] ∧ SqT K H1 a xs ∧ R (Iet K a) H1
theorem pi_enumT {X : Cx} {e : Expr} {ta : TA} {p pos tpos : Pos} {elts : List Expr} {kk : Nat} (hg : Gl X "enumerate") (hm : X.mg "enumerate" = none) (ha : PA X [e] ta) (hs : starEach [e] X.env = [(false, eval e X.env)] := by rfl) :
    PI X (.Tuple elts kk tpos) (.Call (.Name "enumerate" p) [e] [] pos) (iEnumT X.K ta) := by
  constructor
  intro pins s σ H R I h
  refine Call_ (ld_blt I hg hm boot_enumerate (PyProof.Rows.callWith_type1 (thn (ha.run pos pins s σ H _ I h) ?_) hs rfl))
  rintro us s1 ⟨vs, H1, I1, r1, a, xs, rfl, hq, q⟩
  obtain ⟨u, rfl, ru⟩ := vals1 r1
  cases ru
  obtain ⟨its, rv, p', hz⟩ := I1.tuple hq
  refine call_enum_tup p' ?_
  intro h' he hit hk
  refine wpAny_pyIter_enum he ?_
  have I2 : Inv X pins σ H1 { s1 with heap := h' } := I1.kept (t' := s1.toks) hk
  refine ⟨s1.heap.objs.size + 1, [s1.heap.objs.size + 1, s1.heap.objs.size], _, _, H1, rfl, I2, turn_enumT a (s1.heap.objs.size + 1) s1.heap.objs.size, ⟨⟨.none, he⟩, hit, Nat.succ_ne_self _⟩, ?_, q⟩
  intro b hb
  have hb' : b = s1.heap.objs.size + 1 ∨ b = s1.heap.objs.size := by simpa using hb
  have hle : s1.heap.objs.size ≤ b := hb'.elim (fun z => by rw [z]; exact Nat.le_succ _) (fun z => by rw [z]; exact Nat.le_refl _)
  exact I1.fpOk hle (I1.hok.fresh hle)
/-- its walk: a new pair each turn -/
def YNum (xs : List V) : Nat → Hp → V → Hp → Prop := fun i H v H' => ∃ T x, v = .ref T ∧ H T = none ∧ H' = upd H T (.tup [.int (i : Nat), x]) ∧ xs[i]? = some x
theorem walk_enumT {K : PySem.W.Frag} {a : Addr} {xs : List V} : Walk (Iet K a) xs.length (fun H => SqT K H a xs) (YNum xs) :=
  ⟨fun i H hi h => ⟨xs, xs[i], h, by simp [hi]⟩, fun H h => ⟨xs, h, Nat.le_refl _⟩, fun i H x H' _ h y => by obtain ⟨T, z, e1, e2, e3, e4⟩ := y; exact ⟨T, z, e1, e2, e3, e4 xs h⟩⟩
theorem walk_enumL {K : PySem.W.Frag} {a : Addr} {xs : List V} : Walk (Ite K a) xs.length (fun H => SqL K H a xs) (YNum xs) :=
  ⟨fun i H hi h => ⟨xs, xs[i], h, by simp [hi]⟩, fun H h => ⟨xs, h, Nat.le_refl _⟩, fun i H x H' _ h y => by obtain ⟨T, z, e1, e2, e3, e4⟩ := y; exact ⟨T, z, e1, e2, e3, e4 xs h⟩⟩
end Lm

namespace Lm
open PySem PySem.Spec PyProof.Rows L2
/-! ### a def of the text, at hand -/
structure Def (K : PySem.W.Frag) (mg : Str → Option Value) (x : Str) (st : Stmt) (ps : List Str) (f : Addr) (fd : FuncData) : Prop where
  F : Fun K x x st f fd
  g : mg x = some (.ref f)
  b : Binds K fd ps []
/-! ### the pot -/

open Classical in
noncomputable def hid (Z : Hp) (p dl : Addr) (H : Hp) : Hp := fun b => if b = p ∨ b = dl ∨ Z b ≠ none then none else H b
theorem hid_at {Z : Hp} {p dl b : Addr} {H : Hp} (h1 : b ≠ p) (h2 : b ≠ dl ∧ Z b = none) : hid Z p dl H b = H b := if_neg (fun z => z.elim h1 (fun z => z.elim h2.1 (fun q => q h2.2)))
theorem hid_same {Z : Hp} (p dl : Addr) (H : Hp) : Same (hid Z p dl H) H := by
  intro b o e
  unfold hid at e
  split at e
  · cases e
  · exact e
theorem hid_some {Z : Hp} {p dl b : Addr} {H : Hp} {o : HO} (e : hid Z p dl H b = some o) : b ≠ p ∧ (b ≠ dl ∧ Z b = none) := by
  unfold hid at e
  split at e
  · cases e
  · rename_i z
    exact ⟨fun q => z (.inl q), fun q => z (.inr (.inl q)), Classical.byContradiction fun q => z (.inr (.inr q))⟩
/-- all but the pot's own two is as it was -/
def Kp (Z : Hp) (p dl : Addr) (H H' : Hp) : Prop := Same (hid Z p dl H) (hid Z p dl H')
theorem Kp.refl {Z : Hp} (p dl : Addr) (H : Hp) : Kp Z p dl H H := Same.refl _
theorem Kp.trans {Z : Hp} {p dl : Addr} {H H1 H2 : Hp} (a : Kp Z p dl H H1) (b : Kp Z p dl H1 H2) : Kp Z p dl H H2 := Same.trans a b
theorem Kp.of {Z : Hp} {p dl : Addr} {H H' : Hp} (s : Same H H') : Kp Z p dl H H' := by
  intro b o e
  have n := hid_some e
  rw [hid_at n.1 n.2] at e ⊢
  exact s b o e
theorem same_new {H : Hp} {q : Addr} {o : HO} (h : H q = none) : Same H (upd H q o) := fun b x e => by
  rw [upd_ne (ne_of_none e h)]
  exact e
theorem Kp.new {Z : Hp} {p dl q : Addr} {H : Hp} {o : HO} (h : H q = none) : Kp Z p dl H (upd H q o) := Kp.of (same_new h)
/-- the pot stands at p -/
structure PotAt (Z : Hp) (H : Hp) (p dl al : Addr) : Prop where
  ob : ∃ t : Int, H p = some (.dK [(.inr "deep", .ref dl), (.inr "all", .ref al), (.inr "times", .int t)])
  de : ∃ ns : List Int, H dl = some (.lst (ns.map V.int)) ∧ ns.length ≤ 64
  li : ∃ ns : List Int, H al = some (.lst (ns.map V.int)) ∧ ns ≠ [] ∧ ns.length ≤ 64
  ne : al ≠ dl
  zz : Same Z H
  zp : Z p = none
  zd : Z dl = none
theorem PotAt.pd {H : Hp} {Z : Hp} {p dl al : Addr} (h : PotAt Z H p dl al) : p ≠ dl := by
  obtain ⟨t, e⟩ := h.ob
  obtain ⟨ns, e2, _⟩ := h.de
  exact ne_of e e2 (fun z => nomatch z)
theorem PotAt.pa {H : Hp} {Z : Hp} {p dl al : Addr} (h : PotAt Z H p dl al) : al ≠ p := by
  obtain ⟨t, e⟩ := h.ob
  obtain ⟨ns, e2, _⟩ := h.li
  exact ne_of e2 e (fun z => nomatch z)
theorem PotAt.keep {H H' : Hp} {Z : Hp} {p dl al : Addr} (h : PotAt Z H p dl al) (s : Same H H') : PotAt Z H' p dl al :=
  ⟨let ⟨t, e⟩ := h.ob; ⟨t, s _ _ e⟩, let ⟨ns, e, l⟩ := h.de; ⟨ns, s _ _ e, l⟩, let ⟨ns, e, l⟩ := h.li; ⟨ns, s _ _ e, l⟩, h.ne, h.zz.trans s, h.zp, h.zd⟩
theorem PotAt.new {H : Hp} {Z : Hp} {p dl al q : Addr} {o : HO} (h : PotAt Z H p dl al) (n : H q = none) : PotAt Z (upd H q o) p dl al := h.keep (same_new n)
theorem PotAt.free {H : Hp} {Z : Hp} {p dl al q : Addr} (h : PotAt Z H p dl al) (n : H q = none) : q ≠ p ∧ (q ≠ dl ∧ Z q = none) := by
  obtain ⟨t, e⟩ := h.ob
  obtain ⟨ns, e2, _⟩ := h.de
  exact ⟨(ne_of_none e n).symm, (ne_of_none e2 n).symm, by
    cases e3 : Z q with
    | none => rfl
    | some o => rw [h.zz _ _ e3] at n; cases n⟩
theorem zz_upd {Z : Hp} {H : Hp} {f : Addr} {o : HO} (h : Same Z H) (n : Z f = none) : Same Z (upd H f o) := fun b x e => by
  rw [upd_ne (ne_of_none e n)]
  exact h b x e
def sp_draw : Sp := fun vs H Q _ => ∃ (Z : Hp) (p dl al : Addr) (n : Int), vs = [.ref p, .int n] ∧ PotAt Z H p dl al ∧ 0 < n ∧ n < 1073741824 ∧
  ∀ (r : Int) (H' : Hp), PotAt Z H' p dl al → Kp Z p dl H H' → 0 ≤ r → r < n → Q (.int r) H'
/-! ### xs == [], xs != [] -/
def rEqE (K : PySem.W.Frag) : R2 := fun x y H Q => ∃ a b xs, x = .ref a ∧ y = .ref b ∧ SqL K H a xs ∧ SqL K H b [] ∧ Q (.bl xs.isEmpty) H
def rNeE (K : PySem.W.Frag) : R2 := fun x y H Q => ∃ a b xs, x = .ref a ∧ y = .ref b ∧ SqL K H a xs ∧ SqL K H b [] ∧ Q (.bl (!xs.isEmpty)) H
section
variable {X : Cx}
theorem op_eqE (hu : X.A.units < cLine) : OpR X (compareOp .Eq) (rEqE X.K) := by
  rintro pins s σ H x y v u Q I rx ry ⟨a, b, xs, rfl, rfl, ha, hb, q⟩
  cases rx
  cases ry
  obtain ⟨i1, r1, p1, _⟩ := I.list ha
  obtain ⟨i2, r2, p2, _⟩ := I.list hb
  cases r2
  cases i1 with
  | nil =>
    cases r1
    exact SeqAt.RcAt.lists (e := fun _ => true) p1.isList p2.isList rfl hu (fun j h1 _ => absurd h1 (by simp)) _ _ _ _ ⟨.bl true, H, I, rfl, q⟩
  | cons z zs =>
    cases r1
    exact SeqAt.RcAt.lists_lengths p1.isList p2.isList (by simp) hu _ _ _ _ ⟨.bl false, H, I, rfl, q⟩
theorem op_neE (hu : X.A.units < cLine) : OpR X (compareOp .NotEq) (rNeE X.K) := by
  rintro pins s σ H x y v u Q I rx ry ⟨a, b, xs, rfl, rfl, ha, hb, q⟩
  cases rx
  cases ry
  obtain ⟨i1, r1, p1, _⟩ := I.list ha
  obtain ⟨i2, r2, p2, _⟩ := I.list hb
  cases r2
  cases i1 with
  | nil =>
    cases r1
    exact SeqAt.RcNeAt.lists (e := fun _ => true) p1.isList p2.isList rfl hu (fun j h1 _ => absurd h1 (by simp)) _ _ _ _ ⟨.bl false, H, I, rfl, q⟩
  | cons z zs =>
    cases r1
    exact SeqAt.RcNeAt.lists_lengths p1.isList p2.isList (by simp) hu _ _ _ _ ⟨.bl true, H, I, rfl, q⟩
end
theorem fmodB {a b : Int} (h : 0 < b) : 0 ≤ a.fmod b ∧ a.fmod b < b := ⟨Int.fmod_nonneg_of_pos a h, Int.fmod_lt_of_pos a h⟩
theorem seq0 {n : Nat} (h : 0 < n) : seqIndex? 0 n = some 0 := by
  unfold seqIndex?
  first
    | (simp [h]; done)
    | (simp; omega)
end Lm

namespace Lm
open PySem PySem.Spec PyProof.Rows L2
/-! ### what an expression gives while the pot stands: R of its value and of the heap without the pot -/
abbrev VR := V → Hp → Prop
abbrev LR := List V → Hp → Prop
def Mo (R : VR) : Prop := ∀ v G G', Same G G' → R v G → R v G'
def MoL (R : LR) : Prop := ∀ v G G', Same G G' → R v G → R v G'
def Ev (Z : Hp) (p dl al : Addr) (H0 : Hp) (σ : L2.St) (te : TE) (R : VR) : Prop :=
  ∀ (H : Hp) (Q : VK), PotAt Z H p dl al → Kp Z p dl H0 H → (∀ v H', PotAt Z H' p dl al → Kp Z p dl H H' → R v (hid Z p dl H') → Q v H') → te σ H Q
def EvA (Z : Hp) (p dl al : Addr) (H0 : Hp) (σ : L2.St) (ta : TA) (R : LR) : Prop :=
  ∀ (H : Hp) (Q : List V → Hp → Prop), PotAt Z H p dl al → Kp Z p dl H0 H → (∀ v H', PotAt Z H' p dl al → Kp Z p dl H H' → R v (hid Z p dl H') → Q v H') → ta σ H Q
section
variable {K : PySem.W.Frag} {Z : Hp} {p dl al : Addr} {H0 : Hp} {σ : L2.St} {te ta tb : TE} {tl : TA} {R R' R1 R2 : VR} {Rs Rt : LR}
theorem Ev.imp (h : Ev Z p dl al H0 σ te R) (i : ∀ v G, R v G → R' v G) : Ev Z p dl al H0 σ te R' := fun H Q P k q => h H Q P k fun v H' P' k' r => q v H' P' k' (i _ _ r)
theorem EvA.imp (h : EvA Z p dl al H0 σ tl Rs) (i : ∀ v G, Rs v G → Rt v G) : EvA Z p dl al H0 σ tl Rt := fun H Q P k q => h H Q P k fun v H' P' k' r => q v H' P' k' (i _ _ r)
theorem ev_c {v : V} : Ev Z p dl al H0 σ (tC v) (fun u _ => u = v) := fun H Q P k q => q v H P (Kp.refl _ _ _) rfl
theorem ev_var {i : Nat} {v : V} (e : σ[i]? = some (some v)) (m : Mo R) (h : R v (hid Z p dl H0)) : Ev Z p dl al H0 σ (tVar i) R := fun H Q P k q => ⟨v, e, q v H P (Kp.refl _ _ _) (m _ _ _ k h)⟩
theorem eva_nil : EvA Z p dl al H0 σ tNil (fun vs _ => vs = []) := fun H Q P k q => q [] H P (Kp.refl _ _ _) rfl
theorem eva_cons (m : Mo R) (h1 : Ev Z p dl al H0 σ te R) (h2 : EvA Z p dl al H0 σ tl Rs) : EvA Z p dl al H0 σ (tCons te tl) (fun vs G => ∃ v r, vs = v :: r ∧ R v G ∧ Rs r G) :=
  fun H Q P k q => h1 H _ P k fun v H1 P1 k1 r1 => h2 H1 _ P1 (k.trans k1) fun vs H2 P2 k2 r2 => q _ H2 P2 (k1.trans k2) ⟨v, vs, rfl, m _ _ _ k2 r1, r2⟩
/-! ### lists of alternatives, all of which have R -/
def AllR (m n : Nat) (R : VR) : LR := fun vs G => m ≤ vs.length ∧ vs.length ≤ n ∧ ∀ v ∈ vs, R v G
theorem eall_nil : EvA Z p dl al H0 σ tNil (AllR 0 0 R) := fun H Q P k q => q [] H P (Kp.refl _ _ _) ⟨Nat.le_refl _, Nat.le_refl _, fun v h => nomatch h⟩
theorem eall_cons {a b : Nat} (m : Mo R) (h1 : Ev Z p dl al H0 σ te R) (h2 : EvA Z p dl al H0 σ tl (AllR a b R)) : EvA Z p dl al H0 σ (tCons te tl) (AllR (a + 1) (b + 1) R) :=
  (eva_cons m h1 h2).imp fun vs G h => by
    obtain ⟨v, r, rfl, hv, h1, h2, h3⟩ := h
    refine ⟨Nat.succ_le_succ h1, Nat.succ_le_succ h2, fun x hx => ?_⟩
    rcases List.mem_cons.mp hx with e | e
    · rw [e]; exact hv
    · exact h3 x e
theorem AllR.mo {m n : Nat} (h : Mo R) : MoL (AllR m n R) := fun vs G G' s ⟨h1, h2, h3⟩ => ⟨h1, h2, fun v hv => h v _ _ s (h3 v hv)⟩
/-- a list, a tuple of things that have R -/
def LsR (m n : Nat) (R : VR) : VR := fun v G => ∃ a xs, v = .ref a ∧ G a = some (.lst xs) ∧ AllR m n R xs G
def TpR (K : PySem.W.Frag) (m n : Nat) (R : VR) : VR := fun v G => ∃ a xs, v = .ref a ∧ SqT K G a xs ∧ AllR m n R xs G
theorem LsR.mo {m n : Nat} (h : Mo R) : Mo (LsR m n R) := fun v G G' s ⟨a, xs, e, g, r⟩ => ⟨a, xs, e, s _ _ g, AllR.mo h _ _ _ s r⟩
theorem TpR.mo {m n : Nat} (h : Mo R) : Mo (TpR K m n R) := fun v G G' s ⟨a, xs, e, g, r⟩ => ⟨a, xs, e, Same.seqT s g, AllR.mo h _ _ _ s r⟩
theorem hid_new {H : Hp} {q : Addr} {o : HO} (P : PotAt Z H p dl al) (n : H q = none) : hid Z p dl (upd H q o) q = some o := by
  have f := P.free n
  rw [hid_at f.1 f.2, upd_same]
theorem hid_upd {H : Hp} {q : Addr} {o : HO} (h1 : q ≠ p) (h2 : q ≠ dl ∧ Z q = none) : hid Z p dl (upd H q o) q = some o := by rw [hid_at h1 h2, upd_same]
/-- a new thing that is not the pot's -/
theorem laid {H : Hp} {q : Addr} {o : HO} (P : PotAt Z H p dl al) (n : H q = none) : PotAt Z (upd H q o) p dl al ∧ Kp Z p dl H (upd H q o) ∧ hid Z p dl (upd H q o) q = some o := ⟨P.new n, Kp.new n, hid_new P n⟩
theorem ev_tup (h : EvA Z p dl al H0 σ tl Rs) (hl : ∀ vs G, Rs vs G → vs.length ≤ sizeLine) (m : MoL Rs) : Ev Z p dl al H0 σ (tTup tl) (fun v G => ∃ a xs, v = .ref a ∧ G a = some (.tup xs) ∧ Rs xs G) :=
  fun H Q P k q => h H _ P k fun vs H1 P1 k1 r1 => ⟨hl _ _ r1, fun t nt => by
    obtain ⟨P2, k2, e2⟩ := laid (o := .tup vs) P1 nt
    exact q _ _ P2 (k1.trans k2) ⟨t, vs, rfl, e2, m _ _ _ k2 r1⟩⟩
theorem ev_lst {m n : Nat} (hn : n ≤ 1000) (hm : Mo R) (h : EvA Z p dl al H0 σ tl (AllR m n R)) : Ev Z p dl al H0 σ (tLst tl) (LsR m n R) :=
  fun H Q P k q => h H _ P k fun vs H1 P1 k1 r1 => ⟨Nat.le_of_lt (small1000 (Nat.le_trans r1.2.1 hn)), fun t nt => by
    obtain ⟨P2, k2, e2⟩ := laid (o := .lst vs) P1 nt
    exact q _ _ P2 (k1.trans k2) ⟨t, vs, rfl, e2, AllR.mo hm _ _ _ k2 r1⟩⟩
theorem ev_tupR {m n : Nat} (hn : n ≤ 1000) (hm : Mo R) (h : EvA Z p dl al H0 σ tl (AllR m n R)) : Ev Z p dl al H0 σ (tTup tl) (TpR K m n R) :=
  (ev_tup h (fun vs G r => Nat.le_of_lt (small1000 (Nat.le_trans r.2.1 hn))) (AllR.mo hm)).imp fun v G ⟨a, xs, e, g, r⟩ => ⟨a, xs, e, .inl (.inl g), r⟩
theorem ev_cat {a b c d : Nat} (hn : b + d ≤ 1000) (hm : Mo R) (h1 : Ev Z p dl al H0 σ ta (LsR a b R)) (h2 : Ev Z p dl al H0 σ tb (LsR c d R)) : Ev Z p dl al H0 σ (tOp rCat ta tb) (LsR (a + c) (b + d) R) :=
  fun H Q P k q => h1 H _ P k fun x H1 P1 k1 r1 => h2 H1 _ P1 (k.trans k1) fun y H2 P2 k2 r2 => by
    obtain ⟨l, xs, rfl, g1, a1, a2, a3⟩ := LsR.mo hm _ _ _ k2 r1
    obtain ⟨l2, ys, rfl, g2, b1, b2, b3⟩ := r2
    refine ⟨l, l2, xs, ys, rfl, rfl, hid_same _ _ _ _ _ g1, hid_same _ _ _ _ _ g2, Nat.le_of_lt (small1000 (by omega)), fun t nt => ?_⟩
    obtain ⟨P3, k3, e3⟩ := laid (o := .lst (xs ++ ys)) P2 nt
    refine q _ _ P3 ((k1.trans k2).trans k3) ⟨t, _, rfl, e3, by rw [List.length_append]; omega, by rw [List.length_append]; omega, fun v hv => ?_⟩
    rcases List.mem_append.mp hv with e | e
    · exact hm _ _ _ k3 (a3 v e)
    · exact hm _ _ _ k3 (b3 v e)
theorem ev_catA {a b c d : Nat} (hn : b + d ≤ 1000) (hm : Mo R) (h1 : Ev Z p dl al H0 σ ta (TpR K a b R)) (h2 : Ev Z p dl al H0 σ tb (TpR K c d R)) : Ev Z p dl al H0 σ (tOp (rCatA K) ta tb) (TpR K (a + c) (b + d) R) :=
  fun H Q P k q => h1 H _ P k fun x H1 P1 k1 r1 => h2 H1 _ P1 (k.trans k1) fun y H2 P2 k2 r2 => by
    have r1' := TpR.mo hm _ _ _ k2 r1
    obtain ⟨l, xs, rfl, g1, a1, a2, a3⟩ := r1'
    obtain ⟨l2, ys, rfl, g2, b1, b2, b3⟩ := id r2
    refine ⟨l, l2, xs, ys, rfl, rfl, Same.seqT (hid_same _ _ _) g1, Same.seqT (hid_same _ _ _) g2, Nat.le_of_lt (small1000 (by omega)), fun z => ?_, fun z1 z2 => ?_, fun z1 z2 t nt => ?_⟩
    · subst z
      refine q _ _ P2 (k1.trans k2) ⟨l2, ys, rfl, g2, ?_, by omega, b3⟩
      simp only [List.length_nil] at a1; omega
    · subst z2
      refine q _ _ P2 (k1.trans k2) ⟨l, xs, rfl, g1, ?_, by omega, a3⟩
      simp only [List.length_nil] at b1; omega
    · obtain ⟨P3, k3, e3⟩ := laid (o := .tup (xs ++ ys)) P2 nt
      refine q _ _ P3 ((k1.trans k2).trans k3) ⟨t, _, rfl, .inl (.inl e3), by rw [List.length_append]; omega, by rw [List.length_append]; omega, fun v hv => ?_⟩
      rcases List.mem_append.mp hv with e | e
      · exact hm _ _ _ k3 (a3 v e)
      · exact hm _ _ _ k3 (b3 v e)
theorem mem_cutV {xs : List V} {lo hi : Option Int} {v : V} (h : v ∈ cutV xs lo hi) : v ∈ xs := List.mem_of_mem_drop (List.mem_of_mem_take h)
/-- any cut of a tuple -/
def AnyO (Z : Hp) (p dl al : Addr) (H0 : Hp) (σ : L2.St) (to : TO) : Prop := ∀ (H : Hp) (Q : Option Int → Hp → Prop), PotAt Z H p dl al → Kp Z p dl H0 H → (∀ o H', PotAt Z H' p dl al → Kp Z p dl H H' → Q o H') → to σ H Q
theorem any_none : AnyO Z p dl al H0 σ tNoPart := fun H Q P k q => q none H P (Kp.refl _ _ _)
theorem any_some {t : TE} (h : Ev Z p dl al H0 σ t (fun v _ => ∃ i, v = .int i)) : AnyO Z p dl al H0 σ (tPart t) := fun H Q P k q => h H _ P k fun v H1 P1 k1 ⟨i, e⟩ => ⟨i, e, q _ _ P1 k1⟩
theorem ev_slA {a b : Nat} {t1 t2 : TO} (hm : Mo R) (h : Ev Z p dl al H0 σ te (TpR K a b R)) (h1 : AnyO Z p dl al H0 σ t1) (h2 : AnyO Z p dl al H0 σ t2) : Ev Z p dl al H0 σ (tSl (rSlA K) te t1 t2) (TpR K 0 b R) :=
  fun H Q P k q => h H _ P k fun x H1 P1 k1 r1 => h1 H1 _ P1 (k.trans k1) fun lo H2 P2 k2 => h2 H2 _ P2 ((k.trans k1).trans k2) fun hi H3 P3 k3 => by
    obtain ⟨l, xs, rfl, g, a1, a2, a3⟩ := TpR.mo hm _ _ _ (Kp.trans k2 k3) r1
    refine ⟨l, xs, rfl, Same.seqT (hid_same _ _ _) g, fun _ => ?_, fun _ t nt => ?_⟩
    · exact q _ _ P3 (k1.trans (k2.trans k3)) ⟨l, xs, rfl, g, Nat.zero_le _, a2, a3⟩
    · obtain ⟨P4, k4, e4⟩ := laid (o := .tup (cutV xs lo hi)) P3 nt
      exact q _ _ P4 (k1.trans ((k2.trans k3).trans k4)) ⟨t, _, rfl, .inl (.inl e4), Nat.zero_le _, Nat.le_trans (cutV_length _ _ _) a2, fun v hv => hm _ _ _ k4 (a3 v (mem_cutV hv))⟩
theorem ev_revT {a b : Nat} (hm : Mo R) (h : Ev Z p dl al H0 σ te (TpR K a b R)) : Ev Z p dl al H0 σ (tRevT K te) (TpR K a b R) :=
  fun H Q P k q => h H _ P k fun x H1 P1 k1 r1 => by
    obtain ⟨l, xs, rfl, g, a1, a2, a3⟩ := r1
    refine ⟨l, xs, rfl, Same.seqT (hid_same _ _ _) g, fun t nt => ?_⟩
    obtain ⟨P4, k4, e4⟩ := laid (o := .tup xs.reverse) P1 nt
    exact q _ _ P4 (k1.trans k4) ⟨t, _, rfl, .inl (.inl e4), by rw [List.length_reverse]; exact a1, by rw [List.length_reverse]; exact a2, fun v hv => hm _ _ _ k4 (a3 v (List.mem_reverse.mp hv))⟩
/-! ### numbers -/
def IR (lo hi : Int) : VR := fun v _ => ∃ i, v = .int i ∧ lo ≤ i ∧ i ≤ hi
theorem IR.mo {lo hi : Int} : Mo (IR lo hi) := fun v G G' s h => h
theorem ev_int {i : Int} : Ev Z p dl al H0 σ (tC (.int i)) (IR i i) := ev_c.imp fun v G e => ⟨i, e, Int.le_refl _, Int.le_refl _⟩
theorem ev_neg {i j : Int} (h : Ev Z p dl al H0 σ te (IR i j)) : Ev Z p dl al H0 σ (tUn (rU fun i => .int (-i)) te) (IR (-j) (-i)) :=
  fun H Q P k q => h H _ P k fun v H1 P1 k1 ⟨x, e, h1, h2⟩ => ⟨x, e, q _ _ P1 k1 ⟨-x, rfl, by omega, by omega⟩⟩
theorem ev_add {a b c d : Int} (h1 : Ev Z p dl al H0 σ ta (IR a b)) (h2 : Ev Z p dl al H0 σ tb (IR c d)) : Ev Z p dl al H0 σ (tOp (rI0 fun i j => .int (i + j)) ta tb) (IR (a + c) (b + d)) :=
  fun H Q P k q => h1 H _ P k fun x H1 P1 k1 ⟨i, e1, i1, i2⟩ => h2 H1 _ P1 (k.trans k1) fun y H2 P2 k2 ⟨j, e2, j1, j2⟩ => ⟨i, j, e1, e2, q _ _ P2 (k1.trans k2) ⟨i + j, rfl, by omega, by omega⟩⟩
theorem ev_sub {a b c d : Int} (h1 : Ev Z p dl al H0 σ ta (IR a b)) (h2 : Ev Z p dl al H0 σ tb (IR c d)) : Ev Z p dl al H0 σ (tOp (rI0 fun i j => .int (i - j)) ta tb) (IR (a - d) (b - c)) :=
  fun H Q P k q => h1 H _ P k fun x H1 P1 k1 ⟨i, e1, i1, i2⟩ => h2 H1 _ P1 (k.trans k1) fun y H2 P2 k2 ⟨j, e2, j1, j2⟩ => ⟨i, j, e1, e2, q _ _ P2 (k1.trans k2) ⟨i - j, rfl, by omega, by omega⟩⟩
theorem ev_mul {a b c d : Int} (ha : 0 ≤ a) (hb : b < 2 ^ 64) (hc : 0 ≤ c) (h1 : Ev Z p dl al H0 σ ta (IR a b)) (h2 : Ev Z p dl al H0 σ tb (IR c d)) : Ev Z p dl al H0 σ (tOp (rI CMul fun i j => .int (i * j)) ta tb) (IR (a * c) (b * d)) :=
  fun H Q P k q => h1 H _ P k fun x H1 P1 k1 ⟨i, e1, i1, i2⟩ => h2 H1 _ P1 (k.trans k1) fun y H2 P2 k2 ⟨j, e2, j1, j2⟩ => by
    refine ⟨i, j, e1, e2, .inl ⟨by omega, by omega⟩, q _ _ P2 (k1.trans k2) ⟨i * j, rfl, ?_, ?_⟩⟩
    · exact Int.mul_le_mul i1 j1 hc (Int.le_trans ha i1)
    · exact Int.mul_le_mul i2 j2 (Int.le_trans hc j1) (Int.le_trans ha (Int.le_trans i1 i2))
theorem ev_pow {i j : Int} (h : CPow i j) : Ev Z p dl al H0 σ (tOp (rI CPow fun i j => .int (i ^ j.toNat)) (tC (.int i)) (tC (.int j))) (IR (i ^ j.toNat) (i ^ j.toNat)) :=
  fun H Q P k q => ⟨i, j, rfl, rfl, h, q _ _ P (Kp.refl _ _ _) ⟨_, rfl, Int.le_refl _, Int.le_refl _⟩⟩
theorem Ev.wide {a b c d : Int} (h : Ev Z p dl al H0 σ te (IR a b)) (h1 : c ≤ a) (h2 : b ≤ d) : Ev Z p dl al H0 σ te (IR c d) := h.imp fun v G ⟨i, e, i1, i2⟩ => ⟨i, e, by omega, by omega⟩
theorem Ev.isInt {a b : Int} (h : Ev Z p dl al H0 σ te (IR a b)) : Ev Z p dl al H0 σ te (fun v _ => ∃ i, v = .int i) := h.imp fun v G ⟨i, e, _⟩ => ⟨i, e⟩
/-! ### draws -/
def sp_one : Sp := fun vs H Q _ => ∃ (Z : Hp) (p dl al l : Addr) (xs : List V), vs = [.ref p, .ref l] ∧ PotAt Z H p dl al ∧ hid Z p dl H l = some (.lst xs) ∧ xs ≠ [] ∧ xs.length ≤ 1000 ∧
  ∀ (x : V) (H' : Hp), x ∈ xs → PotAt Z H' p dl al → Kp Z p dl H H' → Q x H'
theorem ev_draw {i : Nat} {b : Int} (e : σ[i]? = some (some (.ref p))) (hb : b < 1073741824) (h : Ev Z p dl al H0 σ te (IR 1 b)) : Ev Z p dl al H0 σ (tCall sp_draw [] E0 (tCons (tVar i) (tCons te tNil))) (IR 0 (b - 1)) :=
  fun H Q P k q => ⟨_, e, h H _ P k fun v H1 P1 k1 ⟨n, en, n1, n2⟩ => ⟨Z, p, dl, al, n, by rw [en]; rfl, P1, by omega, by omega, fun r H2 P2 k2 r1 r2 => q _ _ P2 (k1.trans k2) ⟨r, rfl, r1, by omega⟩⟩⟩
theorem ev_one {i m n : Nat} (e : σ[i]? = some (some (.ref p))) (hn : n ≤ 1000) (hm : Mo R) (h : Ev Z p dl al H0 σ te (LsR (m + 1) n R)) : Ev Z p dl al H0 σ (tCall sp_one [] E0 (tCons (tVar i) (tCons te tNil))) R :=
  fun H Q P k q => ⟨_, e, h H _ P k fun v H1 P1 k1 ⟨l, xs, el, g, l1, l2, l3⟩ => ⟨Z, p, dl, al, l, xs, by rw [el]; rfl, P1, g, (fun z => by subst z; simp at l1), by omega, fun x H2 hx P2 k2 => q _ _ P2 (k1.trans k2) (hm _ _ _ k2 (l3 x hx))⟩⟩
end
/-! ### data -/
def DR (K : PySem.W.Frag) (φ : PyData → Prop) : VR := fun v G => ∃ d, Dq K G v d ∧ φ d
theorem DR.mo {K : PySem.W.Frag} {φ : PyData → Prop} : Mo (DR K φ) := fun v G G' s ⟨d, h, x⟩ => ⟨d, h.mono s, x⟩
theorem all_data {K : PySem.W.Frag} {φ : PyData → Prop} {G : Hp} : ∀ {xs : List V}, (∀ x ∈ xs, DR K φ x G) → ∃ ds, Dqs K G xs ds ∧ ∀ d ∈ ds, φ d
  | [], _ => ⟨[], .nil, fun d h => nomatch h⟩
  | x :: r, h => by
    obtain ⟨d, hd, pd⟩ := h x List.mem_cons_self
    obtain ⟨ds, hs, ps⟩ := all_data (xs := r) fun y hy => h y (List.mem_cons_of_mem _ hy)
    refine ⟨d :: ds, .cons hd hs, fun e he => ?_⟩
    rcases List.mem_cons.mp he with z | z
    · rw [z]; exact pd
    · exact ps e z
/-- data whose text has at most n signs, with at most k levels -/
structure Sm (n k : Nat) (d : PyData) : Prop where
  sh : d.showable = true
  dp : d.depth ≤ k
  sz : d.shown.length ≤ n
theorem Sm.wide {n k n' k' : Nat} {d : PyData} (h : Sm n k d) (h1 : n ≤ n') (h2 : k ≤ k') : Sm n' k' d := ⟨h.sh, Nat.le_trans h.dp h2, Nat.le_trans h.sz h1⟩
theorem Sm.fine {n k : Nat} {d : PyData} (h : Sm n k d) (h1 : n ≤ 16777216) (h2 : k ≤ 100) : Fine d := ⟨h.sh, Nat.le_trans h.dp h2, Nat.le_trans h.sz (by rw [PySem.sizeLine_eq]; exact h1)⟩
end Lm

namespace Lm
open PySem PySem.Spec PyProof.Rows L2
/-! ### how long a text of data is -/
theorem all_showable : ∀ {ds : List PyData}, (∀ d ∈ ds, d.showable = true) → PyData.showableAll ds = true
  | [], _ => rfl
  | d :: r, h => by
    simp only [PyData.showableAll, h d List.mem_cons_self, Bool.true_and]
    exact all_showable fun e he => h e (List.mem_cons_of_mem _ he)
theorem all_depth {k : Nat} : ∀ {ds : List PyData}, (∀ d ∈ ds, d.depth ≤ k) → PyData.depthAll ds ≤ k
  | [], _ => Nat.zero_le _
  | d :: r, h => by
    simp only [PyData.depthAll]
    exact Nat.max_le.mpr ⟨h d List.mem_cons_self, all_depth fun e he => h e (List.mem_cons_of_mem _ he)⟩
theorem all_shown {n : Nat} : ∀ {ds : List PyData}, (∀ d ∈ ds, d.shown.length ≤ n) → ((PyData.shownAll ds).map (·.length)).sum ≤ ds.length * n ∧ (PyData.shownAll ds).length = ds.length
  | [], _ => by simp [PyData.shownAll]
  | d :: r, h => by
    obtain ⟨h1, h2⟩ := all_shown (ds := r) fun e he => h e (List.mem_cons_of_mem _ he)
    have h3 := h d List.mem_cons_self
    simp only [PyData.shownAll, List.map_cons, List.sum_cons, List.length_cons, h2, and_true]
    rw [Nat.succ_mul]
    omega
theorem seq_size {c n len sum : Nat} (h1 : sum ≤ len * n) (h2 : len ≤ c) : sum + 2 * len + 3 ≤ c * (n + 2) + 3 := by
  have h3 : len * n ≤ c * n := Nat.mul_le_mul_right n h2
  rw [Nat.mul_add]
  omega
theorem Sm.tuple {c n k : Nat} {ds : List PyData} (h : ∀ d ∈ ds, Sm n k d) (hc : ds.length ≤ c) : Sm (c * (n + 2) + 3) (k + 1) (.tuple ds) := by
  obtain ⟨h1, h2⟩ := all_shown fun d hd => (h d hd).sz
  refine ⟨?_, ?_, ?_⟩
  · simp only [PyData.showable]
    exact all_showable fun d hd => (h d hd).sh
  · simp only [PyData.depth]
    exact Nat.succ_le_succ (all_depth fun d hd => (h d hd).dp)
  · simp only [PyData.shown]
    refine Nat.le_trans (tupleText_len_le _) ?_
    rw [h2]
    exact seq_size h1 hc
theorem Sm.list {c n k : Nat} {ds : List PyData} (h : ∀ d ∈ ds, Sm n k d) (hc : ds.length ≤ c) : Sm (c * (n + 2) + 3) (k + 1) (.list ds) := by
  obtain ⟨h1, h2⟩ := all_shown fun d hd => (h d hd).sz
  refine ⟨?_, ?_, ?_⟩
  · simp only [PyData.showable]
    exact all_showable fun d hd => (h d hd).sh
  · simp only [PyData.depth]
    exact Nat.succ_le_succ (all_depth fun d hd => (h d hd).dp)
  · simp only [PyData.shown]
    refine Nat.le_trans (listText_len_le _) ?_
    rw [h2]
    exact seq_size h1 hc
theorem log2_lt {n : Nat} (h : n < 10 ^ 12) : n.log2 < 1920 := by
  by_cases z : n = 0
  · subst z; decide
  · exact (Nat.log2_lt z).mpr (Nat.lt_trans h (Nat.lt_of_lt_of_le (by decide : 10 ^ 12 < 2 ^ 40) (Nat.pow_le_pow_right (by decide) (by decide))))
theorem Sm.int {i : Int} (h : i.natAbs < 10 ^ 12) : Sm 13 0 (.int i) := by
  refine ⟨?_, Nat.le_refl _, PyData.shown_int_le h⟩
  simp only [PyData.showable, decide_eq_true_eq]
  exact log2_lt h
theorem Sm.bool (b : Bool) : Sm 5 0 (.bool b) := by cases b <;> exact ⟨rfl, Nat.le_refl _, by decide +kernel⟩
section
variable {K : PySem.W.Frag} {Z : Hp} {p dl al : Addr} {H0 : Hp} {σ : L2.St} {te ta tb : TE} {tl : TA} {R R' : VR} {n k : Nat}
theorem TpR.data {m c : Nat} {G : Hp} {v : V} (h : TpR K m c R v G) (i : ∀ x, R x G → DR K (Sm n k) x G) : DR K (Sm (c * (n + 2) + 3) (k + 1)) v G := by
  obtain ⟨a, xs, rfl, g, h1, h2, h3⟩ := h
  obtain ⟨ds, hd, hp⟩ := all_data fun x hx => i x (h3 x hx)
  exact ⟨_, .tup g hd, Sm.tuple hp (by rw [← hd.len]; exact h2)⟩
theorem LsR.data {m c : Nat} {G : Hp} {v : V} (h : LsR m c R v G) (i : ∀ x, R x G → DR K (Sm n k) x G) : DR K (Sm (c * (n + 2) + 3) (k + 1)) v G := by
  obtain ⟨a, xs, rfl, g, h1, h2, h3⟩ := h
  obtain ⟨ds, hd, hp⟩ := all_data fun x hx => i x (h3 x hx)
  exact ⟨_, .lst (.inl (.inl g)) hd, Sm.list hp (by rw [← hd.len]; exact h2)⟩
theorem DR.wide {n' k' : Nat} {G : Hp} {v : V} (h : DR K (Sm n k) v G) (h1 : n ≤ n') (h2 : k ≤ k') : DR K (Sm n' k') v G := let ⟨d, a, b⟩ := h; ⟨d, a, b.wide h1 h2⟩
theorem ev_wide {n' k' : Nat} (h : Ev Z p dl al H0 σ te (DR K (Sm n k))) (h1 : n ≤ n') (h2 : k ≤ k') : Ev Z p dl al H0 σ te (DR K (Sm n' k')) := h.imp fun v G r => r.wide h1 h2
theorem ev_d {v : V} {d : PyData} (h : ∀ G, Dq K G v d) (s : Sm n k d) : Ev Z p dl al H0 σ (tC v) (DR K (Sm n k)) := ev_c.imp fun u G e => by rw [e]; exact ⟨d, h G, s⟩
theorem ir_data {lo hi : Int} {v : V} {G : Hp} (h : IR lo hi v G) (h1 : -999999999999 ≤ lo) (h2 : hi ≤ 999999999999) : DR K (Sm 13 0) v G := by
  obtain ⟨i, rfl, i1, i2⟩ := h
  exact ⟨_, .int i, Sm.int (by omega)⟩
theorem ev_ir {lo hi : Int} (h : Ev Z p dl al H0 σ te (IR lo hi)) (h1 : -999999999999 ≤ lo) (h2 : hi ≤ 999999999999) : Ev Z p dl al H0 σ te (DR K (Sm 13 0)) := h.imp fun v G r => ir_data r h1 h2
theorem ev_tupD {m c : Nat} (hc : c ≤ 1000) (h : EvA Z p dl al H0 σ tl (AllR m c (DR K (Sm n k)))) : Ev Z p dl al H0 σ (tTup tl) (DR K (Sm (c * (n + 2) + 3) (k + 1))) :=
  (ev_tupR hc DR.mo h).imp fun v G r => r.data fun x z => z
theorem ev_lstD {m c : Nat} (hc : c ≤ 1000) (h : EvA Z p dl al H0 σ tl (AllR m c (DR K (Sm n k)))) : Ev Z p dl al H0 σ (tLst tl) (DR K (Sm (c * (n + 2) + 3) (k + 1))) :=
  (ev_lst hc DR.mo h).imp fun v G r => r.data fun x z => z
theorem ev_dnew : Ev Z p dl al H0 σ tDNewK (DR K (Sm 2 1)) := fun H Q P k q t nt => by
  obtain ⟨P4, k4, e4⟩ := laid (o := .dK []) P nt
  exact q _ _ P4 k4 ⟨_, .dct e4 .nil, ⟨rfl, by decide, by decide +kernel⟩⟩
theorem ev_disp1 {x : Str} {i : Int} {d : PyData} (hd : d = .dict [(.str x, .int i)]) (s : Sm n k d) : Ev Z p dl al H0 σ (tDisp [(tC (.str x), tC (.int i))]) (DR K (Sm n k)) := fun H Q P k q t nt => by
  subst hd
  have e : (upd (upd H t (.dK [])) t (.dK (mergeK [] [((Sum.inr x : L2.Key), V.int i)]))) = upd H t (.dK [(Sum.inr x, V.int i)]) := by rw [upd_upd]; rfl
  refine ⟨upd_same, [(Sum.inr x, V.int i)], rfl, Nat.le_add_left 1 14, ?_⟩
  rw [e]
  obtain ⟨P4, k4, e4⟩ := laid (o := .dK [(Sum.inr x, V.int i)]) P nt
  exact q _ _ P4 k4 ⟨_, .dct (ds := [.int i]) e4 (.cons (.int i) .nil), s⟩
/-- an odd value -/
def sp_odd (K : PySem.W.Frag) : Sp := fun vs H Q _ => ∃ (Z : Hp) (p dl al : Addr), vs = [.ref p] ∧ PotAt Z H p dl al ∧ ∀ (x : V) (H' : Hp), PotAt Z H' p dl al → Kp Z p dl H H' → DR K (Sm 60 3) x (hid Z p dl H') → Q x H'
theorem ev_odd {i : Nat} (e : σ[i]? = some (some (.ref p))) : Ev Z p dl al H0 σ (tCall (sp_odd K) [] E0 (tCons (tVar i) tNil)) (DR K (Sm 60 3)) := fun H Q P k q => ⟨_, e, Z, p, dl, al, rfl, P, fun x H' P' k' r => q x H' P' k' r⟩
def sp_opened (K : PySem.W.Frag) : Sp := fun vs H Q _ => ∃ (a : Addr) (ns : List Int), vs = [.ref a] ∧ SqL K H a (ns.map V.int) ∧ ns.length ≤ 63 ∧ ∀ (p dl al : Addr) (H' : Hp), PotAt (fun _ => none) H' p dl al → Same H H' → Q (.ref p) H'
end
theorem cut_all {xs : List V} (h : xs.length ≤ 64) : cutV xs none (some 64) = xs := by
  unfold cutV
  rw [HT.sIx_none, show HT.sIx xs.length xs.length (some 64) = min 64 xs.length from HT.sIx_nat xs.length xs.length 64, Nat.min_eq_right h, List.drop_zero, Nat.sub_zero, List.take_length]
theorem same_upd2 {H H' : Hp} {q : Addr} {o : HO} (s : Same H H') (n : H q = none) : Same H (upd H' q o) := fun b x e => by
  rw [upd_ne (ne_of_none e n)]
  exact s b x e
theorem yes_if {σ : L2.St} {H : Hp} {A B : Hp → Prop} (h : A H) : tYes σ H (fun b H3 => if b = true then A H3 else B H3) := by
  show if true = true then A H else B H
  rw [if_pos rfl]
  exact h
/-! ### one written number -/
def EI (i : Int) : VR := fun v _ => v = .int i
section
variable {K : PySem.W.Frag} {Z : Hp} {p dl al : Addr} {H0 : Hp} {σ : L2.St} {te ta tb : TE} {tl : TA} {n k : Nat} {a b : Int}
theorem ei_c {i : Int} : Ev Z p dl al H0 σ (tC (.int i)) (EI i) := ev_c
theorem ei_neg (h : Ev Z p dl al H0 σ te (EI a)) : Ev Z p dl al H0 σ (tUn (rU fun i => .int (-i)) te) (EI (-a)) := fun H Q P k q => h H _ P k fun v H1 P1 k1 e => ⟨a, e, q _ _ P1 k1 rfl⟩
theorem ei_add (h1 : Ev Z p dl al H0 σ ta (EI a)) (h2 : Ev Z p dl al H0 σ tb (EI b)) : Ev Z p dl al H0 σ (tOp (rI0 fun i j => .int (i + j)) ta tb) (EI (a + b)) :=
  fun H Q P k q => h1 H _ P k fun x H1 P1 k1 e1 => h2 H1 _ P1 (k.trans k1) fun y H2 P2 k2 e2 => ⟨a, b, e1, e2, q _ _ P2 (k1.trans k2) rfl⟩
theorem ei_mul (hc : CMul a b) (h1 : Ev Z p dl al H0 σ ta (EI a)) (h2 : Ev Z p dl al H0 σ tb (EI b)) : Ev Z p dl al H0 σ (tOp (rI CMul fun i j => .int (i * j)) ta tb) (EI (a * b)) :=
  fun H Q P k q => h1 H _ P k fun x H1 P1 k1 e1 => h2 H1 _ P1 (k.trans k1) fun y H2 P2 k2 e2 => ⟨a, b, e1, e2, hc, q _ _ P2 (k1.trans k2) rfl⟩
theorem ei_pow {i j : Int} (h : CPow i j) : Ev Z p dl al H0 σ (tOp (rI CPow fun i j => .int (i ^ j.toNat)) (tC (.int i)) (tC (.int j))) (EI (i ^ j.toNat)) := fun H Q P k q => ⟨i, j, rfl, rfl, h, q _ _ P (Kp.refl _ _ _) rfl⟩
theorem ei_d (h : Ev Z p dl al H0 σ te (EI a)) (s : Sm n k (.int a)) : Ev Z p dl al H0 σ te (DR K (Sm n k)) := h.imp fun v G e => by rw [e]; exact ⟨_, .int a, s⟩
theorem ei_ir (h : Ev Z p dl al H0 σ te (EI a)) : Ev Z p dl al H0 σ te (IR a a) := h.imp fun v G e => ⟨a, e, Int.le_refl _, Int.le_refl _⟩
end
instance {i j : Int} : Decidable (CPow i j) := by unfold CPow; infer_instance
instance {i j : Int} : Decidable (CMul i j) := by unfold CMul; infer_instance
theorem sm_chk {n k : Nat} {d : PyData} (h : (d.showable && decide (d.depth ≤ k) && decide (d.shown.length ≤ n)) = true) : Sm n k d := by
  simp only [Bool.and_eq_true, decide_eq_true_eq] at h
  exact ⟨h.1.1, h.1.2, h.2⟩
/-! ### a statement and what follows it -/
section
variable {D : Ends} {σ : L2.St} {H : Hp} {te : TE} {ta : TA} {t u v : TS} {c : TT} {i j : Nat}
theorem s_set (h : te σ H fun x H1 => u D (σ.set i (some x)) H1) : tSeq (tAsg te (gName i)) u D σ H := h
theorem s_set1 (h : te σ H fun x H1 => D.nx (σ.set i (some x)) H1) : tAsg te (gName i) D σ H := h
theorem s_par (h : ta σ H fun vs H1 => ∃ v w, vs = [v, w] ∧ u D ((σ.set i (some v)).set j (some w)) H1) : tSeq (tPar i j ta) u D σ H := h
theorem s_expr (h : te σ H fun _ H1 => u D σ H1) : tSeq (tDrop te) u D σ H := h
theorem s_expr1 (h : te σ H fun _ H1 => D.nx σ H1) : tDrop te D σ H := h
theorem s_if (h : c σ H fun b H1 => if b = true then t { D with nx := u D } σ H1 else v { D with nx := u D } σ H1) : tSeq (tIfS c t v) u D σ H := h
theorem s_if1 (h : c σ H fun b H1 => if b = true then t D σ H1 else v D σ H1) : tIfS c t v D σ H := h
theorem s_ret (h : te σ H D.rt) : tRet te D σ H := h
theorem s_next (h : D.nx σ H) : tNext D σ H := h
end
section
variable {K : PySem.W.Frag} {Z : Hp} {p dl al : Addr} {H0 : Hp} {σ : L2.St} {te ta tb : TE} {tl : TA} {R R' R1 R2 : VR} {n k : Nat}
theorem ev_tpD {m c N : Nat} (h : Ev Z p dl al H0 σ te (TpR K m c (DR K (Sm n k)))) (hN : c * (n + 2) + 3 ≤ N) : Ev Z p dl al H0 σ te (DR K (Sm N (k + 1))) := h.imp fun v G r => (r.data fun x z => z).wide hN (Nat.le_refl _)
theorem ev_lsD {m c N : Nat} (h : Ev Z p dl al H0 σ te (LsR m c (DR K (Sm n k)))) (hN : c * (n + 2) + 3 ≤ N) : Ev Z p dl al H0 σ te (DR K (Sm N (k + 1))) := h.imp fun v G r => (r.data fun x z => z).wide hN (Nat.le_refl _)
theorem ev_len {m c : Nat} (h : Ev Z p dl al H0 σ te (TpR K m c R)) : Ev Z p dl al H0 σ (tCB (fun xs H Q => ∃ p ys, xs = [.ref p] ∧ (SqL K H p ys ∨ SqT K H p ys) ∧ Q (.int ys.length) H) (tCons te tNil)) (IR m c) :=
  fun H Q P k q => h H _ P k fun v H1 P1 k1 ⟨a, xs, e, g, h1, h2, _⟩ => ⟨a, xs, by rw [e], .inr (Same.seqT (hid_same _ _ _) g), q _ _ P1 k1 ⟨_, rfl, by omega, by omega⟩⟩
theorem ev_lenL {m c : Nat} (h : Ev Z p dl al H0 σ te (LsR m c R)) : Ev Z p dl al H0 σ (tCB (fun xs H Q => ∃ p ys, xs = [.ref p] ∧ (SqL K H p ys ∨ SqT K H p ys) ∧ Q (.int ys.length) H) (tCons te tNil)) (IR m c) :=
  fun H Q P k q => h H _ P k fun v H1 P1 k1 ⟨a, xs, e, g, h1, h2, _⟩ => ⟨a, xs, by rw [e], .inl (.inl (.inl (hid_same _ _ _ _ _ g))), q _ _ P1 k1 ⟨_, rfl, by omega, by omega⟩⟩
theorem ev_listOf {m c : Nat} (hm : Mo R) (h : Ev Z p dl al H0 σ te (TpR K m c R)) : Ev Z p dl al H0 σ (tCB (fun xs H Q => ∃ p ys, xs = [.ref p] ∧ (SqL K H p ys ∨ SqT K H p ys) ∧ ∀ l, H l = none → Q (.ref l) (upd H l (.lst ys))) (tCons te tNil)) (LsR m c R) :=
  fun H Q P k q => h H _ P k fun v H1 P1 k1 ⟨a, xs, e, g, h1, h2, h3⟩ => ⟨a, xs, by rw [e], .inr (Same.seqT (hid_same _ _ _) g), fun t nt => by
    obtain ⟨P4, k4, e4⟩ := laid (o := .lst xs) P1 nt
    exact q _ _ P4 (k1.trans k4) ⟨t, xs, rfl, e4, h1, h2, fun x hx => hm _ _ _ k4 (h3 x hx)⟩⟩
theorem ev_tupleOf {m c : Nat} (hm : Mo R) (h : Ev Z p dl al H0 σ te (LsR m c R)) : Ev Z p dl al H0 σ (tCB (fun xs H Q => ∃ p ys, xs = [.ref p] ∧ ((SqL K H p ys ∧ ∀ l, H l = none → Q (.ref l) (upd H l (.tup ys))) ∨ (SqT K H p ys ∧ Q (.ref p) H))) (tCons te tNil)) (TpR K m c R) :=
  fun H Q P k q => h H _ P k fun v H1 P1 k1 ⟨a, xs, e, g, h1, h2, h3⟩ => ⟨a, xs, by rw [e], .inl ⟨.inl (.inl (hid_same _ _ _ _ _ g)), fun t nt => by
    obtain ⟨P4, k4, e4⟩ := laid (o := .tup xs) P1 nt
    exact q _ _ P4 (k1.trans k4) ⟨t, xs, rfl, .inl (.inl e4), h1, h2, fun x hx => hm _ _ _ k4 (h3 x hx)⟩⟩⟩
theorem ev_pair (m1 : Mo R1) (m2 : Mo R2) (h1 : Ev Z p dl al H0 σ ta R1) (h2 : Ev Z p dl al H0 σ tb R2) : EvA Z p dl al H0 σ (tCons ta (tCons tb tNil)) (fun vs G => ∃ v w, vs = [v, w] ∧ R1 v G ∧ R2 w G) :=
  (eva_cons m1 h1 (eva_cons m2 h2 eva_nil)).imp fun vs G ⟨v, r, e, r1, w, r', e', r2, e2⟩ => ⟨v, w, by rw [e, e', e2], r1, r2⟩
theorem ev_i1 {v : V} {i : Nat} {lo hi : Int} (e : σ[i]? = some (some v)) (h : IR lo hi v (hid Z p dl H0)) : Ev Z p dl al H0 σ (tVar i) (IR lo hi) := ev_var e IR.mo h
/-- a bent tuple -/
def sp_bent (K : PySem.W.Frag) (c n k N : Nat) : Sp := fun vs H Q _ => ∃ (Z : Hp) (p dl al : Addr) (v : V), vs = [.ref p, v] ∧ PotAt Z H p dl al ∧ TpR K 0 c (DR K (Sm n k)) v (hid Z p dl H) ∧
  ∀ (x : V) (H' : Hp), PotAt Z H' p dl al → Kp Z p dl H H' → DR K (Sm N (k + 1)) x (hid Z p dl H') → Q x H'
theorem ev_bent {i c N : Nat} (e : σ[i]? = some (some (.ref p))) (h : Ev Z p dl al H0 σ te (TpR K 0 c (DR K (Sm n k)))) : Ev Z p dl al H0 σ (tCall (sp_bent K c n k N) [] E0 (tCons (tVar i) (tCons te tNil))) (DR K (Sm N (k + 1))) :=
  fun H Q P k q => ⟨_, e, h H _ P k fun v H1 P1 k1 r1 => ⟨Z, p, dl, al, v, rfl, P1, r1, fun x H' P' k' r => q x H' P' (k1.trans k') r⟩⟩
end
/-! ### isinstance of data -/
def tyN : PyData → String
  | .none => "NoneType"
  | .bool _ => "bool"
  | .int _ => "int"
  | .str _ => "str"
  | .list _ => "list"
  | .tuple _ => "tuple"
  | .dict _ => "dict"
theorem Dq.ty {K : PySem.W.Frag} {H : Hp} {v : V} {d : PyData} (h : Dq K H v d) : TyX K H v (.type (tyN d)) := by
  cases h with
  | non => exact .base .non
  | bl b => exact .base (.bl b)
  | int i => exact .base (.int i)
  | str x => exact .base (.str x)
  | lst hs _ =>
    rcases hs with (h | ⟨o, h⟩) | ⟨o, its, n, hk, hc, _⟩
    · exact .base (.lst h)
    · exact .base (.frz h)
    · exact .kList hk hc
  | tup hs _ =>
    rcases hs with (h | ⟨o, h⟩) | ⟨o, its, n, hk, hc, _⟩
    · exact .base (.tup h)
    · exact .fTuple h
    · exact .kTuple hk hc
  | dct hs _ => exact .base (.dK hs)
def isI : PyData → Bool | .int _ => true | .bool _ => true | _ => false
def isB : PyData → Bool | .bool _ => true | _ => false
def isT : PyData → Bool | .tuple _ => true | _ => false
def isS : PyData → Bool | .str _ => true | _ => false
theorem kit_i (d : PyData) : kitB (tyN d) "int" = some (isI d) := by cases d <;> simp only [tyN, isI] <;> decide +kernel
theorem kit_b (d : PyData) : kitB (tyN d) "bool" = some (isB d) := by cases d <;> simp only [tyN, isB] <;> decide +kernel
theorem kit_t (d : PyData) : kitB (tyN d) "tuple" = some (isT d) := by cases d <;> simp only [tyN, isT] <;> decide +kernel
theorem kit_s (d : PyData) : kitB (tyN d) "str" = some (isS d) := by cases d <;> simp only [tyN, isS] <;> decide +kernel
theorem isi_d {K : PySem.W.Frag} {H : Hp} {v : V} {d : PyData} {Tn : String} {b : Bool} {Q : VK} (h : Dq K H v d) (hb : kitB (tyN d) Tn = some b) (q : Q (.bl b) H) : rIsi K [v, .ty Tn] H Q :=
  ⟨v, .ty Tn, _, _, b, rfl, .ty Tn, h.ty, kit_ty hb, q⟩
/-- an integer that is no bool -/
def wh : PyData → Bool | .int _ => true | _ => false
theorem wh_eq (d : PyData) : wh d = (isI d && !isB d) := by cases d <;> rfl
def sp_is_whole (K : PySem.W.Frag) : Sp := fun vs H Q _ => ∃ v d, vs = [v] ∧ Dq K H v d ∧ Q (.bl (wh d)) H
/-- so many integers -/
def wt (d : PyData) (m : Int) : Bool := match d with | .tuple ds => decide ((ds.length : Int) = m) && ds.all wh | _ => false
def sp_is_whole_tuple (K : PySem.W.Frag) : Sp := fun vs H Q _ => ∃ v d m, vs = [v, .int m] ∧ Dq K H v d ∧ m ≤ 1000 ∧ ∀ H', Same H H' → Q (.bl (wt d m)) H'
def inW (lo hi : Int) : PyData → Bool | .int i => decide (lo ≤ i) && decide (i ≤ hi) | _ => false
def sp_whole (K : PySem.W.Frag) : Sp := fun vs H Q _ => ∃ v d lo hi, vs = [v, .int lo, .int hi] ∧ Dq K H v d ∧ Q (.bl (inW lo hi d)) H
end Lm

namespace Lm
open PySem PySem.Spec PyProof.Rows L2
/-! ### stretches and logs, as functions of data -/
/-- a stretch that a log may have -/
def stOf : PyData → Option (Int × Int)
  | .tuple [.int a, .int b] => if 0 ≤ a ∧ a < b ∧ b ≤ 2000000000 then some (a, b) else none
  | _ => none
def two (d e : PyData) : PyData := .tuple [d, e]
def logGo : List PyData → Nat → Int → PyData
  | [], _, _ => .none
  | d :: r, i, b => match stOf d with
    | none => two (.int i) (.str "stretch")
    | some (on, off) => if on ≤ b then two (.int i) (.str "order") else logGo r (i + 1) off
def logErr : PyData → PyData
  | .tuple ds => if 60 < ds.length then two .none (.str "log") else logGo ds 0 (-1)
  | _ => two .none (.str "log")
theorem logGo_cons {ds : List PyData} {i : Nat} {b : Int} {d : PyData} (h : ds[i]? = some d) : logGo (ds.drop i) i b = logGo (d :: ds.drop (i + 1)) i b := by
  obtain ⟨hi, e⟩ := List.getElem?_eq_some_iff.mp h
  rw [List.drop_eq_getElem_cons hi, e]
theorem stOf_wt {d : PyData} : (stOf d).isSome = true → ∃ a b, d = .tuple [.int a, .int b] ∧ stOf d = some (a, b) ∧ 0 ≤ a ∧ a < b ∧ b ≤ 2000000000 := by
  unfold stOf
  split
  · rename_i a b
    split
    · rename_i h
      exact fun _ => ⟨a, b, rfl, rfl, h.1, h.2.1, h.2.2⟩
    · intro h; cases h
  · intro h; cases h
theorem sz2 {x y : V} : [x, y].length ≤ sizeLine := Nat.le_of_lt (small1000 (Nat.le_add_left 2 998))
def isN : PyData → Bool | .none => true | _ => false
/-- None, or a new pair of flat things -/
def Flat (K : PySem.W.Frag) (H H' : Hp) (r : V) (e : PyData) : Prop := (r = .non ∧ e = .none) ∨ ∃ t x y dx dy, r = .ref t ∧ H t = none ∧ H' t = some (.tup [x, y]) ∧ e = two dx dy ∧ (∀ G, Dq K G x dx) ∧ (∀ G, Dq K G y dy)
theorem Flat.dq {K : PySem.W.Frag} {H H' : Hp} {r : V} {e : PyData} {Z : Hp} {p dl al : Addr} (h : Flat K H H' r e) (P : PotAt Z H p dl al) : Dq K (hid Z p dl H') r e := by
  rcases h with ⟨rfl, rfl⟩ | ⟨t, x, y, dx, dy, rfl, n, g, rfl, hx, hy⟩
  · exact .non
  · have f := P.free n
    exact .tup (.inl (.inl (by rw [hid_at f.1 f.2]; exact g))) (.cons (hx _) (.cons (hy _) .nil))
def sp_err (K : PySem.W.Frag) (F : PyData → PyData) : Sp := fun vs H Q _ => ∃ v d, vs = [v] ∧ Dq K H v d ∧ ∀ r H', Same H H' → Flat K H H' r (F d) → Q r H'
def sp_is_stretch (K : PySem.W.Frag) : Sp := fun vs H Q _ => ∃ v d, vs = [v] ∧ Dq K H v d ∧ ∀ H', Same H H' → Q (.bl (stOf d).isSome) H'
def sp_bool (K : PySem.W.Frag) (F : PyData → Bool) : Sp := fun vs H Q _ => ∃ v d, vs = [v] ∧ Dq K H v d ∧ ∀ H', Same H H' → Q (.bl (F d)) H'
theorem wt2 {d : PyData} (h : wt d 2 = true) : ∃ a b, d = .tuple [.int a, .int b] := by
  unfold wt at h
  split at h
  · rename_i ds
    simp only [Bool.and_eq_true, decide_eq_true_eq] at h
    obtain ⟨h1, h2⟩ := h
    match ds, h1, h2 with
    | [x, y], _, h2 =>
      simp only [List.all_cons, List.all_nil, Bool.and_true, Bool.and_eq_true] at h2
      cases x <;> cases y <;> first | exact ⟨_, _, rfl⟩ | (simp [wh] at h2)
    | [], h1, _ => exact absurd h1 (by simp)
    | [_], h1, _ => exact absurd h1 (by simp)
    | _ :: _ :: _ :: _, h1, _ => exact absurd h1 (by simp only [List.length_cons]; omega)
  · cases h
theorem wt2_no {d : PyData} (h : wt d 2 = false) : stOf d = none := by
  unfold stOf
  split
  · simp [wt, wh] at h
  · rfl
theorem inW_int {lo hi : Int} {d : PyData} (h : inW lo hi d = true) : ∃ a, d = .int a ∧ lo ≤ a ∧ a ≤ hi := by
  unfold inW at h
  split at h
  · simp only [Bool.and_eq_true, decide_eq_true_eq] at h
    exact ⟨_, rfl, h.1, h.2⟩
  · cases h
theorem stOf_len {ds : List PyData} (h : (ds.length : Int) ≠ 2) : stOf (.tuple ds) = none := by
  unfold stOf
  split
  · rename_i e
    cases e
    exact absurd rfl h
  · rfl
theorem stOf_out {ds : List PyData} (h : ds.all (inW 0 2000000000) = false) : stOf (.tuple ds) = none := by
  cases e : stOf (.tuple ds) with
  | none => rfl
  | some ab =>
    obtain ⟨a, b, e1, _, h1, h2, h3⟩ := stOf_wt (d := .tuple ds) (by rw [e]; rfl)
    cases e1
    have g : (List.all [PyData.int a, PyData.int b] (inW 0 2000000000)) = true := by
      simp only [List.all_cons, List.all_nil, Bool.and_true, inW, Bool.and_eq_true, decide_eq_true_eq]
      omega
    rw [g] at h
    cases h
theorem stOf_in {a b : Int} (h1 : 0 ≤ a) (h2 : b ≤ 2000000000) : (stOf (.tuple [.int a, .int b])).isSome = decide (a < b) := by
  show (if 0 ≤ a ∧ a < b ∧ b ≤ 2000000000 then some (a, b) else none).isSome = _
  by_cases h : a < b
  · rw [if_pos ⟨h1, h, h2⟩, decide_eq_true h]
    rfl
  · rw [if_neg fun z => h z.2.1, decide_eq_false h]
    rfl
/-! ### pairs of numbers; a log that grows -/
def PrAt (G : Hp) : V → Int × Int → Prop := fun v q => ∃ t, v = .ref t ∧ G t = some (.tup [.int q.1, .int q.2])
abbrev Prs (G : Hp) : List V → List (Int × Int) → Prop := PySem.Paired (PrAt G)
def TupKeep (G G' : Hp) : Prop := ∀ t ys, G t = some (.tup ys) → G' t = some (.tup ys)
theorem TupKeep.of {G G' : Hp} (s : Same G G') : TupKeep G G' := fun t ys e => s _ _ e
theorem Prs.keep {G G' : Hp} (s : TupKeep G G') {xs : List V} {ps : List (Int × Int)} (h : Prs G xs ps) : Prs G' xs ps := Paired.mapP h fun a b ⟨t, e, g⟩ => ⟨t, e, s _ _ g⟩
theorem Prs.app {G : Hp} : ∀ {xs ys : List V} {ps qs : List (Int × Int)}, Prs G xs ps → Prs G ys qs → Prs G (xs ++ ys) (ps ++ qs)
  | _, _, _, _, .nil, s => s
  | _, _, _, _, .cons r t, s => .cons r (Prs.app t s)
theorem Prs.get {G : Hp} : ∀ {xs : List V} {ps : List (Int × Int)} {i : Nat} {v : V}, Prs G xs ps → xs[i]? = some v → ∃ q, ps[i]? = some q ∧ PrAt G v q
  | _, _, _, _, .nil, e => by simp at e
  | _, _, 0, _, .cons r _, e => by simp at e; subst e; exact ⟨_, rfl, r⟩
  | _, _, i + 1, v, .cons _ t, e => by
    obtain ⟨u, h1, h2⟩ := Prs.get (i := i) (v := v) t (by simpa using e)
    exact ⟨u, by simpa using h1, h2⟩
/-- it grows from b on -/
def LogUp (b : Int) : List (Int × Int) → Prop
  | [] => True
  | q :: r => b < q.1 ∧ q.1 < q.2 ∧ LogUp q.2 r
def fin (b : Int) : List (Int × Int) → Int
  | [] => b
  | q :: r => fin q.2 r
def LogOk (b : Int) (ps : List (Int × Int)) : Prop := LogUp b ps ∧ ∀ q ∈ ps, q.2 ≤ 2000000000
theorem LogUp.app : ∀ {b : Int} {ps : List (Int × Int)} {q : Int × Int}, LogUp b ps → fin b ps < q.1 → q.1 < q.2 → LogUp b (ps ++ [q]) ∧ fin b (ps ++ [q]) = q.2
  | b, [], q, _, h1, h2 => ⟨⟨h1, h2, trivial⟩, rfl⟩
  | b, x :: r, q, h, h1, h2 => by
    obtain ⟨a1, a2, a3⟩ := h
    obtain ⟨c1, c2⟩ := LogUp.app (q := q) a3 h1 h2
    exact ⟨⟨a1, a2, c1⟩, c2⟩
theorem LogUp.less : ∀ {b c : Int} {ps : List (Int × Int)}, c ≤ b → LogUp b ps → LogUp c ps
  | _, _, [], _, _ => trivial
  | b, c, q :: r, h, ⟨a1, a2, a3⟩ => ⟨by omega, a2, a3⟩
theorem LogUp.filt : ∀ {b : Int} {ps : List (Int × Int)}, LogUp b ps → LogUp b (ps.filter fun q => decide (q.2 ≤ 2000000000))
  | _, [], _ => trivial
  | b, q :: r, ⟨a1, a2, a3⟩ => by
    have ih := LogUp.filt a3
    rw [List.filter_cons]
    split
    · exact ⟨a1, a2, ih⟩
    · exact LogUp.less (by omega) ih
theorem LogUp.bound : ∀ {b : Int} {ps : List (Int × Int)}, LogUp b ps → ∀ q ∈ ps, b < q.1 ∧ q.1 < q.2
  | _, [], _, q, h => nomatch h
  | b, x :: r, ⟨a1, a2, a3⟩, q, h => by
    rcases List.mem_cons.mp h with e | e
    · rw [e]; exact ⟨a1, a2⟩
    · have := LogUp.bound a3 q e
      exact ⟨by omega, this.2⟩
/-- a tuple of such pairs -/
def PairsR (K : PySem.W.Frag) (ps : List (Int × Int)) : VR := fun v G => ∃ a xs, v = .ref a ∧ G a = some (.tup xs) ∧ Prs G xs ps
theorem PairsR.mo {K : PySem.W.Frag} {ps : List (Int × Int)} : Mo (PairsR K ps) := fun v G G' s ⟨a, xs, e, g, r⟩ => ⟨a, xs, e, s _ _ g, r.keep (.of s)⟩
def LogR (K : PySem.W.Frag) (n : Nat) : VR := fun v G => ∃ ps, PairsR K ps v G ∧ ps.length ≤ n ∧ LogOk (-1) ps
theorem LogR.mo {K : PySem.W.Frag} {n : Nat} : Mo (LogR K n) := fun v G G' s ⟨ps, h, r⟩ => ⟨ps, PairsR.mo _ _ _ s h, r⟩
def pD (q : Int × Int) : PyData := two (.int q.1) (.int q.2)
theorem Prs.dqs {K : PySem.W.Frag} {G : Hp} : ∀ {xs : List V} {ps : List (Int × Int)}, Prs G xs ps → Dqs K G xs (ps.map pD)
  | _, _, .nil => .nil
  | _, _, .cons ⟨t, e, g⟩ r => by
    subst e
    exact .cons (.tup (.inl (.inl g)) (.cons (.int _) (.cons (.int _) .nil))) (Prs.dqs r)
theorem Prs.dp {K : PySem.W.Frag} {G : Hp} : ∀ {xs : List V} {ps : List (Int × Int)}, Prs G xs ps → DpAll K G xs (ps.map pD)
  | _, _, .nil => .nil
  | _, _, .cons ⟨t, e, g⟩ r => by
    subst e
    exact .cons (.tup (.inl (.inl g)) (.cons (.int _) (.cons (.int _) .nil))) (Prs.dp r)
theorem Prs.len {G : Hp} {xs : List V} {ps : List (Int × Int)} (h : Prs G xs ps) : xs.length = ps.length := Paired.length h
theorem pD_sm {q : Int × Int} (h1 : q.1.natAbs < 10 ^ 12) (h2 : q.2.natAbs < 10 ^ 12) : Sm 33 1 (pD q) := Sm.tuple (c := 2) (n := 13) (k := 0) (ds := [.int q.1, .int q.2]) (fun d hd => by
    rcases List.mem_cons.mp hd with e | e
    · rw [e]; exact Sm.int h1
    · rw [List.mem_singleton.mp e]; exact Sm.int h2) (Nat.le_refl 2)
theorem LogR.tp {K : PySem.W.Frag} {n : Nat} {v : V} {G : Hp} (h : LogR K n v G) : TpR K 0 n (TpR K 0 2 (DR K (Sm 13 0))) v G := by
  obtain ⟨ps, ⟨a, xs, rfl, g, pr⟩, hl, hu, hb⟩ := h
  refine ⟨a, xs, rfl, .inl (.inl g), Nat.zero_le _, by rw [pr.len]; exact hl, fun x hx => ?_⟩
  obtain ⟨i, hi⟩ := List.getElem?_of_mem hx
  obtain ⟨q, hq, t, rfl, gt⟩ := pr.get hi
  have hm := List.mem_of_getElem? hq
  have b1 := hu.bound q hm
  have b2 := hb q hm
  refine ⟨t, _, rfl, .inl (.inl gt), Nat.zero_le _, Nat.le_refl 2, fun y hy => ?_⟩
  rcases List.mem_cons.mp hy with e | e
  · rw [e]; exact ⟨_, .int _, Sm.int (by omega)⟩
  · rw [List.mem_singleton.mp e]; exact ⟨_, .int _, Sm.int (by omega)⟩
theorem LogR.tpD {K : PySem.W.Frag} {n : Nat} {v : V} {G : Hp} (h : LogR K n v G) : TpR K 0 n (DR K (Sm 60 3)) v G := by
  obtain ⟨a, xs, e, g, h1, h2, h3⟩ := h.tp
  exact ⟨a, xs, e, g, h1, h2, fun x hx => ((h3 x hx).data fun y hy => hy).wide (by decide) (by decide)⟩
def sp_log (K : PySem.W.Frag) : Sp := fun vs H Q _ => ∃ (Z : Hp) (p dl al : Addr) (u g : Int), vs = [.ref p, .int u, .int g] ∧ PotAt Z H p dl al ∧ 0 ≤ u ∧ u ≤ 60 ∧ 1 ≤ g ∧ g ≤ 10000000 ∧
  ∀ (x : V) (H' : Hp), PotAt Z H' p dl al → Kp Z p dl H H' → LogR K u.toNat x (hid Z p dl H') → Q x H'
theorem Kp.upd_new {Z : Hp} {p dl f : Addr} {H H1 : Hp} {o : HO} (P : ∀ b, H b ≠ none → b ≠ f) (k : Kp Z p dl H H1) : Kp Z p dl H (upd H1 f o) := fun b u e => by
  have n := hid_some e
  have e1 := k b u e
  rw [hid_at n.1 n.2] at e1 ⊢
  rw [upd_ne]
  · exact e1
  · refine P b ?_
    rw [hid_at n.1 n.2] at e
    rw [e]
    exact fun z => nomatch z
theorem ne_of_new {H : Hp} {f : Addr} (n : H f = none) : ∀ b, H b ≠ none → b ≠ f := fun b h e => h (by rw [e]; exact n)
theorem hid_get {Z : Hp} {p dl b : Addr} {H : Hp} {o : HO} (h1 : b ≠ p) (h2 : b ≠ dl ∧ Z b = none) (h : H b = some o) : hid Z p dl H b = some o := by rw [hid_at h1 h2]; exact h
theorem PotAt.upd {H : Hp} {Z : Hp} {p dl al f : Addr} {o : HO} (h : PotAt Z H p dl al) (h1 : f ≠ p) (h2 : f ≠ dl) (h3 : f ≠ al) (h4 : Z f = none) : PotAt Z (upd H f o) p dl al :=
  ⟨let ⟨t, e⟩ := h.ob; ⟨t, by rw [upd_ne h1.symm]; exact e⟩, let ⟨ns, e, l⟩ := h.de; ⟨ns, by rw [upd_ne h2.symm]; exact e, l⟩, let ⟨ns, e, l⟩ := h.li; ⟨ns, by rw [upd_ne h3.symm]; exact e, l⟩, h.ne, zz_upd h.zz h4, h.zp, h.zd⟩
theorem PotAt.freeA {H : Hp} {Z : Hp} {p dl al q : Addr} (h : PotAt Z H p dl al) (n : H q = none) : q ≠ al := by
  obtain ⟨ns, e2, _⟩ := h.li
  exact (ne_of_none e2 n).symm
end Lm

namespace Lm
open PySem PySem.Spec PyProof.Rows L2
section
variable {K : PySem.W.Frag} {Z : Hp} {p dl al : Addr} {H0 : Hp} {σ : L2.St} {g : Int}
theorem ev_gvar {i : Nat} (e : σ[i]? = some (some (.int g))) (h0 : 1 ≤ g) (h1 : g ≤ 10000000) : Ev Z p dl al H0 σ (tVar i) (IR 1 10000000) := ev_var e IR.mo ⟨g, rfl, h0, h1⟩
theorem ev_size (e0 : σ[0]? = some (some (.ref p))) (e2 : σ[2]? = some (some (.int g))) (h0 : 1 ≤ g) (h1 : g ≤ 10000000) :
    Ev Z p dl al H0 σ (tCall sp_one [] E0 (tCons (tVar 0) (tCons (tLst (tCons (tC (.int 1)) (tCons (tC (.int 2)) (tCons (tOp (rI0 fun i j => .int (i + j)) (tC (.int 1)) (tCall sp_draw [] E0 (tCons (tVar 0) (tCons (tC (.int 20)) tNil))))
      (tCons (tOp (rI0 fun i j => .int (i + j)) (tC (.int 1)) (tCall sp_draw [] E0 (tCons (tVar 0) (tCons (tVar 2) tNil)))) tNil))))) tNil))) (IR 1 10000000) :=
  ev_one (m := 3) (n := 4) e0 (by decide) IR.mo (ev_lst (by decide) IR.mo (eall_cons IR.mo (ev_int.wide (by decide) (by decide)) (eall_cons IR.mo (ev_int.wide (by decide) (by decide))
    (eall_cons IR.mo ((ev_add ev_int (ev_draw (b := 20) e0 (by decide) (ev_int.wide (by decide) (by decide)))).wide (by decide) (by decide))
      (eall_cons IR.mo ((ev_add ev_int (ev_draw (b := 10000000) e0 (by decide) (ev_gvar e2 h0 h1))).wide (by decide) (by decide)) eall_nil)))))
theorem ev_upto {u : Int} (e0 : σ[0]? = some (some (.ref p))) (e1 : σ[1]? = some (some (.int u))) (h0 : 0 ≤ u) (h1 : u ≤ 60) :
    Ev Z p dl al H0 σ (tCall sp_draw [] E0 (tCons (tVar 0) (tCons (tOp (rI0 fun i j => .int (i + j)) (tVar 1) (tC (.int 1))) tNil))) (IR 0 u) :=
  (ev_draw (b := u + 1) e0 (by omega) ((ev_add (ev_var (R := IR 0 u) e1 IR.mo ⟨u, rfl, h0, Int.le_refl _⟩) ev_int).wide (by omega) (by omega))).wide (by omega) (by omega)
theorem ev_start (e0 : σ[0]? = some (some (.ref p))) (e2 : σ[2]? = some (some (.int g))) (h0 : 1 ≤ g) (h1 : g ≤ 10000000) :
    Ev Z p dl al H0 σ (tCall sp_one [] E0 (tCons (tVar 0) (tCons (tLst (tCons (tC (.int 0)) (tCons (tC (.int 1)) (tCons (tCall sp_draw [] E0 (tCons (tVar 0) (tCons (tVar 2) tNil))) tNil)))) tNil))) (IR 0 10000000) :=
  ev_one (m := 2) (n := 3) e0 (by decide) IR.mo (ev_lst (by decide) IR.mo (eall_cons IR.mo (ev_int.wide (by decide) (by decide)) (eall_cons IR.mo (ev_int.wide (by decide) (by decide))
    (eall_cons IR.mo ((ev_draw (b := 10000000) e0 (by decide) (ev_gvar e2 h0 h1)).wide (by decide) (by decide)) eall_nil))))
end
theorem s_ifn {D : Ends} {σ : L2.St} {H : Hp} {c : TT} {t u : TS} (h : c σ H fun b H1 => if b = true then t { D with nx := u D } σ H1 else u D σ H1) : tSeq (tIfS c t tNext) u D σ H := h
theorem s_asg {D : Ends} {σ : L2.St} {H : Hp} {te : TE} {g : TG} {u : TS} (h : te σ H fun x H1 => g x σ H1 (u D)) : tSeq (tAsg te g) u D σ H := h
theorem two_of {xs : List V} (h1 : 2 ≤ xs.length) (h2 : xs.length ≤ 2) : ∃ x y, xs = [x, y] := by
  match xs, h1, h2 with
  | [x, y], _, _ => exact ⟨x, y, rfl⟩
theorem dI {K : PySem.W.Frag} {Z : Hp} {p dl al : Addr} {H0 : Hp} {σ : L2.St} {te : TE} {lo hi : Int} (h : Ev Z p dl al H0 σ te (IR lo hi)) (h1 : -999999999999 ≤ lo) (h2 : hi ≤ 999999999999) : Ev Z p dl al H0 σ te (DR K (Sm 30 1)) :=
  ev_wide (ev_ir h h1 h2) (by decide) (by decide)
theorem ixK {X : Cx} {K : PySem.W.Frag} (h : X.K = K) : IxR X (rIxT K) := h ▸ ix_tup
/-- what a for over range(..) asks -/
def RngGo (g : TG) (tb : TS) (D : Ends) (σ : L2.St) : List V → Hp → Prop := fun vs H1 => ∃ j : Int, vs = [.int j] ∧ -(2 ^ 62) ≤ j ∧ j < 2 ^ 62 ∧ ∃ W : Nat → Nat → L2.St → Hp → Prop, (∃ m, W 0 m σ H1) ∧ ∀ i m σ H, W i m σ H →
  ((Itr 0 j.toNat).stop i H ∧ D.nx σ H) ∨ ((Itr 0 j.toNat).go i H ∧ ∃ N : L2.St → Hp → Prop, (∀ σ' H', N σ' H' → ∃ m', m' < m ∧ W (i + 1) m' σ' H') ∧ ∀ x H', (Itr 0 j.toNat).yld i H x H' → g x σ H' fun σ2 H2 => tb { D with nx := N, ct := N, bk := D.nx } σ2 H2)
theorem s_rng {D : Ends} {σ : L2.St} {H : Hp} {ta : TA} {g : TG} {tb u : TS} (h : ta σ H (RngGo g tb { D with nx := u D } σ)) : tSeq (tFor (iRng1 ta) g tb) u D σ H := h
theorem s_rng1 {D : Ends} {σ : L2.St} {H : Hp} {ta : TA} {g : TG} {tb : TS} (h : ta σ H (RngGo g tb D σ)) : tFor (iRng1 ta) g tb D σ H := h
/-- one more pair at the end of a list that stands apart -/
theorem app_pair {Z : Hp} {p dl al f t : Addr} {H H3 : Hp} {xs : List V} {ps : List (Int × Int)} {a b : Int} (P : PotAt Z H p dl al) (nf : H f = none) (P3 : PotAt Z H3 p dl al) (k3 : Kp Z p dl H H3)
    (hf : H3 f = some (.lst xs)) (hp : Prs (hid Z p dl H3) xs ps) (nt : H3 t = none) :
    let H4 := upd (upd H3 t (.tup [.int a, .int b])) f (.lst (xs ++ [.ref t]))
    PotAt Z H4 p dl al ∧ Kp Z p dl H H4 ∧ H4 f = some (.lst (xs ++ [.ref t])) ∧ Prs (hid Z p dl H4) (xs ++ [.ref t]) (ps ++ [(a, b)]) := by
  intro H4
  have f1 := P.free nf
  have f2 := P.freeA nf
  have t1 := P3.free nt
  have tf : t ≠ f := fun e => by rw [← e, nt] at hf; cases hf
  refine ⟨(P3.new nt).upd f1.1 f1.2.1 f2 f1.2.2, Kp.upd_new (ne_of_new nf) (k3.trans (Kp.new nt)), upd_same, ?_⟩
  have tk : TupKeep (hid Z p dl H3) (hid Z p dl H4) := fun c ys e => by
    have n := hid_some e
    rw [hid_at n.1 n.2] at e ⊢
    have cf : c ≠ f := fun z => by rw [z, hf] at e; cases e
    have ct : c ≠ t := fun z => by rw [z, nt] at e; cases e
    show upd (upd H3 t _) f _ c = _
    rw [upd_ne cf, upd_ne ct]
    exact e
  refine Prs.app (hp.keep tk) (.cons ⟨t, rfl, ?_⟩ .nil)
  rw [hid_at t1.1 t1.2]
  show upd (upd H3 t _) f _ t = _
  rw [upd_ne tf, upd_same]
theorem atI_in {α : Type} {xs : List α} {i : Int} (h1 : -(xs.length : Int) ≤ i) (h2 : i < xs.length) : ∃ v, v ∈ xs ∧ atI xs i = some v := by
  unfold atI ixN
  by_cases h0 : 0 ≤ i
  · rw [if_pos h0, if_pos h2]
    have lt : i.toNat < xs.length := by omega
    exact ⟨xs[i.toNat], List.getElem_mem lt, List.getElem?_eq_getElem lt⟩
  · rw [if_neg h0, if_pos h1]
    have lt : (i + xs.length).toNat < xs.length := by omega
    exact ⟨xs[(i + xs.length).toNat], List.getElem_mem lt, List.getElem?_eq_getElem lt⟩
section
variable {K : PySem.W.Frag} {Z : Hp} {p dl al : Addr} {H0 : Hp} {σ : L2.St} {te ti : TE} {R : VR}
theorem ev_ixT {m c : Nat} {lo up : Int} (hm : Mo R) (h : Ev Z p dl al H0 σ te (TpR K m c R)) (hi : Ev Z p dl al H0 σ ti (IR lo up)) (h1 : -(m : Int) ≤ lo) (h2 : up < (m : Int)) : Ev Z p dl al H0 σ (tOp (rIxT K) te ti) R :=
  fun H Q P k q => h H _ P k fun x H1 P1 k1 r1 => hi H1 _ P1 (k.trans k1) fun y H2 P2 k2 ⟨i, e, i1, i2⟩ => by
    obtain ⟨a, xs, rfl, g, l1, l2, l3⟩ := TpR.mo hm _ _ _ k2 r1
    obtain ⟨v, hv, ev⟩ := atI_in (xs := xs) (i := i) (by omega) (by omega)
    exact ⟨a, xs, i, v, rfl, e, Same.seqT (hid_same _ _ _) g, ev, q _ _ P2 (k1.trans k2) (l3 v hv)⟩
end
theorem PairsR.tpI {K : PySem.W.Frag} {ps : List (Int × Int)} {v : V} {G : Hp} (h : PairsR K ps v G) (o : LogOk (-1) ps) : TpR K ps.length ps.length (TpR K 2 2 (IR 0 2000000000)) v G := by
  obtain ⟨a, xs, rfl, g, pr⟩ := h
  obtain ⟨hu, hb⟩ := o
  refine ⟨a, xs, rfl, .inl (.inl g), by rw [pr.len]; exact Nat.le_refl _, by rw [pr.len]; exact Nat.le_refl _, fun x hx => ?_⟩
  obtain ⟨i, hi⟩ := List.getElem?_of_mem hx
  obtain ⟨q, hq, t, rfl, gt⟩ := pr.get hi
  have hm := List.mem_of_getElem? hq
  have b1 := hu.bound q hm
  have b2 := hb q hm
  refine ⟨t, _, rfl, .inl (.inl gt), Nat.le_refl 2, Nat.le_refl 2, fun y hy => ?_⟩
  rcases List.mem_cons.mp hy with e | e
  · exact ⟨_, e, by omega, by omega⟩
  · exact ⟨_, List.mem_singleton.mp e, by omega, by omega⟩
theorem LogR.tpI {K : PySem.W.Frag} {n : Nat} {v : V} {G : Hp} (h : LogR K n v G) : ∃ L : Nat, L ≤ n ∧ TpR K L L (TpR K 2 2 (IR 0 2000000000)) v G :=
  let ⟨ps, hp, hl, ho⟩ := h
  ⟨ps.length, hl, hp.tpI ho⟩
theorem pair_data {K : PySem.W.Frag} {v : V} {G : Hp} (h : TpR K 2 2 (IR 0 2000000000) v G) : DR K (Sm 33 1) v G := h.data (n := 13) (k := 0) fun x hx => ir_data hx (by decide) (by decide)
theorem TpR.weak {K : PySem.W.Frag} {m c m' c' : Nat} {R R' : VR} {v : V} {G : Hp} (h : TpR K m c R v G) (h1 : m' ≤ m) (h2 : c ≤ c') (i : ∀ x, R x G → R' x G) : TpR K m' c' R' v G := by
  obtain ⟨a, xs, e, g, l1, l2, l3⟩ := h
  exact ⟨a, xs, e, g, Nat.le_trans h1 l1, Nat.le_trans l2 h2, fun x hx => i x (l3 x hx)⟩
theorem pD_lay : ∀ ps : List (Int × Int), PyData.canLayAll0 (ps.map pD) = true
  | [] => by simp [PyData.canLayAll0]
  | q :: r => by
    simp only [List.map_cons, PyData.canLayAll0, pD_lay r, Bool.and_true]
    simp [pD, two, PyData.canLay0, PyData.canLayAll0]
theorem pD_depth : ∀ ps : List (Int × Int), PyData.depthAll (ps.map pD) ≤ 1
  | [] => by simp [PyData.depthAll]
  | q :: r => by
    simp only [List.map_cons, PyData.depthAll]
    refine Nat.max_le.mpr ⟨?_, pD_depth r⟩
    simp [pD, two, PyData.depth, PyData.depthAll]
theorem pD_shaped (ps : List (Int × Int)) : SeqAt.shaped (.tuple (ps.map pD)) = true := by
  unfold SeqAt.shaped
  simp only [PyData.canLay0, pD_lay, PyData.depth, Bool.true_and]
  exact decide_eq_true (Nat.le_trans (Nat.succ_le_succ (pD_depth ps)) (show 2 ≤ 64 by decide))
theorem pD_eqv (ps : List (Int × Int)) : PyData.eqv (.tuple (ps.map pD)) (.tuple []) = ps.isEmpty := by
  cases ps <;> simp [PyData.eqv, PyData.eqvAll]
def sp_spoilt (K : PySem.W.Frag) : Sp := fun vs H Q _ => ∃ (Z : Hp) (p dl al : Addr) (v : V), vs = [.ref p, v] ∧ PotAt Z H p dl al ∧ LogR K 60 v (hid Z p dl H) ∧
  ∀ (x : V) (H' : Hp), PotAt Z H' p dl al → Kp Z p dl H H' → DR K (Sm 53122 5) x (hid Z p dl H') → Q x H'
end Lm

namespace Lm
open PySem PySem.Spec PyProof.Rows L2
/-! ### a list that grows while the pot is used -/
section
variable {Z H H' : Hp} {p dl al D : Addr} {o o' o2 : HO}
theorem PotAt.hide (P : PotAt Z H p dl al) (e : H D = some o) (h1 : D ≠ p) (h2 : D ≠ dl) : PotAt (L2.upd Z D o) H p dl al :=
  ⟨P.ob, P.de, P.li, P.ne, fun b x z => by
    by_cases q : b = D
    · rw [q, upd_same] at z
      rw [q, e]; exact z
    · rw [upd_ne q] at z
      exact P.zz b x z, by rw [upd_ne h1.symm]; exact P.zp, by rw [upd_ne h2.symm]; exact P.zd⟩
theorem PotAt.bare (P : PotAt (L2.upd Z D o) H p dl al) (n : Z D = none) : PotAt Z H p dl al := by
  have hp : D ≠ p := fun e => by have := P.zp; rw [← e, upd_same] at this; cases this
  have hd : D ≠ dl := fun e => by have := P.zd; rw [← e, upd_same] at this; cases this
  refine ⟨P.ob, P.de, P.li, P.ne, fun b x z => ?_, ?_, ?_⟩
  · have q : b ≠ D := ne_of_none z n
    exact P.zz b x (by rw [upd_ne q]; exact z)
  · have := P.zp; rw [upd_ne hp.symm] at this; exact this
  · have := P.zd; rw [upd_ne hd.symm] at this; exact this
theorem hid_hide : Same (hid (upd Z D o) p dl H) (hid Z p dl H) := fun b x e => by
  have n := hid_some e
  rw [hid_at n.1 n.2] at e
  have q : b ≠ D := fun q => by have := n.2.2; rw [q, upd_same] at this; cases this
  have z := n.2.2
  rw [upd_ne q] at z
  rw [hid_at n.1 ⟨n.2.1, z⟩]
  exact e
theorem hid_swap : Same (hid (upd Z D o) p dl H) (hid (upd Z D o') p dl (upd H D o2)) := fun b x e => by
  have n := hid_some e
  rw [hid_at n.1 n.2] at e
  have q : b ≠ D := fun q => by have := n.2.2; rw [q, upd_same] at this; cases this
  have z := n.2.2
  rw [upd_ne q] at z
  rw [hid_at n.1 ⟨n.2.1, by rw [upd_ne q]; exact z⟩, upd_ne q]
  exact e
theorem hid_new2 (n : H D = none) : Same (hid Z p dl H) (hid (upd Z D o) p dl (upd H D o2)) := fun b x e => by
  have m := hid_some e
  rw [hid_at m.1 m.2] at e
  have q : b ≠ D := ne_of_none e n
  rw [hid_at m.1 ⟨m.2.1, by rw [upd_ne q]; exact m.2.2⟩, upd_ne q]
  exact e
end
theorem ev_lcR {Z : Hp} {p dl al : Addr} {H0 : Hp} {σ : L2.St} {te : TE} {R : VR} {v : Nat} {j : Int} (j0 : 0 ≤ j) (j1 : j ≤ 1000) (hm : Mo R)
    (hT : ∀ (Z' H1 : Hp) (x : V), PotAt Z' H1 p dl al → Same (hid Z p dl H0) (hid Z' p dl H1) → Ev Z' p dl al H1 ((wipe σ [v]).set v (some x)) te R) :
    Ev Z p dl al H0 σ (tLc (iRng1 (tCons (tC (.int j)) tNil)) (gName v) tYes te [v]) (LsR j.toNat j.toNat R) := fun H Q P k q => by
  refine ⟨j, rfl, by omega, by omega, fun D nD => ?_⟩
  have f := P.free nD
  have fa := P.freeA nD
  refine lc_range (fun i Hj => ∃ acc, PotAt (upd Z D (.lst acc)) Hj p dl al ∧ acc.length = i ∧ (∀ x ∈ acc, R x (hid (upd Z D (.lst acc)) p dl Hj)) ∧ Same (hid Z p dl H) (hid (upd Z D (.lst acc)) p dl Hj)) ⟨[], (P.new nD).hide upd_same f.1 f.2.1, rfl, (fun x hx => nomatch hx), hid_new2 nD⟩ ?_ ?_
  · rintro i Hj hi ⟨acc, Pj, la, ra, sj⟩
    refine ⟨?_, yes_if ?_⟩
    · simp only [wipe, List.set_set]
    · refine hT _ Hj _ Pj (Same.trans k sj) Hj _ Pj (Kp.refl _ _ _) fun y H4 P4 k4 r4 => ⟨acc, P4.zz _ _ upd_same, small1000 (by omega), acc ++ [y], ?_, by rw [List.length_append, la]; rfl, fun x hx => ?_, (Same.trans sj k4).trans hid_swap⟩
      · exact ((P4.bare f.2.2).upd f.1 f.2.1 fa f.2.2).hide upd_same f.1 f.2.1
      · rcases List.mem_append.mp hx with e | e
        · exact hm _ _ _ (Same.trans k4 hid_swap) (ra x e)
        · rw [List.mem_singleton.mp e]
          exact hm _ _ _ hid_swap r4
  · rintro Hn ⟨acc, Pn, la, ra, sn⟩
    have e := Pn.zz _ _ upd_same
    refine q _ Hn (Pn.bare f.2.2) (sn.trans hid_hide) ⟨D, acc, rfl, by rw [hid_at f.1 f.2]; exact e, by omega, by omega, fun x hx => hm _ _ _ hid_hide (ra x hx)⟩
section
variable {K : PySem.W.Frag} {Z : Hp} {p dl al : Addr} {H0 : Hp} {σ : L2.St} {te : TE}
theorem ev_spoilt {i j : Nat} {v : V} (e : σ[i]? = some (some (.ref p))) (ej : σ[j]? = some (some v)) (hv : LogR K 60 v (hid Z p dl H0)) : Ev Z p dl al H0 σ (tCall (sp_spoilt K) [] E0 (tCons (tVar i) (tCons (tVar j) tNil))) (DR K (Sm 53122 5)) :=
  fun H Q P k q => ⟨_, e, _, ej, Z, p, dl, al, v, rfl, P, LogR.mo _ _ _ k hv, fun x H' P' k' r => q x H' P' k' r⟩
theorem ev_log {i : Nat} {u : Int} (e : σ[i]? = some (some (.ref p))) (h0 : 0 ≤ u) (h1 : u ≤ 60) (h : Ev Z p dl al H0 σ te (IR 1 10000000)) : Ev Z p dl al H0 σ (tCall (sp_log K) [] E0 (tCons (tVar i) (tCons (tC (.int u)) (tCons te tNil)))) (LogR K u.toNat) :=
  fun H Q P k q => ⟨_, e, h H _ P k fun v H1 P1 k1 ⟨g, eg, g0, g1⟩ => ⟨Z, p, dl, al, u, g, by rw [eg]; rfl, P1, h0, h1, g0, g1, fun x H' P' k' r => q x H' P' (k1.trans k') r⟩⟩
end
theorem LogR.tpD1 {K : PySem.W.Frag} {n : Nat} {v : V} {G : Hp} (h : LogR K n v G) : TpR K 0 n (DR K (Sm 33 1)) v G :=
  let ⟨L, hL, t⟩ := h.tpI
  t.weak (Nat.zero_le _) hL fun x hx => pair_data hx
theorem Prs.tpD1 {K : PySem.W.Frag} {n : Nat} {a : Addr} {xs : List V} {ps : List (Int × Int)} {G : Hp} (g : G a = some (.tup xs)) (h : Prs G xs ps) (hl : ps.length ≤ n) (hb : ∀ q ∈ ps, q.1.natAbs < 10 ^ 12 ∧ q.2.natAbs < 10 ^ 12) : TpR K 0 n (DR K (Sm 33 1)) (.ref a) G := by
  refine ⟨a, xs, rfl, .inl (.inl g), Nat.zero_le _, by rw [h.len]; exact hl, fun x hx => ?_⟩
  obtain ⟨i, hi⟩ := List.getElem?_of_mem hx
  obtain ⟨q, hq, t, rfl, gt⟩ := h.get hi
  have b := hb q (List.mem_of_getElem? hq)
  exact ⟨_, .tup (.inl (.inl gt)) (.cons (.int _) (.cons (.int _) .nil)), pD_sm b.1 b.2⟩
/-! ### how long a fault's text is -/
theorem two_sm {i : Nat} (h : i < 1000) (x : Str) (hx : Sm 20 0 (.str x)) : Sm 60 1 (two (.int i) (.str x)) :=
  (Sm.tuple (c := 2) (n := 20) (k := 0) (ds := [.int i, .str x]) (fun d hd => by
    rcases List.mem_cons.mp hd with e | e
    · rw [e]; exact (Sm.int (by omega)).wide (by decide) (by decide)
    · rw [List.mem_singleton.mp e]; exact hx) (Nat.le_refl 2)).wide (by decide) (by decide)
theorem logGo_sm : ∀ (ds : List PyData) (i : Nat) (b : Int), i + ds.length ≤ 60 → Sm 60 1 (logGo ds i b)
  | [], _, _, _ => show Sm 60 1 .none from sm_chk (by decide +kernel)
  | d :: r, i, b, h => by
    simp only [List.length_cons] at h
    simp only [logGo]
    split
    · exact two_sm (by omega) _ (sm_chk (by decide +kernel))
    · split
      · exact two_sm (by omega) _ (sm_chk (by decide +kernel))
      · exact logGo_sm r (i + 1) _ (by omega)
theorem logErr_sm (d : PyData) : Sm 60 1 (logErr d) := by
  have e0 : Sm 60 1 (two .none (.str "log")) := sm_chk (by decide +kernel)
  unfold logErr
  split
  · split
    · exact e0
    · exact logGo_sm _ _ _ (by omega)
  · exact e0
theorem pair_fine {d : PyData} (h : Sm 60 1 d) (b : Bool) : Fine (.list [d, .bool b]) :=
  (Sm.list (c := 2) (n := 60) (k := 1) (ds := [d, .bool b]) (fun e he => by
    rcases List.mem_cons.mp he with z | z
    · rw [z]; exact h
    · rw [List.mem_singleton.mp z]; cases b <;> exact sm_chk (by decide +kernel)) (Nat.le_refl 2)).fine (by decide) (by decide)
theorem Flat.dq0 {K : PySem.W.Frag} {H H' : Hp} {r : V} {e : PyData} (h : Flat K H H' r e) : Dq K H' r e := by
  rcases h with ⟨rfl, rfl⟩ | ⟨t, x, y, dx, dy, rfl, n, g, rfl, hx, hy⟩
  · exact .non
  · exact .tup (.inl (.inl g)) (.cons (hx _) (.cons (hy _) .nil))
theorem Flat.isN {K : PySem.W.Frag} {H H' : Hp} {r : V} {e : PyData} (h : Flat K H H' r e) : decide (r = .non) = Lm.isN e := by
  rcases h with ⟨rfl, rfl⟩ | ⟨t, x, y, dx, dy, rfl, _, _, rfl, _, _⟩ <;> rfl
def sp_law (K : PySem.W.Frag) : Sp := fun vs H Q _ => ∃ (a : Addr) (ns : List Int), vs = [.ref a] ∧ SqL K H a (ns.map V.int) ∧ ns.length ≤ 63 ∧ ∀ H', Q (.bl true) H'
theorem sp_law_ok (K : PySem.W.Frag) (H : Hp) (a : Addr) (ns : List Int) (hl : ns.length ≤ 63) (_ : Only H) (hS : SqL K H a (ns.map V.int)) : sp_law K [.ref a] H (fun v _ => v = .bl true) fun _ _ _ => False :=
  ⟨a, ns, rfl, hS, hl, fun _ => rfl⟩
/-- what a for over a list asks -/
def LstGo (K : PySem.W.Frag) (g : TG) (tb : TS) (D : Ends) (σ : L2.St) : VK := fun x H1 => ∃ a, x = .ref a ∧ (∃ xs, SqL K H1 a xs) ∧ ∃ W : Nat → Nat → L2.St → Hp → Prop, (∃ m, W 0 m σ H1) ∧ ∀ i m σ H, W i m σ H →
  ((Itl K a).stop i H ∧ D.nx σ H) ∨ ((Itl K a).go i H ∧ ∃ N : L2.St → Hp → Prop, (∀ σ' H', N σ' H' → ∃ m', m' < m ∧ W (i + 1) m' σ' H') ∧ ∀ x H', (Itl K a).yld i H x H' → g x σ H' fun σ2 H2 => tb { D with nx := N, ct := N, bk := D.nx } σ2 H2)
theorem s_lst1 {K : PySem.W.Frag} {D : Ends} {σ : L2.St} {H : Hp} {te : TE} {g : TG} {tb : TS} (h : te σ H (LstGo K g tb D σ)) : tFor (iList K te) g tb D σ H := h
end Lm

namespace Lm
open PySem PySem.Spec PyProof.Rows L2
theorem ev_lg {K : PySem.W.Frag} {Z : Hp} {p dl al : Addr} {H0 : Hp} {σ : L2.St} (e1 : σ[1]? = some (some (.ref p))) :
    Ev Z p dl al H0 σ (tCall (sp_log K) [] E0 (tCons (tVar 1) (tCons (tC (.int 60)) (tCons (tCall sp_one [] E0 (tCons (tVar 1) (tCons (tLst (tCons (tC (.int 4)) (tCons (tC (.int 100)) (tCons (tOp (rI CPow fun i j => .int (i ^ j.toNat)) (tC (.int 10)) (tC (.int 7))) tNil)))) tNil))) tNil)))) (LogR K 60) :=
  ev_log (u := 60) e1 (by decide) (by decide) (ev_one (m := 2) (n := 3) e1 (by decide) IR.mo (ev_lst (by decide) IR.mo (eall_cons IR.mo (ev_int.wide (by decide) (by decide)) (eall_cons IR.mo (ev_int.wide (by decide) (by decide)) (eall_cons IR.mo ((ev_pow (by decide)).wide (by decide) (by decide)) eall_nil)))))
theorem s_setL {D : Ends} {σ : L2.St} {H : Hp} {ta : TA} {u : TS} {i : Nat} (h : ta σ H fun vs H1 => vs.length ≤ sizeLine ∧ ∀ t, H1 t = none → u D (σ.set i (some (.ref t))) (upd H1 t (.lst vs))) : tSeq (tAsg (tLst ta) (gName i)) u D σ H := h
theorem app_zero {K : PySem.W.Frag} {φ : PyData → Prop} {Z : Hp} {p dl al L w u : Addr} {H : Hp} {vs : List V} (P : PotAt Z H p dl al) (nL : H L = none) (nw : (upd H L (.lst vs)) w = none) (nu : (upd (upd H L (.lst vs)) w (.tup [.int 0, .int 0])) u = none)
    (hv : ∀ x ∈ vs, DR K φ x (hid Z p dl H)) (h0 : φ (.tuple [.tuple [.int 0, .int 0]])) :
    let H4 := upd (upd (upd (upd H L (.lst vs)) w (.tup [.int 0, .int 0])) u (.tup [.ref w])) L (.lst (vs ++ [.ref u]))
    PotAt Z H4 p dl al ∧ Kp Z p dl H H4 ∧ hid Z p dl H4 L = some (.lst (vs ++ [.ref u])) ∧ ∀ x ∈ vs ++ [.ref u], DR K φ x (hid Z p dl H4) := by
  intro H4
  have P1 := P.new (o := .lst vs) nL
  have P2 := P1.new (o := .tup [.int 0, .int 0]) nw
  have P3 := P2.new (o := .tup [.ref w]) nu
  have fL := P.free nL
  have fA := P.freeA nL
  have fw := P1.free nw
  have fu := P2.free nu
  have wL : w ≠ L := fun e => by rw [e, upd_same] at nw; cases nw
  have uw : u ≠ w := fun e => by rw [e, upd_same] at nu; cases nu
  have uL : u ≠ L := fun e => by rw [e, upd_ne wL.symm, upd_same] at nu; cases nu
  have k4 : Kp Z p dl H H4 := Kp.upd_new (ne_of_new nL) ((Kp.new nL).trans ((Kp.new nw).trans (Kp.new nu)))
  refine ⟨P3.upd fL.1 fL.2.1 fA fL.2.2, k4, hid_upd fL.1 fL.2, fun x hx => ?_⟩
  rcases List.mem_append.mp hx with e | e
  · exact DR.mo _ _ _ k4 (hv x e)
  · rw [List.mem_singleton.mp e]
    have e1 : hid Z p dl H4 u = some (.tup [.ref w]) := by
      rw [hid_at fu.1 fu.2]
      show upd (upd (upd (upd H L _) w _) u _) L _ u = _
      rw [upd_ne uL, upd_same]
    have e2 : hid Z p dl H4 w = some (.tup [.int 0, .int 0]) := by
      rw [hid_at fw.1 fw.2]
      show upd (upd (upd (upd H L _) w _) u _) L _ w = _
      rw [upd_ne wL, upd_ne uw.symm, upd_same]
    exact ⟨_, .tup (.inl (.inl e1)) (.cons (.tup (.inl (.inl e2)) (.cons (.int 0) (.cons (.int 0) .nil))) .nil), h0⟩
end Lm

namespace Lm
open PySem PySem.Spec PyProof.Rows L2 PySem.SeqAt PySem.MeetsSeq
open PySem.AutoSeq1 (wpAny_loadPart')
theorem str_declines_dict (b : Str) (u : Tok) (l : Addr) (c : Value) (es : Array DictEntry) (n : Nat) (dd : Option Addr) (sl : Array (Option Value)) :
    Meets (Builtin.«str.__eq__» ⟨[.str b u, .ref l], []⟩) (fun _ R s => s.heap.get? l = some { cls := c, dict := dd, data := .dict es n, slots := sl } ∧ R (.ok (.ret .notImplemented)) s) :=
  .of_wp fun prog w A R s h => by obtain ⟨hp, g, d, tk, os⟩ := s; obtain ⟨hl, h⟩ := h; wp_walk using wpAny_loadPart' hl, wpAny_load hl; exact ⟨_, rfl, h⟩
section
variable {A : Around} {s : Shared}
theorem rc_str_dict {l : Addr} {dd : Option Addr} {sl : Array (Option Value)} {es : Array DictEntry} {n : Nat} (b : Str) (u : Tok) (ho : s.heap.get? l = some { cls := .type "dict", dict := dd, data := .dict es n, slots := sl }) (hu : A.units < cLine) : RcAt A s (.str b u) (.ref l) false := fun prog w E Q h => by
  have ty : s.TypeIs (.ref l) "dict" := ⟨_, ho, rfl⟩
  refine rc_eq_decline_or (k := false) (typeIs_str s b u) ty (by decide) F.sub_dict_str F.slot_str_eq F.slot_dict_eq_refl
    (fun _ hq => call_meets F.slot_str_eq (typeIs_str s b u) F.entry_str_eq (F.args_str_eq_2 _ _) (str_declines_dict b u l (.type "dict") es n dd sl) ⟨ho, hq⟩)
    (fun _ hq => ?_)
    (fun _ hq => wpAny_of_eq (rfl : isSame (.str b u) (.ref l) = pure false) hq) (.inr hu) h
  refine PySem.wpAny_call_entry PySem.F.slot_dict_eq_refl ty PySem.F.entry_dict_eq ?_ (PySem.F.args_dict_eq_2 _ _)
  show wpAny _ _ (Builtin.Dict.dictSlotArgs "__eq__" ⟨[.ref l, .str b u], []⟩ >>= _) _ _ s
  refine wpAny_bind ?_
  unfold Builtin.Dict.dictSlotArgs
  refine wpAny_bind (wpAny_notOrdered_dict ty ?_)
  show wpAny _ _ (pure (Value.ref l, Value.str b u)) _ _ s
  refine wpAny_pure ?_
  refine wpAny_bind (wpAny_isInstance (T := "str") (typeIs_str s b u) PySem.F.sub_str_dict ?_)
  simp only [Bool.not_false, if_true]
  exact wpAny_bind (wpAny_rule (wpAny_pure ⟨_, rfl, hq⟩))
theorem eq_str_dict {l : Addr} {dd : Option Addr} {sl : Array (Option Value)} {es : Array DictEntry} {n : Nat} (b : Str) (u : Tok) (ho : s.heap.get? l = some { cls := .type "dict", dict := dd, data := .dict es n, slots := sl }) (hu : A.units < cLine) : EqAt A s (.str b u) (.ref l) false := fun prog w E Q h => by
  unfold eqBool
  refine wpAny_holding ?_
  refine wpAny_ite_split (fun hab => absurd (eq_of_beq hab) nofun) (fun _ => ?_)
  exact wpAny_bind (rc_str_dict b u ho hu prog w E _ (wpAny_truthy_bool h))
end
theorem in1_units {A : Around} (h : A.units + 64 < cLine) : A.in1.units < cLine := by
  have : A.in1.units = A.units + 1 := rfl
  omega
def strIs (d : PyData) (z : Str) : Bool := match d with | .str x => z == x | _ => false
def rInStr (K : PySem.W.Frag) : R2 := fun x y H Q => ∃ (d : PyData) (p : Addr) (zs : List Str), Dq K H x d ∧ y = .ref p ∧ (SqL K H p (zs.map V.str) ∨ SqT K H p (zs.map V.str)) ∧ Q (.bl (zs.any (strIs d))) H
section
variable {X : Cx}
def strE (d : PyData) : Value → Bool | .str z _ => strIs d z | _ => false
theorem vals_strs {d : PyData} : ∀ {zs : List Str} {its : List Value}, Vals (zs.map V.str) its → its.any (strE d) = zs.any (strIs d) ∧ ∀ w ∈ its, ∃ z t, w = .str z t
  | [], _, .nil => ⟨rfl, fun w h => nomatch h⟩
  | z :: r, _, .cons ⟨t, e⟩ h => by
    obtain ⟨h1, h2⟩ := vals_strs (d := d) h
    subst e
    refine ⟨by rw [List.any_cons, List.any_cons, h1]; rfl, fun w hw => ?_⟩
    rcases List.mem_cons.mp hw with e | e
    · exact ⟨z, t, e⟩
    · exact h2 w e
theorem eq_str_data {pins : List (Addr × Obj)} {σ : L2.St} {H : Hp} {s : Shared} (I : Inv X pins σ H s) {x : V} {v : Value} {d : PyData} (hd : Dq X.K H x d) (rx : L2.RelV x v) (hu : X.A.in1.units < cLine) (z : Str) (t : Tok) : EqAt X.A.in1 s (.str z t) v (strIs d z) := by
  cases hd with
  | non => cases rx; exact EqAt.str_none z t
  | bl b => cases rx; exact EqAt.str_bool z t b
  | int i => obtain ⟨u, rfl⟩ := rx; exact EqAt.str_int z t i u
  | str y => obtain ⟨u, rfl⟩ := rx; exact EqAt.str_str z t y u
  | lst hs _ =>
    cases rx
    obtain ⟨its, _, pl, _⟩ := I.list hs
    exact EqAt.str_list z t pl.isList hu
  | tup hs _ =>
    cases rx
    obtain ⟨its, _, pl, _⟩ := I.tuple hs
    exact EqAt.str_tuple z t pl hu
  | dct hs _ =>
    cases rx
    obtain ⟨_, _, vs, _, o, es, ep, e, hx, hdt, _⟩ := I.hok _ _ hs
    obtain ⟨cls, dd, data, sl⟩ := o
    have hc := hx.1
    simp only at hdt hc
    subst hdt hc
    exact eq_str_dict z t e hu
theorem op_inStr (hu : X.A.in1.units < cLine) : OpR X (compareOp .In) (rInStr X.K) := by
  intro pins s σ H x y v u Q I rx ry h
  obtain ⟨d, p, zs, hd, rfl, hq, q⟩ := h
  cases ry
  rcases hq with hq | hq
  · obtain ⟨its, r, pl, hz⟩ := I.list hq
    obtain ⟨h1, h2⟩ := vals_strs (d := d) r
    refine SeqAt.in_listAt (strE d) pl.isList (fun w hw => ?_) ⟨.bl _, H, I, rfl, ?_⟩
    · obtain ⟨z, t, rfl⟩ := h2 w (by simpa using hw)
      exact eq_str_data I hd rx hu z t
    · rw [show its.toArray.any (strE d) = its.any (strE d) by simp, h1]
      exact q
  · obtain ⟨its, r, pl, hz⟩ := I.tuple hq
    obtain ⟨h1, h2⟩ := vals_strs (d := d) r
    refine SeqAt.in_tupleAt (strE d) pl (fun w hw => ?_) ⟨.bl _, H, I, rfl, ?_⟩
    · obtain ⟨z, t, rfl⟩ := h2 w (by simpa using hw)
      exact eq_str_data I hd rx hu z t
    · rw [show its.toArray.any (strE d) = its.any (strE d) by simp, h1]
      exact q
end
end Lm

namespace Lm
open PySem PySem.Spec PyProof.Rows L2
/-! ### runs and motions, as functions of data -/
def runOf : PyData → Option (Int × Int)
  | .tuple [.int a, .int s, .int c] => if 0 ≤ a ∧ 1 ≤ s ∧ 1 ≤ c ∧ (c = 1 → s = 1) ∧ a + s * (c - 1) ≤ 1000000000 then some (a, a + s * (c - 1)) else none
  | _ => none
def motGo : List PyData → Nat → Int → PyData
  | [], _, _ => .none
  | d :: r, i, b => match runOf d with
    | none => two (.int i) (.str "run")
    | some (on, off) => if on ≤ b then two (.int i) (.str "order") else motGo r (i + 1) off
def motErr : PyData → PyData
  | .tuple ds => if 360 < ds.length then two .none (.str "motions") else motGo ds 0 (-1)
  | _ => two .none (.str "motions")
theorem motGo_cons {ds : List PyData} {i : Nat} {b : Int} {d : PyData} (h : ds[i]? = some d) : motGo (ds.drop i) i b = motGo (d :: ds.drop (i + 1)) i b := by
  obtain ⟨hi, e⟩ := List.getElem?_eq_some_iff.mp h
  rw [List.drop_eq_getElem_cons hi, e]
theorem run_bounds {a s c : Int} (h0 : 0 ≤ a) (h1 : 1 ≤ s) (h2 : 1 ≤ c) (h3 : c = 1 → s = 1) (h4 : a + s * (c - 1) ≤ 1000000000) : a ≤ 1000000000 ∧ s ≤ 1000000000 ∧ c ≤ 1000000001 := by
  have p0 : 0 ≤ s * (c - 1) := Int.mul_nonneg (by omega) (by omega)
  have p1 : 1 * (c - 1) ≤ s * (c - 1) := Int.mul_le_mul_of_nonneg_right h1 (by omega)
  refine ⟨by omega, ?_, by omega⟩
  by_cases e : c = 1
  · rw [h3 e]; decide
  · have p2 : s * 1 ≤ s * (c - 1) := Int.mul_le_mul_of_nonneg_left (by omega) (by omega)
    omega
theorem runOf_wt {d : PyData} : (runOf d).isSome = true → ∃ a s c, d = .tuple [.int a, .int s, .int c] ∧ runOf d = some (a, a + s * (c - 1)) ∧ 0 ≤ a ∧ a ≤ 1000000000 ∧ 1 ≤ s ∧ s ≤ 1000000000 ∧ 1 ≤ c ∧ c ≤ 1000000001 := by
  unfold runOf
  split
  · rename_i a s c
    split
    · rename_i h
      have b := run_bounds h.1 h.2.1 h.2.2.1 h.2.2.2.1 h.2.2.2.2
      exact fun _ => ⟨a, s, c, rfl, rfl, h.1, b.1, h.2.1, b.2.1, h.2.2.1, b.2.2⟩
    · intro h; cases h
  · intro h; cases h
theorem wt3 {d : PyData} (h : wt d 3 = true) : ∃ a b c, d = .tuple [.int a, .int b, .int c] := by
  unfold wt at h
  split at h
  · rename_i ds
    simp only [Bool.and_eq_true, decide_eq_true_eq] at h
    obtain ⟨h1, h2⟩ := h
    match ds, h1, h2 with
    | [x, y, z], _, h2 =>
      simp only [List.all_cons, List.all_nil, Bool.and_true, Bool.and_eq_true] at h2
      cases x <;> cases y <;> cases z <;> first | exact ⟨_, _, _, rfl⟩ | (simp [wh] at h2)
    | [], h1, _ => exact absurd h1 (by simp)
    | [_], h1, _ => exact absurd h1 (by simp)
    | [_, _], h1, _ => exact absurd h1 (by simp)
    | _ :: _ :: _ :: _ :: _, h1, _ => exact absurd h1 (by simp only [List.length_cons]; omega)
  · cases h
theorem wt3_no {d : PyData} (h : wt d 3 = false) : runOf d = none := by
  unfold runOf
  split
  · simp [wt, wh] at h
  · rfl
theorem runOf_len {ds : List PyData} (h : (ds.length : Int) ≠ 3) : runOf (.tuple ds) = none := by
  unfold runOf
  split
  · rename_i e
    cases e
    exact absurd rfl h
  · rfl
theorem runOf_out {ds : List PyData} (h : ds.all (inW 0 1000000001) = false) : runOf (.tuple ds) = none := by
  cases e : runOf (.tuple ds) with
  | none => rfl
  | some ab =>
    obtain ⟨a, s, c, e1, _, h1, h2, h3, h4, h5, h6⟩ := runOf_wt (d := .tuple ds) (by rw [e]; rfl)
    cases e1
    have g : (List.all [PyData.int a, PyData.int s, PyData.int c] (inW 0 1000000001)) = true := by
      simp only [List.all_cons, List.all_nil, Bool.and_true, inW, Bool.and_eq_true, decide_eq_true_eq]
      omega
    rw [g] at h
    cases h
theorem runOf_eq {a s c : Int} : (runOf (.tuple [.int a, .int s, .int c])).isSome = decide (0 ≤ a ∧ 1 ≤ s ∧ 1 ≤ c ∧ (c = 1 → s = 1) ∧ a + s * (c - 1) ≤ 1000000000) := by
  show (if 0 ≤ a ∧ 1 ≤ s ∧ 1 ≤ c ∧ (c = 1 → s = 1) ∧ a + s * (c - 1) ≤ 1000000000 then some (a, a + s * (c - 1)) else none).isSome = _
  by_cases h : 0 ≤ a ∧ 1 ≤ s ∧ 1 ≤ c ∧ (c = 1 → s = 1) ∧ a + s * (c - 1) ≤ 1000000000
  · rw [if_pos h, decide_eq_true h]; rfl
  · rw [if_neg h, decide_eq_false h]; rfl
theorem log2_sub {c : Int} (h : c.natAbs.log2 < 1920) : (c - 1).natAbs.log2 < 2000 := by
  have h1 : c.natAbs < 2 ^ 1920 := by
    by_cases z : c.natAbs = 0
    · rw [z]; exact Nat.two_pow_pos _
    · exact (Nat.log2_lt z).mp h
  by_cases z : (c - 1).natAbs = 0
  · rw [z]; decide
  · refine (Nat.log2_lt z).mpr ?_
    have h2 : (2 : Nat) ^ 1920 + 1 ≤ 2 ^ 2000 := by
      have : (2 : Nat) ^ 1921 ≤ 2 ^ 2000 := Nat.pow_le_pow_right (by decide) (by decide)
      have e : (2 : Nat) ^ 1921 = 2 ^ 1920 * 2 := Nat.pow_succ ..
      have p : 0 < (2 : Nat) ^ 1920 := Nat.two_pow_pos _
      omega
    omega
theorem run_mulW {a s c : Int} (h : (PyData.tuple [.int a, .int s, .int c]).showable = true) : CMulW s (c - 1) := by
  simp only [PyData.showable, PyData.showableAll, Bool.and_true, Bool.and_eq_true, decide_eq_true_eq] at h
  have := log2_sub h.2.2
  unfold CMulW
  omega
theorem show_get : ∀ {ds : List PyData} {i : Nat} {d : PyData}, PyData.showableAll ds = true → ds[i]? = some d → d.showable = true
  | [], _, _, _, e => by simp at e
  | x :: r, 0, d, h, e => by
    simp only [PyData.showableAll, Bool.and_eq_true] at h
    simp at e; rw [← e]; exact h.1
  | x :: r, i + 1, d, h, e => by
    simp only [PyData.showableAll, Bool.and_eq_true] at h
    exact show_get h.2 (by simpa using e)
def sp_last (K : PySem.W.Frag) : Sp := fun vs H Q _ => ∃ (t : Addr) (a s c : Int), vs = [.ref t] ∧ SqT K H t [.int a, .int s, .int c] ∧ CMulW s (c - 1) ∧ Q (.int (a + s * (c - 1))) H
def sp_boolS (K : PySem.W.Frag) (F : PyData → Bool) : Sp := fun vs H Q _ => ∃ v d, vs = [v] ∧ Dq K H v d ∧ d.showable = true ∧ ∀ H', Same H H' → Q (.bl (F d)) H'
def sp_errS (K : PySem.W.Frag) (F : PyData → PyData) : Sp := fun vs H Q _ => ∃ v d, vs = [v] ∧ Dq K H v d ∧ d.showable = true ∧ ∀ r H', Same H H' → Flat K H H' r (F d) → Q r H'
def lampB (d : PyData) : Bool := match d with | .tuple [k, s] => (["hold", "pulse"] : List Str).any (strIs k) && inW 1 1000000000 s | _ => false
theorem motGo_sm : ∀ (ds : List PyData) (i : Nat) (b : Int), i + ds.length ≤ 360 → Sm 60 1 (motGo ds i b)
  | [], _, _, _ => show Sm 60 1 .none from sm_chk (by decide +kernel)
  | d :: r, i, b, h => by
    simp only [List.length_cons] at h
    simp only [motGo]
    split
    · exact two_sm (by omega) _ (sm_chk (by decide +kernel))
    · split
      · exact two_sm (by omega) _ (sm_chk (by decide +kernel))
      · exact motGo_sm r (i + 1) _ (by omega)
theorem motErr_sm (d : PyData) : Sm 60 1 (motErr d) := by
  have e0 : Sm 60 1 (two .none (.str "motions")) := sm_chk (by decide +kernel)
  unfold motErr
  split
  · split
    · exact e0
    · exact motGo_sm _ _ _ (by omega)
  · exact e0
end Lm

namespace Lm
open PySem PySem.Spec PyProof.Rows L2
def sp_lamp (K : PySem.W.Frag) : Sp := fun vs H Q _ => ∃ (Z : Hp) (p dl al : Addr) (g : Int), vs = [.ref p, .int g] ∧ PotAt Z H p dl al ∧ 1 ≤ g ∧ g ≤ 1000000000 ∧
  ∀ (x : V) (H' : Hp), PotAt Z H' p dl al → Kp Z p dl H H' → TpR K 2 2 (DR K (Sm 30 1)) x (hid Z p dl H') → Q x H'
def sp_far (K : PySem.W.Frag) : Sp := fun vs H Q _ => ∃ (Z : Hp) (p dl al : Addr) (u : Int), vs = [.ref p, .int u] ∧ PotAt Z H p dl al ∧ 0 ≤ u ∧ u ≤ 40 ∧
  ∀ (x : V) (H' : Hp), PotAt Z H' p dl al → Kp Z p dl H H' → TpR K 0 40 (TpR K 3 3 (IR 0 2000000000)) x (hid Z p dl H') → Q x H'
def sp_spoiltR (K : PySem.W.Frag) : Sp := fun vs H Q _ => ∃ (Z : Hp) (p dl al : Addr) (v : V), vs = [.ref p, v] ∧ PotAt Z H p dl al ∧ TpR K 0 40 (TpR K 3 3 (IR 0 2000000000)) v (hid Z p dl H) ∧
  ∀ (x : V) (H' : Hp), PotAt Z H' p dl al → Kp Z p dl H H' → DR K (Sm 53122 5) x (hid Z p dl H') → Q x H'
section
variable {K : PySem.W.Frag} {Z : Hp} {p dl al : Addr} {H0 : Hp} {σ : L2.St} {te : TE} {R : VR}
theorem ev_iw {a b c d : Int} (h : Ev Z p dl al H0 σ te (IR a b)) (h1 : c ≤ a := by decide) (h2 : b ≤ d := by decide) : Ev Z p dl al H0 σ te (IR c d) := h.wide h1 h2
theorem ev_ivar {i : Nat} {g lo hi : Int} (e : σ[i]? = some (some (.int g))) (h0 : lo ≤ g) (h1 : g ≤ hi) : Ev Z p dl al H0 σ (tVar i) (IR lo hi) := ev_var e IR.mo ⟨g, rfl, h0, h1⟩
theorem ev_drawC {i : Nat} {n : Int} (e : σ[i]? = some (some (.ref p))) (h0 : 1 ≤ n := by decide) (h1 : n < 1073741824 := by decide) : Ev Z p dl al H0 σ (tCall sp_draw [] E0 (tCons (tVar i) (tCons (tC (.int n)) tNil))) (IR 0 (n - 1)) :=
  ev_draw (b := n) e h1 (ev_int.wide h0 (Int.le_refl _))
theorem ev_drawP {i : Nat} {a : Int} {j : Int} (c : CPow a j) (e : σ[i]? = some (some (.ref p))) (h0 : 1 ≤ a ^ j.toNat := by decide) (h1 : a ^ j.toNat < 1073741824 := by decide) :
    Ev Z p dl al H0 σ (tCall sp_draw [] E0 (tCons (tVar i) (tCons (tOp (rI CPow fun i j => .int (i ^ j.toNat)) (tC (.int a)) (tC (.int j))) tNil))) (IR 0 (a ^ j.toNat - 1)) :=
  ev_draw (b := a ^ j.toNat) e h1 ((ev_pow c).wide h0 (Int.le_refl _))
theorem ei_cons {lo hi : Int} {tl : TA} {a b : Nat} {c d : Int} (h1 : Ev Z p dl al H0 σ te (IR c d)) (h2 : EvA Z p dl al H0 σ tl (AllR a b (IR lo hi))) (h3 : lo ≤ c := by decide) (h4 : d ≤ hi := by decide) : EvA Z p dl al H0 σ (tCons te tl) (AllR (a + 1) (b + 1) (IR lo hi)) :=
  eall_cons IR.mo (h1.wide h3 h4) h2
end
/-- one more thing at the end of a list that stands apart -/
theorem app_any {K : PySem.W.Frag} {Z : Hp} {p dl al f : Addr} {H H3 : Hp} {xs : List V} {v : V} {m n : Nat} {R : VR} (hR2 : ∀ v G G', R v G → R v G') (P : PotAt Z H p dl al) (nf : H f = none) (P3 : PotAt Z H3 p dl al) (k3 : Kp Z p dl H H3)
    (hf : H3 f = some (.lst xs)) (hx : ∀ x ∈ xs, TpR K m n R x (hid Z p dl H3)) (hv : TpR K m n R v (hid Z p dl H3)) :
    let H4 := upd H3 f (.lst (xs ++ [v]))
    PotAt Z H4 p dl al ∧ Kp Z p dl H H4 ∧ H4 f = some (.lst (xs ++ [v])) ∧ ∀ x ∈ xs ++ [v], TpR K m n R x (hid Z p dl H4) := by
  intro H4
  have f1 := P.free nf
  have f2 := P.freeA nf
  refine ⟨P3.upd f1.1 f1.2.1 f2 f1.2.2, Kp.upd_new (ne_of_new nf) k3, upd_same, ?_⟩
  have tk : ∀ b o, hid Z p dl H3 b = some o → (∀ l, o ≠ .lst l) → hid Z p dl H4 b = some o := fun b o e no => by
    have n := hid_some e
    rw [hid_at n.1 n.2] at e ⊢
    have cf : b ≠ f := fun z => by rw [z, hf] at e; cases e; exact no _ rfl
    show upd H3 f _ b = _
    rw [upd_ne cf]
    exact e
  have one : ∀ x, TpR K m n R x (hid Z p dl H3) → TpR K m n R x (hid Z p dl H4) := fun x ⟨a, ys, e, g, l1, l2, l3⟩ => by
    refine ⟨a, ys, e, ?_, l1, l2, fun y hy => hR2 _ _ _ (l3 y hy)⟩
    rcases g with (g | ⟨o, g⟩) | g
    · exact .inl (.inl (tk _ _ g fun l z => nomatch z))
    · exact .inl (.inr ⟨o, tk _ _ g fun l z => nomatch z⟩)
    · exact .inr g
  intro x hx'
  rcases List.mem_append.mp hx' with e | e
  · exact one x (hx x e)
  · rw [List.mem_singleton.mp e]; exact one v hv
theorem far_step {m st x : Int} (h0 : 0 ≤ m) (h1 : 1 ≤ st) (h2 : 0 ≤ x) : 0 ≤ (if x < m.fdiv st then x else m.fdiv st) ∧ (if x < m.fdiv st then x else m.fdiv st) ≤ m ∧ 0 ≤ st * (if x < m.fdiv st then x else m.fdiv st) ∧ st * (if x < m.fdiv st then x else m.fdiv st) ≤ m := by
  have e : m.fdiv st = m / st := Int.fdiv_eq_ediv_of_nonneg _ (by omega)
  rw [e]
  have q0 : 0 ≤ m / st := Int.ediv_nonneg h0 (by omega)
  have q1 : st * (m / st) ≤ m := Int.mul_ediv_self_le (by omega)
  generalize m / st = q at q0 q1
  have k : ∀ y : Int, 0 ≤ y → y ≤ q → 0 ≤ y ∧ y ≤ m ∧ 0 ≤ st * y ∧ st * y ≤ m := fun y y0 y1 => by
    have a1 : st * y ≤ st * q := Int.mul_le_mul_of_nonneg_left y1 (by omega)
    have a2 : 1 * y ≤ st * y := Int.mul_le_mul_of_nonneg_right h1 y0
    have a3 : 0 ≤ st * y := Int.mul_nonneg (by omega) y0
    omega
  by_cases g : x < q
  · rw [if_pos g]; exact k x h2 (by omega)
  · rw [if_neg g]; exact k q q0 (Int.le_refl _)
theorem s_par3 {D : Ends} {σ : L2.St} {H : Hp} {ta : TA} {t : TS} {i j l : Nat} (h : ta σ H fun vs H1 => ∃ u v w, vs = [u, v, w] ∧ t D (((σ.set i (some u)).set j (some v)).set l (some w)) H1) : tSeq (tPar3 i j l ta) t D σ H := h
theorem ev_ifGt {Z : Hp} {p dl al : Addr} {H0 : Hp} {σ : L2.St} {ta tb : TE} {R : VR} {i : Nat} {c : Int} (e : σ[i]? = some (some (.int c))) (h1 : Ev Z p dl al H0 σ ta R) (h2 : Ev Z p dl al H0 σ tb R) :
    Ev Z p dl al H0 σ (tIf (tTest (tOp (rI0 fun i j => .bl (decide (j < i))) (tVar i) (tC (.int 1)))) ta tb) R :=
  fun H Q P k q => ⟨_, e, c, 1, rfl, rfl, _, rfl, ite2 (fun _ => h1 H Q P k q) (fun _ => h2 H Q P k q)⟩
theorem tri_data {K : PySem.W.Frag} {v : V} {G : Hp} (h : TpR K 3 3 (IR 0 2000000000) v G) : DR K (Sm 48 1) v G := h.data (n := 13) (k := 0) fun x hx => ir_data hx (by decide) (by decide)
theorem three_of {xs : List V} (h1 : 3 ≤ xs.length) (h2 : xs.length ≤ 3) : ∃ x y z, xs = [x, y, z] := by
  match xs, h1, h2 with
  | [x, y, z], _, _ => exact ⟨x, y, z, rfl⟩
def tD (q : Int × Int × Int) : PyData := .tuple [.int q.1, .int q.2.1, .int q.2.2]
theorem runs_dp {K : PySem.W.Frag} {G : Hp} {lo hi : Int} : ∀ {xs : List V}, (∀ x ∈ xs, TpR K 3 3 (IR lo hi) x G) → ∃ ts : List (Int × Int × Int), DpAll K G xs (ts.map tD) ∧ ts.length = xs.length
  | [], _ => ⟨[], .nil, rfl⟩
  | x :: r, h => by
    obtain ⟨ts, h1, h2⟩ := runs_dp (xs := r) fun y hy => h y (List.mem_cons_of_mem _ hy)
    obtain ⟨a, ys, rfl, g, l1, l2, l3⟩ := h x List.mem_cons_self
    obtain ⟨y0, y1, y2, rfl⟩ := three_of l1 l2
    obtain ⟨i, rfl, _⟩ := l3 y0 (by simp)
    obtain ⟨j, rfl, _⟩ := l3 y1 (by simp)
    obtain ⟨k, rfl, _⟩ := l3 y2 (by simp)
    exact ⟨(i, j, k) :: ts, .cons (.tup g (.cons (.int i) (.cons (.int j) (.cons (.int k) .nil)))) h1, by rw [List.length_cons, List.length_cons, h2]⟩
theorem tD_lay : ∀ ps : List (Int × Int × Int), PyData.canLayAll0 (ps.map tD) = true
  | [] => by simp [PyData.canLayAll0]
  | q :: r => by
    simp only [List.map_cons, PyData.canLayAll0, tD_lay r, Bool.and_true]
    simp [tD, PyData.canLay0, PyData.canLayAll0]
theorem tD_depth : ∀ ps : List (Int × Int × Int), PyData.depthAll (ps.map tD) ≤ 1
  | [] => by simp [PyData.depthAll]
  | q :: r => by
    simp only [List.map_cons, PyData.depthAll]
    refine Nat.max_le.mpr ⟨?_, tD_depth r⟩
    simp [tD, PyData.depth, PyData.depthAll]
theorem tD_shaped (ps : List (Int × Int × Int)) : SeqAt.shaped (.tuple (ps.map tD)) = true := by
  unfold SeqAt.shaped
  simp only [PyData.canLay0, tD_lay, PyData.depth, Bool.true_and]
  exact decide_eq_true (Nat.le_trans (Nat.succ_le_succ (tD_depth ps)) (show 2 ≤ 64 by decide))
theorem tD_eqv (ps : List (Int × Int × Int)) : PyData.eqv (.tuple (ps.map tD)) (.tuple []) = ps.isEmpty := by
  cases ps <;> simp [PyData.eqv, PyData.eqvAll]
end Lm

namespace Lm
open PySem PySem.Spec PyProof.Rows L2
theorem s_lst {K : PySem.W.Frag} {D : Ends} {σ : L2.St} {H : Hp} {te : TE} {g : TG} {tb u : TS} (h : te σ H (LstGo K g tb { D with nx := u D } σ)) : tSeq (tFor (iList K te) g tb) u D σ H := h
theorem app_three {K : PySem.W.Frag} {φ : PyData → Prop} {Z : Hp} {p dl al L w u : Addr} {H : Hp} {vs : List V} {i j k : Int} (P : PotAt Z H p dl al) (nL : H L = none) (nw : (upd H L (.lst vs)) w = none) (nu : (upd (upd H L (.lst vs)) w (.tup [.int i, .int j, .int k])) u = none)
    (hv : ∀ x ∈ vs, DR K φ x (hid Z p dl H)) (h0 : φ (.tuple [.tuple [.int i, .int j, .int k]])) :
    let H4 := upd (upd (upd (upd H L (.lst vs)) w (.tup [.int i, .int j, .int k])) u (.tup [.ref w])) L (.lst (vs ++ [.ref u]))
    PotAt Z H4 p dl al ∧ Kp Z p dl H H4 ∧ hid Z p dl H4 L = some (.lst (vs ++ [.ref u])) ∧ ∀ x ∈ vs ++ [.ref u], DR K φ x (hid Z p dl H4) := by
  intro H4
  have P1 := P.new (o := .lst vs) nL
  have P2 := P1.new (o := .tup [.int i, .int j, .int k]) nw
  have P3 := P2.new (o := .tup [.ref w]) nu
  have fL := P.free nL
  have fA := P.freeA nL
  have fw := P1.free nw
  have fu := P2.free nu
  have wL : w ≠ L := fun e => by rw [e, upd_same] at nw; cases nw
  have uw : u ≠ w := fun e => by rw [e, upd_same] at nu; cases nu
  have uL : u ≠ L := fun e => by rw [e, upd_ne wL.symm, upd_same] at nu; cases nu
  have k4 : Kp Z p dl H H4 := Kp.upd_new (ne_of_new nL) ((Kp.new nL).trans ((Kp.new nw).trans (Kp.new nu)))
  refine ⟨P3.upd fL.1 fL.2.1 fA fL.2.2, k4, hid_upd fL.1 fL.2, fun x hx => ?_⟩
  rcases List.mem_append.mp hx with e | e
  · exact DR.mo _ _ _ k4 (hv x e)
  · rw [List.mem_singleton.mp e]
    have e1 : hid Z p dl H4 u = some (.tup [.ref w]) := by
      rw [hid_at fu.1 fu.2]
      show upd (upd (upd (upd H L _) w _) u _) L _ u = _
      rw [upd_ne uL, upd_same]
    have e2 : hid Z p dl H4 w = some (.tup [.int i, .int j, .int k]) := by
      rw [hid_at fw.1 fw.2]
      show upd (upd (upd (upd H L _) w _) u _) L _ w = _
      rw [upd_ne wL, upd_ne uw.symm, upd_same]
    exact ⟨_, .tup (.inl (.inl e1)) (.cons (.tup (.inl (.inl e2)) (.cons (.int i) (.cons (.int j) (.cons (.int k) .nil)))) .nil), h0⟩
theorem tri_at {K : PySem.W.Frag} {Z : Hp} {p dl t : Addr} {H : Hp} {i j k : Int} (e : hid Z p dl H t = some (.tup [.int i, .int j, .int k])) (h : (0 ≤ i ∧ i ≤ 2000000000) ∧ (0 ≤ j ∧ j ≤ 2000000000) ∧ (0 ≤ k ∧ k ≤ 2000000000)) : TpR K 3 3 (IR 0 2000000000) (.ref t) (hid Z p dl H) := by
  refine ⟨t, _, rfl, .inl (.inl e), Nat.le_refl 3, Nat.le_refl 3, fun x hx => ?_⟩
  simp only [List.mem_cons, List.not_mem_nil, or_false] at hx
  rcases hx with e | e | e
  · exact ⟨_, e, h.1⟩
  · exact ⟨_, e, h.2.1⟩
  · exact ⟨_, e, h.2.2⟩
theorem ev_spoiltR {K : PySem.W.Frag} {Z : Hp} {p dl al : Addr} {H0 : Hp} {σ : L2.St} {i j : Nat} {v : V} (e : σ[i]? = some (some (.ref p))) (ej : σ[j]? = some (some v)) (hv : TpR K 0 40 (TpR K 3 3 (IR 0 2000000000)) v (hid Z p dl H0)) : Ev Z p dl al H0 σ (tCall (sp_spoiltR K) [] E0 (tCons (tVar i) (tCons (tVar j) tNil))) (DR K (Sm 53122 5)) :=
  fun H Q P k q => ⟨_, e, _, ej, Z, p, dl, al, v, rfl, P, TpR.mo (TpR.mo IR.mo) _ _ _ k hv, fun x H' P' k' r => q x H' P' k' r⟩
theorem s_nxe {D : Ends} {t u : TS} {σ : L2.St} {H : Hp} {i : Nat} {v : V} {a b c} (h : tSeq t u D (σ.set i (some v)) H) : gName i v σ H (Ends.nx { nx := tSeq t u D, rt := a, bk := b, ct := c }) := h
theorem bool_fine (b : Bool) : Fine (.bool b) := by cases b <;> exact (sm_chk (n := 5) (k := 0) (by decide +kernel)).fine (by decide) (by decide)
end Lm

namespace Lg
open PySem PySem.Spec PyProof.Rows L2 Lm
/-! ### a source of numbers: what must stand while b more draws are left; whose addresses -/
structure Src where
  at_ : Nat → Hp → Prop
  own : Addr → Prop
  frame : ∀ {b : Nat} {H H' : Hp}, (∀ a, own a → H' a = H a) → at_ b H → at_ b H'
  less : ∀ {b c : Nat} {H : Hp}, c ≤ b → at_ b H → at_ c H
  full : ∀ {b : Nat} {H : Hp} {q : Addr}, at_ b H → own q → H q ≠ none
open Classical in
noncomputable def cut (N : Addr → Prop) (H : Hp) : Hp := fun a => if N a then none else H a
def Occ (N : Addr → Prop) (H : Hp) : Prop := ∀ a, N a → H a ≠ none
abbrev NZ (S : Src) (Z : Hp) : Addr → Prop := fun a => S.own a ∨ Z a ≠ none
noncomputable abbrev hid (S : Src) (Z H : Hp) : Hp := cut (NZ S Z) H
section
variable {N N' : Addr → Prop} {H H' : Hp} {a q f : Addr} {o : HO}
theorem cut_at (h : ¬ N a) : cut N H a = H a := if_neg h
theorem cut_some (e : cut N H a = some o) : ¬ N a ∧ H a = some o := by
  unfold cut at e
  split at e
  · cases e
  · rename_i z
    exact ⟨z, e⟩
theorem cut_same : Same (cut N H) H := fun b o e => (cut_some e).2
theorem cut_mono (s : Same H H') : Same (cut N H) (cut N H') := fun b o e => by
  have n := cut_some e
  rw [cut_at n.1]
  exact s _ _ n.2
theorem cut_le (h : ∀ a, N a → N' a) : Same (cut N' H) (cut N H) := fun b o e => by
  have n := cut_some e
  rw [cut_at fun z => n.1 (h _ z)]
  exact n.2
theorem cut_upd (h : N f) : cut N (upd H f o) = cut N H := by
  funext b
  by_cases z : N b
  · unfold cut; rw [if_pos z, if_pos z]
  · rw [cut_at z, cut_at z, upd_ne (show b ≠ f from fun e => z (by rw [e]; exact h))]
theorem cut_new (O : Occ N H) (n : H q = none) : cut N (upd H q o) q = some o := by rw [cut_at fun z => O q z n, upd_same]
theorem Occ.keep (O : Occ N H) (s : Same H H') : Occ N H' := fun a h => by
  cases e : H a with
  | none => exact absurd e (O a h)
  | some o => rw [s _ _ e]; exact fun z => nomatch z
theorem Occ.more (O : Occ N H) (e : H f ≠ none) : Occ (fun a => N a ∨ a = f) H := fun a h => h.elim (O a) fun z => z ▸ e
theorem Occ.upd (O : Occ N H) : Occ N (upd H f o) := fun a h => by
  by_cases e : a = f
  · rw [e, upd_same]; exact fun z => nomatch z
  · rw [upd_ne e]; exact O a h
theorem occ_none : Occ (fun _ => False) H := fun a h => h.elim
theorem cut_none : cut (fun _ => False) H = H := by funext b; exact if_neg fun z => z
end
structure Iv (S : Src) (Z : Hp) (b : Nat) (H : Hp) : Prop where
  src : S.at_ b H
  zz : Same Z H
  zo : ∀ a, S.own a → Z a = none
def Off (S : Src) (Z : Hp) (a : Addr) : Prop := ¬ S.own a ∧ Z a = none
def Kp (S : Src) (Z H H' : Hp) : Prop := Same (hid S Z H) (hid S Z H')
section
variable {S : Src} {Z H H' H1 H2 : Hp} {b c : Nat} {q D a : Addr} {o o' o2 : HO}
theorem hid_at (h : Off S Z a) : hid S Z H a = H a := if_neg (fun z => z.elim h.1 (fun z => z h.2))
theorem hid_same : Same (hid S Z H) H := cut_same
theorem hid_some (e : hid S Z H a = some o) : Off S Z a := ⟨fun q => (cut_some e).1 (.inl q), Classical.byContradiction fun q => (cut_some e).1 (.inr q)⟩
theorem Iv.occ (P : Iv S Z b H) : Occ (NZ S Z) H := fun a h => h.elim (S.full P.src) fun z => by
  cases e : Z a with
  | none => exact absurd e z
  | some o => rw [P.zz _ _ e]; exact fun z => nomatch z
theorem Kp.refl : Kp S Z H H := Same.refl _
theorem Kp.trans (a : Kp S Z H H1) (b : Kp S Z H1 H2) : Kp S Z H H2 := Same.trans a b
theorem Kp.of (s : Same H H') : Kp S Z H H' := by
  intro b o e
  have n := hid_some e
  rw [hid_at n] at e ⊢
  exact s b o e
theorem same_new (h : H q = none) : Same H (upd H q o) := fun b x e => by
  rw [upd_ne (ne_of_none e h)]
  exact e
theorem Kp.new (h : H q = none) : Kp S Z H (upd H q o) := Kp.of (same_new h)
theorem Src.keep {b : Nat} (S : Src) (s : Same H H') (h : S.at_ b H) : S.at_ b H' := S.frame (fun a ha => by
  cases e : H a with
  | none => exact absurd e (S.full h ha)
  | some o => exact s _ _ e) h
theorem Iv.keep (P : Iv S Z b H) (s : Same H H') : Iv S Z b H' := ⟨S.keep s P.src, P.zz.trans s, P.zo⟩
theorem Iv.less (P : Iv S Z b H) (h : c ≤ b) : Iv S Z c H := ⟨S.less h P.src, P.zz, P.zo⟩
theorem Iv.new (P : Iv S Z b H) (n : H q = none) : Iv S Z b (upd H q o) := P.keep (same_new n)
theorem Iv.free (P : Iv S Z b H) (n : H q = none) : Off S Z q := ⟨fun z => S.full P.src z n, by
  cases e : Z q with
  | none => rfl
  | some o => rw [P.zz _ _ e] at n; cases n⟩
theorem zz_upd (h : Same Z H) (n : Z q = none) : Same Z (upd H q o) := fun b x e => by
  rw [upd_ne (ne_of_none e n)]
  exact h b x e
theorem Iv.upd (P : Iv S Z b H) (h : Off S Z q) : Iv S Z b (L2.upd H q o) := ⟨S.frame (fun a ha => upd_ne fun e => h.1 (e ▸ ha)) P.src, zz_upd P.zz h.2, P.zo⟩
theorem Iv.hide (P : Iv S Z b H) (e : H D = some o) (h : ¬ S.own D) : Iv S (L2.upd Z D o) b H := ⟨P.src, fun b x z => by
    by_cases q : b = D
    · rw [q, upd_same] at z
      rw [q, e]; exact z
    · rw [upd_ne q] at z
      exact P.zz b x z, fun a ha => by rw [upd_ne (show a ≠ D from fun e => h (by rw [← e]; exact ha))]; exact P.zo a ha⟩
theorem Iv.bare (P : Iv S (L2.upd Z D o) b H) (n : Z D = none) : Iv S Z b H := ⟨P.src, fun b x z => P.zz b x (by rw [upd_ne (ne_of_none z n)]; exact z), fun a ha => by
  have := P.zo a ha
  by_cases e : a = D
  · rw [e, upd_same] at this; cases this
  · rw [upd_ne e] at this; exact this⟩
theorem hid_new (P : Iv S Z b H) (n : H q = none) : hid S Z (L2.upd H q o) q = some o := by rw [hid_at (P.free n), upd_same]
theorem hid_upd (h : Off S Z q) : hid S Z (L2.upd H q o) q = some o := by rw [hid_at h, upd_same]
theorem hid_get (h : Off S Z a) (e : H a = some o) : hid S Z H a = some o := by rw [hid_at h]; exact e
theorem laid (P : Iv S Z b H) (n : H q = none) : Iv S Z b (L2.upd H q o) ∧ Kp S Z H (L2.upd H q o) ∧ hid S Z (L2.upd H q o) q = some o := ⟨P.new n, Kp.new n, hid_new P n⟩
theorem off_hide (h : Off S (L2.upd Z D o) a) : a ≠ D ∧ Off S Z a := by
  have q : a ≠ D := fun q => by have := h.2; rw [q, upd_same] at this; cases this
  exact ⟨q, h.1, by have := h.2; rw [upd_ne q] at this; exact this⟩
theorem hid_hide : Same (hid S (L2.upd Z D o) H) (hid S Z H) := fun b x e => by
  have n := hid_some e
  rw [hid_at n] at e
  rw [hid_at (off_hide n).2]
  exact e
theorem hid_swap : Same (hid S (L2.upd Z D o) H) (hid S (L2.upd Z D o') (L2.upd H D o2)) := fun b x e => by
  have n := hid_some e
  rw [hid_at n] at e
  have m := off_hide n
  rw [hid_at ⟨n.1, by rw [upd_ne m.1]; exact m.2.2⟩, upd_ne m.1]
  exact e
theorem hid_new2 (n : H D = none) : Same (hid S Z H) (hid S (L2.upd Z D o) (L2.upd H D o2)) := fun b x e => by
  have m := hid_some e
  rw [hid_at m] at e
  have q : b ≠ D := ne_of_none e n
  rw [hid_at ⟨m.1, by rw [upd_ne q]; exact m.2⟩, upd_ne q]
  exact e
theorem ne_of_new (n : H q = none) : ∀ b, H b ≠ none → b ≠ q := fun b h e => h (by rw [e]; exact n)
theorem Kp.upd_new (P : ∀ b, H b ≠ none → b ≠ q) (k : Kp S Z H H1) : Kp S Z H (L2.upd H1 q o) := fun b u e => by
  have n := hid_some e
  have e1 := k b u e
  rw [hid_at n] at e1 ⊢
  rw [upd_ne]
  · exact e1
  · refine P b ?_
    rw [hid_at n] at e
    rw [e]
    exact fun z => nomatch z
end
/-- a def without draws: what it gives is a function of the data that it gets -/
def sp_fn (K : PySem.W.Frag) (P : List PyData → Prop) (F : List PyData → PyData) : Sp := fun vs H Q _ => ∃ (N : Addr → Prop) (ds : List PyData), Occ N H ∧ Dqs K (cut N H) vs ds ∧ P ds ∧ ∀ r H', Same H H' → Dq K (cut N H') r (F ds) → Q r H'
/-! ### what an expression gives -/
def Ev (S : Src) (Z : Hp) (n : Nat) (H0 : Hp) (σ : L2.St) (te : TE) (R : VR) : Prop :=
  ∀ (H : Hp) (b : Nat) (Q : VK), Iv S Z (n + b) H → Kp S Z H0 H → (∀ v H', Iv S Z b H' → Kp S Z H H' → R v (hid S Z H') → Q v H') → te σ H Q
def EvA (S : Src) (Z : Hp) (n : Nat) (H0 : Hp) (σ : L2.St) (ta : TA) (R : LR) : Prop :=
  ∀ (H : Hp) (b : Nat) (Q : List V → Hp → Prop), Iv S Z (n + b) H → Kp S Z H0 H → (∀ v H', Iv S Z b H' → Kp S Z H H' → R v (hid S Z H') → Q v H') → ta σ H Q
section
variable {K : PySem.W.Frag} {S : Src} {Z : Hp} {H0 : Hp} {σ : L2.St} {te ta tb ti : TE} {tl : TA} {R R' R1 R2 : VR} {Rs Rt : LR} {n m n1 n2 : Nat}
theorem Ev.run (h : Ev S Z n H0 σ te R) {B b : Nat} {Q : VK} (P : Iv S Z B H0) (hb : n + b ≤ B) (q : ∀ v H', Iv S Z b H' → Kp S Z H0 H' → R v (hid S Z H') → Q v H') : te σ H0 Q := h H0 b Q (P.less hb) Kp.refl q
theorem EvA.run (h : EvA S Z n H0 σ tl Rs) {B b : Nat} {Q : List V → Hp → Prop} (P : Iv S Z B H0) (hb : n + b ≤ B) (q : ∀ v H', Iv S Z b H' → Kp S Z H0 H' → Rs v (hid S Z H') → Q v H') : tl σ H0 Q := h H0 b Q (P.less hb) Kp.refl q
theorem Ev.imp (h : Ev S Z n H0 σ te R) (i : ∀ v G, R v G → R' v G) : Ev S Z n H0 σ te R' := fun H b Q P k q => h H b Q P k fun v H' P' k' r => q v H' P' k' (i _ _ r)
theorem EvA.imp (h : EvA S Z n H0 σ tl Rs) (i : ∀ v G, Rs v G → Rt v G) : EvA S Z n H0 σ tl Rt := fun H b Q P k q => h H b Q P k fun v H' P' k' r => q v H' P' k' (i _ _ r)
theorem Ev.cost (h : Ev S Z n H0 σ te R) (i : n ≤ m) : Ev S Z m H0 σ te R := fun H b Q P k q => h H b Q (P.less (by omega)) k q
theorem ev_c {v : V} : Ev S Z 0 H0 σ (tC v) (fun u _ => u = v) := fun H b Q P k q => q v H (P.less (by omega)) Kp.refl rfl
theorem ev_var {i : Nat} {v : V} (e : σ[i]? = some (some v)) (m : Mo R) (h : R v (hid S Z H0)) : Ev S Z 0 H0 σ (tVar i) R := fun H b Q P k q => ⟨v, e, q v H (P.less (by omega)) Kp.refl (m _ _ _ k h)⟩
theorem eva_nil : EvA S Z 0 H0 σ tNil (fun vs _ => vs = []) := fun H b Q P k q => q [] H (P.less (by omega)) Kp.refl rfl
theorem eva_cons (mo : Mo R) (h1 : Ev S Z n1 H0 σ te R) (h2 : EvA S Z n2 H0 σ tl Rs) : EvA S Z (n1 + n2) H0 σ (tCons te tl) (fun vs G => ∃ v r, vs = v :: r ∧ R v G ∧ Rs r G) :=
  fun H b Q P k q => h1 H (n2 + b) _ (P.less (by omega)) k fun v H1 P1 k1 r1 => h2 H1 b _ P1 (k.trans k1) fun vs H2 P2 k2 r2 => q _ H2 P2 (k1.trans k2) ⟨v, vs, rfl, mo _ _ _ k2 r1, r2⟩
theorem eva_pair (m1 : Mo R1) (m2 : Mo R2) (h1 : Ev S Z n1 H0 σ ta R1) (h2 : Ev S Z n2 H0 σ tb R2) : EvA S Z (n1 + (n2 + 0)) H0 σ (tCons ta (tCons tb tNil)) (fun vs G => ∃ v w, vs = [v, w] ∧ R1 v G ∧ R2 w G) :=
  (eva_cons m1 h1 (eva_cons m2 h2 eva_nil)).imp fun vs G ⟨v, r, e, r1, w, r', e', r2, e2⟩ => ⟨v, w, by rw [e, e', e2], r1, r2⟩
theorem eall_nil : EvA S Z 0 H0 σ tNil (AllR 0 0 R) := fun H b Q P k q => q [] H (P.less (by omega)) Kp.refl ⟨Nat.le_refl _, Nat.le_refl _, fun v h => nomatch h⟩
theorem eall_cons {a b : Nat} (m : Mo R) (h1 : Ev S Z n1 H0 σ te R) (h2 : EvA S Z n2 H0 σ tl (AllR a b R)) : EvA S Z (n1 + n2) H0 σ (tCons te tl) (AllR (a + 1) (b + 1) R) :=
  (eva_cons m h1 h2).imp fun vs G h => by
    obtain ⟨v, r, rfl, hv, h1, h2, h3⟩ := h
    refine ⟨Nat.succ_le_succ h1, Nat.succ_le_succ h2, fun x hx => ?_⟩
    rcases List.mem_cons.mp hx with e | e
    · rw [e]; exact hv
    · exact h3 x e
theorem ev_tup (h : EvA S Z n H0 σ tl Rs) (hl : ∀ vs G, Rs vs G → vs.length ≤ sizeLine) (m : MoL Rs) : Ev S Z n H0 σ (tTup tl) (fun v G => ∃ a xs, v = .ref a ∧ G a = some (.tup xs) ∧ Rs xs G) :=
  fun H b Q P k q => h H b _ P k fun vs H1 P1 k1 r1 => ⟨hl _ _ r1, fun t nt => by
    obtain ⟨P2, k2, e2⟩ := laid (o := .tup vs) P1 nt
    exact q _ _ P2 (k1.trans k2) ⟨t, vs, rfl, e2, m _ _ _ k2 r1⟩⟩
theorem ev_lst {m n' : Nat} (hn : n' ≤ 1000) (hm : Mo R) (h : EvA S Z n H0 σ tl (AllR m n' R)) : Ev S Z n H0 σ (tLst tl) (LsR m n' R) :=
  fun H b Q P k q => h H b _ P k fun vs H1 P1 k1 r1 => ⟨Nat.le_of_lt (small1000 (Nat.le_trans r1.2.1 hn)), fun t nt => by
    obtain ⟨P2, k2, e2⟩ := laid (o := .lst vs) P1 nt
    exact q _ _ P2 (k1.trans k2) ⟨t, vs, rfl, e2, AllR.mo hm _ _ _ k2 r1⟩⟩
theorem ev_tupR {m n' : Nat} (hn : n' ≤ 1000) (hm : Mo R) (h : EvA S Z n H0 σ tl (AllR m n' R)) : Ev S Z n H0 σ (tTup tl) (TpR K m n' R) :=
  (ev_tup h (fun vs G r => Nat.le_of_lt (small1000 (Nat.le_trans r.2.1 hn))) (AllR.mo hm)).imp fun v G ⟨a, xs, e, g, r⟩ => ⟨a, xs, e, .inl (.inl g), r⟩
theorem ev_cat {a b c d : Nat} (hn : b + d ≤ 1000) (hm : Mo R) (h1 : Ev S Z n1 H0 σ ta (LsR a b R)) (h2 : Ev S Z n2 H0 σ tb (LsR c d R)) : Ev S Z (n1 + n2) H0 σ (tOp rCat ta tb) (LsR (a + c) (b + d) R) :=
  fun H bb Q P k q => h1 H (n2 + bb) _ (P.less (by omega)) k fun x H1 P1 k1 r1 => h2 H1 bb _ P1 (k.trans k1) fun y H2 P2 k2 r2 => by
    obtain ⟨l, xs, rfl, g1, a1, a2, a3⟩ := LsR.mo hm _ _ _ k2 r1
    obtain ⟨l2, ys, rfl, g2, b1, b2, b3⟩ := r2
    refine ⟨l, l2, xs, ys, rfl, rfl, hid_same _ _ g1, hid_same _ _ g2, Nat.le_of_lt (small1000 (by omega)), fun t nt => ?_⟩
    obtain ⟨P3, k3, e3⟩ := laid (o := .lst (xs ++ ys)) P2 nt
    refine q _ _ P3 ((k1.trans k2).trans k3) ⟨t, _, rfl, e3, by rw [List.length_append]; omega, by rw [List.length_append]; omega, fun v hv => ?_⟩
    rcases List.mem_append.mp hv with e | e
    · exact hm _ _ _ k3 (a3 v e)
    · exact hm _ _ _ k3 (b3 v e)
theorem ev_catA {a b c d : Nat} (hn : b + d ≤ 1000) (hm : Mo R) (h1 : Ev S Z n1 H0 σ ta (TpR K a b R)) (h2 : Ev S Z n2 H0 σ tb (TpR K c d R)) : Ev S Z (n1 + n2) H0 σ (tOp (rCatA K) ta tb) (TpR K (a + c) (b + d) R) :=
  fun H bb Q P k q => h1 H (n2 + bb) _ (P.less (by omega)) k fun x H1 P1 k1 r1 => h2 H1 bb _ P1 (k.trans k1) fun y H2 P2 k2 r2 => by
    have r1' := TpR.mo hm _ _ _ k2 r1
    obtain ⟨l, xs, rfl, g1, a1, a2, a3⟩ := r1'
    obtain ⟨l2, ys, rfl, g2, b1, b2, b3⟩ := id r2
    refine ⟨l, l2, xs, ys, rfl, rfl, Same.seqT hid_same g1, Same.seqT hid_same g2, Nat.le_of_lt (small1000 (by omega)), fun z => ?_, fun z1 z2 => ?_, fun z1 z2 t nt => ?_⟩
    · subst z
      refine q _ _ P2 (k1.trans k2) ⟨l2, ys, rfl, g2, ?_, by omega, b3⟩
      simp only [List.length_nil] at a1; omega
    · subst z2
      refine q _ _ P2 (k1.trans k2) ⟨l, xs, rfl, g1, ?_, by omega, a3⟩
      simp only [List.length_nil] at b1; omega
    · obtain ⟨P3, k3, e3⟩ := laid (o := .tup (xs ++ ys)) P2 nt
      refine q _ _ P3 ((k1.trans k2).trans k3) ⟨t, _, rfl, .inl (.inl e3), by rw [List.length_append]; omega, by rw [List.length_append]; omega, fun v hv => ?_⟩
      rcases List.mem_append.mp hv with e | e
      · exact hm _ _ _ k3 (a3 v e)
      · exact hm _ _ _ k3 (b3 v e)
theorem ev_int {i : Int} : Ev S Z 0 H0 σ (tC (.int i)) (IR i i) := ev_c.imp fun v G e => ⟨i, e, Int.le_refl _, Int.le_refl _⟩
theorem ev_neg {i j : Int} (h : Ev S Z n H0 σ te (IR i j)) : Ev S Z n H0 σ (tUn (rU fun i => .int (-i)) te) (IR (-j) (-i)) :=
  fun H b Q P k q => h H b _ P k fun v H1 P1 k1 ⟨x, e, h1, h2⟩ => ⟨x, e, q _ _ P1 k1 ⟨-x, rfl, by omega, by omega⟩⟩
theorem ev_add {a b c d : Int} (h1 : Ev S Z n1 H0 σ ta (IR a b)) (h2 : Ev S Z n2 H0 σ tb (IR c d)) : Ev S Z (n1 + n2) H0 σ (tOp (rI0 fun i j => .int (i + j)) ta tb) (IR (a + c) (b + d)) :=
  fun H bb Q P k q => h1 H (n2 + bb) _ (P.less (by omega)) k fun x H1 P1 k1 ⟨i, e1, i1, i2⟩ => h2 H1 bb _ P1 (k.trans k1) fun y H2 P2 k2 ⟨j, e2, j1, j2⟩ => ⟨i, j, e1, e2, q _ _ P2 (k1.trans k2) ⟨i + j, rfl, by omega, by omega⟩⟩
theorem ev_sub {a b c d : Int} (h1 : Ev S Z n1 H0 σ ta (IR a b)) (h2 : Ev S Z n2 H0 σ tb (IR c d)) : Ev S Z (n1 + n2) H0 σ (tOp (rI0 fun i j => .int (i - j)) ta tb) (IR (a - d) (b - c)) :=
  fun H bb Q P k q => h1 H (n2 + bb) _ (P.less (by omega)) k fun x H1 P1 k1 ⟨i, e1, i1, i2⟩ => h2 H1 bb _ P1 (k.trans k1) fun y H2 P2 k2 ⟨j, e2, j1, j2⟩ => ⟨i, j, e1, e2, q _ _ P2 (k1.trans k2) ⟨i - j, rfl, by omega, by omega⟩⟩
theorem ev_mul {a b c d : Int} (ha : 0 ≤ a) (hb : b < 2 ^ 64) (hc : 0 ≤ c) (h1 : Ev S Z n1 H0 σ ta (IR a b)) (h2 : Ev S Z n2 H0 σ tb (IR c d)) : Ev S Z (n1 + n2) H0 σ (tOp (rI CMul fun i j => .int (i * j)) ta tb) (IR (a * c) (b * d)) :=
  fun H bb Q P k q => h1 H (n2 + bb) _ (P.less (by omega)) k fun x H1 P1 k1 ⟨i, e1, i1, i2⟩ => h2 H1 bb _ P1 (k.trans k1) fun y H2 P2 k2 ⟨j, e2, j1, j2⟩ => by
    refine ⟨i, j, e1, e2, .inl ⟨by omega, by omega⟩, q _ _ P2 (k1.trans k2) ⟨i * j, rfl, ?_, ?_⟩⟩
    · exact Int.mul_le_mul i1 j1 hc (Int.le_trans ha i1)
    · exact Int.mul_le_mul i2 j2 (Int.le_trans hc j1) (Int.le_trans ha (Int.le_trans i1 i2))
theorem ev_pow {i j : Int} (h : CPow i j) : Ev S Z 0 H0 σ (tOp (rI CPow fun i j => .int (i ^ j.toNat)) (tC (.int i)) (tC (.int j))) (IR (i ^ j.toNat) (i ^ j.toNat)) :=
  fun H b Q P k q => ⟨i, j, rfl, rfl, h, q _ _ (P.less (by omega)) Kp.refl ⟨_, rfl, Int.le_refl _, Int.le_refl _⟩⟩
theorem Ev.wide {a b c d : Int} (h : Ev S Z n H0 σ te (IR a b)) (h1 : c ≤ a := by decide) (h2 : b ≤ d := by decide) : Ev S Z n H0 σ te (IR c d) := h.imp fun v G ⟨i, e, i1, i2⟩ => ⟨i, e, by omega, by omega⟩
theorem Ev.isInt {a b : Int} (h : Ev S Z n H0 σ te (IR a b)) : Ev S Z n H0 σ te (fun v _ => ∃ i, v = .int i) := h.imp fun v G ⟨i, e, _⟩ => ⟨i, e⟩
theorem ev_ivar {i : Nat} {g lo hi : Int} (e : σ[i]? = some (some (.int g))) (h0 : lo ≤ g) (h1 : g ≤ hi) : Ev S Z 0 H0 σ (tVar i) (IR lo hi) := ev_var e IR.mo ⟨g, rfl, h0, h1⟩
theorem ev_ixT {m c : Nat} {lo up : Int} (hm : Mo R) (h : Ev S Z n1 H0 σ te (TpR K m c R)) (hi : Ev S Z n2 H0 σ ti (IR lo up)) (h1 : -(m : Int) ≤ lo) (h2 : up < (m : Int)) : Ev S Z (n1 + n2) H0 σ (tOp (rIxT K) te ti) R :=
  fun H b Q P k q => h H (n2 + b) _ (P.less (by omega)) k fun x H1 P1 k1 r1 => hi H1 b _ P1 (k.trans k1) fun y H2 P2 k2 ⟨i, e, i1, i2⟩ => by
    obtain ⟨a, xs, rfl, g, l1, l2, l3⟩ := TpR.mo hm _ _ _ k2 r1
    obtain ⟨v, hv, ev⟩ := atI_in (xs := xs) (i := i) (by omega) (by omega)
    exact ⟨a, xs, i, v, rfl, e, Same.seqT hid_same g, ev, q _ _ P2 (k1.trans k2) (l3 v hv)⟩
theorem ev_ixL {m c : Nat} {lo up : Int} (hm : Mo R) (h : Ev S Z n1 H0 σ te (LsR m c R)) (hi : Ev S Z n2 H0 σ ti (IR lo up)) (h1 : -(m : Int) ≤ lo := by decide) (h2 : up < (m : Int) := by decide) : Ev S Z (n1 + n2) H0 σ (tOp (rIxL K) te ti) R :=
  fun H b Q P k q => h H (n2 + b) _ (P.less (by omega)) k fun x H1 P1 k1 r1 => hi H1 b _ P1 (k.trans k1) fun y H2 P2 k2 ⟨i, e, i1, i2⟩ => by
    obtain ⟨a, xs, rfl, g, l1, l2, l3⟩ := LsR.mo hm _ _ _ k2 r1
    obtain ⟨v, hv, ev⟩ := atI_in (xs := xs) (i := i) (by omega) (by omega)
    exact ⟨a, xs, i, v, rfl, e, .inl (.inl (hid_same _ _ g)), ev, q _ _ P2 (k1.trans k2) (l3 v hv)⟩
theorem ev_len {m c : Nat} (h : Ev S Z n H0 σ te (TpR K m c R)) : Ev S Z n H0 σ (tCB (fun xs H Q => ∃ p ys, xs = [.ref p] ∧ (SqL K H p ys ∨ SqT K H p ys) ∧ Q (.int ys.length) H) (tCons te tNil)) (IR m c) :=
  fun H b Q P k q => h H b _ P k fun v H1 P1 k1 ⟨a, xs, e, g, h1, h2, _⟩ => ⟨a, xs, by rw [e], .inr (Same.seqT hid_same g), q _ _ P1 k1 ⟨_, rfl, by omega, by omega⟩⟩
theorem ev_lenL {m c : Nat} (h : Ev S Z n H0 σ te (LsR m c R)) : Ev S Z n H0 σ (tCB (fun xs H Q => ∃ p ys, xs = [.ref p] ∧ (SqL K H p ys ∨ SqT K H p ys) ∧ Q (.int ys.length) H) (tCons te tNil)) (IR m c) :=
  fun H b Q P k q => h H b _ P k fun v H1 P1 k1 ⟨a, xs, e, g, h1, h2, _⟩ => ⟨a, xs, by rw [e], .inl (.inl (.inl (hid_same _ _ g))), q _ _ P1 k1 ⟨_, rfl, by omega, by omega⟩⟩
theorem ev_listOf {m c : Nat} (hm : Mo R) (h : Ev S Z n H0 σ te (TpR K m c R)) : Ev S Z n H0 σ (tCB (fun xs H Q => ∃ p ys, xs = [.ref p] ∧ (SqL K H p ys ∨ SqT K H p ys) ∧ ∀ l, H l = none → Q (.ref l) (upd H l (.lst ys))) (tCons te tNil)) (LsR m c R) :=
  fun H b Q P k q => h H b _ P k fun v H1 P1 k1 ⟨a, xs, e, g, h1, h2, h3⟩ => ⟨a, xs, by rw [e], .inr (Same.seqT hid_same g), fun t nt => by
    obtain ⟨P4, k4, e4⟩ := laid (o := .lst xs) P1 nt
    exact q _ _ P4 (k1.trans k4) ⟨t, xs, rfl, e4, h1, h2, fun x hx => hm _ _ _ k4 (h3 x hx)⟩⟩
theorem ev_tupleOf {m c : Nat} (hm : Mo R) (h : Ev S Z n H0 σ te (LsR m c R)) : Ev S Z n H0 σ (tCB (fun xs H Q => ∃ p ys, xs = [.ref p] ∧ ((SqL K H p ys ∧ ∀ l, H l = none → Q (.ref l) (upd H l (.tup ys))) ∨ (SqT K H p ys ∧ Q (.ref p) H))) (tCons te tNil)) (TpR K m c R) :=
  fun H b Q P k q => h H b _ P k fun v H1 P1 k1 ⟨a, xs, e, g, h1, h2, h3⟩ => ⟨a, xs, by rw [e], .inl ⟨.inl (.inl (hid_same _ _ g)), fun t nt => by
    obtain ⟨P4, k4, e4⟩ := laid (o := .tup xs) P1 nt
    exact q _ _ P4 (k1.trans k4) ⟨t, xs, rfl, .inl (.inl e4), h1, h2, fun x hx => hm _ _ _ k4 (h3 x hx)⟩⟩⟩
/-! ### a def without draws: data to data -/
theorem ev_fn {P : List PyData → Prop} {F : List PyData → PyData} {R : PyData → Prop} {Rs : List PyData → Prop} (h : EvA S Z n H0 σ tl (fun vs G => ∃ ds, Dqs K G vs ds ∧ Rs ds)) (hP : ∀ ds, Rs ds → P ds) (hR : ∀ ds, Rs ds → R (F ds)) : Ev S Z n H0 σ (tCall (sp_fn K P F) [] E0 tl) (DR K R) :=
  fun H b Q Pi k q => h H b _ Pi k fun vs H1 P1 k1 ⟨ds, hd, hr⟩ => ⟨NZ S Z, ds, P1.occ, by rw [List.append_nil]; exact hd, hP _ hr, fun r H' s hf => q _ _ (P1.keep s) (k1.trans (Kp.of s)) ⟨_, hf, hR _ hr⟩⟩
end
/-! ### lists that a comprehension makes grow -/
theorem ev_lcR {S : Src} {Z : Hp} {H0 : Hp} {σ : L2.St} {te : TE} {R : VR} {v n : Nat} {j : Int} (j0 : 0 ≤ j) (j1 : j ≤ 1000) (hm : Mo R)
    (hT : ∀ (Z' H1 : Hp) (x : V) (b : Nat), Iv S Z' b H1 → Same (hid S Z H0) (hid S Z' H1) → Ev S Z' n H1 ((wipe σ [v]).set v (some x)) te R) :
    Ev S Z (n * j.toNat) H0 σ (tLc (iRng1 (tCons (tC (.int j)) tNil)) (gName v) tYes te [v]) (LsR j.toNat j.toNat R) := fun H b Q P k q => by
  refine ⟨j, rfl, by omega, by omega, fun D nD => ?_⟩
  have f := P.free nD
  refine lc_range (fun i Hj => ∃ acc, Iv S (upd Z D (.lst acc)) (n * (j.toNat - i) + b) Hj ∧ acc.length = i ∧ (∀ x ∈ acc, R x (hid S (upd Z D (.lst acc)) Hj)) ∧ Same (hid S Z H) (hid S (upd Z D (.lst acc)) Hj)) ⟨[], (P.new nD).hide upd_same f.1, rfl, (fun x hx => nomatch hx), hid_new2 nD⟩ ?_ ?_
  · rintro i Hj hi ⟨acc, Pj, la, ra, sj⟩
    refine ⟨?_, yes_if ?_⟩
    · simp only [wipe, List.set_set]
    · have e1 : n * (j.toNat - i) = n + n * (j.toNat - (i + 1)) := by
        rw [show j.toNat - i = (j.toNat - (i + 1)) + 1 by omega, Nat.mul_add, Nat.mul_one, Nat.add_comm]
      rw [e1, Nat.add_assoc] at Pj
      refine hT _ Hj _ _ Pj (Same.trans k sj) Hj _ _ Pj Kp.refl fun y H4 P4 k4 r4 => ⟨acc, P4.zz _ _ upd_same, small1000 (by omega), acc ++ [y], ?_, by rw [List.length_append, la]; rfl, fun x hx => ?_, (Same.trans sj k4).trans hid_swap⟩
      · exact ((P4.bare f.2).upd f).hide upd_same f.1
      · rcases List.mem_append.mp hx with e | e
        · exact hm _ _ _ (Same.trans k4 hid_swap) (ra x e)
        · rw [List.mem_singleton.mp e]
          exact hm _ _ _ hid_swap r4
  · rintro Hn ⟨acc, Pn, la, ra, sn⟩
    have e := Pn.zz _ _ upd_same
    exact q _ Hn ((Pn.bare f.2).less (by omega)) (sn.trans hid_hide) ⟨D, acc, rfl, by rw [hid_at f]; exact e, by omega, by omega, fun x hx => hm _ _ _ hid_hide (ra x hx)⟩
end Lg

namespace Lg
open PySem PySem.Spec PyProof.Rows L2 Lm
/-! ### the reel -/
def rlAt (r c : Addr) (b : Nat) (H : Hp) : Prop := ∃ (t : Nat) (ns : List Int), H r = some (.lst [.ref c, .int (t : Int)]) ∧ H c = some (.lst (ns.map V.int)) ∧ ns ≠ [] ∧ ns.length ≤ 64 ∧ t + b ≤ 1000000000000
def reel (r c : Addr) : Src where
  at_ := rlAt r c
  own := fun a => a = r ∨ a = c
  frame := fun h ⟨t, ns, h1, h2, h3⟩ => ⟨t, ns, by rw [h r (.inl rfl)]; exact h1, by rw [h c (.inr rfl)]; exact h2, h3⟩
  less := fun hc ⟨t, ns, h1, h2, h3, h4, h5⟩ => ⟨t, ns, h1, h2, h3, h4, by omega⟩
  full := fun ⟨t, ns, h1, h2, _⟩ h => by
    rcases h with rfl | rfl
    · rw [h1]; exact fun z => nomatch z
    · rw [h2]; exact fun z => nomatch z
theorem reel_ne {r c : Addr} {b : Nat} {H : Hp} (h : rlAt r c b H) : r ≠ c := by
  obtain ⟨t, ns, h1, h2, h3, _⟩ := h
  rintro rfl
  rw [h1] at h2
  cases ns with
  | nil => exact h3 rfl
  | cons n ns =>
    have q : [V.ref r, V.int (t : Int)] = (n :: ns).map V.int := HO.lst.inj (Option.some.inj h2)
    simp at q
def sp_spin : Sp := fun vs H Q _ => ∃ (Z : Hp) (r c : Addr) (b : Nat) (n : Int), vs = [.ref r, .int n] ∧ Iv (reel r c) Z (1 + b) H ∧ 1 ≤ n ∧ n < 1073741824 ∧
  ∀ (v : Int) (H' : Hp), Iv (reel r c) Z b H' → Kp (reel r c) Z H H' → 0 ≤ v → v < n → Q (.int v) H'
def sp_reel (K : PySem.W.Frag) : Sp := fun vs H Q _ => ∃ (a : Addr) (ns : List Int), vs = [.ref a] ∧ SqL K H a (ns.map V.int) ∧ ns.length ≤ 63 ∧ ∀ (r c : Addr) (H' : Hp), Iv (reel r c) (fun _ => none) 1000000000000 H' → Same H H' → Q (.ref r) H'
section
variable {K : PySem.W.Frag} {r c : Addr} {Z : Hp} {H0 : Hp} {σ : L2.St} {te ta tb : TE} {tl : TA} {R : VR} {n : Nat}
theorem ev_spin {i : Nat} {b : Int} (e : σ[i]? = some (some (.ref r))) (hb : b < 1073741824) (h : Ev (reel r c) Z n H0 σ te (IR 1 b)) : Ev (reel r c) Z (n + 1) H0 σ (tCall sp_spin [] E0 (tCons (tVar i) (tCons te tNil))) (IR 0 (b - 1)) :=
  fun H bb Q P k q => ⟨_, e, h H (1 + bb) _ (P.less (by omega)) k fun v H1 P1 k1 ⟨m, em, n1, n2⟩ => ⟨Z, r, c, bb, m, by rw [em]; rfl, P1, by omega, by omega, fun x H2 P2 k2 r1 r2 => q _ _ P2 (k1.trans k2) ⟨x, rfl, r1, by omega⟩⟩⟩
theorem ev_spinC {i : Nat} {m : Int} (e : σ[i]? = some (some (.ref r)) := by rfl) (h0 : 1 ≤ m := by decide) (h1 : m < 1073741824 := by decide) : Ev (reel r c) Z (0 + 1) H0 σ (tCall sp_spin [] E0 (tCons (tVar i) (tCons (tC (.int m)) tNil))) (IR 0 (m - 1)) :=
  ev_spin (b := m) e h1 (ev_int.wide h0 (Int.le_refl _))
end
/-! ### lamps, stretches, logs, minutes -/
def kindS (h : Bool) : Str := if h then "hold" else "pulse"
abbrev Lamp := Bool × Int
abbrev Stt := Int × Int
def lampD (l : Lamp) : PyData := .tuple [.str (kindS l.1), .int l.2]
def logD (ps : List Stt) : PyData := .tuple (ps.map pD)
def lampsD (ls : List Lamp) : PyData := .tuple (ls.map lampD)
def minsD (ms : List Int) : PyData := .list (ms.map .int)
/-- strictly rising, from above b -/
def Asc : Int → List Int → Prop
  | _, [] => True
  | b, m :: r => b < m ∧ Asc m r
def stepL (h : Bool) (s : Int) : List Stt → Int → List Stt
  | [], m => [(m, m + s)]
  | q :: r, m => if q.2 < m then (m, m + s) :: q :: r else if h || decide (m = q.2) then (q.1, m + s) :: r else q :: r
def logF (l : Lamp) (ms : List Int) : List Stt := (ms.foldl (stepL l.1 l.2) []).reverse
/-- a log in order, all of it up to B -/
structure LgOk (n : Nat) (B : Int) (ps : List Stt) : Prop where
  up : LogUp (-1) ps
  len : ps.length ≤ n
  top : ∀ q ∈ ps, q.2 ≤ B
/-- the same from its end -/
def DownOk (B : Int) : List Stt → Prop
  | [] => True
  | q :: r => 0 ≤ q.1 ∧ q.1 < q.2 ∧ q.2 ≤ B ∧ DownOk B r ∧ (match r with | [] => True | p :: _ => p.2 < q.1)
theorem LogUp.snoc {b : Int} : ∀ {ps : List Stt} {q : Stt}, LogUp b ps → (∀ p, ps.getLast? = some p → p.2 < q.1) → b < q.1 → q.1 < q.2 → LogUp b (ps ++ [q])
  | [], q, _, _, h, h2 => ⟨h, h2, trivial⟩
  | p :: r, q, ⟨a1, a2, a3⟩, hl, h, h2 => by
    refine ⟨a1, a2, LogUp.snoc a3 (fun x hx => ?_) ?_ h2⟩
    · cases r with
      | nil => simp at hx
      | cons y ys => exact hl x (by rw [List.getLast?_cons_cons]; exact hx)
    · cases r with
      | nil => exact hl p rfl
      | cons y ys =>
        obtain ⟨b1, b2, b3⟩ := a3
        have := hl ((y :: ys).getLast (by simp)) (by rw [List.getLast?_cons_cons, List.getLast?_eq_getLast (by simp)])
        have m : (y :: ys).getLast (by simp) ∈ (y :: ys) := List.getLast_mem _
        have bb := LogUp.bound (b := p.2) (ps := y :: ys) ⟨b1, b2, b3⟩ _ m
        omega
theorem DownOk.rev {B : Int} : ∀ {qs : List Stt}, DownOk B qs → LogUp (-1) qs.reverse ∧ ∀ q ∈ qs, 0 ≤ q.1 ∧ q.1 < q.2 ∧ q.2 ≤ B
  | [], _ => ⟨trivial, fun q h => nomatch h⟩
  | q :: r, ⟨h0, h1, h2, h3, h4⟩ => by
    obtain ⟨i1, i2⟩ := DownOk.rev h3
    rw [List.reverse_cons]
    refine ⟨LogUp.snoc i1 (fun p hp => ?_) (by omega) h1, fun x hx => ?_⟩
    · rw [List.getLast?_reverse] at hp
      cases r with
      | nil => simp at hp
      | cons y ys => simp at hp; rw [← hp]; exact h4
    · rcases List.mem_cons.mp hx with e | e
      · rw [e]; exact ⟨h0, h1, h2⟩
      · exact i2 x e
theorem DownOk.ok {B : Int} {n : Nat} {qs : List Stt} (h : DownOk B qs) (hl : qs.length ≤ n) : LgOk n B qs.reverse :=
  ⟨h.rev.1, by rw [List.length_reverse]; exact hl, fun q hq => (h.rev.2 q (List.mem_reverse.mp hq)).2.2⟩
theorem stepL_down {h : Bool} {s B C m : Int} {qs : List Stt} (hs : 1 ≤ s) (hd : DownOk C qs) (h0 : 0 ≤ m) (hb : m + s ≤ B) (hc : C ≤ B) (hm : ∀ q, qs.head? = some q → q.1 < m) : DownOk B (stepL h s qs m) := by
  have w : ∀ {rs : List Stt}, DownOk C rs → DownOk B rs := fun {rs} => by
    intro hr
    induction rs with
    | nil => trivial
    | cons q r ih => obtain ⟨a1, a2, a3, a4, a5⟩ := hr; exact ⟨a1, a2, Int.le_trans a3 hc, ih a4, a5⟩
  cases qs with
  | nil => exact ⟨h0, by show m < m + s; omega, hb, trivial, trivial⟩
  | cons q r =>
    have hq := hm q rfl
    obtain ⟨a1, a2, a3, a4, a5⟩ := hd
    simp only [stepL]
    split
    · exact ⟨h0, by show m < m + s; omega, hb, w ⟨a1, a2, a3, a4, a5⟩, by assumption⟩
    · split
      · exact ⟨a1, by show q.1 < m + s; omega, hb, w a4, a5⟩
      · exact w ⟨a1, a2, a3, a4, a5⟩
theorem stepL_head {h : Bool} {s m : Int} {qs : List Stt} (hm : ∀ q, qs.head? = some q → q.1 < m) : ∀ q, (stepL h s qs m).head? = some q → q.1 ≤ m := by
  intro x
  cases qs with
  | nil => intro e; cases e; exact Int.le_refl _
  | cons q r =>
    have hq := hm q rfl
    simp only [stepL]
    split
    · intro e; cases e; exact Int.le_refl _
    · split
      · intro e; cases e; show q.1 ≤ m; omega
      · intro e; cases e; omega
theorem stepL_len {h : Bool} {s m : Int} {qs : List Stt} : (stepL h s qs m).length ≤ qs.length + 1 := by
  cases qs with
  | nil => exact Nat.le_refl _
  | cons q r =>
    simp only [stepL]
    split
    · simp
    · split <;> simp
theorem foldL_down {h : Bool} {s B : Int} (hs : 1 ≤ s) : ∀ {ms : List Int} {b : Int} {qs : List Stt}, Asc b ms → (∀ m ∈ ms, 0 ≤ m ∧ m + s ≤ B) → DownOk B qs → (∀ q, qs.head? = some q → q.1 ≤ b) → DownOk B (ms.foldl (stepL h s) qs) ∧ (ms.foldl (stepL h s) qs).length ≤ qs.length + ms.length
  | [], b, qs, _, _, hd, _ => ⟨hd, Nat.le_refl _⟩
  | m :: r, b, qs, ⟨a1, a2⟩, hm, hd, hh => by
    have m0 := hm m List.mem_cons_self
    have hh' : ∀ q, qs.head? = some q → q.1 < m := fun q e => by have := hh q e; omega
    obtain ⟨i1, i2⟩ := foldL_down (h := h) hs a2 (fun x hx => hm x (List.mem_cons_of_mem _ hx)) (stepL_down (h := h) hs hd m0.1 m0.2 (Int.le_refl _) hh') (stepL_head hh')
    have l := stepL_len (h := h) (s := s) (m := m) (qs := qs)
    refine ⟨i1, ?_⟩
    rw [List.foldl_cons, List.length_cons]
    omega
theorem logF_ok {l : Lamp} {ms : List Int} {b B : Int} {n : Nat} (hs : 1 ≤ l.2) (ha : Asc b ms) (hm : ∀ m ∈ ms, 0 ≤ m ∧ m + l.2 ≤ B) (hl : ms.length ≤ n) : LgOk n B (logF l ms) := by
  obtain ⟨h1, h2⟩ := foldL_down (h := l.1) (qs := []) hs ha hm trivial (fun q e => nomatch e)
  exact h1.ok (by simp at h2; omega)
/-! ### what such data is in the heap -/
theorem dqs_nil {K : PySem.W.Frag} {G : Hp} {vs : List V} (h : Dqs K G vs []) : vs = [] := by cases h; rfl
theorem dqs_cons {K : PySem.W.Frag} {G : Hp} {vs : List V} {d : PyData} {ds : List PyData} (h : Dqs K G vs (d :: ds)) : ∃ v r, vs = v :: r ∧ Dq K G v d ∧ Dqs K G r ds := by cases h; exact ⟨_, _, rfl, by assumption, by assumption⟩
theorem dq_int {K : PySem.W.Frag} {G : Hp} {v : V} {i : Int} (h : Dq K G v (.int i)) : v = .int i := by cases h; rfl
theorem dq_str {K : PySem.W.Frag} {G : Hp} {v : V} {x : Str} (h : Dq K G v (.str x)) : v = .str x := by cases h; rfl
theorem dq_bool {K : PySem.W.Frag} {G : Hp} {v : V} {x : Bool} (h : Dq K G v (.bool x)) : v = .bl x := by cases h; rfl
theorem dq_none {K : PySem.W.Frag} {G : Hp} {v : V} (h : Dq K G v .none) : v = .non := by cases h; rfl
theorem dq_tup {K : PySem.W.Frag} {G : Hp} {v : V} {ds : List PyData} (h : Dq K G v (.tuple ds)) : ∃ a xs, v = .ref a ∧ SqT K G a xs ∧ Dqs K G xs ds := by cases h; exact ⟨_, _, rfl, by assumption, by assumption⟩
theorem dq_lst {K : PySem.W.Frag} {G : Hp} {v : V} {ds : List PyData} (h : Dq K G v (.list ds)) : ∃ a xs, v = .ref a ∧ SqL K G a xs ∧ Dqs K G xs ds := by cases h; exact ⟨_, _, rfl, by assumption, by assumption⟩
theorem dq_lamp {K : PySem.W.Frag} {G : Hp} {v : V} {l : Lamp} (h : Dq K G v (lampD l)) : ∃ a, v = .ref a ∧ SqT K G a [.str (kindS l.1), .int l.2] := by
  obtain ⟨a, xs, rfl, h1, h2⟩ := dq_tup h
  obtain ⟨x, r, rfl, h3, h4⟩ := dqs_cons h2
  obtain ⟨y, r, rfl, h5, h6⟩ := dqs_cons h4
  rw [dqs_nil h6, dq_str h3, dq_int h5] at h1
  exact ⟨a, rfl, h1⟩
theorem dq_pair {K : PySem.W.Frag} {G : Hp} {v : V} {q : Stt} (h : Dq K G v (pD q)) : ∃ a, v = .ref a ∧ SqT K G a [.int q.1, .int q.2] := by
  obtain ⟨a, xs, rfl, h1, h2⟩ := dq_tup h
  obtain ⟨x, r, rfl, h3, h4⟩ := dqs_cons h2
  obtain ⟨y, r, rfl, h5, h6⟩ := dqs_cons h4
  rw [dqs_nil h6, dq_int h3, dq_int h5] at h1
  exact ⟨a, rfl, h1⟩
theorem dq_lampT {K : PySem.W.Frag} {G : Hp} {a : Addr} {l : Lamp} (h : SqT K G a [.str (kindS l.1), .int l.2]) : Dq K G (.ref a) (lampD l) := .tup h (.cons (.str _) (.cons (.int _) .nil))
theorem dq_pairT {K : PySem.W.Frag} {G : Hp} {a : Addr} {q : Stt} (h : SqT K G a [.int q.1, .int q.2]) : Dq K G (.ref a) (pD q) := .tup h (.cons (.int _) (.cons (.int _) .nil))
theorem dqs_ints {K : PySem.W.Frag} {G : Hp} : ∀ {vs : List V} {ms : List Int}, Dqs K G vs (ms.map .int) → vs = ms.map V.int
  | _, [], h => dqs_nil h
  | _, m :: r, h => by
    obtain ⟨v, t, rfl, h1, h2⟩ := dqs_cons h
    rw [dq_int h1, dqs_ints h2]; rfl
theorem ints_dqs {K : PySem.W.Frag} {G : Hp} : ∀ {ms : List Int}, Dqs K G (ms.map V.int) (ms.map .int)
  | [] => .nil
  | m :: r => .cons (.int m) ints_dqs
theorem kindS_hold (h : Bool) : decide (V.str (kindS h) = V.str "hold") = h := by
  cases h with
  | true => exact decide_eq_true rfl
  | false => exact decide_eq_false (fun e => absurd (V.str.inj e) (by decide))
theorem kindS_pulse (h : Bool) : decide (V.str (kindS h) = V.str "pulse") = !h := by
  cases h with
  | true => exact decide_eq_false (fun e => absurd (V.str.inj e) (by decide))
  | false => exact decide_eq_true rfl
theorem cut_ints (ns : List Int) (lo hi : Option Int) : ∃ ks : List Int, cutV (ns.map V.int) lo hi = ks.map V.int ∧ ks.length ≤ ns.length := by
  refine ⟨(ns.drop (HT.sIx (ns.map V.int).length 0 lo)).take (HT.sIx (ns.map V.int).length (ns.map V.int).length hi - HT.sIx (ns.map V.int).length 0 lo), ?_, ?_⟩
  · unfold cutV
    rw [List.map_take, List.map_drop]
  · rw [List.length_take, List.length_drop]
    omega
/-! ### promises -/
def sp_f (K : PySem.W.Frag) {α : Type} (A : α → List PyData) (P : α → Prop) (F : α → PyData) : Sp := fun vs H Q _ => ∃ (N : Addr → Prop) (x : α), Occ N H ∧ Dqs K (cut N H) vs (A x) ∧ P x ∧ ∀ r H', Same H H' → Dq K (cut N H') r (F x) → Q r H'
def fitB (l : Lamp) (q : Stt) : Bool := decide (q.2 - l.2 ≤ 1000000000) && (if l.1 then decide (l.2 ≤ q.2 - q.1) else decide ((q.2 - q.1).fmod l.2 = 0))
/-- the numbers of those that do not pass, from i on -/
def wrongs (p : Stt → Bool) : Nat → List Stt → List Int
  | _, [] => []
  | i, q :: r => if p q then wrongs p (i + 1) r else (i : Int) :: wrongs p (i + 1) r
theorem wrongs_snoc (p : Stt → Bool) : ∀ (i : Nat) (ps : List Stt) (q : Stt), wrongs p i (ps ++ [q]) = wrongs p i ps ++ (if p q then [] else [((i + ps.length : Nat) : Int)])
  | i, [], q => by simp only [List.nil_append, wrongs, List.length_nil, Nat.add_zero]
  | i, x :: r, q => by
    simp only [List.cons_append, wrongs, wrongs_snoc p (i + 1) r q, List.length_cons]
    rw [show i + 1 + r.length = i + (r.length + 1) by omega]
    split <;> simp
theorem wrongs_len (p : Stt → Bool) : ∀ (i : Nat) (ps : List Stt), (wrongs p i ps).length ≤ ps.length
  | _, [] => Nat.le_refl _
  | i, q :: r => by
    simp only [wrongs]
    have := wrongs_len p (i + 1) r
    split <;> simp only [List.length_cons] <;> omega
theorem wrongs_lt (p : Stt → Bool) : ∀ (i : Nat) (ps : List Stt), ∀ x ∈ wrongs p i ps, (i : Int) ≤ x ∧ x < i + ps.length
  | _, [], x, h => nomatch h
  | i, q :: r, x, h => by
    have ih := wrongs_lt p (i + 1) r
    simp only [wrongs] at h
    simp only [List.length_cons]
    split at h
    · have := ih x h; omega
    · rcases List.mem_cons.mp h with e | e
      · omega
      · have := ih x e; omega
def sp_lamps (K : PySem.W.Frag) : Sp := fun vs H Q _ => ∃ (Z : Hp) (r c : Addr) (b : Nat) (m T : Int), vs = [.ref r, .int m, .int T] ∧ Iv (reel r c) Z (25 + b) H ∧ 1 ≤ m ∧ m ≤ 6 ∧ 1 ≤ T ∧ T ≤ 10000 ∧
  ∀ (x : V) (H' : Hp) (ls : List Lamp), Iv (reel r c) Z b H' → Kp (reel r c) Z H H' → Dq K (hid (reel r c) Z H') x (lampsD ls) → 1 ≤ ls.length → (ls.length : Int) ≤ m → (∀ l ∈ ls, 1 ≤ l.2 ∧ l.2 ≤ T) → Q x H'
/-- minutes: rising, not negative, of at most 10 ** 7, so many at most -/
def MinsOk (n : Int) (ms : List Int) : Prop := Asc (-1) ms ∧ (ms.length : Int) ≤ n ∧ ∀ m ∈ ms, 0 ≤ m ∧ m ≤ 10000000
def sp_minutes (K : PySem.W.Frag) : Sp := fun vs H Q _ => ∃ (Z : Hp) (r c : Addr) (b : Nat) (m g : Int), vs = [.ref r, .int m, .int g] ∧ Iv (reel r c) Z (205 + b) H ∧ 0 ≤ m ∧ m ≤ 50 ∧ 1 ≤ g ∧ g ≤ 20000 ∧
  ∀ (x : V) (H' : Hp) (ms : List Int), Iv (reel r c) Z b H' → Kp (reel r c) Z H H' → Dq K (hid (reel r c) Z H') x (minsD ms) → MinsOk m ms → Q x H'
def sp_bent (K : PySem.W.Frag) : Sp := fun vs H Q _ => ∃ (Z : Hp) (r c : Addr) (b : Nat) (x : V) (ps : List Stt) (B : Int), vs = [.ref r, x] ∧ Iv (reel r c) Z (3 + b) H ∧ Dq K (hid (reel r c) Z H) x (logD ps) ∧ LgOk 60 B ps ∧ 0 ≤ B ∧ B ≤ 100000000 ∧
  ∀ (y : V) (H' : Hp) (qs : List Stt), Iv (reel r c) Z b H' → Kp (reel r c) Z H H' → Dq K (hid (reel r c) Z H') y (logD qs) → LgOk 60 (B + 8) qs → Q y H'
def sp_scene (K : PySem.W.Frag) : Sp := fun vs H Q _ => ∃ (Z : Hp) (r c : Addr) (b : Nat) (m T n : Int), vs = [.ref r, .int m, .int T, .int n] ∧ Iv (reel r c) Z (700 + b) H ∧ 1 ≤ m ∧ m ≤ 6 ∧ 1 ≤ T ∧ T ≤ 10000 ∧ 0 ≤ n ∧ n ≤ 50 ∧
  ∀ (p : Addr) (x y : V) (H' : Hp) (ls : List Lamp) (gs : List (List Stt)), Iv (reel r c) Z b H' → Kp (reel r c) Z H H' → H' p = some (.lst [x, y]) → ¬ (reel r c).own p → Z p = none → H p = none →
    Dq K (hid (reel r c) Z H') x (lampsD ls) → Dq K (hid (reel r c) Z H') y (.tuple (gs.map logD)) → 1 ≤ ls.length → (ls.length : Int) ≤ m → (∀ l ∈ ls, 1 ≤ l.2 ∧ l.2 ≤ T) → gs.length = ls.length → (∀ g ∈ gs, LgOk 60 20000000 g) → Q (.ref p) H'
end Lg

namespace Lg
open PySem PySem.Spec PyProof.Rows L2 Lm
/-! ### a list of one's own -/
noncomputable abbrev cut1 (f : Addr) (G : Hp) : Hp := cut (fun a => a = f) G
theorem cut1_at {f b : Addr} {G : Hp} (h : b ≠ f) : cut1 f G b = G b := if_neg h
section
variable {N : Addr → Prop} {H H3 : Hp} {f t : Addr} {o o' : HO} {vs : List V}
theorem app_cut (O : Occ N H3) (hf : H3 f = some o) (nt : H3 t = none) : Same (cut1 f (cut N H3)) (cut1 f (cut N (upd (upd H3 t (.tup vs)) f o'))) ∧ cut1 f (cut N (upd (upd H3 t (.tup vs)) f o')) t = some (.tup vs) := by
  have tf : t ≠ f := fun e => by rw [e, hf] at nt; cases nt
  have tN : ¬ N t := fun z => O t z nt
  constructor
  · intro b u e
    have n1 := cut_some e
    have n2 := cut_some n1.2
    have bt : b ≠ t := fun e => by rw [e, nt] at n2; cases n2.2
    rw [cut1_at n1.1, cut_at n2.1, upd_ne n1.1, upd_ne bt]
    exact n2.2
  · rw [cut1_at tf, cut_at tN, upd_ne tf, upd_same]
theorem set_cut : cut1 f (cut N (upd H3 f o)) = cut1 f (cut N H3) := by
  funext b
  by_cases e : b = f
  · unfold cut1 cut; rw [if_pos e, if_pos e]
  · rw [cut1_at e, cut1_at e]
    by_cases n : N b
    · unfold cut; rw [if_pos n, if_pos n]
    · rw [cut_at n, cut_at n, upd_ne e]
theorem new_cut (O : Occ N H3) (nt : H3 t = none) : Same (cut N H3) (cut N (upd H3 t o)) := cut_mono (same_new nt)
end
section
variable {S : Src} {Z H H3 : Hp} {b c : Nat} {f t : Addr} {o : HO} {vs : List V}
theorem app_iv (P : Iv S Z c H) (nf : H f = none) (P3 : Iv S Z b H3) (k3 : Kp S Z H H3) (nt : H3 t = none) : Iv S Z b (upd (upd H3 t (.tup vs)) f o) ∧ Kp S Z H (upd (upd H3 t (.tup vs)) f o) :=
  ⟨(P3.new nt).upd (P.free nf), Kp.upd_new (ne_of_new nf) (k3.trans (Kp.new nt))⟩
theorem set_iv (P : Iv S Z c H) (nf : H f = none) (P3 : Iv S Z b H3) (k3 : Kp S Z H H3) : Iv S Z b (upd H3 f o) ∧ Kp S Z H (upd H3 f o) :=
  ⟨P3.upd (P.free nf), Kp.upd_new (ne_of_new nf) k3⟩
/-- what is visible is so behind a call -/
theorem Kp.at_ (k : Kp S Z H H3) (h : Off S Z f) (e : H f = some o) : H3 f = some o := cut_same _ _ (k _ _ (hid_get h e))
end
section
variable {σ : L2.St} {H : Hp} {te : TE} {tl : TA} {Q : VK} {QL : List V → Hp → Prop} {K : PySem.W.Frag}
theorem r_tup (h : tl σ H fun vs H1 => vs.length ≤ sizeLine ∧ ∀ t, H1 t = none → Q (.ref t) (upd H1 t (.tup vs))) : tTup tl σ H Q := h
theorem r_lst (h : tl σ H fun vs H1 => vs.length ≤ sizeLine ∧ ∀ t, H1 t = none → Q (.ref t) (upd H1 t (.lst vs))) : tLst tl σ H Q := h
theorem r_cons (h : te σ H fun v H1 => tl σ H1 fun vs H2 => QL (v :: vs) H2) : tCons te tl σ H QL := h
theorem dqs_snoc {G : Hp} {xs : List V} {ds : List PyData} {v : V} {d : PyData} (h : Dqs K G xs ds) (hv : Dq K G v d) : Dqs K G (xs ++ [v]) (ds ++ [d]) := Dqs.app h (.cons hv .nil)
end
def KS (v : V) (_ : Hp) : Prop := ∃ h, v = .str (kindS h)
theorem KS.mo : Mo KS := fun v G G' s h => h
section
variable {K : PySem.W.Frag} {S : Src} {Z : Hp} {H0 : Hp} {σ : L2.St} {ta tb : TE} {n1 n2 : Nat}
theorem ev_min2 {a b c d : Int} (h1 : Ev S Z n1 H0 σ ta (IR a b)) (h2 : Ev S Z n2 H0 σ tb (IR c d)) : Ev S Z (n1 + n2) H0 σ (tCB (fun xs H Q => ∃ i j, xs = [.int i, .int j] ∧ Q (.int (if j < i then j else i)) H) (tCons ta (tCons tb tNil))) (IR (if c < a then c else a) b) :=
  fun H bb Q P k q => h1 H (n2 + bb) _ (P.less (by omega)) k fun x H1 P1 k1 ⟨i, e1, i1, i2⟩ => h2 H1 bb _ P1 (k.trans k1) fun y H2 P2 k2 ⟨j, e2, j1, j2⟩ => ⟨i, j, by rw [e1, e2], q _ _ P2 (k1.trans k2) ⟨_, rfl, by repeat (first | omega | split), by repeat (first | omega | split)⟩⟩
theorem EI_mo {i : Int} : Mo (EI i) := fun _ _ _ _ h => h
theorem ev_iv {i : Nat} {g : Int} (e : σ[i]? = some (some (.int g))) : Ev S Z 0 H0 σ (tVar i) (EI g) := ev_var e EI_mo rfl
theorem ev_kinds : Ev S Z 0 H0 σ (tLst (tCons (tC (.str "hold")) (tCons (tC (.str "pulse")) tNil))) (LsR 2 2 KS) :=
  ev_lst (by decide) KS.mo (eall_cons KS.mo (ev_c.imp fun v G e => ⟨true, e⟩) (eall_cons KS.mo (ev_c.imp fun v G e => ⟨false, e⟩) eall_nil))
end
theorem Asc.snoc : ∀ {b : Int} {ms : List Int} {m : Int}, Asc b ms → b < m → (∀ x ∈ ms, x < m) → Asc b (ms ++ [m])
  | _, [], _, _, h, _ => ⟨h, trivial⟩
  | b, x :: r, m, ⟨a1, a2⟩, h, hx => ⟨a1, Asc.snoc a2 (hx x List.mem_cons_self) fun y hy => hx y (List.mem_cons_of_mem _ hy)⟩
end Lg

namespace Lg
open PySem PySem.Spec PyProof.Rows L2 Lm
theorem dqs_snoc_inv {K : PySem.W.Frag} {G : Hp} : ∀ {xs : List V} {ds : List PyData} {d : PyData}, Dqs K G xs (ds ++ [d]) → ∃ ys v, xs = ys ++ [v] ∧ Dqs K G ys ds ∧ Dq K G v d
  | _, [], d, h => by
    obtain ⟨v, r, rfl, h1, h2⟩ := dqs_cons h
    rw [dqs_nil h2]
    exact ⟨[], v, rfl, .nil, h1⟩
  | _, e :: r, d, h => by
    obtain ⟨v, t, rfl, h1, h2⟩ := dqs_cons h
    obtain ⟨ys, u, rfl, h3, h4⟩ := dqs_snoc_inv h2
    exact ⟨v :: ys, u, rfl, .cons h1 h3, h4⟩
theorem ixN_last {xs : List V} {v : V} : ixN (xs ++ [v]).length (-1) = some xs.length := by
  unfold ixN
  rw [if_neg (by decide), if_pos (by simp; omega)]
  congr 1
  simp
  omega
theorem set_last {xs : List V} {v u : V} : (xs ++ [v]).set xs.length u = xs ++ [u] := by
  rw [List.set_append_right _ _ (Nat.le_refl _), Nat.sub_self]
  rfl
/-- the numbers that two sure facts about decide give -/
theorem Same.seqL {K : PySem.W.Frag} {H H' : Hp} {a : Addr} {xs : List V} (e : Same H H') (h : SqL K H a xs) : SqL K H' a xs := e.seq h
theorem get_ints {ms : List Int} {i : Nat} {x : V} (h : (ms.map V.int)[i]? = some x) : ∃ m, ms[i]? = some m ∧ x = .int m := by
  rw [List.getElem?_map] at h
  cases e : ms[i]? with
  | none => rw [e] at h; cases h
  | some n => rw [e] at h; exact ⟨n, rfl, (Option.some.inj h).symm⟩
theorem same_upd {H H3 : Hp} {f : Addr} {o : HO} (s : Same H H3) (n : H f = none) : Same H (upd H3 f o) := same_upd2 s n
theorem logF_len (h : Bool) (s : Int) : ∀ (ms : List Int) (qs : List Stt), (ms.foldl (stepL h s) qs).length ≤ qs.length + ms.length
  | [], _ => Nat.le_refl _
  | m :: r, qs => by
    have a := logF_len h s r (stepL h s qs m)
    have b := stepL_len (h := h) (s := s) (m := m) (qs := qs)
    rw [List.foldl_cons, List.length_cons]
    omega
theorem foldl_take {α β : Type} (g : β → α → β) (b : β) (xs : List α) {i : Nat} {x : α} (h : xs[i]? = some x) : (xs.take (i + 1)).foldl g b = g ((xs.take i).foldl g b) x := by
  rw [List.take_add_one, h, List.foldl_append]
  rfl
def sp_l_log (K : PySem.W.Frag) : Sp := sp_f K (fun x : Lamp × List Int => [lampD x.1, minsD x.2]) (fun x => x.2.length ≤ 900) (fun x => logD (logF x.1 x.2))
def sp_l_logs (K : PySem.W.Frag) : Sp := sp_f K (fun x : List Lamp × List Int => [lampsD x.1, minsD x.2]) (fun x => x.1.length ≤ 900 ∧ x.2.length ≤ 900) (fun x => .tuple (x.1.map fun l => logD (logF l x.2)))
def sp_fits (K : PySem.W.Frag) : Sp := sp_f K (fun x : Lamp × Stt => [lampD x.1, pD x.2]) (fun x => 1 ≤ x.1.2 ∧ x.2.1 < x.2.2) (fun x => .bool (fitB x.1 x.2))
def sp_wrong (K : PySem.W.Frag) : Sp := sp_f K (fun x : Lamp × List Stt => [lampD x.1, logD x.2]) (fun x => 1 ≤ x.1.2 ∧ (∀ q ∈ x.2, q.1 < q.2) ∧ x.2.length ≤ 900) (fun x => .tuple ((wrongs (fitB x.1) 0 x.2).map .int))
theorem dqs_get {K : PySem.W.Frag} {G : Hp} {α : Type} {D : α → PyData} {xs : List V} {ps : List α} {i : Nat} {v : V} (h : Dqs K G xs (ps.map D)) (e : xs[i]? = some v) : ∃ q, ps[i]? = some q ∧ Dq K G v (D q) := by
  obtain ⟨d, hd, hq⟩ := h.get e
  rw [List.getElem?_map] at hd
  cases e2 : ps[i]? with
  | none => rw [e2] at hd; cases hd
  | some q => rw [e2] at hd; cases (Option.some.inj hd); exact ⟨q, rfl, hq⟩
/-- a list of pairs that grows while nothing else changes: σ is what the names hold but for y -/
def GrowAt (K : PySem.W.Frag) (N : Addr → Prop) (H : Hp) (f : Addr) (ps : List Stt) (Hi : Hp) : Prop := ∃ xs, Same H Hi ∧ Hi f = some (.lst xs) ∧ Dqs K (cut1 f (cut N Hi)) xs (ps.map pD)
theorem GrowAt.start {K : PySem.W.Frag} {N : Addr → Prop} {H : Hp} {f : Addr} (nf : H f = none) : GrowAt K N H f [] (upd H f (.lst [])) := ⟨[], same_new nf, upd_same, .nil⟩
theorem GrowAt.put {K : PySem.W.Frag} {N : Addr → Prop} {H Hi G : Hp} {f t : Addr} {zs : List V} {o : HO} {ps : List Stt} {q : Stt} (nf : H f = none) (O : Occ N H) (si : Same H Hi) (sG : Same Hi G) (eG : G f = some o) (hz : Dqs K (cut1 f (cut N Hi)) zs (ps.map pD)) (nt : G t = none) :
    GrowAt K N H f (ps ++ [q]) (upd (upd G t (.tup [.int q.1, .int q.2])) f (.lst (zs ++ [.ref t]))) := by
  obtain ⟨s5, e5⟩ := app_cut (vs := [.int q.1, .int q.2]) (o' := .lst (zs ++ [.ref t])) ((O.keep si).keep sG) eG nt
  refine ⟨_, same_upd ((si.trans sG).trans (same_new nt)) nf, upd_same, ?_⟩
  rw [List.map_append]
  exact dqs_snoc (hz.mono ((cut_mono (cut_mono sG)).trans s5)) (dq_pairT (.inl (.inl e5)))
theorem GrowAt.keep {K : PySem.W.Frag} {N : Addr → Prop} {H Hi G : Hp} {f : Addr} {ps : List Stt} (h : GrowAt K N H f ps Hi) (s : Same Hi G) : GrowAt K N H f ps G :=
  let ⟨xs, s1, e, d⟩ := h; ⟨xs, s1.trans s, s _ _ e, d.mono (cut_mono (cut_mono s))⟩
theorem GrowAt.tup {K : PySem.W.Frag} {N : Addr → Prop} {H Hi : Hp} {f t : Addr} {xs : List V} {ds : List PyData} (O : Occ N H) (s : Same H Hi) (d : Dqs K (cut1 f (cut N Hi)) xs ds) (nt : Hi t = none) : Dq K (cut N (upd Hi t (.tup xs))) (.ref t) (.tuple ds) :=
  .tup (.inl (.inl (cut_new (O.keep s) nt))) (d.mono (cut_same.trans (cut_mono (same_new nt))))
theorem iteF_e {b : Bool} {P R : Prop} (h : b = false) (q : R) : if b = true then P else R := by rw [h]; exact q
theorem iteT_e {b : Bool} {P R : Prop} (h : b = true) (q : P) : if b = true then P else R := by rw [h]; exact q
theorem ite_b {b : Bool} {P R : Prop} (h1 : b = true → P) (h2 : b = false → R) : if b = true then P else R := by
  cases b with
  | true => exact h1 rfl
  | false => exact h2 rfl
end Lg

namespace Lg
open PySem PySem.Spec PyProof.Rows L2 Lm
theorem pg_tupK {X : Cx} {K : PySem.W.Frag} {es : List Expr} {k : Nat} {t : TGs} {n : Nat} {pos : Pos} (hK : X.K = K) (hc : X.calm = true) (h : PGs X es t) (hn : (assignEach es X.env).length = n := by rfl) (hst : (assignEach es X.env).findIdx? (·.1) = none := by rfl) : PG X (.Tuple es k pos) (gTup K n t) := by
  rw [← hK]
  exact pg_tup hc h hn hst
/-! ### comprehensions whose items are made by defs without draws -/
abbrev NP (N : Addr → Prop) (D : Addr) : Addr → Prop := fun a => N a ∨ a = D
theorem np_new {N : Addr → Prop} {H H' : Hp} {D : Addr} (n : H D = none) (s : Same H H') : Same (cut N H) (cut (NP N D) H') := fun b o e => by
  have m := cut_some e
  rw [cut_at (fun z => z.elim m.1 fun q => by rw [← q, m.2] at n; cases n)]
  exact s _ _ m.2
theorem np_le {N : Addr → Prop} {H : Hp} {D : Addr} : Same (cut (NP N D) H) (cut N H) := cut_le fun a h => .inl h
theorem np_occ {N : Addr → Prop} {H : Hp} {D : Addr} {o : HO} (O : Occ N H) (e : H D = some o) : Occ (NP N D) H := O.more (by rw [e]; exact fun z => nomatch z)
theorem map_take_snoc {α β : Type} (F : α → β) {as : List α} {i : Nat} {y : α} (h : as[i]? = some y) : (as.take (i + 1)).map F = (as.take i).map F ++ [F y] := by
  rw [List.take_add_one, h, List.map_append]
  rfl
theorem lc_map {J : It} {Gd : Hp → Prop} {K : PySem.W.Frag} {N : Addr → Prop} {xs : List V} {te : TE} {v : Nat} {σ : L2.St} {H1 : Hp} {Dl : Addr} {Qd : Hp → Prop} {α : Type} {D F : α → PyData} {as : List α}
    (w : Walk J xs.length Gd (YAt xs)) (hG : ∀ H', Same H1 H' → Gd H') (nD : H1 Dl = none) (O : Occ N H1) (hd : Dqs K (cut N H1) xs (as.map D)) (hl : as.length ≤ 900)
    (hT : ∀ (G : Hp) (x : V) (y : α) (Q : VK), y ∈ as → Occ (NP N Dl) G → Same (cut N H1) (cut (NP N Dl) G) → Same H1 G → Dq K (cut (NP N Dl) G) x (D y) → (∀ r G', Same G G' → Dq K (cut (NP N Dl) G') r (F y) → Q r G') → te ((wipe σ [v]).set v (some x)) G Q)
    (hq : ∀ H' acc, Same H1 H' → H' Dl = some (.lst acc) → Occ (NP N Dl) H' → Dqs K (cut (NP N Dl) H') acc (as.map F) → Qd H') :
    ∃ W : Nat → Nat → Hp → Prop, (∃ m, W 0 m (upd H1 Dl (.lst []))) ∧ ∀ i m H, W i m H →
      (J.stop i H ∧ Qd H) ∨ (J.go i H ∧ ∃ Nx : Hp → Prop, (∀ H', Nx H' → ∃ m', m' < m ∧ W (i + 1) m' H') ∧ ∀ x H', J.yld i H x H' → gName v x (wipe σ [v]) H' fun σ2 H2 => wipe σ2 [v] = wipe σ [v] ∧ tYes σ2 H2 fun b H3 =>
        if b = true then te σ2 H3 fun y H4 => ∃ acc, H4 Dl = some (.lst acc) ∧ acc.length < sizeLine ∧ Nx (upd H4 Dl (.lst (acc ++ [y]))) else Nx H3) := by
  have len := hd.len
  rw [List.length_map] at len
  refine lc_it w (fun i Hj => ∃ acc, Same H1 Hj ∧ Hj Dl = some (.lst acc) ∧ Dqs K (cut (NP N Dl) Hj) acc ((as.take i).map F)) ⟨[], same_new nD, upd_same, .nil⟩ (fun i H _ ⟨_, s, _⟩ => hG H s) ?_ ?_
  · rintro i x Hj H' hi ⟨acc, sj, ej, dj⟩ ⟨rfl, hx⟩
    obtain ⟨y, hy, qy⟩ := dqs_get hd hx
    have la := dj.len
    rw [List.length_map, List.length_take] at la
    refine ⟨?_, yes_if ?_⟩
    · simp only [wipe, List.set_set]
    · refine hT _ x y _ (List.mem_of_getElem? hy) (np_occ (O.keep sj) ej) (np_new nD sj) sj (qy.mono (np_new nD sj)) fun r G' sG hr => ⟨acc, sG _ _ ej, small1000 (by omega), acc ++ [r], same_upd (sj.trans sG) nD, upd_same, ?_⟩
      rw [map_take_snoc F hy, cut_upd (.inr rfl)]
      exact dqs_snoc (dj.mono (cut_mono sG)) hr
  · rintro Hn ⟨acc, sn, en, dn⟩
    rw [len, List.take_length] at dn
    exact hq Hn acc sn en (np_occ (O.keep sn) en) dn
/-- the numbers of those that do not pass, over numbers -/
theorem wrongs_take (p : Stt → Bool) {ps : List Stt} {i : Nat} {q : Stt} (h : ps[i]? = some q) : (wrongs p 0 (ps.take (i + 1))).map V.int = (wrongs p 0 (ps.take i)).map V.int ++ (if p q then [] else [V.int (i : Int)]) := by
  have hi : i < ps.length := (List.getElem?_eq_some_iff.mp h).1
  rw [List.take_add_one, h]
  show (wrongs p 0 (ps.take i ++ [q])).map V.int = _
  rw [wrongs_snoc, List.map_append, List.length_take]
  congr 1
  split
  · rfl
  · rw [show min i ps.length = i by omega]; simp
end Lg

namespace Lg
open PySem PySem.Spec PyProof.Rows L2 Lm
/-! ### exact numbers -/
section
variable {K : PySem.W.Frag} {S : Src} {Z : Hp} {H0 : Hp} {σ : L2.St} {te ta tb : TE} {tl : TA} {n n1 n2 : Nat} {a b : Int} {R : VR}
theorem ei_c {i : Int} : Ev S Z 0 H0 σ (tC (.int i)) (EI i) := ev_c
theorem ei_neg (h : Ev S Z n H0 σ te (EI a)) : Ev S Z n H0 σ (tUn (rU fun i => .int (-i)) te) (EI (-a)) := fun H b Q P k q => h H b _ P k fun v H1 P1 k1 e => ⟨a, e, q _ _ P1 k1 rfl⟩
theorem ei_add (h1 : Ev S Z n1 H0 σ ta (EI a)) (h2 : Ev S Z n2 H0 σ tb (EI b)) : Ev S Z (n1 + n2) H0 σ (tOp (rI0 fun i j => .int (i + j)) ta tb) (EI (a + b)) :=
  fun H bb Q P k q => h1 H (n2 + bb) _ (P.less (by omega)) k fun x H1 P1 k1 e1 => h2 H1 bb _ P1 (k.trans k1) fun y H2 P2 k2 e2 => ⟨a, b, e1, e2, q _ _ P2 (k1.trans k2) rfl⟩
theorem ei_sub (h1 : Ev S Z n1 H0 σ ta (EI a)) (h2 : Ev S Z n2 H0 σ tb (EI b)) : Ev S Z (n1 + n2) H0 σ (tOp (rI0 fun i j => .int (i - j)) ta tb) (EI (a - b)) :=
  fun H bb Q P k q => h1 H (n2 + bb) _ (P.less (by omega)) k fun x H1 P1 k1 e1 => h2 H1 bb _ P1 (k.trans k1) fun y H2 P2 k2 e2 => ⟨a, b, e1, e2, q _ _ P2 (k1.trans k2) rfl⟩
theorem ei_mul (hc : CMul a b) (h1 : Ev S Z n1 H0 σ ta (EI a)) (h2 : Ev S Z n2 H0 σ tb (EI b)) : Ev S Z (n1 + n2) H0 σ (tOp (rI CMul fun i j => .int (i * j)) ta tb) (EI (a * b)) :=
  fun H bb Q P k q => h1 H (n2 + bb) _ (P.less (by omega)) k fun x H1 P1 k1 e1 => h2 H1 bb _ P1 (k.trans k1) fun y H2 P2 k2 e2 => ⟨a, b, e1, e2, hc, q _ _ P2 (k1.trans k2) rfl⟩
theorem ei_fdivN (hc : b ≠ 0 ∧ b.natAbs < 1073741824) (h1 : Ev S Z n1 H0 σ ta (EI a)) (h2 : Ev S Z n2 H0 σ tb (EI b)) : Ev S Z (n1 + n2) H0 σ (tOp (rI CDivN fun i j => .int (i.fdiv j)) ta tb) (EI (a.fdiv b)) :=
  fun H bb Q P k q => h1 H (n2 + bb) _ (P.less (by omega)) k fun x H1 P1 k1 e1 => h2 H1 bb _ P1 (k.trans k1) fun y H2 P2 k2 e2 => ⟨a, b, e1, e2, hc, q _ _ P2 (k1.trans k2) rfl⟩
theorem ei_modN (hc : b ≠ 0) (h1 : Ev S Z n1 H0 σ ta (EI a)) (h2 : Ev S Z n2 H0 σ tb (EI b)) : Ev S Z (n1 + n2) H0 σ (tOp (rI (fun _ j => j ≠ 0) fun i j => .int (i.fmod j)) ta tb) (EI (a.fmod b)) :=
  fun H bb Q P k q => h1 H (n2 + bb) _ (P.less (by omega)) k fun x H1 P1 k1 e1 => h2 H1 bb _ P1 (k.trans k1) fun y H2 P2 k2 e2 => ⟨a, b, e1, e2, hc, q _ _ P2 (k1.trans k2) rfl⟩
theorem ei_pow {i j : Int} (h : CPow i j) : Ev S Z 0 H0 σ (tOp (rI CPow fun i j => .int (i ^ j.toNat)) (tC (.int i)) (tC (.int j))) (EI (i ^ j.toNat)) := fun H b Q P k q => ⟨i, j, rfl, rfl, h, q _ _ (P.less (by omega)) Kp.refl rfl⟩
theorem ei_max2 (h1 : Ev S Z n1 H0 σ ta (EI a)) (h2 : Ev S Z n2 H0 σ tb (EI b)) : Ev S Z (n1 + n2) H0 σ (tCB (fun xs H Q => ∃ i j, xs = [.int i, .int j] ∧ Q (.int (if j > i then j else i)) H) (tCons ta (tCons tb tNil))) (EI (if b > a then b else a)) :=
  fun H bb Q P k q => h1 H (n2 + bb) _ (P.less (by omega)) k fun x H1 P1 k1 e1 => h2 H1 bb _ P1 (k.trans k1) fun y H2 P2 k2 e2 => ⟨a, b, by rw [e1, e2], q _ _ P2 (k1.trans k2) rfl⟩
theorem ei_ir {lo hi : Int} (h : Ev S Z n H0 σ te (EI a)) (h1 : lo ≤ a := by decide) (h2 : a ≤ hi := by decide) : Ev S Z n H0 σ te (IR lo hi) := h.imp fun v G e => ⟨a, e, h1, h2⟩
/-- a stretch that ends by B -/
def PR (K : PySem.W.Frag) (B : Int) : VR := fun v G => ∃ q : Stt, Dq K G v (pD q) ∧ 0 ≤ q.1 ∧ q.1 < q.2 ∧ q.2 ≤ B
theorem PR.mo {B : Int} : Mo (PR K B) := fun v G G' s ⟨q, h, r⟩ => ⟨q, h.mono s, r⟩
theorem PR.wide {B C : Int} {v : V} {G : Hp} (h : PR K B v G) (hc : B ≤ C) : PR K C v G := let ⟨q, d, h0, h1, h2⟩ := h; ⟨q, d, h0, h1, Int.le_trans h2 hc⟩
theorem ev_pr {B : Int} (h : 0 ≤ a ∧ a < b ∧ b ≤ B) (h1 : Ev S Z n1 H0 σ ta (EI a)) (h2 : Ev S Z n2 H0 σ tb (EI b)) : Ev S Z (n1 + (n2 + 0)) H0 σ (tTup (tCons ta (tCons tb tNil))) (PR K B) :=
  fun H bb Q P k q => (eva_pair EI_mo EI_mo h1 h2) H bb _ P k fun vs H1 P1 k1 ⟨v, w, e, e1, e2⟩ => by
    subst e; cases e1; cases e2
    refine ⟨sz2, fun t nt => ?_⟩
    obtain ⟨P2, k2, g2⟩ := laid (o := .tup [.int a, .int b]) P1 nt
    exact q _ _ P2 (k1.trans k2) ⟨(a, b), dq_pairT (.inl (.inl g2)), h⟩
theorem ev_lsW {m c m' c' : Nat} {R' : VR} (h : Ev S Z n H0 σ te (LsR m c R)) (h1 : m' ≤ m) (h2 : c ≤ c') (i : ∀ x G, R x G → R' x G) : Ev S Z n H0 σ te (LsR m' c' R') :=
  h.imp fun v G ⟨a, xs, e, g, l1, l2, l3⟩ => ⟨a, xs, e, g, Nat.le_trans h1 l1, Nat.le_trans l2 h2, fun x hx => i x G (l3 x hx)⟩
theorem ev_ifLt {i : Nat} {c d : Int} (e : σ[i]? = some (some (.int c))) (h1 : c < d → Ev S Z n H0 σ ta R) (h2 : Ev S Z n H0 σ tb R) :
    Ev S Z n H0 σ (tIf (tTest (tOp (rI0 fun i j => .bl (decide (i < j))) (tVar i) (tC (.int d)))) ta tb) R :=
  fun H b Q P k q => ⟨_, e, c, d, rfl, rfl, _, rfl, ite2 (fun g => h1 (of_decide_eq_true g) H b Q P k q) (fun _ => h2 H b Q P k q)⟩
def AnyO (S : Src) (Z : Hp) (H0 : Hp) (σ : L2.St) (to : TO) : Prop := ∀ (H : Hp) (b : Nat) (Q : Option Int → Hp → Prop), Iv S Z b H → Kp S Z H0 H → (∀ o H', Iv S Z b H' → Kp S Z H H' → Q o H') → to σ H Q
theorem any_none : AnyO S Z H0 σ tNoPart := fun H b Q P k q => q none H P Kp.refl
theorem any_some {t : TE} (h : Ev S Z 0 H0 σ t (fun v _ => ∃ i, v = .int i)) : AnyO S Z H0 σ (tPart t) := fun H b Q P k q => h H b _ (P.less (by omega)) k fun v H1 P1 k1 ⟨i, e⟩ => ⟨i, e, q _ _ P1 k1⟩
theorem ev_slA {a b : Nat} {t1 t2 : TO} (hm : Mo R) (h : Ev S Z n H0 σ te (TpR K a b R)) (h1 : AnyO S Z H0 σ t1) (h2 : AnyO S Z H0 σ t2) : Ev S Z n H0 σ (tSl (rSlA K) te t1 t2) (TpR K 0 b R) :=
  fun H bb Q P k q => h H bb _ P k fun x H1 P1 k1 r1 => h1 H1 bb _ P1 (k.trans k1) fun lo H2 P2 k2 => h2 H2 bb _ P2 ((k.trans k1).trans k2) fun hi H3 P3 k3 => by
    obtain ⟨l, xs, rfl, g, a1, a2, a3⟩ := TpR.mo hm _ _ _ (Kp.trans k2 k3) r1
    refine ⟨l, xs, rfl, Same.seqT hid_same g, fun _ => ?_, fun _ t nt => ?_⟩
    · exact q _ _ P3 (k1.trans (k2.trans k3)) ⟨l, xs, rfl, g, Nat.zero_le _, a2, a3⟩
    · obtain ⟨P4, k4, e4⟩ := laid (o := .tup (cutV xs lo hi)) P3 nt
      exact q _ _ P4 (k1.trans ((k2.trans k3).trans k4)) ⟨t, _, rfl, .inl (.inl e4), Nat.zero_le _, Nat.le_trans (cutV_length _ _ _) a2, fun v hv => hm _ _ _ k4 (a3 v (mem_cutV hv))⟩
end
theorem ev_lsW_v {m c m' c' : Nat} {R : VR} {v : V} {G : Hp} (h : LsR m c R v G) (h1 : m' ≤ m) (h2 : c ≤ c') : LsR m' c' R v G := let ⟨a, xs, e, g, l1, l2, l3⟩ := h; ⟨a, xs, e, g, Nat.le_trans h1 l1, Nat.le_trans l2 h2, l3⟩
theorem s_ifn' {D : Ends} {σ : L2.St} {H : Hp} {c : TT} {t u : TS} (P : L2.St → Hp → Prop) (rest : ∀ σ' H', P σ' H' → u D σ' H') (h : ∀ X : L2.St → Hp → Prop, (∀ σ' H', P σ' H' → X σ' H') → c σ H fun b H1 => if b = true then t { D with nx := X } σ H1 else X σ H1) : tSeq (tIfS c t tNext) u D σ H := h _ rest
theorem Dqs.pr {K : PySem.W.Frag} {G : Hp} {B : Int} : ∀ {xs : List V} {ps : List Stt}, Dqs K G xs (ps.map pD) → (∀ q ∈ ps, 0 ≤ q.1 ∧ q.1 < q.2 ∧ q.2 ≤ B) → ∀ x ∈ xs, PR K B x G
  | _, [], h, _, x, hx => by rw [dqs_nil h] at hx; cases hx
  | _, q :: r, h, hb, x, hx => by
    obtain ⟨v, t, rfl, h1, h2⟩ := dqs_cons h
    rcases List.mem_cons.mp hx with e | e
    · rw [e]; exact ⟨q, h1, hb q List.mem_cons_self⟩
    · exact Dqs.pr h2 (fun p hp => hb p (List.mem_cons_of_mem _ hp)) x e
theorem LgOk.all {n : Nat} {B : Int} {ps : List Stt} (h : LgOk n B ps) : ∀ q ∈ ps, 0 ≤ q.1 ∧ q.1 < q.2 ∧ q.2 ≤ B := fun q hq => by
  have := h.up.bound q hq
  have := h.top q hq
  omega
theorem prs_dp {K : PySem.W.Frag} {G : Hp} : ∀ {xs : List V} {ps : List Stt}, Dqs K G xs (ps.map pD) → DpAll K G xs (ps.map pD)
  | _, [], h => by rw [dqs_nil h]; exact .nil
  | _, q :: r, h => by
    obtain ⟨v, t, rfl, h1, h2⟩ := dqs_cons h
    obtain ⟨a, rfl, g⟩ := dq_pair h1
    exact .cons (.tup g (.cons (.int _) (.cons (.int _) .nil))) (prs_dp h2)
theorem log_dp {K : PySem.W.Frag} {G : Hp} {v : V} {ps : List Stt} (h : Dq K G v (logD ps)) : Dp K G v (logD ps) := by
  obtain ⟨a, xs, rfl, g, hx⟩ := dq_tup h
  exact .tup g (prs_dp hx)
theorem LogUp.take : ∀ {b : Int} {ps : List Stt} (n : Nat), LogUp b ps → LogUp b (ps.take n)
  | _, [], _, _ => by simp [LogUp]
  | _, _, 0, _ => trivial
  | _, q :: r, n + 1, ⟨a1, a2, a3⟩ => ⟨a1, a2, LogUp.take n a3⟩
theorem cutV_take (xs : List V) (n : Nat) : cutV xs none (some (n : Int)) = xs.take n := by
  unfold cutV
  rw [HT.sIx_none, HT.sIx_nat, List.drop_zero, Nat.sub_zero]
  by_cases h : n ≤ xs.length
  · rw [Nat.min_eq_left h]
  · rw [Nat.min_eq_right (by omega), List.take_length, List.take_of_length_le (by omega)]
theorem DownOk.push {B : Int} {qs : List Stt} {q : Stt} (h : DownOk B qs) (h0 : 0 ≤ q.1) (h1 : q.1 < q.2) (h2 : q.2 ≤ B) (hl : ∀ p, qs.head? = some p → p.2 < q.1) : DownOk B (q :: qs) :=
  ⟨h0, h1, h2, h, by cases qs with | nil => trivial | cons p r => exact hl p rfl⟩
end Lg

namespace Lg
open PySem PySem.Spec PyProof.Rows L2 Lm
/-! ### all but the list at f is as it was -/
def AB (f : Addr) (H H' : Hp) : Prop := Same (cut1 f H) (cut1 f H')
section
variable {K : PySem.W.Frag} {S : Src} {N : Addr → Prop} {Z H H1 H2 Hi G : Hp} {f t a : Addr} {b : Nat} {o : HO}
theorem AB.refl : AB f H H := Same.refl _
theorem AB.trans (h : AB f H H1) (k : AB f H1 H2) : AB f H H2 := Same.trans h k
theorem AB.of (s : Same H H1) : AB f H H1 := cut_mono s
theorem AB.set : AB f H (upd H f o) := fun b u e => by
  have n := cut_some e
  rw [cut1_at n.1, upd_ne n.1]
  exact n.2
theorem AB.at_ (h : AB f H H1) (ne : a ≠ f) (e : H a = some o) : H1 a = some o := (cut_some (h a o (by rw [cut1_at ne]; exact e))).2
theorem AB.cut (h : AB f H H1) : Same (cut1 f (Lg.cut N H)) (cut1 f (Lg.cut N H1)) := fun b u e => by
  have n := cut_some e
  have m := cut_some n.2
  rw [cut1_at n.1, cut_at m.1]
  exact h.at_ n.1 m.2
theorem AB.kp {H8 : Hp} (h : AB f H H1) (nf : H8 f = none) (k : Kp S Z H8 H) : Kp S Z H8 H1 := fun b u e => by
  have m := cut_some e
  have n := cut_some (k b u e)
  show Lg.cut (NZ S Z) H1 b = _
  rw [cut_at m.1]
  exact h.at_ (ne_of_none m.2 nf) n.2
theorem AB.iv (h : AB f H H1) (P : Iv S Z b H) (hf : Off S Z f) : Iv S Z b H1 :=
  ⟨S.frame (fun a ha => by
    have ne : a ≠ f := fun e => hf.1 (by rw [← e]; exact ha)
    cases e : H a with
    | none => exact absurd e (S.full P.src ha)
    | some o => exact h.at_ ne e) P.src, fun a u e => h.at_ (ne_of_none e hf.2) (P.zz a u e), P.zo⟩
def GrowB (K : PySem.W.Frag) (N : Addr → Prop) (H : Hp) (f : Addr) (ps : List Stt) (Hi : Hp) : Prop := ∃ xs, AB f H Hi ∧ Hi f = some (.lst xs) ∧ Dqs K (cut1 f (Lg.cut N Hi)) xs (ps.map pD)
theorem GrowB.put {zs : List V} {ps : List Stt} {q : Stt} (O : Occ N Hi) (si : AB f H Hi) (sG : Same Hi G) (eG : G f = some o) (hz : Dqs K (cut1 f (Lg.cut N Hi)) zs (ps.map pD)) (nt : G t = none) :
    GrowB K N H f (ps ++ [q]) (upd (upd G t (.tup [.int q.1, .int q.2])) f (.lst (zs ++ [.ref t]))) := by
  obtain ⟨s5, e5⟩ := app_cut (vs := [.int q.1, .int q.2]) (o' := .lst (zs ++ [.ref t])) (O.keep sG) eG nt
  refine ⟨_, (si.trans (AB.of (sG.trans (same_new nt)))).trans AB.set, upd_same, ?_⟩
  rw [List.map_append]
  exact dqs_snoc (hz.mono ((cut_mono (cut_mono sG)).trans s5)) (dq_pairT (.inl (.inl e5)))
theorem hid_cut1 : Same (hid S (L2.upd Z f o) H) (cut1 f (hid S Z H)) := fun b u e => by
  have n := off_hide (hid_some e)
  rw [cut1_at n.1, hid_at n.2]
  exact hid_same _ _ e
theorem sqt_ne {xs ys : List V} {a : Addr} (h : SqT K G a xs) (e : G f = some (.lst ys)) : SqT K (cut1 f G) a xs := by
  rcases h with (h | ⟨o, h⟩) | h
  · exact .inl (.inl (by rw [cut1_at (ne_of h e (by intro z; cases z))]; exact h))
  · exact .inl (.inr ⟨o, by rw [cut1_at (ne_of h e (by intro z; cases z))]; exact h⟩)
  · exact .inr h
theorem pr_cut1 {B : Int} {x : V} {ys : List V} (h : PR K B x G) (e : G f = some (.lst ys)) : PR K B x (cut1 f G) := by
  obtain ⟨q, hd, r⟩ := h
  obtain ⟨a, rfl, g⟩ := dq_pair hd
  exact ⟨q, dq_pairT (sqt_ne g e), r⟩
end
end Lg
namespace Lg
open PySem PySem.Spec PyProof.Rows L2 Lm
theorem dqs_set {K : PySem.W.Frag} {G : Hp} {v : V} {d : PyData} : ∀ {xs : List V} {ds : List PyData} (j : Nat), Dqs K G xs ds → Dq K G v d → Dqs K G (xs.set j v) (ds.set j d)
  | _, _, _, .nil, _ => .nil
  | _, _, 0, .cons _ t, h => .cons h t
  | _, _, j + 1, .cons r t, h => .cons r (dqs_set j t h)
theorem LgOk.wide {n m : Nat} {B C : Int} {ps : List Stt} (h : LgOk n B ps) (h1 : n ≤ m) (h2 : B ≤ C) : LgOk m C ps := ⟨h.up, Nat.le_trans h.len h1, fun q hq => Int.le_trans (h.top q hq) h2⟩
theorem ixN_in {n : Nat} {i : Int} (h0 : 0 ≤ i) (h1 : i < n) : ixN n i = some i.toNat := by
  unfold ixN
  rw [if_pos h0, if_pos h1]
theorem atI_get {α : Type} {xs : List α} {i : Int} {v : α} (h0 : 0 ≤ i) (h : xs[i.toNat]? = some v) : atI xs i = some v := by
  have lt : i.toNat < xs.length := (List.getElem?_eq_some_iff.mp h).1
  unfold atI
  rw [ixN_in h0 (by omega)]
  exact h
end Lg
namespace Lg
open PySem PySem.Spec PyProof.Rows L2 Lm
theorem kp_none {S : Src} {Z H H8 : Hp} {p : Addr} (O : Occ (NZ S Z) H8) (k : Kp S Z H H8) (n : H8 p = none) : H p = none := by
  cases e : H p with
  | none => rfl
  | some o =>
    by_cases z : NZ S Z p
    · exact absurd n (O p z)
    · have h := k p o (by rw [show hid S Z H p = H p from cut_at z]; exact e)
      have := (cut_some h).2
      rw [n] at this
      cases this
end Lg

namespace Lg
open PySem PySem.Spec PyProof.Rows L2 Lm
/-- a log of at most n stretches, none of them empty, all of them up to B -/
def StOk (n : Nat) (B : Int) (ps : List Stt) : Prop := ps.length ≤ n ∧ ∀ q ∈ ps, 0 ≤ q.1 ∧ q.1 < q.2 ∧ q.2 ≤ B
def LgR (K : PySem.W.Frag) (n : Nat) (B : Int) : VR := fun v G => ∃ ps, Dq K G v (logD ps) ∧ StOk n B ps
theorem LgR.mo {K : PySem.W.Frag} {n : Nat} {B : Int} : Mo (LgR K n B) := fun v G G' s ⟨ps, h, r⟩ => ⟨ps, h.mono s, r⟩
theorem prs_dqs {K : PySem.W.Frag} {G : Hp} {B : Int} : ∀ {xs : List V}, (∀ x ∈ xs, PR K B x G) → ∃ ps : List Stt, Dqs K G xs (ps.map pD) ∧ ∀ q ∈ ps, 0 ≤ q.1 ∧ q.1 < q.2 ∧ q.2 ≤ B
  | [], _ => ⟨[], .nil, fun q h => nomatch h⟩
  | x :: r, h => by
    obtain ⟨q, hd, hq⟩ := h x List.mem_cons_self
    obtain ⟨ps, h1, h2⟩ := prs_dqs (xs := r) fun y hy => h y (List.mem_cons_of_mem _ hy)
    refine ⟨q :: ps, .cons hd h1, fun p hp => ?_⟩
    rcases List.mem_cons.mp hp with e | e
    · rw [e]; exact hq
    · exact h2 p e
theorem TpR.lg {K : PySem.W.Frag} {m n : Nat} {B : Int} {v : V} {G : Hp} (h : TpR K m n (PR K B) v G) : LgR K n B v G := by
  obtain ⟨a, xs, rfl, g, l1, l2, hx⟩ := h
  obtain ⟨ps, h1, h2⟩ := prs_dqs hx
  have := h1.len
  rw [List.length_map] at this
  exact ⟨ps, .tup g h1, by omega, h2⟩
theorem LgOk.st {n : Nat} {B : Int} {ps : List Stt} (h : LgOk n B ps) : StOk n B ps := ⟨h.len, h.all⟩
theorem StOk.wide {n m : Nat} {B C : Int} {ps : List Stt} (h : StOk n B ps) (h1 : n ≤ m) (h2 : B ≤ C) : StOk m C ps := ⟨Nat.le_trans h.1 h1, fun q hq => by have := h.2 q hq; omega⟩
theorem log_sm {ps : List Stt} {n : Nat} {B : Int} (h : StOk n B ps) (hB : B ≤ 10000000000) : Sm (n * 35 + 3) 2 (logD ps) :=
  Sm.tuple (n := 33) (k := 1) (fun d hd => by
    obtain ⟨q, hq, rfl⟩ := List.mem_map.mp hd
    have := h.2 q hq
    exact pD_sm (by omega) (by omega)) (by rw [List.length_map]; exact h.1)
theorem kind_sm (h : Bool) : Sm 13 0 (.str (kindS h)) := by cases h <;> exact sm_chk (by decide +kernel)
theorem lamp_sm {l : Lamp} (h0 : 0 ≤ l.2) (h1 : l.2 ≤ 10000000000) : Sm 33 1 (lampD l) :=
  Sm.tuple (c := 2) (n := 13) (k := 0) (ds := [.str (kindS l.1), .int l.2]) (fun d hd => by
    rcases List.mem_cons.mp hd with e | e
    · rw [e]; exact kind_sm _
    · rw [List.mem_singleton.mp e]; exact Sm.int (by omega)) (Nat.le_refl 2)
theorem two_sm' {d e : PyData} {n k : Nat} (h1 : Sm n k d) (h2 : Sm n k e) : Sm (2 * (n + 2) + 3) (k + 1) (.list [d, e]) :=
  Sm.list (c := 2) (ds := [d, e]) (fun x hx => by
    rcases List.mem_cons.mp hx with z | z
    · rw [z]; exact h1
    · rw [List.mem_singleton.mp z]; exact h2) (Nat.le_refl 2)
theorem ints_sm {xs : List Int} {n : Nat} (hl : xs.length ≤ n) (h : ∀ x ∈ xs, x.natAbs < 10 ^ 12) : Sm (n * 15 + 3) 1 (.tuple (xs.map .int)) :=
  Sm.tuple (n := 13) (k := 0) (fun d hd => by
    obtain ⟨x, hx, rfl⟩ := List.mem_map.mp hd
    exact Sm.int (h x hx)) (by rw [List.length_map]; exact hl)
section
variable {K : PySem.W.Frag} {S : Src} {Z : Hp} {H0 : Hp} {σ : L2.St} {te ta tb : TE} {tl : TA} {n n1 n2 : Nat} {a b lo hi : Int} {R : VR}
theorem ev_prR {B : Int} (h0 : 0 ≤ a) (h1 : a < lo) (h2 : hi ≤ B) (e1 : Ev S Z n1 H0 σ ta (EI a)) (e2 : Ev S Z n2 H0 σ tb (IR lo hi)) : Ev S Z (n1 + (n2 + 0)) H0 σ (tTup (tCons ta (tCons tb tNil))) (PR K B) :=
  fun H bb Q P k q => (eva_pair EI_mo IR.mo e1 e2) H bb _ P k fun vs H1 P1 k1 ⟨v, w, e, e1, ⟨b, e2, b0, b1⟩⟩ => by
    subst e; cases e1; cases e2
    refine ⟨sz2, fun t nt => ?_⟩
    obtain ⟨P2, k2, g2⟩ := laid (o := .tup [.int a, .int b]) P1 nt
    exact q _ _ P2 (k1.trans k2) ⟨(a, b), dq_pairT (.inl (.inl g2)), h0, by show a < b; omega, by show b ≤ B; omega⟩
theorem ev_modC {m : Int} (hm : 0 < m) (h : Ev S Z n H0 σ te (IR lo hi)) : Ev S Z n H0 σ (tOp (rI (fun _ j => j ≠ 0) fun i j => .int (i.fmod j)) te (tC (.int m))) (IR 0 (m - 1)) :=
  fun H b Q P k q => h H b _ P k fun v H1 P1 k1 ⟨i, e, _⟩ => ⟨i, m, e, rfl, by omega, q _ _ P1 k1 ⟨_, rfl, (fmodB hm).1, by have := (fmodB (a := i) hm).2; omega⟩⟩
/-- lamps[0][1] -/
theorem ei_stay0 {x : V} {i : Nat} {l : Lamp} {r : List Lamp} (e : σ[i]? = some (some x)) (h : Dq K (hid S Z H0) x (lampsD (l :: r))) : Ev S Z 0 H0 σ (tOp (rIxT K) (tOp (rIxT K) (tVar i) (tC (.int 0))) (tC (.int 1))) (EI l.2) :=
  fun H b Q P k q => by
    obtain ⟨a, xs, rfl, g, hd⟩ := dq_tup (h.mono k)
    obtain ⟨v, t, rfl, h1, h2⟩ := dqs_cons hd
    obtain ⟨al, rfl, gl⟩ := dq_lamp h1
    exact ⟨_, e, a, _, 0, .ref al, rfl, rfl, Same.seqT hid_same g, atI_nat (j := 0) rfl, al, _, 1, .int l.2, rfl, rfl, Same.seqT hid_same gl, atI_nat (j := 1) rfl, q _ _ (P.less (by omega)) Kp.refl rfl⟩
/-- lamp[1] -/
theorem ei_stay {x : V} {i : Nat} {l : Lamp} (e : σ[i]? = some (some x)) (h : Dq K (hid S Z H0) x (lampD l)) : Ev S Z 0 H0 σ (tOp (rIxT K) (tVar i) (tC (.int 1))) (EI l.2) :=
  fun H b Q P k q => by
    obtain ⟨al, rfl, gl⟩ := dq_lamp (h.mono k)
    exact ⟨_, e, al, _, 1, .int l.2, rfl, rfl, Same.seqT hid_same gl, atI_nat (j := 1) rfl, q _ _ (P.less (by omega)) Kp.refl rfl⟩
theorem ev_lg {m : Nat} {B : Int} (hn : n1 ≤ 1000) (h : EvA S Z n H0 σ tl (AllR m n1 (PR K B))) : Ev S Z n H0 σ (tTup tl) (LgR K n1 B) := (ev_tupR hn PR.mo h).imp fun v G r => TpR.lg r
end
theorem ne_self {z : Str} : V.bl (!decide (V.str z = V.str z)) = V.bl false := by rw [decide_eq_true rfl]; rfl
theorem dqs_lg {K : PySem.W.Frag} {G : Hp} {n : Nat} {B : Int} : ∀ {xs : List V} {gs : List (List Stt)}, Dqs K G xs (gs.map logD) → (∀ g ∈ gs, LgOk n B g) → ∀ x ∈ xs, LgR K n B x G
  | _, [], h, _, x, hx => by rw [dqs_nil h] at hx; cases hx
  | _, q :: r, h, hb, x, hx => by
    obtain ⟨v, t, rfl, h1, h2⟩ := dqs_cons h
    rcases List.mem_cons.mp hx with e | e
    · rw [e]; exact ⟨q, h1, (hb q List.mem_cons_self).st⟩
    · exact dqs_lg h2 (fun p hp => hb p (List.mem_cons_of_mem _ hp)) x e
end Lg

namespace Lg
open PySem PySem.Spec PyProof.Rows L2 Lm
/-! ### an error class of one field, over other such classes over ValueError -/
structure IsC (K : PySem.W.Frag) (C : Addr) : Prop where
  ha : PySem.W.findIn K (.ref C) "__class__" = some (some (.builtin "object.__class__"))
  hn : PySem.W.specialIn K (.builtin "object.__class__") "__get__" = some (some (.builtin "getset_descriptor.__get__"))
  ht : PySem.W.takesIn K (.builtin "object.__class__") = some true
  hm : PySem.W.mroIn K C (.type "object") = some true
structure ExC (K : PySem.W.Frag) (mg : Str → Option Value) (X q f : Str) (C fI : Addr) (fd : FuncData) (st : Stmt) : Prop where
  g : mg X = some (.ref C)
  ox : OexC K C
  iC : PySem.W.findIn K (.ref C) "__init__" = some (some (.ref fI))
  tI : PySem.W.typeIn K (.ref fI) = some (.type "function")
  no : PySem.W.findIn K (.ref C) f = some none
  xf : XfC K C
  is : IsC K C
  F : Fun K "__init__" q st fI fd
  b : Binds K fd ["self", f] []
def sp_init (K : PySem.W.Frag) (f : Str) : Sp := fun vs H Q _ => ∃ (a C : Addr) (v : V), vs = [.ref a, v] ∧ OexC K C ∧ PySem.W.findIn K (.ref C) f = some none ∧ H a = some (exo a C none) ∧
  ∀ dx, H dx = none → dx ≠ a → Q .non (upd (upd H dx (exd dx [(f, v)])) a (exo a C (some dx)))
section
variable {P : Program} {w : World} {K : PySem.W.Frag} {mg : Str → Option Value} {base : Heap}
theorem mkO_run {C : Addr} {f : Str} {v : V} {H1 : Hp} {Q : XK} (ox : OexC K C) (no : PySem.W.findIn K (.ref C) f = some none) (h : ∀ (d : Addr) (H' : Hp), Same H1 H' → H1 d = none → H' d = some (.xd [(f, v)]) → Q (.ref C) (some d) H') :
    ([v] : List V).length ≤ 1000 ∧ ∀ a, H1 a = none → sp_init K f [.ref a, v] (upd H1 a (exo a C none)) (fun r H2 => r = .non ∧ ∃ (d : Addr) (fs : List (Str × V)), H2 a = some (exo a C (some d)) ∧ H2 d = some (exd d fs) ∧ H1 d = none ∧ Q (.ref C) (some d) (upd (del H2 a) d (.xd fs))) (fun _ _ _ => False) := by
  refine ⟨by show 1 ≤ 1000; decide, fun a na => ⟨a, C, v, rfl, ox, no, upd_same, fun dx nd ne => ⟨rfl, dx, [(f, v)], upd_same, ?_, ?_, ?_⟩⟩⟩
  · rw [upd_ne ne, upd_same]
  · rw [upd_ne ne] at nd; exact nd
  · rw [upd_ne ne] at nd
    refine h dx _ (fun b o e => ?_) nd upd_same
    have ba : b ≠ a := ne_of_none e na
    have bd : b ≠ dx := ne_of_none e nd
    rw [upd_ne bd, del_ne ba, upd_ne ba, upd_ne bd, upd_ne ba]
    exact e
/-- isinstance of the error that the suite holds -/
def rIsX (K : PySem.W.Frag) (a : Addr) (cls : Value) (d : Option Addr) : List V → Hp → VK → Prop := fun xs H Q => ∃ (D : Addr) (c : V) (dd : Addr) (fs : List (Str × V)) (b : Bool), xs = [.ref a, c] ∧ cls = .ref D ∧ d = some dd ∧ H dd = some (.xd fs) ∧ XfC K D ∧ IsC K D ∧
  ((∃ cv : Value, (∀ u, L2.RelV c u → u = cv) ∧ PySem.W.kitOne K (.ref D) cv = some b) ∨ (∃ (tp : Addr) (as : List Addr), c = .ref tp ∧ H tp = some (.tup (as.map V.ref)) ∧ PySem.W.kitAny K (.ref D) (as.map Value.ref) = some b)) ∧ Q (.bl b) H
theorem vals_refs : ∀ {as : List Addr} {us : List Value}, Vals (as.map V.ref) us → us = as.map Value.ref
  | [], _, .nil => rfl
  | a :: r, _, .cons h t => by
    obtain rfl := (show _ = Value.ref a from h)
    rw [vals_refs t]
    rfl
theorem call_isX {X : Cx} {a : Addr} {oe : Obj} {cls : Value} {d : Option Addr} {pn : List (Addr × Obj)} (hz : Zc cls d oe) (hf : ∃ vs, oe.data = .fields vs) : CallR (X.suite a ((a, oe) :: pn)) (.builtin "isinstance") (rIsX X.K a cls d) := by
  intro pins s σ H xs us Q I r h
  obtain ⟨D, c, dd, fs, b, rfl, rfl, rfl, ed, XF, IC, e, q⟩ := h
  obtain ⟨u1, u2, rfl, r1, r2⟩ := vals2 r
  cases (show u1 = Value.ref a from r1)
  obtain ⟨hget, _⟩ := I.pin (a, oe) (List.mem_append.mpr (.inl List.mem_cons_self))
  obtain ⟨vs, hv⟩ := hf
  obtain ⟨mA, hns, hr⟩ := (show ObjOk X.prog X.w H s.heap dd (.xd fs) from I.hok dd _ ed)
  obtain ⟨od, ho, hl⟩ := lookIn_ns hns
  have J : PySem.W.InstAt s.heap a oe D (some od) := ⟨hget, hz.1, by unfold PySem.W.notCls; rw [hv] <;> rfl, by rw [hz.2]; exact ho⟩
  have hcl : (PySem.W.clsIn X.K D).isSome = true := by
    obtain ⟨cd, hc, _⟩ := PySem.W.any_some XF.hdC
    rw [hc]; rfl
  have Z := PySem.W.kitx_exc (x := a) (od := some od) (ox := oe) hcl XF.ga XF.gg XF.exC IC.ha IC.hn IC.ht IC.hm
  rcases e with ⟨cv, hcv, e⟩ | ⟨tp, as, rfl, hT, e⟩
  · have ec := hcv _ r2
    subst ec
    exact PySem.W.kia_one Z I.kIn J e (fun z => nomatch z) fun tk => ⟨.bl b, H, I.kept (t' := tk) fun _ _ z => z, rfl, q⟩
  · cases (show u2 = Value.ref tp from r2)
    obtain ⟨_, its, rv, o, h1, h2, n, h3⟩ := (show ObjOk X.prog X.w H s.heap tp (.tup (as.map V.ref)) from I.hok tp _ hT)
    have e3 := vals_refs rv
    subst e3
    obtain ⟨oc, odd, dt, sl⟩ := o
    simp only at h2 h3
    subst h2 h3
    exact PySem.W.kia_tup Z I.kIn J h1 e (fun z => nomatch z) fun tk => ⟨.bl b, H, I.kept (t' := tk) fun _ _ z => z, rfl, q⟩
end
end Lg

namespace Lg
open PySem PySem.Spec PyProof.Rows L2 Lm
/-! ### runs, and the logs that the text makes of them -/
abbrev Run := Int × Int × Int
def lastM (r : Run) : Int := r.1 + r.2.1 * (r.2.2 - 1)
def ap (f st : Int) (n : Nat) : List Int := (List.range n).map fun (k : Nat) => f + st * (k : Int)
def pcs (s f st : Int) (n : Nat) : List Stt := (List.range n).map fun (k : Nat) => (f + st * (k : Int), f + st * (k : Int) + s)
def spreadAll (rs : List Run) : List Int := rs.flatMap fun r => ap r.1 r.2.1 r.2.2.toNat
def joinS : List Stt → Stt → List Stt
  | [], p => [p]
  | q :: r, p => if p.1 ≤ q.2 then (q.1, if p.2 > q.2 then p.2 else q.2) :: r else p :: q :: r
def joinedF (ps : List Stt) : List Stt := (ps.foldl joinS []).reverse
def litP (s : Int) (r : Run) : List Stt := if r.2.1 ≤ s then [(r.1, lastM r + s)] else pcs s r.1 r.2.1 (if 61 < r.2.2 then 61 else r.2.2).toNat
def rup (n by_ : Int) : Int := (n + by_ - 1).fdiv by_
def lightR (s off : Int) (r : Run) : Run :=
  let u := rup (if off - r.1 > 0 then off - r.1 else 0) r.2.1
  let a := rup s r.2.1
  (r.1 + r.2.1 * u, r.2.1 * a, rup (r.2.2 - u) a)
def lightU (off : Int) (r : Run) : Int := rup (if off - r.1 > 0 then off - r.1 else 0) r.2.1
def lightS (s : Int) (x : List Run × Int) (r : Run) : List Run × Int := if lightU x.2 r < r.2.2 then (x.1 ++ [lightR s x.2 r], lastM (lightR s x.2 r) + s) else x
def lightsF (s : Int) (rs : List Run) : List Run := (rs.foldl (lightS s) ([], 0)).1
def logOf (l : Lamp) (rs : List Run) : List Stt := joinedF ((if l.1 then rs else lightsF l.2 rs).flatMap (litP l.2))
def RunsUp : Int → List Run → Prop
  | _, [] => True
  | b, r :: rs => b < r.1 ∧ 1 ≤ r.2.1 ∧ 1 ≤ r.2.2 ∧ RunsUp (lastM r) rs
/-- the end of the last stretch (of a list in reverse) is at most B -/
def HeadB (acc : List Stt) (B : Int) : Prop := ∀ q, acc.head? = some q → q.2 ≤ B
def offOf : List Stt → Int
  | [] => 0
  | q :: _ => q.2
theorem ap_succ (f st : Int) (n : Nat) : ap f st (n + 1) = ap f st n ++ [f + st * (n : Int)] := by unfold ap; rw [List.range_succ, List.map_append]; rfl
theorem pcs_succ (s f st : Int) (n : Nat) : pcs s f st (n + 1) = pcs s f st n ++ [(f + st * (n : Int), f + st * (n : Int) + s)] := by unfold pcs; rw [List.range_succ, List.map_append]; rfl
theorem ap_mono {st : Int} (h : 1 ≤ st) (n : Nat) : st * ((n + 1 : Nat) : Int) = st * (n : Int) + st := by
  rw [show ((n + 1 : Nat) : Int) = (n : Int) + 1 by omega, Int.mul_add, Int.mul_one]
theorem mul_nn {st : Int} (h : 1 ≤ st) (n : Nat) : 0 ≤ st * (n : Int) := Int.mul_nonneg (by omega) (by omega)
theorem joinS_len (acc : List Stt) (p : Stt) : acc.length ≤ (joinS acc p).length ∧ 1 ≤ (joinS acc p).length := by
  cases acc with
  | nil => simp [joinS]
  | cons q r => simp only [joinS]; split <;> simp
theorem joinS_fold_len : ∀ (ps : List Stt) (acc : List Stt), acc.length ≤ (ps.foldl joinS acc).length
  | [], _ => Nat.le_refl _
  | p :: r, acc => Nat.le_trans (joinS_len acc p).1 (joinS_fold_len r _)
theorem stepL_len2 (h : Bool) (s : Int) (acc : List Stt) (m : Int) : acc.length ≤ (stepL h s acc m).length := by
  cases acc with
  | nil => simp
  | cons q r => simp only [stepL]; split <;> (try split) <;> simp
theorem stepL_fold_len (h : Bool) (s : Int) : ∀ (ms : List Int) (acc : List Stt), acc.length ≤ (ms.foldl (stepL h s) acc).length
  | [], _ => Nat.le_refl _
  | m :: r, acc => Nat.le_trans (stepL_len2 h s acc m) (stepL_fold_len h s r _)
theorem stepJ {s m : Int} {acc : List Stt} (hb : HeadB acc (m + s)) : stepL true s acc m = joinS acc (m, m + s) := by
  cases acc with
  | nil => rfl
  | cons q r =>
    have h := hb q rfl
    simp only [stepL, joinS, Bool.true_or, if_true]
    by_cases g : q.2 < m
    · rw [if_pos g, if_neg (by omega)]
    · rw [if_neg g, if_pos (by omega)]
      congr 1
      by_cases g2 : m + s > q.2
      · rw [if_pos g2]
      · rw [if_neg g2, show q.2 = m + s by omega]
theorem joinS_head {m t : Int} {acc : List Stt} (hb : HeadB acc t) : ∃ r q, joinS acc (m, t) = q :: r ∧ q.2 = t := by
  cases acc with
  | nil => exact ⟨[], _, rfl, rfl⟩
  | cons q r =>
    have h := hb q rfl
    simp only [joinS]
    by_cases g : m ≤ q.2
    · rw [if_pos g]
      refine ⟨r, _, rfl, ?_⟩
      show (if t > q.2 then t else q.2) = t
      split <;> omega
    · rw [if_neg g]; exact ⟨q :: r, _, rfl, rfl⟩
theorem headB_join {m t : Int} {acc : List Stt} (hb : HeadB acc t) : HeadB (joinS acc (m, t)) t ∧ offOf (joinS acc (m, t)) = t := by
  obtain ⟨r, q, e, h⟩ := joinS_head (m := m) hb
  rw [e]
  exact ⟨fun x hx => by cases hx; omega, h⟩
/-- a hold lamp sees a run -/
theorem runH {s f st : Int} {acc : List Stt} (hs : 1 ≤ s) (hst : 1 ≤ st) (hb : HeadB acc (f + s)) : ∀ n : Nat, (ap f st n).foldl (stepL true s) acc = (pcs s f st n).foldl joinS acc ∧ HeadB ((pcs s f st n).foldl joinS acc) (f + st * (n : Int) + s)
  | 0 => ⟨rfl, fun q hq => by have := hb q hq; have := mul_nn hst 0; omega⟩
  | n + 1 => by
    obtain ⟨i1, i2⟩ := runH hs hst hb n
    rw [ap_succ, pcs_succ, List.foldl_append, List.foldl_append, i1]
    have e := stepJ i2
    refine ⟨e, fun q hq => ?_⟩
    have := (headB_join i2).1 q hq
    rw [ap_mono hst]
    omega
/-- pieces that touch are one -/
theorem touch {s f st : Int} {acc : List Stt} (hs : 1 ≤ s) (hst : 1 ≤ st) (hle : st ≤ s) (hb : HeadB acc (f + s)) : ∀ n : Nat, (pcs s f st (n + 1)).foldl joinS acc = joinS acc (f, f + st * (n : Int) + s)
  | 0 => by
    show joinS acc (f + st * ((0 : Nat) : Int), f + st * ((0 : Nat) : Int) + s) = _
    simp
  | n + 1 => by
    rw [pcs_succ, List.foldl_append, touch hs hst hle hb n]
    show joinS (joinS acc (f, f + st * (n : Int) + s)) _ = _
    have z := mul_nn hst n
    have e := ap_mono hst n
    cases acc with
    | nil =>
      simp only [joinS]
      rw [if_pos (by show f + st * ((n + 1 : Nat) : Int) ≤ f + st * (n : Int) + s; omega), if_pos (by show f + st * ((n + 1 : Nat) : Int) + s > f + st * (n : Int) + s; omega)]
    | cons q r =>
      have h := hb q rfl
      simp only [joinS]
      by_cases g : f ≤ q.2
      · rw [if_pos g, if_pos g]
        simp only []
        rw [if_pos (by split <;> omega)]
        congr 1
        congr 1
        repeat (first | omega | split)
      · rw [if_neg g, if_neg g]
        simp only []
        rw [if_pos (by omega), if_pos (by omega)]
/-- pieces that stay apart -/
theorem apart_len {s f st : Int} (hs : 1 ≤ s) (hlt : s < st) : ∀ (n : Nat) (acc : List Stt), HeadB acc (f + s) → acc.length + n ≤ ((pcs s f st (n + 1)).foldl joinS acc).length ∧ (acc = [] → n + 1 ≤ ((pcs s f st (n + 1)).foldl joinS acc).length) ∧ offOf ((pcs s f st (n + 1)).foldl joinS acc) = f + st * (n : Int) + s ∧ ((pcs s f st (n + 1)).foldl joinS acc) ≠ []
  | 0, acc, hb => by
    have e : pcs s f st 1 = [(f + st * ((0 : Nat) : Int), f + st * ((0 : Nat) : Int) + s)] := rfl
    have z : f + st * ((0 : Nat) : Int) = f := by simp
    rw [e, z]
    show acc.length + 0 ≤ (joinS acc (f, f + s)).length ∧ (acc = [] → 0 + 1 ≤ (joinS acc (f, f + s)).length) ∧ offOf (joinS acc (f, f + s)) = f + s ∧ joinS acc (f, f + s) ≠ []
    refine ⟨(joinS_len _ _).1, fun _ => (joinS_len _ _).2, (headB_join hb).2, fun e => ?_⟩
    have := (joinS_len acc (f, f + s)).2
    rw [e] at this
    simp at this
  | n + 1, acc, hb => by
    obtain ⟨i1, i2, i3, i4⟩ := apart_len (f := f) hs hlt n acc hb
    rw [pcs_succ, List.foldl_append]
    generalize (pcs s f st (n + 1)).foldl joinS acc = A at i1 i2 i3 i4
    have e := ap_mono (st := st) (by omega) n
    cases A with
    | nil => exact absurd rfl i4
    | cons q r =>
      have hq : q.2 = f + st * (n : Int) + s := i3
      have j : ([(f + st * ((n + 1 : Nat) : Int), f + st * ((n + 1 : Nat) : Int) + s)] : List Stt).foldl joinS (q :: r) = (f + st * ((n + 1 : Nat) : Int), f + st * ((n + 1 : Nat) : Int) + s) :: q :: r := by
        show joinS (q :: r) _ = _
        simp only [joinS]
        rw [if_neg (by show ¬ f + st * ((n + 1 : Nat) : Int) ≤ q.2; omega)]
      rw [j]
      simp only [List.length_cons] at i1 i2 ⊢
      exact ⟨by omega, fun z => by have := i2 z; omega, rfl, by simp⟩
/-- what the text makes of a run, against its pieces -/
theorem litP_rel {s f st c : Int} {acc : List Stt} (hs : 1 ≤ s) (hst : 1 ≤ st) (hc : 1 ≤ c) (hb : HeadB acc (f + s)) :
    (litP s (f, st, c)).foldl joinS acc = (pcs s f st c.toNat).foldl joinS acc ∨ (60 < ((litP s (f, st, c)).foldl joinS acc).length ∧ 60 < ((pcs s f st c.toNat).foldl joinS acc).length) := by
  unfold litP
  by_cases h : st ≤ s
  · left
    rw [if_pos h]
    obtain ⟨n, hn⟩ : ∃ n : Nat, c.toNat = n + 1 := ⟨c.toNat - 1, by omega⟩
    rw [hn, touch hs hst h hb n]
    show joinS acc _ = _
    unfold lastM
    rw [show (f, st, c).2.2 - 1 = (n : Int) by show c - 1 = _; omega]
  · rw [if_neg h]
    by_cases h2 : 61 < c
    · right
      rw [show (if (61 : Int) < (f, st, c).2.2 then (61 : Int) else (f, st, c).2.2) = 61 from if_pos h2]
      have k : ∀ n : Nat, 60 ≤ n → 60 < ((pcs s f st (n + 1)).foldl joinS acc).length := fun n hn => by
        obtain ⟨i1, i2, _⟩ := apart_len (f := f) hs (by omega : s < st) n acc hb
        cases acc with
        | nil => have := i2 rfl; omega
        | cons q r => simp only [List.length_cons] at i1; omega
      refine ⟨k 60 (by omega), ?_⟩
      obtain ⟨n, hn⟩ : ∃ n : Nat, c.toNat = n + 1 := ⟨c.toNat - 1, by omega⟩
      rw [hn]
      exact k n (by omega)
    · left
      rw [show (if (61 : Int) < (f, st, c).2.2 then (61 : Int) else (f, st, c).2.2) = c from if_neg h2]
theorem rup_spec {n b : Int} (hn : 0 ≤ n) (hb : 1 ≤ b) : 0 ≤ rup n b ∧ n ≤ b * rup n b ∧ b * rup n b < n + b := by
  unfold rup
  rw [Int.fdiv_eq_ediv_of_nonneg _ (by omega)]
  have h1 : b * ((n + b - 1) / b) ≤ n + b - 1 := Int.mul_ediv_self_le (by omega)
  have h2 : n + b - 1 < ((n + b - 1) / b + 1) * b := Int.lt_ediv_add_one_mul_self _ (by omega)
  have h3 : 0 ≤ (n + b - 1) / b := Int.ediv_nonneg (by omega) (by omega)
  rw [Int.add_mul, Int.one_mul, Int.mul_comm] at h2
  generalize (n + b - 1) / b = q at h1 h2 h3
  omega
theorem stepP1 {s m : Int} {acc : List Stt} (hs : 1 ≤ s) (h : offOf acc ≤ m) : stepL false s acc m = joinS acc (m, m + s) := by
  cases acc with
  | nil => rfl
  | cons q r =>
    have h : q.2 ≤ m := h
    simp only [stepL, joinS, Bool.false_or]
    by_cases g : q.2 < m
    · rw [if_pos g, if_neg (by omega)]
    · have e : m = q.2 := by omega
      rw [if_neg g, if_pos (decide_eq_true e), if_pos (by omega), if_pos (by omega)]
theorem stepP0 {s m : Int} {acc : List Stt} (h0 : 0 ≤ m) (h : m < offOf acc) : stepL false s acc m = acc := by
  cases acc with
  | nil => have h : m < 0 := h; omega
  | cons q r =>
    have h : m < q.2 := h
    simp only [stepL, Bool.false_or]
    rw [if_neg (by omega), if_neg (by rw [decide_eq_false (show ¬ m = q.2 by omega)]; exact fun z => nomatch z)]
theorem offFold {s f st : Int} {acc : List Stt} (hs : 1 ≤ s) (hst : 1 ≤ st) (hb : HeadB acc (f + s)) (n : Nat) : offOf ((pcs s f st (n + 1)).foldl joinS acc) = f + st * (n : Int) + s := by
  rw [pcs_succ, List.foldl_append]
  exact (headB_join (runH hs hst hb n).2).2
theorem headB_off {acc : List Stt} {B : Int} (h : offOf acc ≤ B) : HeadB acc B := fun q hq => by
  cases acc with
  | nil => cases hq
  | cons x r => cases hq; exact h
/-- a pulse lamp sees a run -/
theorem runP {s f st : Int} {u a : Nat} {acc : List Stt} (hs : 1 ≤ s) (hst : 1 ≤ st) (h0 : 0 ≤ f) (hu0 : ∀ k : Nat, k < u → f + st * (k : Int) < offOf acc) (hu1 : offOf acc ≤ f + st * (u : Int)) (ha : 1 ≤ a) (ha0 : st * ((a : Int) - 1) < s) (ha1 : s ≤ st * (a : Int)) :
    ∀ n c : Nat, (n ≤ u → c = 0) → (u ≤ n → n - u ≤ a * c ∧ a * c < n - u + a) → (ap f st n).foldl (stepL false s) acc = (pcs s (f + st * (u : Int)) (st * (a : Int)) c).foldl joinS acc
  | 0, c, h1, _ => by rw [h1 (Nat.zero_le _)]; rfl
  | n + 1, c, h1, h2 => by
    rw [ap_succ, List.foldl_append]
    have hm : 0 ≤ f + st * (n : Int) := by have := mul_nn hst n; omega
    have hst2 : 1 ≤ st * (a : Int) := by omega
    by_cases g : n + 1 ≤ u
    · rw [runP hs hst h0 hu0 hu1 ha ha0 ha1 n 0 (fun _ => rfl) (fun z => absurd z (by omega)), h1 g]
      exact stepP0 hm (hu0 n (by omega))
    · have hb : HeadB acc (f + st * (u : Int) + s) := headB_off (by omega)
      obtain ⟨k1, k2⟩ := h2 (by omega)
      obtain ⟨c0, rfl⟩ : ∃ c0, c = c0 + 1 := ⟨c - 1, by cases c with | zero => simp at k1; omega | succ c => omega⟩
      obtain ⟨d, rfl⟩ : ∃ d, n = u + d := ⟨n - u, by omega⟩
      rw [Nat.mul_succ] at k1 k2
      have em : st * ((u + d : Nat) : Int) = st * (u : Int) + st * (d : Int) := by rw [show ((u + d : Nat) : Int) = (u : Int) + d by omega, Int.mul_add]
      by_cases e : a * c0 = d
      · rw [runP hs hst h0 hu0 hu1 ha ha0 ha1 (u + d) c0 (fun z => by
          have : d = 0 := by omega
          subst this
          cases c0 with
          | zero => rfl
          | succ c => rw [Nat.mul_succ] at e; omega) (fun _ => by omega)]
        have ed : st * (d : Int) = st * (a : Int) * (c0 : Int) := by rw [← e, Int.natCast_mul, Int.mul_assoc]
        have hoff : offOf ((pcs s (f + st * (u : Int)) (st * (a : Int)) c0).foldl joinS acc) ≤ f + st * ((u + d : Nat) : Int) := by
          cases c0 with
          | zero => show offOf acc ≤ _; rw [em, ed]; simp; omega
          | succ c1 =>
            rw [offFold hs hst2 hb c1, em, ed, ap_mono hst2]
            omega
        show stepL false s _ (f + st * ((u + d : Nat) : Int)) = _
        rw [stepP1 hs hoff, pcs_succ, List.foldl_append, em, ed]
        show joinS _ _ = joinS _ _
        rw [← Int.add_assoc]
      · rw [runP hs hst h0 hu0 hu1 ha ha0 ha1 (u + d) (c0 + 1) (fun z => by
          have : d = 0 := by omega
          subst this
          cases c0 with
          | zero => exact absurd rfl e
          | succ c => rw [Nat.mul_succ] at k2; omega) (fun _ => by rw [Nat.mul_succ]; omega)]
        refine stepP0 hm ?_
        rw [offFold hs hst2 hb c0, em]
        have l1 : d ≤ a * c0 + (a - 1) := by omega
        have l2 : st * (d : Int) ≤ st * ((a * c0 + (a - 1) : Nat) : Int) := Int.mul_le_mul_of_nonneg_left (by omega) (by omega)
        have l3 : st * ((a * c0 + (a - 1) : Nat) : Int) = st * (a : Int) * (c0 : Int) + st * ((a : Int) - 1) := by
          rw [show ((a * c0 + (a - 1) : Nat) : Int) = (a : Int) * c0 + ((a : Int) - 1) by rw [Int.natCast_add, Int.natCast_mul]; omega, Int.mul_add, Int.mul_assoc]
        omega
/-- what the text tells of a run that lights a pulse lamp -/
theorem light_run {s : Int} {r : Run} {acc : List Stt} (hs : 1 ≤ s) (h0 : 0 ≤ r.1) (hst : 1 ≤ r.2.1) (hc : 1 ≤ r.2.2) :
    (lightU (offOf acc) r < r.2.2 → (ap r.1 r.2.1 r.2.2.toNat).foldl (stepL false s) acc = (pcs s (lightR s (offOf acc) r).1 (lightR s (offOf acc) r).2.1 (lightR s (offOf acc) r).2.2.toNat).foldl joinS acc ∧ 0 ≤ (lightR s (offOf acc) r).1 ∧ 1 ≤ (lightR s (offOf acc) r).2.1 ∧ 1 ≤ (lightR s (offOf acc) r).2.2 ∧
      HeadB acc ((lightR s (offOf acc) r).1 + s) ∧ offOf ((pcs s (lightR s (offOf acc) r).1 (lightR s (offOf acc) r).2.1 (lightR s (offOf acc) r).2.2.toNat).foldl joinS acc) = lastM (lightR s (offOf acc) r) + s) ∧
    (¬ lightU (offOf acc) r < r.2.2 → (ap r.1 r.2.1 r.2.2.toNat).foldl (stepL false s) acc = acc) := by
  obtain ⟨f, st, c⟩ := r
  have h0 : 0 ≤ f := h0
  have hst : 1 ≤ st := hst
  have hc : 1 ≤ c := hc
  have gn : 0 ≤ (if offOf acc - f > 0 then offOf acc - f else 0) := by split <;> omega
  obtain ⟨u0, u1, u2⟩ := rup_spec gn hst
  obtain ⟨a0, a1, a2⟩ := rup_spec (n := s) (by omega) hst
  have hU : lightU (offOf acc) (f, st, c) = rup (if offOf acc - f > 0 then offOf acc - f else 0) st := rfl
  have hR : lightR s (offOf acc) (f, st, c) = (f + st * rup (if offOf acc - f > 0 then offOf acc - f else 0) st, st * rup s st, rup (c - rup (if offOf acc - f > 0 then offOf acc - f else 0) st) (rup s st)) := rfl
  rw [hU, hR]
  obtain ⟨u, hu⟩ : ∃ u : Nat, rup (if offOf acc - f > 0 then offOf acc - f else 0) st = (u : Int) := ⟨_, (Int.toNat_of_nonneg u0).symm⟩
  obtain ⟨a, ha⟩ : ∃ a : Nat, rup s st = (a : Int) := ⟨_, (Int.toNat_of_nonneg a0).symm⟩
  rw [hu] at u1 u2 ⊢
  rw [ha] at a1 a2 ⊢
  have a1' : 1 ≤ a := by
    cases a with
    | zero => simp at a1; omega
    | succ a => omega
  have pu0 : ∀ k : Nat, k < u → f + st * (k : Int) < offOf acc := fun k hk => by
    have l : st * ((k + 1 : Nat) : Int) ≤ st * (u : Int) := Int.mul_le_mul_of_nonneg_left (by omega) (by omega)
    rw [ap_mono hst] at l
    have := mul_nn hst k
    split at u2 <;> omega
  have pu1 : offOf acc ≤ f + st * (u : Int) := by
    split at u1 <;> omega
  have pa0 : st * ((a : Int) - 1) < s := by rw [Int.mul_sub, Int.mul_one]; omega
  have P := runP (u := u) (a := a) (acc := acc) hs hst h0 pu0 pu1 a1' pa0 a1 c.toNat
  constructor
  · intro g
    have g : (u : Int) < c := g
    obtain ⟨c0, c1, c2⟩ := rup_spec (n := c - (u : Int)) (b := (a : Int)) (by omega) (by omega)
    show _ = (pcs s _ _ (rup (c - (u : Int)) (a : Int)).toNat).foldl joinS acc ∧ _
    show (ap f st c.toNat).foldl (stepL false s) acc = (pcs s (f + st * (u : Int)) (st * (a : Int)) (rup (c - (u : Int)) (a : Int)).toNat).foldl joinS acc ∧ 0 ≤ f + st * (u : Int) ∧ 1 ≤ st * (a : Int) ∧ 1 ≤ rup (c - (u : Int)) (a : Int) ∧ HeadB acc (f + st * (u : Int) + s) ∧
      offOf ((pcs s (f + st * (u : Int)) (st * (a : Int)) (rup (c - (u : Int)) (a : Int)).toNat).foldl joinS acc) = f + st * (u : Int) + st * (a : Int) * (rup (c - (u : Int)) (a : Int) - 1) + s
    obtain ⟨n, hn⟩ : ∃ n : Nat, rup (c - (u : Int)) (a : Int) = (n : Int) := ⟨_, (Int.toNat_of_nonneg c0).symm⟩
    rw [hn] at c1 c2 ⊢
    have c1' : c.toNat - u ≤ a * n := by
      have : (c - (u : Int)) ≤ ((a * n : Nat) : Int) := by rw [Int.natCast_mul]; exact c1
      omega
    have c2' : a * n < c.toNat - u + a := by
      have : ((a * n : Nat) : Int) < c - (u : Int) + a := by rw [Int.natCast_mul]; exact c2
      omega
    have n1 : 1 ≤ n := by
      cases n with
      | zero => simp at c1'; omega
      | succ n => omega
    have hb : HeadB acc (f + st * (u : Int) + s) := headB_off (by omega)
    have hst2 : 1 ≤ st * (a : Int) := by omega
    rw [Int.toNat_natCast]
    refine ⟨P n (fun z => by omega) (fun _ => ⟨c1', c2'⟩), by have := mul_nn hst u; omega, hst2, by omega, hb, ?_⟩
    obtain ⟨m, rfl⟩ : ∃ m, n = m + 1 := ⟨n - 1, by omega⟩
    rw [offFold hs hst2 hb m, show ((m + 1 : Nat) : Int) - 1 = (m : Int) by omega]
  · intro g
    have g : ¬ (u : Int) < c := g
    exact P 0 (fun _ => rfl) (fun z => by
      have : c.toNat - u = 0 := by omega
      rw [this]
      simp
      omega)
/-! ### all runs -/
def Rel60 (F J : List Stt) : Prop := F = J ∨ (60 < F.length ∧ 60 < J.length)
def lightsR (s : Int) : Int → List Run → List Run
  | _, [] => []
  | off, r :: rs => if lightU off r < r.2.2 then lightR s off r :: lightsR s (lastM (lightR s off r) + s) rs else lightsR s off rs
theorem lights_eq (s : Int) : ∀ (rs : List Run) (found : List Run) (off : Int), (rs.foldl (lightS s) (found, off)).1 = found ++ lightsR s off rs
  | [], found, off => by simp [lightsR]
  | r :: rs, found, off => by
    rw [List.foldl_cons]
    by_cases g : lightU off r < r.2.2
    · rw [show lightS s (found, off) r = (found ++ [lightR s off r], lastM (lightR s off r) + s) from if_pos g, lights_eq s rs]
      simp only [lightsR, if_pos g]
      rw [List.append_assoc]
      rfl
    · rw [show lightS s (found, off) r = (found, off) from if_neg g, lights_eq s rs]
      simp only [lightsR, if_neg g]
theorem rel_join {F J : List Stt} {ps : List Stt} (h : Rel60 F J) : Rel60 (ps.foldl joinS F) (ps.foldl joinS J) := by
  rcases h with e | ⟨h1, h2⟩
  · exact .inl (by rw [e])
  · exact .inr ⟨Nat.lt_of_lt_of_le h1 (joinS_fold_len _ _), Nat.lt_of_lt_of_le h2 (joinS_fold_len _ _)⟩
theorem Rel60.trans {A B C : List Stt} (h : Rel60 A B) (k : Rel60 B C) : Rel60 A C := by
  rcases h with e | ⟨h1, h2⟩
  · rw [e]; exact k
  · rcases k with e | ⟨k1, k2⟩
    · exact .inr ⟨h1, by rw [← e]; exact h2⟩
    · exact .inr ⟨h1, k2⟩
theorem hold_all {s : Int} (hs : 1 ≤ s) : ∀ (rs : List Run) (b : Int) (F J : List Stt), RunsUp b rs → HeadB F (b + s) → Rel60 F J → Rel60 ((spreadAll rs).foldl (stepL true s) F) ((rs.flatMap (litP s)).foldl joinS J)
  | [], _, _, _, _, _, h => h
  | (f, st, c) :: rs, b, F, J, ⟨u1, u2, u3, u4⟩, hb, h => by
    have u1 : b < f := u1
    have u2 : 1 ≤ st := u2
    have u3 : 1 ≤ c := u3
    have hb' : HeadB F (f + s) := fun q hq => by have := hb q hq; omega
    rw [List.flatMap_cons, List.foldl_append]
    rw [show spreadAll ((f, st, c) :: rs) = ap f st c.toNat ++ spreadAll rs from List.flatMap_cons .., List.foldl_append]
    obtain ⟨e1, e2⟩ := runH hs u2 hb' c.toNat
    rw [e1]
    obtain ⟨n, hn⟩ : ∃ n : Nat, c.toNat = n + 1 := ⟨c.toNat - 1, by omega⟩
    refine hold_all hs rs (lastM (f, st, c)) _ _ u4 ?_ ?_
    · rw [hn]
      refine headB_off ?_
      rw [offFold hs u2 hb' n]
      unfold lastM
      rw [show (f, st, c).2.2 - 1 = (n : Int) by show c - 1 = _; omega]
      exact Int.le_refl _
    · refine Rel60.trans ?_ (rel_join h)
      rcases litP_rel hs u2 u3 hb' with e | ⟨l1, l2⟩
      · exact .inl e.symm
      · exact .inr ⟨l2, l1⟩
theorem pulse_all {s : Int} (hs : 1 ≤ s) : ∀ (rs : List Run) (b : Int) (F J : List Stt), -1 ≤ b → RunsUp b rs → Rel60 F J → Rel60 ((spreadAll rs).foldl (stepL false s) F) (((lightsR s (offOf F) rs).flatMap (litP s)).foldl joinS J)
  | [], _, _, _, _, _, h => h
  | r :: rs, b, F, J, hb, ⟨u1, u2, u3, u4⟩, h => by
    have hl : -1 ≤ lastM r := by
      unfold lastM
      have : 0 ≤ r.2.1 * (r.2.2 - 1) := Int.mul_nonneg (by omega) (by omega)
      omega
    rw [show spreadAll (r :: rs) = ap r.1 r.2.1 r.2.2.toNat ++ spreadAll rs from List.flatMap_cons .., List.foldl_append]
    obtain ⟨L1, L0⟩ := light_run (acc := F) hs (by omega : 0 ≤ r.1) u2 u3
    simp only [lightsR]
    by_cases g : lightU (offOf F) r < r.2.2
    · obtain ⟨e1, e2, e3, e4, e5, e6⟩ := L1 g
      rw [if_pos g, List.flatMap_cons, List.foldl_append, e1]
      have ih := pulse_all hs rs (lastM r) ((pcs s (lightR s (offOf F) r).1 (lightR s (offOf F) r).2.1 (lightR s (offOf F) r).2.2.toNat).foldl joinS F) ((litP s (lightR s (offOf F) r)).foldl joinS J) hl u4 (by
        refine Rel60.trans ?_ (rel_join h)
        rcases litP_rel (s := s) (f := (lightR s (offOf F) r).1) (st := (lightR s (offOf F) r).2.1) (c := (lightR s (offOf F) r).2.2) hs e3 e4 e5 with e | ⟨l1, l2⟩
        · exact .inl e.symm
        · exact .inr ⟨l2, l1⟩)
      rw [e6] at ih
      exact ih
    · rw [if_neg g, L0 g]
      exact pulse_all hs rs (lastM r) F J hl u4 h
theorem logOf_spec {l : Lamp} {rs : List Run} (hs : 1 ≤ l.2) (hr : RunsUp (-1) rs) : Rel60 (logF l (spreadAll rs)) (logOf l rs) := by
  obtain ⟨h, s⟩ := l
  have key : Rel60 ((spreadAll rs).foldl (stepL h s) []) (((if h then rs else lightsF s rs).flatMap (litP s)).foldl joinS []) := by
    cases h with
    | true => exact hold_all hs rs (-1) [] [] hr (fun q hq => by cases hq) (.inl rfl)
    | false =>
      have := pulse_all hs rs (-1) [] [] (Int.le_refl _) hr (.inl rfl)
      rw [show (if false = true then rs else lightsF s rs) = lightsR s 0 rs by
        show lightsF s rs = _
        unfold lightsF
        rw [lights_eq]
        rfl]
      exact this
  rcases key with e | ⟨h1, h2⟩
  · left
    show List.reverse _ = List.reverse _
    rw [e]
  · right
    refine ⟨?_, ?_⟩
    · show 60 < (List.reverse _).length
      rw [List.length_reverse]; exact h1
    · show 60 < (List.reverse _).length
      rw [List.length_reverse]; exact h2
end Lg

namespace Lg
open PySem PySem.Spec PyProof.Rows L2 Lm
/-! ### a for over a list or a tuple -/
def iSeq (K : PySem.W.Frag) (tl : TE) : TI := fun σ H R => tl σ H fun x H1 => ∃ a, x = .ref a ∧ (((∃ xs, SqL K H1 a xs) ∧ R (Itl K a) H1) ∨ ((∃ xs, SqT K H1 a xs) ∧ R (Itt K a) H1))
theorem pi_seq {X : Cx} {tg : Expr} {l : Expr} {tl : TE} (hl : PE X l tl) : PI X tg l (iSeq X.K tl) := by
  refine ⟨fun pins s σ H R I h => ?_⟩
  refine thn (hl.run pins s σ H _ I h) fun v s1 ⟨x, H1, I1, r1, q1⟩ => ?_
  obtain ⟨a, e, q⟩ := q1
  subst e
  cases r1
  rcases q with ⟨⟨xs, hq⟩, q⟩ | ⟨⟨xs, hq⟩, q⟩
  · obtain ⟨its, rv, p, hz⟩ := I1.list hq
    refine wpAny_pyIter_list p.isList ?_
    refine ⟨s1.heap.objs.size, [s1.heap.objs.size], _, _, H1, rfl, I1.kept (t' := s1.toks) fun b o e => Heap.get?_push_of_some _ e, turn_list a _, ⟨_, Heap.get?_push_size _ rfl, rfl, rfl⟩, fun b hb => ?_, q⟩
    have e : b = s1.heap.objs.size := by simpa using hb
    subst e
    exact I1.fpOk (Nat.le_refl _) (I1.hok.fresh (Nat.le_refl _))
  · obtain ⟨its, rv, p, hz⟩ := I1.tuple hq
    refine wpAny_pyIter_tuple (show s1.heap.IsTuple a its.toArray from p) ?_
    refine ⟨s1.heap.objs.size, [s1.heap.objs.size], _, _, H1, rfl, I1.kept (t' := s1.toks) fun b o e => Heap.get?_push_of_some _ e, turn_tuple a _, ⟨_, Heap.get?_push_size _ rfl, rfl, rfl⟩, fun b hb => ?_, q⟩
    have e : b = s1.heap.objs.size := by simpa using hb
    subst e
    exact I1.fpOk (Nat.le_refl _) (I1.hok.fresh (Nat.le_refl _))
/-! ### promises of the makers of logs -/
def runD (r : Run) : PyData := .tuple [.int r.1, .int r.2.1, .int r.2.2]
def runsD (rs : List Run) : PyData := .tuple (rs.map runD)
def RB (r : Run) : Prop := (0 ≤ r.1 ∧ r.1 ≤ 10000000000) ∧ (1 ≤ r.2.1 ∧ r.2.1 ≤ 10000000000) ∧ (1 ≤ r.2.2 ∧ r.2.2 ≤ 10000000000)
def sp_last2 (K : PySem.W.Frag) : Sp := sp_f K (fun r : Run => [runD r]) RB (fun r => .int (lastM r))
def sp_rup (K : PySem.W.Frag) : Sp := sp_f K (fun x : Int × Int => [.int x.1, .int x.2]) (fun x => 1 ≤ x.2 ∧ x.2 < 1073741824) (fun x => .int (rup x.1 x.2))
/-- a run of motions -/
structure RunOk (r : Run) : Prop where
  f : 0 ≤ r.1 ∧ r.1 ≤ 1000000000
  s : 1 ≤ r.2.1 ∧ r.2.1 ≤ 1000000000
  c : 1 ≤ r.2.2 ∧ r.2.2 ≤ 1000000001
  l : lastM r ≤ 1000000000
def sp_lighting (K : PySem.W.Frag) : Sp := sp_f K (fun x : Int × List Run => [.int x.1, runsD x.2]) (fun x => 1 ≤ x.1 ∧ x.1 ≤ 1000000000 ∧ x.2.length ≤ 400 ∧ (∀ r ∈ x.2, RunOk r)) (fun x => .list ((lightsF x.1 x.2).map runD))
def sp_lit (K : PySem.W.Frag) : Sp := fun vs H Q _ => ∃ (N : Addr → Prop) (s : Int) (r : Run), Occ N H ∧ Dqs K (cut N H) vs [.int s, runD r] ∧ (1 ≤ s ∧ s ≤ 1000000000) ∧ RB r ∧
  ∀ (p : Addr) (xs : List V) (H' : Hp), Same H H' → H' p = some (.lst xs) → ¬ N p → Dqs K (cut N H') xs ((litP s r).map pD) → Q (.ref p) H'
def sp_joined (K : PySem.W.Frag) : Sp := sp_f K (fun ps : List Stt => [.list (ps.map pD)]) (fun ps => ps.length ≤ 100000) (fun ps => logD (joinedF ps))
def sp_fx (K : PySem.W.Frag) (CT : Addr) (f : Str) (n : Int) {α : Type} (A : α → List PyData) (P : α → Prop) (F : α → PyData) (B : α → Bool) : Sp := fun vs H Q E => ∃ (N : Addr → Prop) (x : α), Occ N H ∧ Dqs K (cut N H) vs (A x) ∧ P x ∧
  (B x = false → ∀ r H', Same H H' → Dq K (cut N H') r (F x) → Q r H') ∧ (B x = true → ∀ d H', Same H H' → H' d = some (.xd [(f, .int n)]) → H d = none → E (.ref CT) (some d) H')
def sp_most (K : PySem.W.Frag) (CT : Addr) (n : Int) : Sp := sp_fx K CT "limit" n (fun ds : List PyData => [.int n, .tuple ds]) (fun _ => True) (fun ds => .tuple ds) (fun ds => decide (n < (ds.length : Int)))
def sp_logof (K : PySem.W.Frag) (CT : Addr) : Sp := sp_fx K CT "limit" 60 (fun x : Lamp × List Run => [lampD x.1, runsD x.2]) (fun x => 1 ≤ x.1.2 ∧ x.1.2 ≤ 1000000000 ∧ x.2.length ≤ 400 ∧ (∀ r ∈ x.2, RunOk r)) (fun x => logD (logOf x.1 x.2)) (fun x => decide (60 < (logOf x.1 x.2).length))
theorem dq_run {K : PySem.W.Frag} {G : Hp} {v : V} {q : Run} (h : Dq K G v (runD q)) : ∃ a, v = .ref a ∧ SqT K G a [.int q.1, .int q.2.1, .int q.2.2] := by
  obtain ⟨a, xs, rfl, h1, h2⟩ := dq_tup h
  obtain ⟨x, r, rfl, h3, h4⟩ := dqs_cons h2
  obtain ⟨y, r, rfl, h5, h6⟩ := dqs_cons h4
  obtain ⟨z, r, rfl, h7, h8⟩ := dqs_cons h6
  rw [dqs_nil h8, dq_int h3, dq_int h5, dq_int h7] at h1
  exact ⟨a, rfl, h1⟩
theorem dq_runT {K : PySem.W.Frag} {G : Hp} {a : Addr} {q : Run} (h : SqT K G a [.int q.1, .int q.2.1, .int q.2.2]) : Dq K G (.ref a) (runD q) := .tup h (.cons (.int _) (.cons (.int _) (.cons (.int _) .nil)))
theorem np_cut1 {N : Addr → Prop} {H : Hp} {f : Addr} : cut (NP N f) H = cut1 f (cut N H) := by
  funext b
  by_cases e : b = f
  · unfold cut1 cut
    rw [if_pos (show NP N f b from .inr e), if_pos e]
  · rw [cut1_at e]
    by_cases n : N b
    · unfold cut
      rw [if_pos (show NP N f b from .inl n), if_pos n]
    · rw [cut_at n, cut_at (show ¬ NP N f b from fun z => z.elim n e)]
/-- a list of made things that grows while nothing else changes -/
def GrowG (K : PySem.W.Frag) (N : Addr → Prop) (H : Hp) (f : Addr) {α : Type} (D : α → PyData) (as : List α) (Hi : Hp) : Prop := ∃ xs, Same H Hi ∧ Hi f = some (.lst xs) ∧ Dqs K (cut1 f (cut N Hi)) xs (as.map D)
section
variable {K : PySem.W.Frag} {N : Addr → Prop} {H Hi G : Hp} {f t : Addr} {zs vs : List V} {o : HO} {α : Type} {D : α → PyData} {as : List α} {x : α}
theorem GrowG.start (nf : H f = none) : GrowG K N H f D ([] : List α) (upd H f (.lst [])) := ⟨[], same_new nf, upd_same, .nil⟩
theorem GrowG.put (hv : ∀ G', SqT K G' t vs → Dq K G' (.ref t) (D x)) (nf : H f = none) (O : Occ N H) (si : Same H Hi) (sG : Same Hi G) (eG : G f = some o) (hz : Dqs K (cut1 f (cut N Hi)) zs (as.map D)) (nt : G t = none) :
    GrowG K N H f D (as ++ [x]) (upd (upd G t (.tup vs)) f (.lst (zs ++ [.ref t]))) := by
  obtain ⟨s5, e5⟩ := app_cut (vs := vs) (o' := .lst (zs ++ [.ref t])) ((O.keep si).keep sG) eG nt
  refine ⟨_, same_upd ((si.trans sG).trans (same_new nt)) nf, upd_same, ?_⟩
  rw [List.map_append]
  exact dqs_snoc (hz.mono ((cut_mono (cut_mono sG)).trans s5)) (hv _ (.inl (.inl e5)))
theorem grow_list {ps : List PyData} (O : Occ N H) (nf : H f = none) (e : Hi f = some (.lst zs)) (h : Dqs K (cut1 f (cut N Hi)) zs ps) : Dq K (cut N Hi) (.ref f) (.list ps) :=
  .lst (.inl (.inl (by rw [cut_at fun z => O f z nf]; exact e))) (h.mono cut_same)
end
theorem size_le {n : Nat} (h : n ≤ 1000000) : n < sizeLine := by rw [PySem.sizeLine_eq]; omega
theorem joinS_len1 (acc : List Stt) (p : Stt) : (joinS acc p).length ≤ acc.length + 1 := by
  cases acc with
  | nil => simp [joinS]
  | cons q r => simp only [joinS]; split <;> simp
theorem joinS_fold_le : ∀ (ps acc : List Stt), (ps.foldl joinS acc).length ≤ acc.length + ps.length
  | [], _ => Nat.le_refl _
  | p :: r, acc => by
    have a := joinS_fold_le r (joinS acc p)
    have b := joinS_len1 acc p
    rw [List.foldl_cons, List.length_cons]
    omega
theorem litP_len {s : Int} {r : Run} : (litP s r).length ≤ 61 := by
  unfold litP
  split
  · exact (by decide : 1 ≤ 61)
  · unfold pcs
    rw [List.length_map, List.length_range]
    split <;> omega
theorem flat_len {s : Int} : ∀ rs : List Run, (rs.flatMap (litP s)).length ≤ rs.length * 61
  | [] => Nat.le_refl _
  | r :: rs => by
    rw [List.flatMap_cons, List.length_append, List.length_cons]
    have := flat_len (s := s) rs
    have := litP_len (s := s) (r := r)
    omega
theorem lightsR_len (s : Int) : ∀ (rs : List Run) (off : Int), (lightsR s off rs).length ≤ rs.length
  | [], _ => Nat.le_refl _
  | r :: rs, off => by
    simp only [lightsR]
    have a := lightsR_len s rs
    split
    · rw [List.length_cons, List.length_cons]; have := a (lastM (lightR s off r) + s); omega
    · rw [List.length_cons]; have := a off; omega
theorem lightsF_eq (s : Int) (rs : List Run) : lightsF s rs = lightsR s 0 rs := by
  unfold lightsF
  rw [lights_eq]
  rfl
theorem rup_one {n b : Int} (h : 1 ≤ n) (hb : 1 ≤ b) : 1 ≤ rup n b := by
  obtain ⟨h0, h1, _⟩ := rup_spec (n := n) (b := b) (by omega) hb
  have : rup n b ≠ 0 := fun e => by rw [e] at h1; simp at h1; omega
  omega
theorem rup_le {n b : Int} (h : 0 ≤ n) (hb : 1 ≤ b) : rup n b ≤ n := by
  obtain ⟨h0, h1, h2⟩ := rup_spec (n := n) (b := b) h hb
  by_cases e : rup n b ≤ n
  · exact e
  · have l : b * (n + 1) ≤ b * rup n b := Int.mul_le_mul_of_nonneg_left (by omega) (by omega)
    have l2 : 1 * n ≤ b * n := Int.mul_le_mul_of_nonneg_right hb h
    rw [Int.mul_add] at l
    omega
/-- what lights a pulse lamp is small -/
theorem lightU_nn {off : Int} {r : Run} (hst : 1 ≤ r.2.1) : 0 ≤ lightU off r := (rup_spec (by split <;> omega) hst).1
theorem lightR_b {s off : Int} {r : Run} (hs : 1 ≤ s ∧ s ≤ 1000000000) (hr : RunOk r) (g : lightU off r < r.2.2) : RB (lightR s off r) ∧ 0 ≤ lightU off r ∧ 1 ≤ rup s r.2.1 ∧ rup s r.2.1 ≤ 1000000000 := by
  obtain ⟨f, st, c⟩ := r
  obtain ⟨⟨f0, f1⟩, ⟨s0, s1⟩, ⟨c0, c1⟩, hl⟩ := hr
  have f0 : 0 ≤ f := f0
  have s0 : 1 ≤ st := s0
  have s1 : st ≤ 1000000000 := s1
  have c1 : c ≤ 1000000001 := c1
  have hl : f + st * (c - 1) ≤ 1000000000 := hl
  have hu := lightU_nn (off := off) (r := (f, st, c)) s0
  have e : lightR s off (f, st, c) = (f + st * lightU off (f, st, c), st * rup s st, rup (c - lightU off (f, st, c)) (rup s st)) := rfl
  rw [e]
  have g : lightU off (f, st, c) < c := g
  generalize lightU off (f, st, c) = u at hu g
  obtain ⟨a0, a1, a2⟩ := rup_spec (n := s) (b := st) (by omega) s0
  have a3 := rup_one hs.1 s0
  have a4 := rup_le (n := s) (b := st) (by omega) s0
  show RB (f + st * u, st * rup s st, rup (c - u) (rup s st)) ∧ 0 ≤ u ∧ 1 ≤ rup s st ∧ rup s st ≤ 1000000000
  have m1 : st * u ≤ st * (c - 1) := Int.mul_le_mul_of_nonneg_left (by omega) (by omega)
  have m0 : 0 ≤ st * u := Int.mul_nonneg (by omega) hu
  have b1 := rup_one (n := c - u) (b := rup s st) (by omega) a3
  have b2 := rup_le (n := c - u) (b := rup s st) (by omega) a3
  exact ⟨⟨⟨by show 0 ≤ f + st * u; omega, by show f + st * u ≤ _; omega⟩, ⟨by show 1 ≤ st * rup s st; omega, by show st * rup s st ≤ _; omega⟩, ⟨b1, by show rup (c - u) (rup s st) ≤ _; omega⟩⟩, hu, a3, by omega⟩
theorem ite_val {b : Bool} {ta tb : TE} {σ : L2.St} {H : Hp} {Q : VK} (P : V → Hp → Prop) (rest : ∀ v H', P v H' → Q v H') (h : ∀ Q' : VK, (∀ v H', P v H' → Q' v H') → if b = true then ta σ H Q' else tb σ H Q') : if b = true then ta σ H Q else tb σ H Q := h Q rest
theorem lightsR_ok {s : Int} (hs : 1 ≤ s ∧ s ≤ 1000000000) : ∀ (rs : List Run) (off : Int), (∀ r ∈ rs, RunOk r) → ∀ r ∈ lightsR s off rs, RB r
  | [], _, _, r, h => nomatch h
  | x :: rs, off, hok, r, h => by
    simp only [lightsR] at h
    split at h
    · rename_i g
      rcases List.mem_cons.mp h with e | e
      · rw [e]; exact (lightR_b hs (hok x List.mem_cons_self) g).1
      · exact lightsR_ok hs rs _ (fun y hy => hok y (List.mem_cons_of_mem _ hy)) r e
    · exact lightsR_ok hs rs _ (fun y hy => hok y (List.mem_cons_of_mem _ hy)) r h
theorem RunOk.rb {r : Run} (h : RunOk r) : RB r := by
  have a := h.f
  have b := h.s
  have c := h.c
  exact ⟨by omega, by omega, by omega⟩
end Lg

namespace Lg
open PySem PySem.Spec PyProof.Rows L2 Lm
theorem FnOk.imp {P : Program} {w : World} {K : PySem.W.Frag} {mg : Str → Option Value} {base : Heap} {CX : CXT} {k : Nat} {f : Addr} {fd : FuncData} {ps : List Str} {sp sp' : Sp} (F : FnOk P w K mg base CX k f fd ps sp) (h : ∀ vs H Q E, sp' vs H Q E → sp vs H Q E) : FnOk P w K mg base CX k f fd ps sp' := by
  constructor
  · exact fun vs H Q E z => F.len vs H Q E (h _ _ _ _ z)
  · intros
    first
      | exact F.run _ _ _ _ _ _ _ _ _ (by assumption) (by assumption) (by assumption) (by assumption) (h _ _ _ _ (by assumption))
      | exact F.go _ _ _ _ _ _ _ _ _ (by assumption) (by assumption) (by assumption) (by assumption) (h _ _ _ _ (by assumption))
/-! ### the pot as a source -/
def potAt (p dl al : Addr) (_ : Nat) (H : Hp) : Prop := (∃ t : Int, H p = some (.dK [(.inr "deep", .ref dl), (.inr "all", .ref al), (.inr "times", .int t)])) ∧ (∃ ns : List Int, H dl = some (.lst (ns.map V.int)) ∧ ns.length ≤ 64) ∧
  (∃ ns : List Int, H al = some (.lst (ns.map V.int)) ∧ ns ≠ [] ∧ ns.length ≤ 64) ∧ al ≠ dl
def pot (p dl al : Addr) : Src where
  at_ := potAt p dl al
  own := fun a => a = p ∨ a = dl ∨ a = al
  frame := fun h ⟨h1, h2, h3, h4⟩ => ⟨by rw [h p (.inl rfl)]; exact h1, by rw [h dl (.inr (.inl rfl))]; exact h2, by rw [h al (.inr (.inr rfl))]; exact h3, h4⟩
  less := fun _ h => h
  full := fun ⟨⟨t, h1⟩, ⟨ns, h2, _⟩, ⟨ms, h3, _⟩, _⟩ h => by
    rcases h with rfl | rfl | rfl
    · rw [h1]; exact fun z => nomatch z
    · rw [h2]; exact fun z => nomatch z
    · rw [h3]; exact fun z => nomatch z
section
variable {p dl al : Addr} {Z H H' : Hp} {b c : Nat}
theorem iv_pot (P : Iv (pot p dl al) Z b H) : PotAt Z H p dl al := ⟨P.src.1, P.src.2.1, P.src.2.2.1, P.src.2.2.2, P.zz, P.zo p (.inl rfl), P.zo dl (.inr (.inl rfl))⟩
theorem pot_iv (P : PotAt Z H p dl al) (z : Z al = none) : Iv (pot p dl al) Z b H := ⟨⟨P.ob, P.de, P.li, P.ne⟩, P.zz, fun a ha => by
  rcases ha with rfl | rfl | rfl
  · exact P.zp
  · exact P.zd
  · exact z⟩
theorem pot_hid : Same (hid (pot p dl al) Z H) (Lm.hid Z p dl H) := fun x o e => by
  have n := hid_some e
  rw [Lm.hid_at (fun z => n.1 (.inl z)) ⟨fun z => n.1 (.inr (.inl z)), n.2⟩]
  exact hid_same _ _ e
theorem pot_kp (k : Lm.Kp Z p dl H H') : Kp (pot p dl al) Z H H' := fun x o e => by
  have n := hid_some e
  have h := k x o (pot_hid _ _ e)
  rw [hid_at n]
  exact Lm.hid_same _ _ _ _ _ h
def sp_draw : Sp := fun vs H Q _ => ∃ (Z : Hp) (p dl al : Addr) (n : Int), vs = [.ref p, .int n] ∧ Iv (pot p dl al) Z 0 H ∧ 0 < n ∧ n < 1073741824 ∧
  ∀ (r : Int) (H' : Hp), Iv (pot p dl al) Z 0 H' → Kp (pot p dl al) Z H H' → 0 ≤ r → r < n → Q (.int r) H'
def sp_one : Sp := fun vs H Q _ => ∃ (Z : Hp) (p dl al l : Addr) (xs : List V), vs = [.ref p, .ref l] ∧ Iv (pot p dl al) Z 0 H ∧ hid (pot p dl al) Z H l = some (.lst xs) ∧ xs ≠ [] ∧ xs.length ≤ 1000 ∧
  ∀ (x : V) (H' : Hp), x ∈ xs → Iv (pot p dl al) Z 0 H' → Kp (pot p dl al) Z H H' → Q x H'
def sp_opened (K : PySem.W.Frag) : Sp := fun vs H Q _ => ∃ (a : Addr) (ns : List Int), vs = [.ref a] ∧ SqL K H a (ns.map V.int) ∧ ns.length ≤ 63 ∧ ∀ (p dl al : Addr) (H' : Hp), Iv (pot p dl al) (fun _ => none) 0 H' → Same H H' → Q (.ref p) H'
theorem draw_imp (vs : List V) (H : Hp) (Q : VK) (E : XK) (h : sp_draw vs H Q E) : Lm.sp_draw vs H Q E := by
  obtain ⟨Z, p, dl, al, n, e, P, n0, n1, q⟩ := h
  exact ⟨Z, p, dl, al, n, e, iv_pot P, n0, n1, fun r H' P' k' r0 r1 => q r H' (pot_iv P' (P.zo al (.inr (.inr rfl)))) (pot_kp k') r0 r1⟩
theorem one_imp (vs : List V) (H : Hp) (Q : VK) (E : XK) (h : sp_one vs H Q E) : Lm.sp_one vs H Q E := by
  obtain ⟨Z, p, dl, al, l, xs, e, P, hl, n0, n1, q⟩ := h
  exact ⟨Z, p, dl, al, l, xs, e, iv_pot P, pot_hid _ _ hl, n0, n1, fun x H' hx P' k' => q x H' hx (pot_iv P' (P.zo al (.inr (.inr rfl)))) (pot_kp k')⟩
theorem opened_imp (K : PySem.W.Frag) (vs : List V) (H : Hp) (Q : VK) (E : XK) (h : sp_opened K vs H Q E) : Lm.sp_opened K vs H Q E := by
  obtain ⟨a, ns, e, hS, hl, q⟩ := h
  exact ⟨a, ns, e, hS, hl, fun p dl al H' P' s' => q p dl al H' (pot_iv P' rfl) s'⟩
variable {K : PySem.W.Frag} {H0 : Hp} {σ : L2.St} {te : TE} {R : VR} {n : Nat}
theorem ev_draw {i : Nat} {b : Int} (e : σ[i]? = some (some (.ref p))) (hb : b < 1073741824) (h : Ev (pot p dl al) Z n H0 σ te (IR 1 b)) : Ev (pot p dl al) Z n H0 σ (tCall sp_draw [] E0 (tCons (tVar i) (tCons te tNil))) (IR 0 (b - 1)) :=
  fun H bb Q P k q => ⟨_, e, h H bb _ P k fun v H1 P1 k1 ⟨m, em, n1, n2⟩ => ⟨Z, p, dl, al, m, by rw [em]; rfl, P1.less (Nat.zero_le _), by omega, by omega, fun x H2 P2 k2 r1 r2 => q _ _ ⟨P2.src, P2.zz, P2.zo⟩ (k1.trans k2) ⟨x, rfl, r1, by omega⟩⟩⟩
theorem ev_drawC {i : Nat} {m : Int} (e : σ[i]? = some (some (.ref p)) := by rfl) (h0 : 1 ≤ m := by decide) (h1 : m < 1073741824 := by decide) : Ev (pot p dl al) Z 0 H0 σ (tCall sp_draw [] E0 (tCons (tVar i) (tCons (tC (.int m)) tNil))) (IR 0 (m - 1)) :=
  ev_draw (b := m) e h1 (ev_int.wide h0 (Int.le_refl _))
theorem ev_one {i m : Nat} (e : σ[i]? = some (some (.ref p))) (hn : m ≤ 1000) {m0 : Nat} (hm : Mo R) (h : Ev (pot p dl al) Z n H0 σ te (LsR (m0 + 1) m R)) : Ev (pot p dl al) Z n H0 σ (tCall sp_one [] E0 (tCons (tVar i) (tCons te tNil))) R :=
  fun H b Q P k q => ⟨_, e, h H b _ P k fun v H1 P1 k1 ⟨l, xs, el, g, l1, l2, l3⟩ => ⟨Z, p, dl, al, l, xs, by rw [el]; rfl, P1.less (Nat.zero_le _), g, (fun z => by subst z; simp at l1), by omega, fun x H2 hx P2 k2 => q _ _ ⟨P2.src, P2.zz, P2.zo⟩ (k1.trans k2) (hm _ _ _ k2 (l3 x hx))⟩⟩
end
end Lg

namespace Lg
open PySem PySem.Spec PyProof.Rows L2 Lm
def sp_lampP (K : PySem.W.Frag) : Sp := fun vs H Q _ => ∃ (Z : Hp) (p dl al : Addr) (g : Int), vs = [.ref p, .int g] ∧ Iv (pot p dl al) Z 0 H ∧ 1 ≤ g ∧ g ≤ 1000000000 ∧
  ∀ (x : V) (H' : Hp) (l : Lamp), Iv (pot p dl al) Z 0 H' → Kp (pot p dl al) Z H H' → Dq K (hid (pot p dl al) Z H') x (lampD l) → 1 ≤ l.2 → l.2 ≤ 1000000000 → Q x H'
/-- minutes: rising, from 0 on -/
def MinsP (ms : List Int) : Prop := Asc (-1) ms ∧ ms.length ≤ 60 ∧ ∀ m ∈ ms, 0 ≤ m ∧ m ≤ 10000
def intsT (ms : List Int) : PyData := .tuple (ms.map .int)
def sp_minsP (K : PySem.W.Frag) : Sp := fun vs H Q _ => ∃ (Z : Hp) (p dl al : Addr) (u : Int), vs = [.ref p, .int u] ∧ Iv (pot p dl al) Z 0 H ∧ 0 ≤ u ∧ u ≤ 60 ∧
  ∀ (x : V) (H' : Hp) (ms : List Int), Iv (pot p dl al) Z 0 H' → Kp (pot p dl al) Z H H' → Dq K (hid (pot p dl al) Z H') x (intsT ms) → MinsP ms → Q x H'
def sp_runsP (K : PySem.W.Frag) : Sp := fun vs H Q _ => ∃ (Z : Hp) (p dl al : Addr) (v : V) (ms : List Int), vs = [.ref p, v] ∧ Iv (pot p dl al) Z 0 H ∧ Dq K (hid (pot p dl al) Z H) v (intsT ms) ∧ MinsP ms ∧
  ∀ (x : V) (H' : Hp) (rs : List Run), Iv (pot p dl al) Z 0 H' → Kp (pot p dl al) Z H H' → Dq K (hid (pot p dl al) Z H') x (runsD rs) → spreadAll rs = ms → RunsUp (-1) rs → rs.length ≤ 60 → (∀ r ∈ rs, RunOk r) → Q x H'
def sp_played (K : PySem.W.Frag) : Sp := fun vs H Q _ => ∃ (N : Addr → Prop) (x y : V) (l : Lamp) (ms : List Int), vs = [x, y] ∧ Occ N H ∧ Dq K (cut N H) x (lampD l) ∧ (Dq K (cut N H) y (.list (ms.map .int)) ∨ Dq K (cut N H) y (intsT ms)) ∧ (∀ m ∈ ms, 0 ≤ m) ∧ ms.length ≤ 900 ∧
  ∀ r H', Same H H' → Dq K (cut N H') r (logD (logF l ms)) → Q r H'
def toldD (l : Lamp) (rs : List Run) : PyData := if 60 < (logOf l rs).length then .list [.int 60] else logD (logOf l rs)
def sp_told (K : PySem.W.Frag) : Sp := sp_f K (fun x : Lamp × List Run => [lampD x.1, runsD x.2]) (fun x => 1 ≤ x.1.2 ∧ x.1.2 ≤ 1000000000 ∧ x.2.length ≤ 400 ∧ (∀ r ∈ x.2, RunOk r)) (fun x => toldD x.1 x.2)
/-! ### runs of rising minutes -/
theorem asc_app : ∀ {b : Int} {xs ys : List Int}, Asc b (xs ++ ys) → Asc b xs ∧ (∀ x ∈ xs, ∀ y ∈ ys, x < y) ∧ (∀ x ∈ xs, b < x) ∧ (∀ y ∈ ys, b < y) ∧ (ys.Pairwise (· < ·))
  | b, [], ys, h => by
    have k : ∀ {b : Int} {ys : List Int}, Asc b ys → (∀ y ∈ ys, b < y) ∧ ys.Pairwise (· < ·) := fun {b ys} => by
      induction ys generalizing b with
      | nil => exact fun _ => ⟨(fun y h => nomatch h), List.Pairwise.nil⟩
      | cons y r ih =>
        rintro ⟨h1, h2⟩
        obtain ⟨i1, i2⟩ := ih h2
        refine ⟨fun z hz => ?_, List.pairwise_cons.mpr ⟨i1, i2⟩⟩
        rcases List.mem_cons.mp hz with e | e
        · omega
        · have := i1 z e; omega
    exact ⟨trivial, (fun x h => nomatch h), (fun x h => nomatch h), (k h).1, (k h).2⟩
  | b, x :: xs, ys, ⟨h1, h2⟩ => by
    obtain ⟨i1, i2, i3, i4, i5⟩ := asc_app h2
    refine ⟨⟨h1, i1⟩, fun z hz y hy => ?_, fun z hz => ?_, fun y hy => by have := i4 y hy; omega, i5⟩
    · rcases List.mem_cons.mp hz with e | e
      · rw [e]; exact i4 y hy
      · exact i2 z e y hy
    · rcases List.mem_cons.mp hz with e | e
      · omega
      · have := i3 z e; omega
theorem asc_of : ∀ {b : Int} {ys : List Int}, (∀ y ∈ ys, b < y) → ys.Pairwise (· < ·) → Asc b ys
  | _, [], _, _ => trivial
  | b, y :: r, h, p => by
    obtain ⟨p1, p2⟩ := List.pairwise_cons.mp p
    exact ⟨h y List.mem_cons_self, asc_of p1 p2⟩
theorem ap_mem {f st : Int} {n k : Nat} (h : k < n) : f + st * (k : Int) ∈ ap f st n := List.mem_map.mpr ⟨k, List.mem_range.mpr h, rfl⟩
theorem runs_up : ∀ {rs : List Run} {b : Int}, Asc b (spreadAll rs) → (∀ r ∈ rs, 1 ≤ r.2.1 ∧ 1 ≤ r.2.2) → RunsUp b rs
  | [], _, _, _ => trivial
  | r :: rs, b, h, hv => by
    rw [show spreadAll (r :: rs) = ap r.1 r.2.1 r.2.2.toNat ++ spreadAll rs from List.flatMap_cons ..] at h
    obtain ⟨i1, i2, i3, i4, i5⟩ := asc_app h
    have v := hv r List.mem_cons_self
    have m0 := i3 _ (ap_mem (f := r.1) (st := r.2.1) (n := r.2.2.toNat) (k := 0) (by omega))
    have m1 := ap_mem (f := r.1) (st := r.2.1) (n := r.2.2.toNat) (k := r.2.2.toNat - 1) (by omega)
    have em : r.1 + r.2.1 * ((r.2.2.toNat - 1 : Nat) : Int) = lastM r := by
      unfold lastM
      rw [show ((r.2.2.toNat - 1 : Nat) : Int) = r.2.2 - 1 by omega]
    rw [em] at m1
    refine ⟨by simpa using m0, v.1, v.2, runs_up (asc_of (fun y hy => i2 _ m1 y hy) i5) fun x hx => hv x (List.mem_cons_of_mem _ hx)⟩
theorem runs_ok {rs : List Run} {B : Int} (hB : B ≤ 1000000000) (h : ∀ m ∈ spreadAll rs, 0 ≤ m ∧ m ≤ B) (hv : ∀ r ∈ rs, (1 ≤ r.2.1 ∧ r.2.1 ≤ 1000000000) ∧ (1 ≤ r.2.2 ∧ r.2.2 ≤ 1000000000)) : ∀ r ∈ rs, RunOk r := fun r hr => by
  obtain ⟨v1, v2⟩ := hv r hr
  have mem : ∀ k : Nat, k < r.2.2.toNat → r.1 + r.2.1 * (k : Int) ∈ spreadAll rs := fun k hk => List.mem_flatMap.mpr ⟨r, hr, ap_mem hk⟩
  have m0 := h _ (mem 0 (by omega))
  have m1 := h _ (mem (r.2.2.toNat - 1) (by omega))
  have em : r.1 + r.2.1 * ((r.2.2.toNat - 1 : Nat) : Int) = lastM r := by
    unfold lastM
    rw [show ((r.2.2.toNat - 1 : Nat) : Int) = r.2.2 - 1 by omega]
  rw [em] at m1
  simp at m0
  exact ⟨by omega, v1, by omega, by omega⟩
/-- neighbours that are near (in reverse) -/
def Near60 : List Int → Prop
  | b :: a :: r => 1 ≤ b - a ∧ b - a ≤ 60 ∧ Near60 (a :: r)
  | _ => True
/-- what _law_played keeps: the end of the last stretch, or -1 -/
def darkOf : List Stt → Int
  | [] => -1
  | q :: _ => q.2
theorem spread_snoc (rs : List Run) (r : Run) : spreadAll (rs ++ [r]) = spreadAll rs ++ ap r.1 r.2.1 r.2.2.toNat := by
  unfold spreadAll
  rw [List.flatMap_append]
  simp
theorem ap_take {rem : List Int} {r0 d : Int} {s : Nat} (hs : s ≤ rem.length) (h : ∀ j : Nat, j < s → rem[j]? = some (r0 + d * (j : Int))) : rem = ap r0 d s ++ rem.drop s := by
  have e : rem.take s = ap r0 d s := by
    apply List.ext_getElem?
    intro j
    unfold ap
    rw [List.getElem?_take, List.getElem?_map]
    by_cases hj : j < s
    · rw [if_pos hj, h j hj, List.getElem?_range hj]; rfl
    · rw [if_neg hj, List.getElem?_eq_none (by rw [List.length_range]; omega)]; rfl
  rw [← e, List.take_append_drop]
/-- the first s of these numbers are evenly apart -/
def PreR (rem : List Int) (r0 d : Int) (s : Nat) : Prop := 1 ≤ s ∧ s ≤ rem.length ∧ (∀ j : Nat, j < s → rem[j]? = some (r0 + d * (j : Int))) ∧ (2 ≤ rem.length → 2 ≤ s)
theorem cutV_drop (xs : List V) {n : Nat} (h : n ≤ xs.length) : cutV xs (some (n : Int)) none = xs.drop n := by
  unfold cutV
  rw [HT.sIx_none, HT.sIx_nat, Nat.min_eq_left h, List.take_of_length_le (by rw [List.length_drop]; omega)]
theorem tst_of {t : TT} {σ : L2.St} {H : Hp} {Q : Bool → Hp → Prop} (P : Bool → Hp → Prop) (h2 : ∀ b H', P b H' → Q b H') (h1 : ∀ Q' : Bool → Hp → Prop, (∀ b H', P b H' → Q' b H') → t σ H Q') : t σ H Q := h1 Q h2
theorem te_of {t : TE} {σ : L2.St} {H : Hp} {Q : VK} (P : V → Hp → Prop) (h2 : ∀ b H', P b H' → Q b H') (h1 : ∀ Q' : VK, (∀ b H', P b H' → Q' b H') → t σ H Q') : t σ H Q := h1 Q h2
theorem atI_pre2 {α : Type} {xs : List α} {u v : α} : atI (xs ++ [u] ++ [v]) (-2) = some u := by
  unfold atI ixN
  have l : (xs ++ [u] ++ [v]).length = xs.length + 2 := by simp
  rw [l]
  rw [if_neg (by decide), if_pos (by omega)]
  show (xs ++ [u] ++ [v])[_]? = _
  have e : ((-2 : Int) + ((xs.length + 2 : Nat) : Int)).toNat = xs.length := by omega
  first
    | rw [e, List.append_assoc, List.getElem?_append_right (Nat.le_refl _), Nat.sub_self]; rfl
    | (rw [show ((((xs.length + 2 : Nat) : Int) + (-2 : Int)).toNat) = xs.length by omega, List.append_assoc, List.getElem?_append_right (Nat.le_refl _), Nat.sub_self]; rfl)
end Lg

namespace Lg
open PySem PySem.Spec PyProof.Rows L2 Lm
theorem told_small {l : Lamp} {rs : List Run} (hs : 1 ≤ l.2) (hr : RunsUp (-1) rs) (h : (logF l (spreadAll rs)).length ≤ 60) : toldD l rs = logD (logF l (spreadAll rs)) := by
  unfold toldD
  rcases logOf_spec hs hr with e | ⟨e, _⟩
  · rw [← e, if_neg (by omega)]
  · omega
theorem told_big {l : Lamp} {rs : List Run} (hs : 1 ≤ l.2) (hr : RunsUp (-1) rs) (h : 60 < (logF l (spreadAll rs)).length) : toldD l rs = .list [.int 60] := by
  unfold toldD
  rcases logOf_spec hs hr with e | ⟨_, e⟩
  · rw [← e, if_pos h]
  · rw [if_pos e]
theorem logF_le (l : Lamp) (ms : List Int) : (logF l ms).length ≤ ms.length := by
  have := logF_len l.1 l.2 ms []
  unfold logF
  rw [List.length_reverse]
  simpa using this
theorem logF_grow (l : Lamp) (f st : Int) {n m : Nat} (h : n ≤ m) : (logF l (ap f st n)).length ≤ (logF l (ap f st m)).length := by
  induction m with
  | zero => obtain rfl : n = 0 := by omega
            exact Nat.le_refl _
  | succ m ih =>
    rcases (show n ≤ m ∨ n = m + 1 by omega) with e | e
    · refine Nat.le_trans (ih e) ?_
      unfold logF
      rw [List.length_reverse, List.length_reverse, ap_succ, List.foldl_append]
      exact stepL_fold_len _ _ _ _
    · rw [e]; exact Nat.le_refl _
theorem stepL_bd {h : Bool} {s B m : Int} (hs : 0 ≤ s) (hm : 0 ≤ m ∧ m ≤ B) {qs : List Stt} (hq : ∀ q ∈ qs, (0 ≤ q.1 ∧ q.1 ≤ B) ∧ 0 ≤ q.2 ∧ q.2 ≤ B + s) : ∀ q ∈ stepL h s qs m, (0 ≤ q.1 ∧ q.1 ≤ B) ∧ 0 ≤ q.2 ∧ q.2 ≤ B + s := by
  cases qs with
  | nil =>
    intro q hq
    rw [List.mem_singleton.mp hq]
    exact ⟨hm, by show 0 ≤ m + s; omega, by show m + s ≤ B + s; omega⟩
  | cons p r =>
    have hp := hq p List.mem_cons_self
    simp only [stepL]
    split
    · intro q hz
      rcases List.mem_cons.mp hz with e | e
      · rw [e]; exact ⟨hm, by show 0 ≤ m + s; omega, by show m + s ≤ B + s; omega⟩
      · exact hq q e
    · split
      · intro q hz
        rcases List.mem_cons.mp hz with e | e
        · rw [e]; exact ⟨hp.1, by show 0 ≤ m + s; omega, by show m + s ≤ B + s; omega⟩
        · exact hq q (List.mem_cons_of_mem _ e)
      · exact hq
theorem logF_bd {l : Lamp} {B : Int} (hs : 0 ≤ l.2) : ∀ {ms : List Int}, (∀ m ∈ ms, 0 ≤ m ∧ m ≤ B) → ∀ q ∈ logF l ms, (0 ≤ q.1 ∧ q.1 ≤ B) ∧ 0 ≤ q.2 ∧ q.2 ≤ B + l.2 := by
  have go : ∀ (ms : List Int) (qs : List Stt), (∀ m ∈ ms, 0 ≤ m ∧ m ≤ B) → (∀ q ∈ qs, (0 ≤ q.1 ∧ q.1 ≤ B) ∧ 0 ≤ q.2 ∧ q.2 ≤ B + l.2) → ∀ q ∈ ms.foldl (stepL l.1 l.2) qs, (0 ≤ q.1 ∧ q.1 ≤ B) ∧ 0 ≤ q.2 ∧ q.2 ≤ B + l.2 := by
    intro ms
    induction ms with
    | nil => exact fun qs _ h => h
    | cons m r ih => exact fun qs hm hq => ih _ (fun x hx => hm x (List.mem_cons_of_mem _ hx)) (stepL_bd hs (hm m List.mem_cons_self) hq)
  intro ms hm q hq
  exact go ms [] hm (fun q h => nomatch h) q (List.mem_reverse.mp hq)
theorem logF_sm {l : Lamp} {B : Int} (hs : 0 ≤ l.2 ∧ l.2 ≤ 1000000000) (hB : B ≤ 1000000000) {ms : List Int} (hm : ∀ m ∈ ms, 0 ≤ m ∧ m ≤ B) (h60 : (logF l ms).length ≤ 60) : Sm 2103 2 (logD (logF l ms)) :=
  Sm.tuple (c := 60) (n := 33) (k := 1) (fun d hd => by
    obtain ⟨q, hq, rfl⟩ := List.mem_map.mp hd
    have := logF_bd hs.1 hm q hq
    exact pD_sm (by omega) (by omega)) (by rw [List.length_map]; exact h60)
theorem run_sm {r : Run} (h : RunOk r) : Sm 48 1 (runD r) :=
  Sm.tuple (c := 3) (n := 13) (k := 0) (ds := [.int r.1, .int r.2.1, .int r.2.2]) (fun d hd => by
    obtain ⟨h1, h2, h3⟩ := h.rb
    rcases List.mem_cons.mp hd with e | e
    · rw [e]; exact Sm.int (by omega)
    · rcases List.mem_cons.mp e with e | e
      · rw [e]; exact Sm.int (by omega)
      · rw [List.mem_singleton.mp e]; exact Sm.int (by omega)) (Nat.le_refl _)
theorem runs_sm {rs : List Run} (hl : rs.length ≤ 60) (h : ∀ r ∈ rs, RunOk r) : Sm 3003 2 (runsD rs) :=
  Sm.tuple (c := 60) (n := 48) (k := 1) (fun d hd => by
    obtain ⟨q, hq, rfl⟩ := List.mem_map.mp hd
    exact run_sm (h q hq)) (by rw [List.length_map]; exact hl)
/-! ### each minute by itself -/
def ones (ms : List Int) : List Run := ms.map fun m => (m, 1, 1)
theorem ones_spread (ms : List Int) : spreadAll (ones ms) = ms := by
  induction ms with
  | nil => rfl
  | cons m r ih =>
    show ap m 1 1 ++ spreadAll (ones r) = _
    rw [ih]
    show [m + 1 * ((0 : Nat) : Int)] ++ r = _
    simp
theorem ones_facts {ms : List Int} (h : MinsP ms) : spreadAll (ones ms) = ms ∧ RunsUp (-1) (ones ms) ∧ (ones ms).length ≤ 60 ∧ ∀ r ∈ ones ms, RunOk r := by
  have v : ∀ r ∈ ones ms, (1 ≤ r.2.1 ∧ r.2.1 ≤ 1000000000) ∧ (1 ≤ r.2.2 ∧ r.2.2 ≤ 1000000000) := fun r hr => by
    obtain ⟨m, _, rfl⟩ := List.mem_map.mp hr
    exact ⟨⟨Int.le_refl 1, (by decide : (1:Int) ≤ 1000000000)⟩, Int.le_refl 1, (by decide : (1:Int) ≤ 1000000000)⟩
  exact ⟨ones_spread ms, runs_up (by rw [ones_spread]; exact h.1) (fun r hr => ⟨(v r hr).1.1, (v r hr).2.1⟩), by unfold ones; rw [List.length_map]; exact h.2.1, runs_ok (B := 10000) (by decide) (by rw [ones_spread]; exact h.2.2) v⟩
theorem one_run {f st c : Int} (hf : 0 ≤ f) (hs : 1 ≤ st) (hc : 1 ≤ c) : RunsUp (-1) [(f, st, c)] := ⟨by show -1 < f; omega, hs, hc, trivial⟩
theorem one_spread {f st c : Int} : spreadAll [(f, st, c)] = ap f st c.toNat := by
  show ap f st c.toNat ++ [] = _
  rw [List.append_nil]
theorem ap_bd {f st B : Int} {n : Nat} (hf : 0 ≤ f) (hs : 0 ≤ st) (h : f + st * (n : Int) ≤ B) : ∀ m ∈ ap f st n, 0 ≤ m ∧ m ≤ B := fun m hm => by
  obtain ⟨k, hk, rfl⟩ := List.mem_map.mp hm
  have hk := List.mem_range.mp hk
  have h1 : 0 ≤ st * (k : Int) := Int.mul_nonneg hs (by omega)
  have h2 : st * (k : Int) ≤ st * (n : Int) := Int.mul_le_mul_of_nonneg_left (by omega) hs
  exact ⟨by omega, by omega⟩
def dueD (g : List Stt) : PyData := if 60 < g.length then .list [.int 60] else logD g
end Lg

namespace Lg
open PySem PySem.Spec PyProof.Rows L2 Lm
/-! ### runs that grow -/
def endL : Int → List Run → Int
  | b, [] => b
  | _, r :: rs => endL (lastM r) rs
theorem runsUp_snoc : ∀ {b : Int} {rs : List Run} {x : Run}, RunsUp b rs → endL b rs < x.1 → 1 ≤ x.2.1 → 1 ≤ x.2.2 → RunsUp b (rs ++ [x]) ∧ endL b (rs ++ [x]) = lastM x
  | _, [], _, _, h, h1, h2 => ⟨⟨h, h1, h2, trivial⟩, rfl⟩
  | _, r :: rs, x, ⟨u1, u2, u3, u4⟩, h, h1, h2 => by
    obtain ⟨i1, i2⟩ := runsUp_snoc (b := lastM r) u4 h h1 h2
    exact ⟨⟨u1, u2, u3, i1⟩, i2⟩
theorem spread_bd {rs : List Run} (h : ∀ r ∈ rs, RunOk r) : ∀ m ∈ spreadAll rs, 0 ≤ m ∧ m ≤ 1000000000 := fun m hm => by
  obtain ⟨r, hr, hx⟩ := List.mem_flatMap.mp hm
  obtain ⟨k, hk, rfl⟩ := List.mem_map.mp hx
  have hk := List.mem_range.mp hk
  obtain ⟨⟨f0, f1⟩, ⟨s0, s1⟩, ⟨c0, c1⟩, hl⟩ := h r hr
  unfold lastM at hl
  have h1 : 0 ≤ r.2.1 * (k : Int) := Int.mul_nonneg (by omega) (by omega)
  have h2 : r.2.1 * (k : Int) ≤ r.2.1 * (r.2.2 - 1) := Int.mul_le_mul_of_nonneg_left (by omega) (by omega)
  exact ⟨by omega, by omega⟩
/-! ### put: joined, but never more than 61 -/
def putR : List Stt → Stt → List Stt
  | [], p => [p]
  | q :: r, p => if p.1 ≤ q.2 then (q.1, if p.2 < q.2 then q.2 else p.2) :: r else if (q :: r).length < 61 then p :: q :: r else q :: r
theorem put_eq {qs : List Stt} {p : Stt} (h : qs.length < 61) : putR qs p = joinS qs p := by
  cases qs with
  | nil => rfl
  | cons q r =>
    simp only [putR, joinS]
    rw [if_pos h]
    split
    · congr 2
      split <;> split <;> omega
    · rfl
theorem put_len (qs : List Stt) (p : Stt) : qs.length ≤ (putR qs p).length ∧ 1 ≤ (putR qs p).length := by
  cases qs with
  | nil => simp [putR]
  | cons q r =>
    simp only [putR]
    split
    · simp
    · split <;> simp
theorem put_max (qs : List Stt) (p : Stt) (h : qs.length ≤ 61) : (putR qs p).length ≤ 61 := by
  cases qs with
  | nil => simp [putR]
  | cons q r =>
    simp only [putR]
    split
    · simpa using h
    · split
      · simp only [List.length_cons] at *; omega
      · exact h
theorem put_rel {F qs : List Stt} {p : Stt} (h : Rel60 F qs) : Rel60 (joinS F p) (putR qs p) := by
  rcases h with rfl | ⟨h1, h2⟩
  · by_cases g : F.length < 61
    · exact .inl (put_eq g).symm
    · exact .inr ⟨Nat.lt_of_lt_of_le (by omega) (joinS_len _ _).1, Nat.lt_of_lt_of_le (by omega) (put_len _ _).1⟩
  · exact .inr ⟨Nat.lt_of_lt_of_le h1 (joinS_len _ _).1, Nat.lt_of_lt_of_le h2 (put_len _ _).1⟩
/-- what the hold lamps have of the runs so far -/
def heldB (s : Int) (rs : List Run) : List Stt := (spreadAll rs).foldl (stepL true s) []
theorem held_snoc (s : Int) (rs : List Run) (r : Run) : heldB s (rs ++ [r]) = (ap r.1 r.2.1 r.2.2.toNat).foldl (stepL true s) (heldB s rs) := by
  unfold heldB
  rw [spread_snoc, List.foldl_append]
def pulB (s : Int) (rs : List Run) : List Stt := (spreadAll rs).foldl (stepL false s) []
theorem pul_snoc (s : Int) (rs : List Run) (r : Run) : pulB s (rs ++ [r]) = (ap r.1 r.2.1 r.2.2.toNat).foldl (stepL false s) (pulB s rs) := by
  unfold pulB
  rw [spread_snoc, List.foldl_append]
/-- the next run of hold lamps -/
theorem held_run {s b f st c : Int} {rs : List Run} (hs : 1 ≤ s) (hb : HeadB (heldB s rs) (b + s)) (h1 : b < f) (h2 : 1 ≤ st) (h3 : 1 ≤ c) :
    heldB s (rs ++ [(f, st, c)]) = (pcs s f st c.toNat).foldl joinS (heldB s rs) ∧ HeadB (heldB s (rs ++ [(f, st, c)])) (lastM (f, st, c) + s) ∧ (st ≤ s → heldB s (rs ++ [(f, st, c)]) = joinS (heldB s rs) (f, f + st * (c - 1) + s)) ∧
    (s < st → ∀ n : Nat, 62 ≤ n → 60 < ((pcs s f st n).foldl joinS (heldB s rs)).length) := by
  rw [held_snoc]
  generalize heldB s rs = acc at hb
  have hb' : HeadB acc (f + s) := fun q hq => by have := hb q hq; omega
  obtain ⟨e1, e2⟩ := runH hs h2 hb' c.toNat
  obtain ⟨n, hn⟩ : ∃ n : Nat, c.toNat = n + 1 := ⟨c.toNat - 1, by omega⟩
  have hc : c - 1 = (n : Int) := by omega
  show (ap f st c.toNat).foldl _ _ = _ ∧ HeadB ((ap f st c.toNat).foldl _ _) _ ∧ (_ → (ap f st c.toNat).foldl _ _ = _) ∧ _
  rw [e1]
  refine ⟨rfl, ?_, fun h => ?_, fun h m hm => ?_⟩
  · rw [hn]
    refine headB_off ?_
    rw [offFold hs h2 hb' n]
    unfold lastM
    show f + st * (n : Int) + s ≤ f + st * (c - 1) + s
    rw [hc]
    exact Int.le_refl _
  · rw [hn, touch hs h2 h hb' n, hc]
  · obtain ⟨m, rfl⟩ : ∃ k, m = k + 1 := ⟨m - 1, by omega⟩
    obtain ⟨i1, i2, _⟩ := apart_len (f := f) hs h m acc hb'
    cases acc with
    | nil => have := i2 rfl; omega
    | cons q r => simp only [List.length_cons] at i1; omega
/-! ### numbers of whole steps -/
theorem rup_uniq {x b q : Int} (hx : 0 ≤ x) (hb : 1 ≤ b) (h1 : x ≤ b * q) (h2 : b * q < x + b) : rup x b = q := by
  obtain ⟨_, r1, r2⟩ := rup_spec hx hb
  generalize rup x b = z at r1 r2
  have a1 : b * z - b * q < b := by omega
  have a2 : b * q - b * z < b := by omega
  rw [← Int.mul_sub] at a1 a2
  have : ∀ t : Int, b * t < b → t < 1 := fun t ht => by
    by_cases h : t < 1
    · exact h
    · have : b * 1 ≤ b * t := Int.mul_le_mul_of_nonneg_left (by omega) (by omega)
      omega
  have t1 := this _ a1
  have t2 := this _ a2
  omega
theorem neg_fdiv {x b : Int} (hb : 1 ≤ b) : x ≤ b * -((-x).fdiv b) ∧ b * -((-x).fdiv b) < x + b := by
  rw [Int.fdiv_eq_ediv_of_nonneg _ (by omega)]
  have h1 : b * (-x / b) ≤ -x := Int.mul_ediv_self_le (by omega)
  have h2 : -x < (-x / b + 1) * b := Int.lt_ediv_add_one_mul_self _ (by omega)
  rw [Int.add_mul, Int.one_mul, Int.mul_comm] at h2
  rw [Int.mul_neg]
  omega
theorem neg_fdiv_uniq {x b q : Int} (hb : 1 ≤ b) (h1 : x ≤ b * q) (h2 : b * q < x + b) : -((-x).fdiv b) = q := by
  obtain ⟨r1, r2⟩ := neg_fdiv (x := x) hb
  generalize -((-x).fdiv b) = z at r1 r2
  have a1 : b * z - b * q < b := by omega
  have a2 : b * q - b * z < b := by omega
  rw [← Int.mul_sub] at a1 a2
  have : ∀ t : Int, b * t < b → t < 1 := fun t ht => by
    by_cases h : t < 1
    · exact h
    · have : b * 1 ≤ b * t := Int.mul_le_mul_of_nonneg_left (by omega) (by omega)
      omega
  have t1 := this _ a1
  have t2 := this _ a2
  omega
end Lg

namespace Lg
open PySem PySem.Spec PyProof.Rows L2 Lm
/-- how many stays a light goes on for -/
def sizeP (s st c k : Int) : Int := if st ≤ s ∧ s.fmod st = 0 then 1 + (c - 1 - k).fdiv (s.fdiv st) else 1
def PL (s f st c : Int) (F : List Stt) (k dark : Int) (qs : List Stt) : Prop :=
  let u := lightU (offOf F) (f, st, c)
  let R := lightR s (offOf F) (f, st, c)
  (k = u ∧ qs = F ∧ dark = offOf F) ∨ (u < c ∧ ∃ j : Nat, 1 ≤ j ∧ (j : Int) ≤ R.2.2 ∧ k = u + rup s st * (j : Int) ∧ qs = (pcs s R.1 R.2.1 j).foldl joinS F ∧ dark = R.1 + R.2.1 * ((j : Int) - 1) + s ∧ (st ≤ s ∧ s.fmod st = 0 → (j : Int) = R.2.2))
section
variable {s f st c : Int} {F qs : List Stt} {k dark : Int}
theorem light_nn (hst : 1 ≤ st) : 0 ≤ lightU (offOf F) (f, st, c) ∧ offOf F ≤ f + st * lightU (offOf F) (f, st, c) := by
  have gn : 0 ≤ (if offOf F - f > 0 then offOf F - f else 0) := by split <;> omega
  obtain ⟨u0, u1, u2⟩ := rup_spec gn hst
  have hU : lightU (offOf F) (f, st, c) = rup (if offOf F - f > 0 then offOf F - f else 0) st := rfl
  rw [hU]
  refine ⟨u0, ?_⟩
  split at u1 <;> split <;> omega
/-- where the walk over a run begins -/
theorem light_start (hst : 1 ≤ st) : lightU (offOf F) (f, st, c) = if f < offOf F then (if (0 : Int) < -((f - offOf F).fdiv st) then -((f - offOf F).fdiv st) else 0) else 0 := by
  have hU : lightU (offOf F) (f, st, c) = rup (if offOf F - f > 0 then offOf F - f else 0) st := rfl
  rw [hU]
  by_cases h : f < offOf F
  · rw [if_pos h, if_pos (by omega)]
    obtain ⟨n1, n2⟩ := neg_fdiv (x := offOf F - f) hst
    rw [show -(offOf F - f) = f - offOf F by omega] at n1 n2
    have e := rup_uniq (x := offOf F - f) (by omega) hst n1 n2
    rw [e]
    have p : 0 < -((f - offOf F).fdiv st) := by
      apply Classical.byContradiction
      intro z
      have := Int.mul_le_mul_of_nonneg_left (show -((f - offOf F).fdiv st) ≤ 0 by omega) (show 0 ≤ st by omega)
      rw [Int.mul_zero] at this
      omega
    rw [if_pos p]
  · rw [if_neg h, if_neg (by omega)]
    exact rup_uniq (Int.le_refl _) hst (by simp) (by simp; omega)
theorem pl_start (hst : 1 ≤ st) : PL s f st c F (lightU (offOf F) (f, st, c)) (offOf F) F := .inl ⟨rfl, rfl, rfl⟩
theorem pl_step (hs : 1 ≤ s) (hst : 1 ≤ st) (hf : 0 ≤ f) (hc : 1 ≤ c) (h : PL s f st c F k dark qs) (hk : k < c) (hl : qs.length < 61) :
    PL s f st c F (-((f - (f + st * k + s * sizeP s st c k)).fdiv st)) (f + st * k + s * sizeP s st c k) (putR qs (f + st * k, f + st * k + s * sizeP s st c k)) ∧ k < -((f - (f + st * k + s * sizeP s st c k)).fdiv st) := by
  rw [put_eq hl]
  obtain ⟨a0, a1, a2⟩ := rup_spec (n := s) (by omega) hst
  obtain ⟨u0, u1⟩ := light_nn (F := F) (f := f) (c := c) hst
  have hR : lightR s (offOf F) (f, st, c) = (f + st * lightU (offOf F) (f, st, c), st * rup s st, rup (c - lightU (offOf F) (f, st, c)) (rup s st)) := rfl
  unfold PL at h ⊢
  rw [hR] at h ⊢
  dsimp only at h ⊢
  generalize lightU (offOf F) (f, st, c) = u at h u0 u1 ⊢
  have a1' : 1 ≤ rup s st := by
    apply Classical.byContradiction
    intro z
    have := Int.mul_le_mul_of_nonneg_left (show rup s st ≤ 0 by omega) (show 0 ≤ st by omega)
    rw [Int.mul_zero] at this
    omega
  have uc : u < c := by
    rcases h with ⟨rfl, _, _⟩ | ⟨h, _⟩
    · exact hk
    · exact h
  obtain ⟨n0, n1, n2⟩ := rup_spec (n := c - u) (b := rup s st) (by omega) a1'
  have div : st ≤ s ∧ s.fmod st = 0 → s.fdiv st = rup s st ∧ st * rup s st = s := fun ⟨_, d2⟩ => by
    have e : s = st * (s.fdiv st) := by
      have := Int.mul_fdiv_add_fmod s st
      omega
    have e2 : rup s st = s.fdiv st := rup_uniq (by omega) hst (by omega) (by omega)
    exact ⟨e2.symm, by rw [e2]; exact e.symm⟩
  -- the number of the light under way
  obtain ⟨j, hj, ek, eq, ed⟩ : ∃ j : Nat, (j : Int) < rup (c - u) (rup s st) ∧ k = u + rup s st * (j : Int) ∧ qs = (pcs s (f + st * u) (st * rup s st) j).foldl joinS F ∧ (st ≤ s ∧ s.fmod st = 0 → j = 0) := by
    have lt : ∀ j : Nat, u + rup s st * (j : Int) < c → (j : Int) < rup (c - u) (rup s st) := fun j hj => by
      apply Classical.byContradiction
      intro z
      have := Int.mul_le_mul_of_nonneg_left (show rup (c - u) (rup s st) ≤ (j : Int) by omega) (show 0 ≤ rup s st by omega)
      omega
    rcases h with ⟨rfl, rfl, _⟩ | ⟨_, j, j1, j2, rfl, rfl, _, j3⟩
    · exact ⟨0, lt 0 (by simpa using hk), by simp, rfl, fun _ => rfl⟩
    · refine ⟨j, lt j hk, rfl, rfl, fun d => ?_⟩
      have e := j3 d
      have := lt j hk
      omega
  have here : f + st * k = f + st * u + st * rup s st * (j : Int) := by
    rw [ek, Int.mul_add, Int.mul_assoc]
    omega
  by_cases d : st ≤ s ∧ s.fmod st = 0
  · obtain ⟨d1, d2⟩ := div d
    obtain rfl := ed d
    have ek : k = u := by rw [ek]; simp
    have esz : sizeP s st c k = rup (c - u) (rup s st) := by
      unfold sizeP
      rw [if_pos d, d1, ek]
      symm
      refine rup_uniq (by omega) a1' ?_ ?_
      · have := Int.lt_ediv_add_one_mul_self (c - 1 - u) (show 0 < rup s st by omega)
        rw [Int.fdiv_eq_ediv_of_nonneg _ (by omega), Int.mul_add, Int.mul_one]
        rw [Int.add_mul, Int.one_mul, Int.mul_comm] at this
        omega
      · have := Int.mul_ediv_self_le (x := c - 1 - u) (show rup s st ≠ 0 by omega)
        rw [Int.fdiv_eq_ediv_of_nonneg _ (by omega), Int.mul_add, Int.mul_one]
        omega
    rw [esz]
    obtain ⟨m, hm⟩ : ∃ m : Nat, rup (c - u) (rup s st) = ((m + 1 : Nat) : Int) := ⟨(rup (c - u) (rup s st)).toNat - 1, by omega⟩
    rw [hm] at n1 n2 ⊢
    have tch := touch (s := s) (f := f + st * u) (st := s) (acc := F) hs hs (Int.le_refl _) (headB_off (by omega)) m
    have e1 : s * ((m + 1 : Nat) : Int) = s * (m : Int) + s := by rw [show ((m + 1 : Nat) : Int) = (m : Int) + 1 by omega, Int.mul_add, Int.mul_one]
    have kq : -((f - (f + st * k + s * ((m + 1 : Nat) : Int))).fdiv st) = u + rup s st * ((m + 1 : Nat) : Int) := by
      rw [show f - (f + st * k + s * ((m + 1 : Nat) : Int)) = -(st * k + s * ((m + 1 : Nat) : Int)) by omega]
      have e3 : st * (u + rup s st * ((m + 1 : Nat) : Int)) = st * k + s * ((m + 1 : Nat) : Int) := by rw [Int.mul_add, ← Int.mul_assoc, d2, ek]
      exact neg_fdiv_uniq hst (by omega) (by omega)
    have pos : 0 < rup s st * ((m + 1 : Nat) : Int) := Int.mul_pos (by omega) (by omega)
    rw [kq]
    refine ⟨.inr ⟨uc, m + 1, by omega, Int.le_refl _, rfl, ?_, ?_, fun _ => rfl⟩, by omega⟩
    · rw [d2, tch, eq, ek, e1]
      show joinS F _ = joinS F _
      congr 2
      omega
    · rw [d2, ek, e1, show ((m + 1 : Nat) : Int) - 1 = (m : Int) by omega]
      omega
  · have esz : sizeP s st c k = 1 := if_neg d
    rw [esz, Int.mul_one]
    have kq : -((f - (f + st * k + s)).fdiv st) = u + rup s st * ((j + 1 : Nat) : Int) := by
      rw [show f - (f + st * k + s) = -(st * k + s) by omega]
      have e3 : u + rup s st * ((j + 1 : Nat) : Int) = k + rup s st := by rw [ek, show ((j + 1 : Nat) : Int) = (j : Int) + 1 by omega, Int.mul_add, Int.mul_one]; omega
      rw [e3]
      refine neg_fdiv_uniq hst ?_ ?_
      · rw [Int.mul_add]; omega
      · rw [Int.mul_add]; omega
    rw [kq]
    refine ⟨.inr ⟨uc, j + 1, by omega, by omega, rfl, ?_, ?_, fun z => absurd z d⟩, ?_⟩
    · rw [pcs_succ, List.foldl_append, eq, here]
      rfl
    · rw [here, show ((j + 1 : Nat) : Int) - 1 = (j : Int) by omega]
    · rw [ek, show ((j + 1 : Nat) : Int) = (j : Int) + 1 by omega, Int.mul_add, Int.mul_one]
      omega
theorem pcs_le {s f st : Int} {F : List Stt} {i j : Nat} (h : i ≤ j) : ((pcs s f st i).foldl joinS F).length ≤ ((pcs s f st j).foldl joinS F).length := by
  induction j with
  | zero => obtain rfl : i = 0 := by omega
            exact Nat.le_refl _
  | succ j ih =>
    rcases (show i ≤ j ∨ i = j + 1 by omega) with e | e
    · refine Nat.le_trans (ih e) ?_
      rw [pcs_succ, List.foldl_append]
      exact joinS_fold_len _ _
    · rw [e]; exact Nat.le_refl _
/-- where the walk over a run ends -/
theorem pl_end {rs : List Run} (hs : 1 ≤ s) (hst : 1 ≤ st) (hf : 0 ≤ f) (hc : 1 ≤ c) (h : PL s f st c (pulB s rs) k dark qs) (hx : ¬ k < c ∨ 61 ≤ qs.length) :
    (pulB s (rs ++ [(f, st, c)]) = qs ∧ dark = offOf (pulB s (rs ++ [(f, st, c)]))) ∨ (60 < (pulB s (rs ++ [(f, st, c)])).length ∧ 60 < qs.length) := by
  rw [pul_snoc]
  generalize pulB s rs = F at h
  obtain ⟨L1, L0⟩ := light_run (s := s) (r := (f, st, c)) (acc := F) hs hf hst hc
  have mono : F.length ≤ ((ap f st c.toNat).foldl (stepL false s) F).length := stepL_fold_len _ _ _ _
  show ((ap f st c.toNat).foldl (stepL false s) F = qs ∧ dark = offOf ((ap f st c.toNat).foldl (stepL false s) F)) ∨ (60 < ((ap f st c.toNat).foldl (stepL false s) F).length ∧ _)
  have L1 : lightU (offOf F) (f, st, c) < c → (ap f st c.toNat).foldl (stepL false s) F = _ ∧ _ := L1
  have L0 : ¬ lightU (offOf F) (f, st, c) < c → (ap f st c.toNat).foldl (stepL false s) F = F := L0
  rcases h with ⟨rfl, rfl, rfl⟩ | ⟨uc, j, j1, j2, rfl, rfl, rfl, j3⟩
  · rcases hx with hx | hx
    · rw [L0 hx]
      exact .inl ⟨rfl, rfl⟩
    · exact .inr ⟨by omega, by omega⟩
  · obtain ⟨e1, e2, e3, e4, e5, e6⟩ := L1 uc
    rw [e1]
    rcases hx with hx | hx
    · have hR : lightR s (offOf F) (f, st, c) = (f + st * lightU (offOf F) (f, st, c), st * rup s st, rup (c - lightU (offOf F) (f, st, c)) (rup s st)) := rfl
      have a1' : 1 ≤ rup s st := rup_one hs hst
      obtain ⟨n0, n1, n2⟩ := rup_spec (n := c - lightU (offOf F) (f, st, c)) (b := rup s st) (by omega) a1'
      have ej : (j : Int) = (lightR s (offOf F) (f, st, c)).2.2 := by
        apply Classical.byContradiction
        intro z
        rw [hR] at j2 z
        dsimp only at j2 z
        have := Int.mul_le_mul_of_nonneg_left (show (j : Int) ≤ rup (c - lightU (offOf F) (f, st, c)) (rup s st) - 1 by omega) (show 0 ≤ rup s st by omega)
        rw [Int.mul_sub, Int.mul_one] at this
        omega
      have ejn : (lightR s (offOf F) (f, st, c)).2.2.toNat = j := by omega
      refine .inl ⟨by rw [ejn], ?_⟩
      rw [e6]
      unfold lastM
      rw [← ej]
    · refine .inr ⟨?_, by omega⟩
      refine Nat.lt_of_lt_of_le (show 60 < _ from hx) (pcs_le (by omega))
end
end Lg

namespace Lg
open PySem PySem.Spec PyProof.Rows L2 Lm
def sp_farP (K : PySem.W.Frag) : Sp := fun vs H Q _ => ∃ (Z : Hp) (p dl al : Addr) (u : Int), vs = [.ref p, .int u] ∧ Iv (pot p dl al) Z 0 H ∧ 0 ≤ u ∧ u ≤ 60 ∧
  ∀ (x : V) (H' : Hp) (rs : List Run), Iv (pot p dl al) Z 0 H' → Kp (pot p dl al) Z H H' → Dq K (hid (pot p dl al) Z H') x (runsD rs) → RunsUp (-1) rs → rs.length ≤ 60 → (∀ r ∈ rs, RunOk r) → Q x H'
def logL (qs : List Stt) : PyData := .list (qs.reverse.map pD)
/-- a list of pairs that stands by itself, its end first -/
def LL (K : PySem.W.Frag) (G : Hp) (a : Addr) (qs : List Stt) : Prop := ∃ xs, G a = some (.lst xs) ∧ Dqs K G xs (qs.reverse.map pD)
theorem LL.mono {K : PySem.W.Frag} {G G' : Hp} {a : Addr} {qs : List Stt} (s : Same G G') (h : LL K G a qs) : LL K G' a qs := let ⟨xs, e, d⟩ := h; ⟨xs, s _ _ e, d.mono s⟩
theorem LL.dq {K : PySem.W.Frag} {G : Hp} {a : Addr} {qs : List Stt} (h : LL K G a qs) : Dq K G (.ref a) (logL qs) := let ⟨_, e, d⟩ := h; .lst (.inl (.inl e)) d
def sp_put (K : PySem.W.Frag) : Sp := fun vs H Q _ => ∃ (N : Addr → Prop) (a : Addr) (qs : List Stt) (p : Stt), vs = [.ref a, .int p.1, .int p.2] ∧ Occ N H ∧ LL K (cut N H) a qs ∧ qs.length ≤ 61 ∧
  ∀ (r : Addr) (H' : Hp), Same H H' → LL K (cut N H') r (putR qs p) → Q (.ref r) H'
def sp_back (K : PySem.W.Frag) (B : Int → List Run → List Stt) : Sp := fun vs H Q _ => ∃ (N : Addr → Prop) (s : Int) (rs : List Run), Occ N H ∧ Dqs K (cut N H) vs [.int s, runsD rs] ∧ 1 ≤ s ∧ s ≤ 1000000000 ∧ rs.length ≤ 400 ∧ (∀ r ∈ rs, RunOk r) ∧ RunsUp (-1) rs ∧
  ∀ (r : Addr) (H' : Hp) (qs : List Stt), Same H H' → LL K (cut N H') r qs → qs.length ≤ 61 → Rel60 (B s rs) qs → Q (.ref r) H'
abbrev sp_held (K : PySem.W.Frag) : Sp := sp_back K heldB
abbrev sp_pulsed (K : PySem.W.Frag) : Sp := sp_back K pulB
theorem drop_get {α : Type} {xs : List α} {i : Nat} {x : α} (h : xs[i]? = some x) : xs.drop i = x :: xs.drop (i + 1) := by
  obtain ⟨hi, rfl⟩ := List.getElem?_eq_some_iff.mp h
  exact List.drop_eq_getElem_cons hi
theorem take_snoc {α : Type} {xs : List α} {i : Nat} {x : α} (h : xs[i]? = some x) : xs.take (i + 1) = xs.take i ++ [x] := by
  rw [List.take_add_one, h]
  rfl
theorem cutV_init {xs : List V} {v : V} : cutV (xs ++ [v]) none (some (-1)) = xs := by
  unfold cutV
  rw [HT.sIx_none, List.drop_zero, Nat.sub_zero]
  have e : HT.sIx (xs ++ [v]).length (xs ++ [v]).length (some (-1)) = xs.length := by
    unfold HT.sIx
    simp
    try omega
  rw [e]
  simp
theorem call_lenK {X : Cx} {K : PySem.W.Frag} (h : X.K = K) : CallR X (.builtin "len") (fun xs H Q => ∃ p ys, xs = [.ref p] ∧ (SqL K H p ys ∨ SqT K H p ys) ∧ Q (.int ys.length) H) := h ▸ call_len_seq
theorem call_tupleK {X : Cx} {K : PySem.W.Frag} (h : X.K = K) : CallR X (.type "tuple") (fun xs H Q => ∃ p ys, xs = [.ref p] ∧ ((SqL K H p ys ∧ ∀ l, H l = none → Q (.ref l) (upd H l (.tup ys))) ∨ (SqT K H p ys ∧ Q (.ref p) H))) := h ▸ call_tuple_of
/-- the booked answer, once the runs were walked -/
theorem told_due {l : Lamp} {rs : List Run} {qs : List Stt} (hs : 1 ≤ l.2) (hr : RunsUp (-1) rs) (h : Rel60 ((spreadAll rs).foldl (stepL l.1 l.2) []) qs) : toldD l rs = dueD qs.reverse ∧ (qs.length ≤ 60 → qs.reverse = logF l (spreadAll rs)) := by
  have e : logF l (spreadAll rs) = ((spreadAll rs).foldl (stepL l.1 l.2) []).reverse := rfl
  rcases h with h | ⟨h1, h2⟩
  · have e2 : qs.reverse = logF l (spreadAll rs) := by rw [e, h]
    refine ⟨?_, fun _ => e2⟩
    rw [e2]
    unfold dueD
    by_cases g : 60 < (logF l (spreadAll rs)).length
    · rw [if_pos g]; exact told_big hs hr g
    · rw [if_neg g]; exact told_small hs hr (by omega)
  · refine ⟨?_, fun z => by omega⟩
    unfold dueD
    rw [if_pos (by rw [List.length_reverse]; exact h2)]
    exact told_big hs hr (by rw [e, List.length_reverse]; exact h1)
section
variable {K : PySem.W.Frag} {Z H0 : Hp} {p dl al : Addr} {σ : L2.St} {tg : TE} {n : Nat}
theorem ev_lampStay {i : Nat} (e : σ[i]? = some (some (.ref p))) (h : Ev (pot p dl al) Z n H0 σ tg (IR 1 1000000000)) : Ev (pot p dl al) Z n H0 σ (tOp (rIxT K) (tCall (sp_lampP K) [] E0 (tCons (tVar i) (tCons tg tNil))) (tC (.int 1))) (IR 1 1000000000) :=
  fun H b Q P k q => ⟨_, e, h H b _ P k fun v H1 P1 k1 ⟨g, eg, g1, g2⟩ => ⟨Z, p, dl, al, g, by rw [eg]; rfl, P1.less (Nat.zero_le _), g1, g2, fun x H' l P' k' d' l1 l2 => by
    obtain ⟨a1, rfl, ga⟩ := dq_lamp d'
    exact ⟨a1, _, 1, .int l.2, rfl, rfl, Same.seqT hid_same ga, atI_nat (j := 1) rfl, q _ _ ⟨P'.src, P'.zz, P'.zo⟩ (k1.trans k') ⟨l.2, rfl, l1, l2⟩⟩⟩⟩
end
theorem due_sm {l : Lamp} {rs : List Run} {qs : List Stt} (hs : 1 ≤ l.2 ∧ l.2 ≤ 1000000000) (hr : RunsUp (-1) rs) (ok : ∀ r ∈ rs, RunOk r) (h : Rel60 ((spreadAll rs).foldl (stepL l.1 l.2) []) qs) : Sm 2103 2 (dueD qs.reverse) := by
  unfold dueD
  by_cases g : 60 < qs.reverse.length
  · rw [if_pos g]
    exact (Sm.list (c := 1) (n := 13) (k := 0) (ds := [.int 60]) (fun d hd => by rw [List.mem_singleton.mp hd]; exact Sm.int (by decide)) (Nat.le_refl _)).wide (by decide) (by decide)
  · rw [if_neg g]
    rw [List.length_reverse] at g
    have e := (told_due hs.1 hr h).2 (by omega)
    rw [e]
    refine logF_sm ⟨by omega, hs.2⟩ (B := 1000000000) (Int.le_refl _) (spread_bd ok) ?_
    rw [← e, List.length_reverse]
    omega
end Lg

namespace Lg
open PySem PySem.Spec PyProof.Rows L2 Lm
/-! ### minutes put into runs -/
def grpS : List Run → Int → List Run
  | [], m => [(m, 1, 1)]
  | r :: rs, m => if r.2.2 = 1 ∨ m = r.1 + r.2.1 * r.2.2 then (r.1, (m - r.1).fdiv r.2.2, r.2.2 + 1) :: rs else (m, 1, 1) :: r :: rs
def grpF (ms : List Int) : List Run := (ms.foldl grpS []).reverse
theorem grpS_len (rs : List Run) (m : Int) : (grpS rs m).length ≤ rs.length + 1 := by
  cases rs with
  | nil => simp [grpS]
  | cons r rs => simp only [grpS]; split <;> simp
theorem grp_fold_len : ∀ (ms : List Int) (rs : List Run), (ms.foldl grpS rs).length ≤ rs.length + ms.length
  | [], _ => Nat.le_refl _
  | m :: ms, rs => by
    have a := grp_fold_len ms (grpS rs m)
    have b := grpS_len rs m
    rw [List.foldl_cons, List.length_cons]
    omega
/-- what stands in the last run: how many, how far -/
def GrpOk (rs : List Run) : Prop := ∀ r ∈ rs, 1 ≤ r.2.2 ∧ r.2.2 ≤ 1000000
/-- the value of a wrong minute -/
def minGo : List PyData → Int → Option PyData
  | [], _ => none
  | .int m :: r, b => if 0 ≤ m ∧ m ≤ 1000000000 ∧ b < m then minGo r m else some (.int m)
  | d :: _, _ => some d
def minErr : PyData → Option PyData
  | .tuple ds => minGo ds (-1)
  | d => some d
theorem minGo_ints : ∀ {ds : List PyData} {b : Int}, minGo ds b = none → ∃ ms : List Int, ds = ms.map .int ∧ Asc b ms ∧ ∀ m ∈ ms, 0 ≤ m ∧ m ≤ 1000000000
  | [], b, _ => ⟨[], rfl, trivial, fun m h => nomatch h⟩
  | .int m :: r, b, h => by
    simp only [minGo] at h
    split at h
    · rename_i g
      obtain ⟨ms, rfl, h1, h2⟩ := minGo_ints h
      refine ⟨m :: ms, rfl, ⟨g.2.2, h1⟩, fun x hx => ?_⟩
      rcases List.mem_cons.mp hx with e | e
      · rw [e]; exact ⟨g.1, g.2.1⟩
      · exact h2 x e
    · cases h
  | .none :: _, _, h => by simp [minGo] at h
  | .bool _ :: _, _, h => by simp [minGo] at h
  | .str _ :: _, _, h => by simp [minGo] at h
  | .list _ :: _, _, h => by simp [minGo] at h
  | .tuple _ :: _, _, h => by simp [minGo] at h
  | .dict _ :: _, _, h => by simp [minGo] at h
/-! ### a def that may raise an error with any value -/
def sp_fe (K : PySem.W.Frag) {α : Type} (A : α → List PyData) (P : α → Prop) (F : α → PyData) (B : α → Option (Addr × Str × PyData)) : Sp := fun vs H Q E => ∃ (N : Addr → Prop) (x : α), Occ N H ∧ Dqs K (cut N H) vs (A x) ∧ P x ∧
  (B x = none → ∀ r H', Same H H' → Dq K (cut N H') r (F x) → Q r H') ∧ (∀ C f d, B x = some (C, f, d) → ∀ (dd : Addr) (v : V) (H' : Hp), Same H H' → H dd = none → H' dd = some (.xd [(f, v)]) → Dq K (cut N H') v d → E (.ref C) (some dd) H')
def isMin (d : PyData) : Bool := inW 0 1000000000 d
def sp_isMin (K : PySem.W.Frag) : Sp := fun vs H Q _ => ∃ v d, vs = [v] ∧ Dq K H v d ∧ Q (.bl (isMin d)) H
def sp_foll (K : PySem.W.Frag) : Sp := sp_f K (fun x : Int × Run => [.int x.1, runD x.2]) (fun x => 1 ≤ x.2.2.2 ∧ x.2.2.2 ≤ 10000000000 ∧ 0 ≤ x.2.2.1 ∧ x.2.2.1 ≤ 10000000000) (fun x => .bool (decide (x.2.2.2 = 1) || decide (x.1 = x.2.1 + x.2.2.1 * x.2.2.2)))
def sp_runsOf (K : PySem.W.Frag) : Sp := sp_f K (fun ms : List Int => [.list ((ones ms).map runD)]) (fun ms => ms.length ≤ 900 ∧ Asc (-1) ms ∧ ∀ m ∈ ms, 0 ≤ m ∧ m ≤ 1000000000) (fun ms => runsD (grpF ms))
def GInv (ms : List Int) (i : Nat) (qs : List Run) : Prop := ∀ r ∈ qs, r.1 ∈ ms.take i ∧ (0 ≤ r.2.1 ∧ r.2.1 ≤ 1000000000) ∧ 1 ≤ r.2.2 ∧ r.2.2 ≤ (i : Int)
theorem asc_lt {ms : List Int} {i : Nat} {m b x : Int} (ha : Asc b ms) (hm : ms[i]? = some m) (hx : x ∈ ms.take i) : x < m := by
  have h := (asc_app (xs := ms.take i) (ys := ms.drop i) (by rw [List.take_append_drop]; exact ha)).2.1
  exact h x hx m (by rw [drop_get hm]; exact List.mem_cons_self)
theorem ginv_step {ms : List Int} {i : Nat} {m : Int} {qs : List Run} (ha : Asc (-1) ms) (hb : ∀ m ∈ ms, 0 ≤ m ∧ m ≤ 1000000000) (hm : ms[i]? = some m) (h : GInv ms i qs) : GInv ms (i + 1) (grpS qs m) := by
  have tk : ms.take (i + 1) = ms.take i ++ [m] := take_snoc hm
  have wide : ∀ r : Run, (r.1 ∈ ms.take i ∧ (0 ≤ r.2.1 ∧ r.2.1 ≤ 1000000000) ∧ 1 ≤ r.2.2 ∧ r.2.2 ≤ (i : Int)) → (r.1 ∈ ms.take (i + 1) ∧ (0 ≤ r.2.1 ∧ r.2.1 ≤ 1000000000) ∧ 1 ≤ r.2.2 ∧ r.2.2 ≤ ((i + 1 : Nat) : Int)) := fun r ⟨h1, h2, h3, h4⟩ => ⟨by rw [tk]; exact List.mem_append_left _ h1, h2, h3, by omega⟩
  have one : (m ∈ ms.take (i + 1) ∧ (0 ≤ (1 : Int) ∧ (1 : Int) ≤ 1000000000) ∧ (1 : Int) ≤ 1 ∧ (1 : Int) ≤ ((i + 1 : Nat) : Int)) := ⟨by rw [tk]; simp, ⟨by decide, by decide⟩, Int.le_refl _, by omega⟩
  cases qs with
  | nil =>
    intro r hr
    rw [List.mem_singleton.mp hr]
    exact one
  | cons q rs =>
    have hq := h q List.mem_cons_self
    have hr : ∀ r ∈ rs, _ := fun r hr => wide r (h r (List.mem_cons_of_mem _ hr))
    simp only [grpS]
    split
    · intro r hz
      rcases List.mem_cons.mp hz with e | e
      · obtain ⟨q1, q2, q3, q4⟩ := hq
        have lt := asc_lt ha hm q1
        have m1 := hb m (List.mem_of_getElem? hm)
        have b1 := hb q.1 (List.mem_of_mem_take q1)
        rw [e]
        refine ⟨(wide q ⟨q1, q2, q3, q4⟩).1, ?_, by show 1 ≤ q.2.2 + 1; omega, by show q.2.2 + 1 ≤ _; omega⟩
        show 0 ≤ (m - q.1).fdiv q.2.2 ∧ (m - q.1).fdiv q.2.2 ≤ 1000000000
        rw [Int.fdiv_eq_ediv_of_nonneg _ (by omega)]
        have d0 : 0 ≤ (m - q.1) / q.2.2 := Int.ediv_nonneg (by omega) (by omega)
        have d1 : (m - q.1) / q.2.2 ≤ m - q.1 := Int.ediv_le_self _ (by omega)
        omega
      · exact hr r e
    · intro r hz
      rcases List.mem_cons.mp hz with e | e
      · rw [e]; exact one
      · rcases List.mem_cons.mp e with e | e
        · rw [e]; exact wide q hq
        · exact hr r e
end Lg

namespace Lg
open PySem PySem.Spec PyProof.Rows L2 Lm
def sumC (rs : List Run) : Int := (rs.map fun r => r.2.2).sum
def sp_count (K : PySem.W.Frag) : Sp := sp_f K (fun rs : List Run => [runsD rs]) (fun rs => rs.length ≤ 900) (fun rs => .int (sumC rs))
def okD : Option Int → PyData
  | some m => .int m
  | none => .none
def erD (C : Addr) (f : Str) (d : PyData) : Option Int → Option (Addr × Str × PyData)
  | some _ => none
  | none => some (C, f, d)
/-- the motion with this number -/
def motAt : List Run → Int → Option Int
  | [], _ => none
  | r :: rs, i => if i < r.2.2 then some (r.1 + r.2.1 * i) else motAt rs (i - r.2.2)
def motAtD (rs : List Run) : PyData → Option Int
  | .int i => if 0 ≤ i then motAt rs i else none
  | _ => none
def sp_motAt (K : PySem.W.Frag) (C : Addr) : Sp := sp_fe K (fun x : List Run × PyData => [runsD x.1, x.2]) (fun x => x.1.length ≤ 900 ∧ ∀ r ∈ x.1, RunOk r) (fun x => okD (motAtD x.1 x.2)) (fun x => erD C "index" x.2 (motAtD x.1 x.2))
/-- how many motions stand before a minute -/
def befs (rs : List Run) (m : Int) : List Int := (rs.filter fun r => decide (r.1 < m)).map fun r => if rup (m - r.1) r.2.1 < r.2.2 then rup (m - r.1) r.2.1 else r.2.2
def befD (rs : List Run) : PyData → Option Int
  | .int m => if 0 ≤ m ∧ m ≤ 1000000000 then some (befs rs m).sum else none
  | _ => none
def sp_before (K : PySem.W.Frag) (C : Addr) : Sp := sp_fe K (fun x : List Run × PyData => [runsD x.1, x.2]) (fun x => x.1.length ≤ 900 ∧ ∀ r ∈ x.1, RunOk r) (fun x => okD (befD x.1 x.2)) (fun x => erD C "value" x.2 (befD x.1 x.2))
theorem befs_len (rs : List Run) (m : Int) : (befs rs m).length ≤ rs.length := by
  unfold befs
  rw [List.length_map]
  exact List.length_filter_le _ _
theorem befs_take {rs : List Run} {m : Int} {i : Nat} {r : Run} (h : rs[i]? = some r) : befs (rs.take (i + 1)) m = befs (rs.take i) m ++ (if r.1 < m then [if rup (m - r.1) r.2.1 < r.2.2 then rup (m - r.1) r.2.1 else r.2.2] else []) := by
  unfold befs
  rw [take_snoc h, List.filter_append, List.map_append]
  congr 1
  by_cases g : r.1 < m
  · rw [if_pos g, List.filter_cons_of_pos (by rw [decide_eq_true g])]
    rfl
  · rw [if_neg g, List.filter_cons_of_neg (by rw [decide_eq_false g]; exact fun z => nomatch z)]
    rfl
/-- what motions_of gives, and its errors -/
def grpOf : PyData → List Run
  | .tuple ds => grpF (ds.filterMap fun d => match d with | .int m => some m | _ => none)
  | _ => []
theorem ints_back (ms : List Int) : (ms.map PyData.int).filterMap (fun d => match d with | .int m => some m | _ => none) = ms := by
  induction ms with
  | nil => rfl
  | cons m r ih => rw [List.map_cons, List.filterMap_cons]; simp only [ih]
theorem grpOf_ints (ms : List Int) : grpOf (.tuple (ms.map .int)) = grpF ms := by
  show grpF ((ms.map PyData.int).filterMap _) = _
  rw [ints_back]
def motsErr (CM CL : Addr) (d : PyData) : Option (Addr × Str × PyData) := match minErr d with
  | some e => some (CM, "value", e)
  | none => if 360 < (grpOf d).length then some (CL, "limit", .int 360) else none
def sp_motsOf (K : PySem.W.Frag) (CM CL : Addr) : Sp := sp_fe K (fun d : PyData => [d]) (fun d => match d with | .tuple ds => ds.length ≤ 800 | _ => True) (fun d => runsD (grpOf d)) (motsErr CM CL)
end Lg

namespace Lg
open PySem PySem.Spec PyProof.Rows L2 Lm
def sp_oddP (K : PySem.W.Frag) : Sp := fun vs H Q _ => ∃ (Z : Hp) (p dl al : Addr), vs = [.ref p] ∧ Iv (pot p dl al) Z 0 H ∧ ∀ (x : V) (H' : Hp), Iv (pot p dl al) Z 0 H' → Kp (pot p dl al) Z H H' → DR K (Sm 60 3) x (hid (pot p dl al) Z H') → Q x H'
theorem odd_hid {p dl al : Addr} {Z H : Hp} {o : HO} (hz : Z al = none) : Lm.hid (upd Z al o) p dl H = hid (pot p dl al) Z H := by
  funext b
  by_cases h : Off (pot p dl al) Z b
  · have n1 : b ≠ p := fun e => h.1 (.inl e)
    have n2 : b ≠ dl := fun e => h.1 (.inr (.inl e))
    have n3 : b ≠ al := fun e => h.1 (.inr (.inr e))
    rw [hid_at h, Lm.hid_at n1 ⟨n2, by rw [upd_ne n3]; exact h.2⟩]
  · have e1 : hid (pot p dl al) Z H b = none := by
      cases e : hid (pot p dl al) Z H b with
      | none => rfl
      | some o => exact absurd (hid_some e) h
    rw [e1]
    cases e : Lm.hid (upd Z al o) p dl H b with
    | none => rfl
    | some o' =>
      exfalso
      have n := Lm.hid_some e
      apply h
      have n3 : b ≠ al := fun z => by have := n.2.2; rw [z, upd_same] at this; cases this
      refine ⟨fun z => ?_, ?_⟩
      · rcases z with z | z | z
        · exact n.1 z
        · exact n.2.1 z
        · exact n3 z
      · have := n.2.2
        rw [upd_ne n3] at this
        exact this
theorem odd_imp (K : PySem.W.Frag) (vs : List V) (H : Hp) (Q : VK) (E : XK) (h : sp_oddP K vs H Q E) : Lm.sp_odd K vs H Q E := by
  obtain ⟨Z, p, dl, al, e, P, q⟩ := h
  have PA := iv_pot P
  obtain ⟨ns, hal, hne, hlen⟩ := PA.li
  have za : Z al = none := P.zo al (.inr (.inr rfl))
  have npa : p ≠ al := PA.pa.symm
  refine ⟨upd Z al (.lst (ns.map V.int)), p, dl, al, e, ⟨PA.ob, PA.de, PA.li, PA.ne, fun b o z => ?_, ?_, ?_⟩, fun x H' P' k' r => ?_⟩
  · by_cases eb : b = al
    · rw [eb, upd_same] at z
      rw [eb, hal]; exact z
    · rw [upd_ne eb] at z
      exact P.zz b o z
  · rw [upd_ne npa]; exact P.zo p (.inl rfl)
  · rw [upd_ne PA.ne.symm]; exact P.zo dl (.inr (.inl rfl))
  · have zz' : Same Z H' := fun b o z => P'.zz b o (by rw [upd_ne (ne_of_none z za)]; exact z)
    have P2 : PotAt Z H' p dl al := ⟨P'.ob, P'.de, P'.li, P'.ne, zz', P.zo p (.inl rfl), P.zo dl (.inr (.inl rfl))⟩
    refine q x H' (pot_iv P2 za) ?_ (by rw [odd_hid za] at r; exact r)
    unfold Lm.Kp at k'
    rw [odd_hid za, odd_hid za] at k'
    exact k'
end Lg

namespace Lg
open PySem PySem.Spec PyProof.Rows L2 Lm
def dueGo : Option PyData → List Run → PyData
  | some e, _ => .list [.str "minute", e]
  | none, rs => if 360 < rs.length then .list [.str "large", .int 360] else runsD rs
def dueOf (d : PyData) : PyData := dueGo (minErr d) (grpOf d)
def told1 (w : Str) (d : PyData) : Option Int → PyData
  | some m => .int m
  | none => .list [.str w, d]
def lenOk : PyData → Prop
  | .tuple ds => ds.length ≤ 800
  | _ => True
def sp_told6 (K : PySem.W.Frag) : Sp := fun vs H Q _ => ∃ (N : Addr → Prop) (way : Int) (v1 v2 : V), vs = [.int way, v1, v2] ∧ Occ N H ∧
  ((way = 0 ∧ ∃ d, Dq K (cut N H) v1 d ∧ lenOk d ∧ ∀ r H', Same H H' → Dq K (cut N H') r (dueOf d) → Q r H') ∨
   (way = 1 ∧ ∃ rs d, Dq K (cut N H) v1 (runsD rs) ∧ Dq K (cut N H) v2 d ∧ rs.length ≤ 900 ∧ (∀ r ∈ rs, RunOk r) ∧ ∀ r H', Same H H' → Dq K (cut N H') r (told1 "index" d (motAtD rs d)) → Q r H') ∨
   (way = 2 ∧ ∃ rs d, Dq K (cut N H) v1 (runsD rs) ∧ Dq K (cut N H) v2 d ∧ rs.length ≤ 900 ∧ (∀ r ∈ rs, RunOk r) ∧ ∀ r H', Same H H' → Dq K (cut N H') r (told1 "minute" d (befD rs d)) → Q r H'))
def sp_due6 (K : PySem.W.Frag) : Sp := sp_f K (fun d : PyData => [d]) lenOk dueOf
theorem op_eqDK {X : Cx} {K : PySem.W.Frag} (h : X.K = K) (hu : X.A.units + 64 < cLine) : OpR X (compareOp .Eq) (rEqD K) := h ▸ op_eqD hu
end Lg

namespace Lg
open PySem PySem.Spec PyProof.Rows L2 Lm
/-- the run at hand can take no more -/
def Shut (qs : List Run) (m : Int) : Prop := grpS qs m = (m, 1, 1) :: qs
theorem grp_block {qs : List Run} {r0 d : Int} (hd : 1 ≤ d) (hs : Shut qs r0) : ∀ s : Nat, (ap r0 d (s + 1)).foldl grpS qs = (r0, if 1 < s + 1 then d else 1, ((s + 1 : Nat) : Int)) :: qs
  | 0 => by
    show grpS qs (r0 + d * ((0 : Nat) : Int)) = _
    rw [show r0 + d * ((0 : Nat) : Int) = r0 by simp, hs]
    rfl
  | s + 1 => by
    rw [ap_succ, List.foldl_append, grp_block hd hs s]
    rw [List.foldl_cons, List.foldl_nil]
    simp only [grpS]
    have pos : (0 : Int) < ((s + 1 : Nat) : Int) := by omega
    have e : (r0 + d * ((s + 1 : Nat) : Int) - r0).fdiv ((s + 1 : Nat) : Int) = d := by
      rw [show r0 + d * ((s + 1 : Nat) : Int) - r0 = d * ((s + 1 : Nat) : Int) by omega, Int.fdiv_eq_ediv_of_nonneg _ (by omega)]
      exact Int.mul_ediv_cancel _ (by omega)
    have c : ((s + 1 : Nat) : Int) = 1 ∨ r0 + d * ((s + 1 : Nat) : Int) = r0 + (if 1 < s + 1 then d else 1) * ((s + 1 : Nat) : Int) := by
      by_cases h : 1 < s + 1
      · rw [if_pos h]; exact .inr rfl
      · exact .inl (by omega)
    rw [if_pos c, e, if_pos (by omega)]
    rfl
theorem grp_take {qs : List Run} {rem : List Int} {r0 d : Int} {s : Nat} (hd : 1 ≤ d) (hsh : Shut qs r0) (s1 : 1 ≤ s) (s2 : s ≤ rem.length) (h : ∀ j : Nat, j < s → rem[j]? = some (r0 + d * (j : Int))) : rem.foldl grpS qs = (rem.drop s).foldl grpS ((r0, if 1 < s then d else 1, (s : Int)) :: qs) := by
  obtain ⟨n, rfl⟩ : ∃ n, s = n + 1 := ⟨s - 1, by omega⟩
  have e := ap_take s2 h
  conv => lhs; rw [e]
  rw [List.foldl_append, grp_block hd hsh n]
theorem shut_next {qs : List Run} {r0 d m : Int} {s : Nat} (hs : 2 ≤ s) (hm : m ≠ r0 + d * (s : Int)) : Shut ((r0, if 1 < s then d else 1, (s : Int)) :: qs) m := by
  unfold Shut
  simp only [grpS]
  rw [if_neg]
  rw [if_pos (by omega)]
  intro z
  rcases z with z | z
  · omega
  · exact hm z
def spreadL (n : Nat) (sh : Int) : List Int := (List.range n).map fun (k : Nat) => 7 * (k : Int).fdiv 2 + (k : Int).fmod 2 + sh * (k : Int) * (k : Int)
theorem spreadL_succ (n : Nat) (sh : Int) : spreadL (n + 1) sh = spreadL n sh ++ [7 * (n : Int).fdiv 2 + (n : Int).fmod 2 + sh * (n : Int) * (n : Int)] := by unfold spreadL; rw [List.range_succ, List.map_append]; rfl
def sp_spread (K : PySem.W.Frag) : Sp := sp_f K (fun x : Int × Int => [.int x.1, .int x.2]) (fun x => (0 ≤ x.1 ∧ x.1 ≤ 800) ∧ 0 ≤ x.2 ∧ x.2 ≤ 10) (fun x => .tuple ((spreadL x.1.toNat x.2).map .int))
def sp_numR (K : PySem.W.Frag) : Sp := fun vs H Q _ => ∃ (Z : Hp) (p dl al : Addr) (x : V) (rs : List Run), vs = [.ref p, x] ∧ Iv (pot p dl al) Z 0 H ∧ Dq K (hid (pot p dl al) Z H) x (runsD rs) ∧ RunsUp (-1) rs ∧ rs.length ≤ 60 ∧ (∀ r ∈ rs, RunOk r) ∧
  ∀ (H' : Hp), Iv (pot p dl al) Z 0 H' → Kp (pot p dl al) Z H H' → Q (.bl true) H'
theorem ev_oddP {K : PySem.W.Frag} {Z H0 : Hp} {p dl al : Addr} {σ : L2.St} {i : Nat} (e : σ[i]? = some (some (.ref p))) : Ev (pot p dl al) Z 0 H0 σ (tCall (sp_oddP K) [] E0 (tCons (tVar i) tNil)) (DR K (Sm 60 3)) := fun H b Q P k q => ⟨_, e, Z, p, dl, al, rfl, P.less (Nat.zero_le _), fun x H' P' k' r => q x H' ⟨P'.src, P'.zz, P'.zo⟩ k' r⟩
end Lg

namespace Lg
open PySem PySem.Spec PyProof.Rows L2 Lm
theorem sumC_cons (r : Run) (rs : List Run) : sumC (r :: rs) = r.2.2 + sumC rs := by unfold sumC; rw [List.map_cons, List.sum_cons]
theorem sumC_le : ∀ {rs : List Run} {b : Int}, RunsUp b rs → sumC rs ≤ endL b rs - b ∧ 0 ≤ sumC rs
  | [], b, _ => by
    show (0 : Int) ≤ b - b ∧ (0 : Int) ≤ 0
    omega
  | r :: rs, b, ⟨u1, u2, u3, u4⟩ => by
    obtain ⟨i1, i2⟩ := sumC_le u4
    rw [sumC_cons]
    show r.2.2 + sumC rs ≤ endL (lastM r) rs - b ∧ _
    have : r.2.2 - 1 ≤ r.2.1 * (r.2.2 - 1) := by
      have := Int.mul_le_mul_of_nonneg_right u2 (show 0 ≤ r.2.2 - 1 by omega)
      omega
    unfold lastM at i1 ⊢
    omega
theorem endL_le : ∀ {rs : List Run} {b : Int}, b ≤ 1000000000 → (∀ r ∈ rs, RunOk r) → endL b rs ≤ 1000000000
  | [], b, h, _ => h
  | r :: rs, b, _, ok => show endL (lastM r) rs ≤ 1000000000 from endL_le (ok r List.mem_cons_self).l fun x hx => ok x (List.mem_cons_of_mem _ hx)
theorem motAt_none : ∀ {rs : List Run} {i : Int}, (∀ r ∈ rs, RunOk r) → sumC rs ≤ i → motAt rs i = none
  | [], _, _, _ => rfl
  | r :: rs, i, ok, h => by
    rw [sumC_cons] at h
    have nn : 0 ≤ sumC rs := by
      clear h
      have : ∀ {qs : List Run}, (∀ r ∈ qs, RunOk r) → 0 ≤ sumC qs := fun {qs} => by
        induction qs with
        | nil => exact fun _ => Int.le_refl 0
        | cons q t ih =>
          intro o
          have a := ih fun x hx => o x (List.mem_cons_of_mem _ hx)
          have b := (o q List.mem_cons_self).c
          rw [sumC_cons]; omega
      exact this fun x hx => ok x (List.mem_cons_of_mem _ hx)
    simp only [motAt]
    rw [if_neg (by omega)]
    exact motAt_none (fun x hx => ok x (List.mem_cons_of_mem _ hx)) (by omega)
/-- the law's own count of a run -/
def befG (m : Int) (r : Run) : Int := if (if -((r.1 - m).fdiv r.2.1) < r.2.2 then -((r.1 - m).fdiv r.2.1) else r.2.2) > 0 then (if -((r.1 - m).fdiv r.2.1) < r.2.2 then -((r.1 - m).fdiv r.2.1) else r.2.2) else 0
theorem befG_eq {m : Int} {r : Run} (ok : RunOk r) : befG m r = if r.1 < m then (if rup (m - r.1) r.2.1 < r.2.2 then rup (m - r.1) r.2.1 else r.2.2) else 0 := by
  have s := ok.s
  have c := ok.c
  unfold befG
  obtain ⟨n1, n2⟩ := neg_fdiv (x := m - r.1) (b := r.2.1) s.1
  rw [show -(m - r.1) = r.1 - m by omega] at n1 n2
  by_cases h : r.1 < m
  · have e := rup_uniq (by omega) s.1 n1 n2
    rw [if_pos h, ← e]
    have p := rup_one (n := m - r.1) (b := r.2.1) (by omega) s.1
    rw [if_pos (by split <;> omega)]
  · rw [if_neg h]
    have np : -((r.1 - m).fdiv r.2.1) ≤ 0 := by
      apply Classical.byContradiction
      intro z
      have := Int.mul_le_mul_of_nonneg_left (show 1 ≤ -((r.1 - m).fdiv r.2.1) by omega) (show 0 ≤ r.2.1 by omega)
      rw [Int.mul_one] at this
      omega
    rw [if_neg (by split <;> omega)]
theorem befs_sum {m : Int} : ∀ {rs : List Run}, (∀ r ∈ rs, RunOk r) → (rs.map (befG m)).sum = (befs rs m).sum
  | [], _ => rfl
  | r :: rs, ok => by
    have ih := befs_sum (m := m) (rs := rs) fun x hx => ok x (List.mem_cons_of_mem _ hx)
    rw [List.map_cons, List.sum_cons, ih, befG_eq (ok r List.mem_cons_self)]
    unfold befs
    by_cases h : r.1 < m
    · rw [if_pos h, List.filter_cons_of_pos (by rw [decide_eq_true h]), List.map_cons, List.sum_cons]
    · rw [if_neg h, List.filter_cons_of_neg (by rw [decide_eq_false h]; exact fun z => nomatch z), Int.zero_add]
theorem motAt_bd : ∀ {rs : List Run} {i m : Int}, (∀ r ∈ rs, RunOk r) → 0 ≤ i → motAt rs i = some m → 0 ≤ m ∧ m ≤ 1000000000
  | [], _, _, _, _, h => by cases h
  | r :: rs, i, m, ok, h0, h => by
    have o := ok r List.mem_cons_self
    obtain ⟨⟨f0, f1⟩, ⟨s0, s1⟩, ⟨c0, c1⟩, hl⟩ := o
    unfold lastM at hl
    simp only [motAt] at h
    by_cases g : i < r.2.2
    · rw [if_pos g] at h
      have e := Option.some.inj h
      have h1 : 0 ≤ r.2.1 * i := Int.mul_nonneg (by omega) h0
      have h2 : r.2.1 * i ≤ r.2.1 * (r.2.2 - 1) := Int.mul_le_mul_of_nonneg_left (by omega) (by omega)
      omega
    · rw [if_neg g] at h
      exact motAt_bd (fun x hx => ok x (List.mem_cons_of_mem _ hx)) (by omega) h
theorem befG_bd {m : Int} {r : Run} (ok : RunOk r) : 0 ≤ befG m r ∧ befG m r ≤ r.2.2 := by
  have c := ok.c
  unfold befG
  split <;> split <;> omega
theorem befs_bd {m : Int} : ∀ {rs : List Run}, (∀ r ∈ rs, RunOk r) → 0 ≤ (rs.map (befG m)).sum ∧ (rs.map (befG m)).sum ≤ sumC rs
  | [], _ => ⟨Int.le_refl 0, Int.le_refl 0⟩
  | r :: rs, ok => by
    obtain ⟨i1, i2⟩ := befs_bd (m := m) (rs := rs) fun x hx => ok x (List.mem_cons_of_mem _ hx)
    obtain ⟨b1, b2⟩ := befG_bd (m := m) (ok r List.mem_cons_self)
    rw [List.map_cons, List.sum_cons, sumC_cons]
    omega
def isLs : PyData → Bool | .list _ => true | _ => false
theorem kit_ls (d : PyData) : kitB (tyN d) "list" = some (isLs d) := by cases d <;> simp only [tyN, isLs] <;> decide +kernel
theorem told1_sm {w : Str} {d : PyData} {o : Option Int} (hw : Sm 60 3 (.str w)) (hd : Sm 60 3 d) (ho : ∀ m, o = some m → m.natAbs < 10 ^ 12) : Sm 127 4 (told1 w d o) := by
  cases o with
  | some m => exact (Sm.int (ho m rfl)).wide (by decide) (by decide)
  | none => exact Sm.list (c := 2) (n := 60) (k := 3) (ds := [.str w, d]) (fun x hx => by
      rcases List.mem_cons.mp hx with e | e
      · rw [e]; exact hw
      · rw [List.mem_singleton.mp e]; exact hd) (Nat.le_refl _)
section
variable {K : PySem.W.Frag} {S : Src} {Z H0 : Hp} {σ : L2.St} {te : TE} {n : Nat} {a b : Int}
theorem ev_irD (h : Ev S Z n H0 σ te (IR a b)) (ha : -100000000000 ≤ a := by omega) (hb : b ≤ 100000000000 := by omega) : Ev S Z n H0 σ te (DR K (Sm 60 3)) := h.imp fun v G ⟨i, e, i0, i1⟩ => ⟨.int i, by rw [e]; exact .int _, (Sm.int (by omega)).wide (by decide) (by decide)⟩
theorem ev_blD {c : Bool} : Ev S Z 0 H0 σ (tC (.bl c)) (DR K (Sm 60 3)) := ev_c.imp fun v G e => ⟨.bool c, by rw [e]; exact .bl _, (Sm.bool c).wide (by decide) (by decide)⟩
theorem ev_nonD : Ev S Z 0 H0 σ (tC .non) (DR K (Sm 60 3)) := ev_c.imp fun v G e => ⟨.none, by rw [e]; exact .non, sm_chk (by decide +kernel)⟩
end
end Lg

namespace Lg
open PySem PySem.Spec PyProof.Rows L2 Lm
theorem piled_mem : ∀ {ts : List Str} {t : Str}, t ∈ ts → t.length + 2 ≤ piled ts
  | x :: r, t, h => by
    rw [piled_cons]
    rcases List.mem_cons.mp h with e | e
    · rw [e]; omega
    · have := piled_mem e; omega
theorem piled_len : ∀ (ts : List Str), 2 * ts.length ≤ piled ts
  | [] => Nat.zero_le _
  | x :: r => by
    have := piled_len r
    rw [piled_cons, List.length_cons]
    omega
theorem tupText_ge (ts : List Str) : piled ts ≤ (tupleText ts).length + 2 := Nat.le_trans (piled_le_tupleText ts) (by omega)
theorem shown_mem : ∀ {ds : List PyData} {e : PyData}, e ∈ ds → e.shown ∈ PyData.shownAll ds
  | d :: r, e, h => by
    simp only [PyData.shownAll]
    rcases List.mem_cons.mp h with z | z
    · rw [z]; exact List.mem_cons_self
    · exact List.mem_cons_of_mem _ (shown_mem z)
theorem shown_len : ∀ (ds : List PyData), (PyData.shownAll ds).length = ds.length
  | [] => rfl
  | d :: r => by simp only [PyData.shownAll, List.length_cons, shown_len r]
theorem show_all : ∀ {ds : List PyData} {e : PyData}, PyData.showableAll ds = true → e ∈ ds → e.showable = true
  | d :: r, e, h, m => by
    simp only [PyData.showableAll, Bool.and_eq_true] at h
    rcases List.mem_cons.mp m with z | z
    · rw [z]; exact h.1
    · exact show_all h.2 z
theorem depth_all : ∀ {ds : List PyData} {e : PyData}, e ∈ ds → e.depth ≤ PyData.depthAll ds
  | d :: r, e, m => by
    simp only [PyData.depthAll]
    rcases List.mem_cons.mp m with z | z
    · rw [z]; exact Nat.le_max_left _ _
    · exact Nat.le_trans (depth_all z) (Nat.le_max_right _ _)
theorem item_sm {n k : Nat} {ds : List PyData} {e : PyData} (h : Sm n k (.tuple ds)) (m : e ∈ ds) : Sm n k e := by
  refine ⟨?_, ?_, ?_⟩
  · have := h.sh
    simp only [PyData.showable] at this
    exact show_all this m
  · have := h.dp
    simp only [PyData.depth] at this
    have := depth_all m
    omega
  · have := h.sz
    simp only [PyData.shown] at this
    have a := tupText_ge (PyData.shownAll ds)
    have b := piled_mem (shown_mem m)
    omega
theorem tup_len {n k : Nat} {ds : List PyData} (h : Sm n k (.tuple ds)) : 2 * ds.length ≤ n + 2 := by
  have := h.sz
  simp only [PyData.shown] at this
  have a := tupText_ge (PyData.shownAll ds)
  have b := piled_len (PyData.shownAll ds)
  rw [shown_len] at b
  omega
theorem minGo_mem : ∀ {ds : List PyData} {b : Int} {e : PyData}, minGo ds b = some e → e ∈ ds
  | .int m :: r, b, e, h => by
    simp only [minGo] at h
    split at h
    · exact List.mem_cons_of_mem _ (minGo_mem h)
    · cases h; exact List.mem_cons_self
  | .none :: _, _, _, h => by simp [minGo] at h; rw [← h]; exact List.mem_cons_self
  | .bool _ :: _, _, _, h => by simp [minGo] at h; rw [← h]; exact List.mem_cons_self
  | .str _ :: _, _, _, h => by simp [minGo] at h; rw [← h]; exact List.mem_cons_self
  | .list _ :: _, _, _, h => by simp [minGo] at h; rw [← h]; exact List.mem_cons_self
  | .tuple _ :: _, _, _, h => by simp [minGo] at h; rw [← h]; exact List.mem_cons_self
  | .dict _ :: _, _, _, h => by simp [minGo] at h; rw [← h]; exact List.mem_cons_self
theorem ginv_all {ms : List Int} (ha : Asc (-1) ms) (hb : ∀ m ∈ ms, 0 ≤ m ∧ m ≤ 1000000000) : ∀ i : Nat, i ≤ ms.length → GInv ms i ((ms.take i).foldl grpS [])
  | 0, _ => fun r hr => nomatch hr
  | i + 1, h => by
    have hm : ms[i]? = some (ms[i]'(by omega)) := List.getElem?_eq_getElem (by omega)
    rw [foldl_take grpS [] ms hm]
    exact ginv_step ha hb hm (ginv_all ha hb i (by omega))
theorem due_fine {n k : Nat} {d : PyData} (h : Sm n k d) (hn : n ≤ 100000) (hk : k ≤ 50) (hl : lenOk d) : Fine (dueOf d) := by
  have key : ∃ n' k', Sm n' k' (dueOf d) ∧ n' ≤ 16777216 ∧ k' ≤ 100 := by
    unfold dueOf
    cases he : minErr d with
    | some e =>
      have se : Sm n k e := by
        cases d with
        | tuple ds => exact item_sm h (minGo_mem (show minGo ds (-1) = some e from he))
        | _ => cases he; exact h
      refine ⟨2 * (n + 20 + 2) + 3, k + 1, Sm.list (c := 2) (n := n + 20) (k := k) (ds := [.str "minute", e]) (fun x hx => ?_) (Nat.le_refl _), by omega, by omega⟩
      rcases List.mem_cons.mp hx with z | z
      · rw [z]; exact (show Sm 20 0 (.str "minute") from sm_chk (by decide +kernel)).wide (by omega) (Nat.zero_le _)
      · rw [List.mem_singleton.mp z]; exact se.wide (by omega) (Nat.le_refl _)
    | none =>
      simp only [dueGo]
      split
      · exact ⟨60, 3, sm_chk (by decide +kernel), by decide, by decide⟩
      · rename_i g
        have hds : ∃ ds, d = .tuple ds := by
          cases d with
          | tuple ds => exact ⟨ds, rfl⟩
          | _ => cases he
        obtain ⟨ds, rfl⟩ := hds
        obtain ⟨ms, rfl, ha, hb⟩ := minGo_ints (show minGo ds (-1) = none from he)
        have hl : (ms.map PyData.int).length ≤ 800 := hl
        rw [List.length_map] at hl
        rw [grpOf_ints] at g ⊢
        have gi := ginv_all ha hb ms.length (Nat.le_refl _)
        rw [List.take_length] at gi
        refine ⟨360 * (48 + 2) + 3, 2, Sm.tuple (c := 360) (n := 48) (k := 1) (fun x hx => ?_) (by rw [List.length_map]; omega), by decide, by decide⟩
        obtain ⟨r, hr, rfl⟩ := List.mem_map.mp hx
        have hr' : r ∈ ms.foldl grpS [] := List.mem_reverse.mp hr
        obtain ⟨g1, g2, g3, g4⟩ := gi r hr'
        have b1 := hb _ (List.mem_of_mem_take g1)
        refine Sm.tuple (c := 3) (n := 13) (k := 0) (ds := [.int r.1, .int r.2.1, .int r.2.2]) (fun y hy => ?_) (Nat.le_refl _)
        rcases List.mem_cons.mp hy with e | e
        · rw [e]; exact Sm.int (by omega)
        · rcases List.mem_cons.mp e with e | e
          · rw [e]; exact Sm.int (by omega)
          · rw [List.mem_singleton.mp e]; exact Sm.int (by omega)
  obtain ⟨n', k', s, h1, h2⟩ := key
  exact s.fine h1 h2
def Val (d : PyData) : Prop := Sm 60000 4 d ∧ lenOk d
theorem dr_all {K : PySem.W.Frag} {G : Hp} {φ : PyData → Prop} : ∀ {xs : List V}, (∀ x ∈ xs, DR K φ x G) → ∃ ds, Dqs K G xs ds ∧ ∀ d ∈ ds, φ d
  | [], _ => ⟨[], .nil, fun d h => nomatch h⟩
  | x :: r, h => by
    obtain ⟨d, hd, sd⟩ := h x List.mem_cons_self
    obtain ⟨ds, hds, sds⟩ := dr_all (xs := r) fun y hy => h y (List.mem_cons_of_mem _ hy)
    exact ⟨d :: ds, .cons hd hds, fun e he => by
      rcases List.mem_cons.mp he with z | z
      · rw [z]; exact sd
      · exact sds e z⟩
theorem tp_val {K : PySem.W.Frag} {a c : Nat} {G : Hp} {v : V} (hc : c ≤ 800) (h : TpR K a c (DR K (Sm 60 3)) v G) : DR K Val v G := by
  obtain ⟨l, xs, rfl, g, _, lc, hx⟩ := h
  obtain ⟨ds, hds, sds⟩ := dr_all hx
  have len := hds.len
  refine ⟨.tuple ds, .tup g hds, (Sm.tuple (c := c) (n := 60) (k := 3) sds (by omega)).wide (by omega) (Nat.le_refl _), ?_⟩
  show ds.length ≤ 800
  omega
theorem ls_val {K : PySem.W.Frag} {a c : Nat} {G : Hp} {v : V} (hc : c ≤ 800) (h : LsR a c (DR K (Sm 60 3)) v G) : DR K Val v G := by
  obtain ⟨l, xs, rfl, g, _, lc, hx⟩ := h
  obtain ⟨ds, hds, sds⟩ := dr_all hx
  have len := hds.len
  exact ⟨.list ds, .lst (.inl (.inl g)) hds, (Sm.list (c := c) (n := 60) (k := 3) sds (by omega)).wide (by omega) (Nat.le_refl _), trivial⟩
theorem odd_val {K : PySem.W.Frag} {G : Hp} {v : V} (h : DR K (Sm 60 3) v G) : DR K Val v G := by
  obtain ⟨d, hd, sd⟩ := h
  refine ⟨d, hd, sd.wide (by decide) (by decide), ?_⟩
  cases d with
  | tuple ds =>
    have := tup_len sd
    show ds.length ≤ 800
    omega
  | _ => trivial
/-- minutes as a tuple of small numbers -/
theorem mins_tp {K : PySem.W.Frag} {G : Hp} {v : V} {ms : List Int} (h : Dq K G v (intsT ms)) (hm : MinsP ms) : TpR K 0 60 (DR K (Sm 60 3)) v G := by
  obtain ⟨a, xs, rfl, g, hd⟩ := dq_tup h
  obtain rfl := dqs_ints hd
  refine ⟨a, _, rfl, g, Nat.zero_le _, by rw [List.length_map]; exact hm.2.1, fun x hx => ?_⟩
  obtain ⟨z, hz, rfl⟩ := List.mem_map.mp hx
  have := hm.2.2 z hz
  exact ⟨.int z, .int z, (Sm.int (by omega)).wide (by decide) (by decide)⟩
section
variable {K : PySem.W.Frag} {S : Src} {Z H0 : Hp} {σ : L2.St} {te : TE} {n : Nat} {R : VR}
theorem ev_revT {a b : Nat} (hm : Mo R) (h : Ev S Z n H0 σ te (TpR K a b R)) : Ev S Z n H0 σ (tRevT K te) (TpR K a b R) :=
  fun H bb Q P k q => h H bb _ P k fun x H1 P1 k1 r1 => by
    obtain ⟨l, xs, rfl, g, a1, a2, a3⟩ := r1
    refine ⟨l, xs, rfl, Same.seqT hid_same g, fun t nt => ?_⟩
    obtain ⟨P4, k4, e4⟩ := laid (o := .tup xs.reverse) P1 nt
    exact q _ _ P4 (k1.trans k4) ⟨t, _, rfl, .inl (.inl e4), by rw [List.length_reverse]; exact a1, by rw [List.length_reverse]; exact a2, fun v hv => hm _ _ _ k4 (a3 v (List.mem_reverse.mp hv))⟩
theorem ev_val {a c : Nat} (hc : c ≤ 800) (h : Ev S Z n H0 σ te (TpR K a c (DR K (Sm 60 3)))) : Ev S Z n H0 σ te (DR K Val) := h.imp fun v G r => tp_val hc r
theorem ev_strD {x : Str} (hx : Sm 60 3 (.str x)) : Ev S Z 0 H0 σ (tC (.str x)) (DR K (Sm 60 3)) := ev_c.imp fun v G e => ⟨.str x, by rw [e]; exact .str _, hx⟩
theorem spreadL_bd {n : Nat} {sh : Int} (h0 : 0 ≤ sh) (h1 : sh ≤ 10) (hn : n ≤ 800) : ∀ z ∈ spreadL n sh, 0 ≤ z ∧ z < 100000000 := fun z hz => by
  obtain ⟨k, hk, rfl⟩ := List.mem_map.mp hz
  have hk := List.mem_range.mp hk
  rw [Int.fdiv_eq_ediv_of_nonneg _ (by decide), Int.fmod_eq_emod_of_nonneg _ (by decide)]
  have a1 : sh * (k : Int) ≤ 10 * 800 := Int.mul_le_mul h1 (by omega) (by omega) (by decide)
  have a0 : 0 ≤ sh * (k : Int) := Int.mul_nonneg h0 (by omega)
  have b1 : sh * (k : Int) * (k : Int) ≤ 8000 * 800 := Int.mul_le_mul a1 (by omega) (by omega) (by decide)
  have b0 : 0 ≤ sh * (k : Int) * (k : Int) := Int.mul_nonneg a0 (by omega)
  omega
theorem ev_spread {c sh : Int} (hc : 0 ≤ c) (hc1 : c ≤ 800) (h0 : 0 ≤ sh) (h1 : sh ≤ 10) : Ev S Z 0 H0 σ (tCall (sp_spread K) [] E0 (tCons (tC (.int c)) (tCons (tC (.int sh)) tNil))) (TpR K 0 c.toNat (DR K (Sm 60 3))) := fun H b Q P k q =>
  ⟨NZ S Z, (c, sh), P.occ, .cons (.int _) (.cons (.int _) .nil), ⟨⟨hc, hc1⟩, h0, h1⟩, fun r H' s d => by
    have d : Dq K (cut (NZ S Z) H') r (.tuple ((spreadL c.toNat sh).map .int)) := d
    obtain ⟨a, xs, rfl, g, hd⟩ := dq_tup d
    obtain rfl := dqs_ints hd
    refine q _ _ ((P.less (by omega)).keep s) (Kp.of s) ⟨a, _, rfl, g, Nat.zero_le _, by rw [List.length_map]; unfold spreadL; rw [List.length_map, List.length_range]; exact Nat.le_refl _, fun x hx => ?_⟩
    obtain ⟨z, hz, rfl⟩ := List.mem_map.mp hx
    have := spreadL_bd h0 h1 (by omega) z hz
    exact ⟨.int z, .int z, (Sm.int (by omega)).wide (by decide) (by decide)⟩⟩
theorem ev_zeros : Ev S Z 0 H0 σ (tOp (rRepT K) (tTup (tCons (tC (.int 0)) tNil)) (tC (.int 700))) (TpR K 0 700 (DR K (Sm 60 3))) := fun H b Q P k q =>
  ⟨Nat.le_of_lt (small1000 (Nat.le_add_left 1 999)), fun t nt => ⟨t, 700, [.int 0], rfl, rfl, .inl (.inl upd_same), by simp, by decide, by decide, by decide, fun p np => by
    obtain ⟨P1, k1, e1⟩ := laid (o := .tup [.int 0]) (P.less (c := b) (by omega)) nt
    obtain ⟨P2, k2, e2⟩ := laid (o := .tup (List.replicate (700 : Int).toNat [V.int 0]).flatten) P1 np
    refine q _ _ P2 (k1.trans k2) ⟨p, _, rfl, .inl (.inl e2), Nat.zero_le _, by simp, fun x hx => ?_⟩
    obtain ⟨l, hl, hx⟩ := List.mem_flatten.mp hx
    rw [List.eq_of_mem_replicate hl] at hx
    rw [List.mem_singleton.mp hx]
    exact ⟨.int 0, .int 0, (Sm.int (by decide)).wide (by decide) (by decide)⟩⟩⟩
end
end Lg

namespace Lg
open PySem PySem.Spec PyProof.Rows L2 Lm
/-! ### set(list of whole numbers), sorted(set(..)) -/
abbrev newSet (w : World) : Obj := ⟨.type "set", none, .set #[] 0 (.fresh 0 0 (!w.params.followText "set-order")), #[]⟩
abbrev pushed (w : World) (h : Heap) : Heap := h.push (newSet w)
section
variable {P : Program} {w : World} {A : Around} {E : Value → Shared → Prop} {s : Shared}
/-- the filling of the new set from the list -/
theorem set_fill {l : Addr} {items : Array Value} {ns : List Int} (hd : A.handled = none) (isl : s.heap.IsList l items) (ia : IntsAre items.toList ns) (small : ns.length + 1 < scanBound)
    {R : Result → Shared → Prop} (k : ∀ (h' : Heap) (tk c : Nat), SetR w h' s.heap.objs.size (fun j => decide (j ∈ ns)) c → c ≤ ns.length → (∀ b o, s.heap.get? b = some o → h'.get? b = some o) → R (.ok (.ret .none)) { s with heap := h', toks := tk }) :
    codeAny (model P w) A (.builtin "set.update.loop" ⟨[.ref s.heap.objs.size, .ref (pushed w s.heap).objs.size], []⟩) R { s with heap := (pushed w s.heap).push { cls := .type "list_iterator", data := .fields #[.ref l, .int 0 0] } } := by
  have sz : items.size = ns.length := by rw [← ia.length, Array.length_toList]
  have lt : l < s.heap.objs.size := by
    obtain ⟨o, e, _⟩ := isl
    exact Heap.lt_size e
  have one : (pushed w s.heap).objs.size = s.heap.objs.size + 1 := Heap.size_push ..
  have up : s.heap.objs.size < (pushed w s.heap).objs.size := by rw [one]; exact Nat.lt_succ_self _
  have apart : l ≠ (pushed w s.heap).objs.size := Nat.ne_of_lt (Nat.lt_trans lt up)
  have away : s.heap.objs.size ∉ [(pushed w s.heap).objs.size, l] := by
    intro z
    rcases List.mem_cons.mp z with z | z
    · exact absurd z (Nat.ne_of_lt up)
    · exact absurd (List.mem_singleton.mp z) (Nat.ne_of_gt lt)
  have hd1 : A.in1.handled = none := by simp [hd]
  have there : (pushed w s.heap).get? s.heap.objs.size = some (newSet w) := Heap.get?_push_size _ rfl
  have isl1 : (pushed w s.heap).IsList l items := isl.push _
  refine set_update_ints ((Walks.list hd1 _ l apart items).toS) s.heap.objs.size away ns sz small (fun i v hv => ?_) items.size 0 _ (Nat.sub_zero _) (Nat.zero_le _) ⟨⟨_, Heap.get?_push_size _ rfl, rfl, rfl⟩, isl1.push _⟩
    ⟨0, Nat.le_refl 0, setR_new_at (Heap.get?_push_of_some _ there)⟩ fun s' c mv hc hS => ?_
  · have li : i < ns.length := by rw [← sz]; exact (Array.getElem?_eq_some_iff.mp hv).1
    obtain ⟨t, e⟩ := ia.int_at i v (by rw [Array.getElem?_toList]; exact hv)
    have g := List.getElem?_eq_getElem li
    exact ⟨ns[i], t, g, by rw [e, List.getD_eq_getElem?_getD, g] <;> rfl⟩
  · have eg := mv.gens
    have ed := mv.drawn
    have eo := mv.os
    obtain ⟨h', g', d', tk', os'⟩ := s'
    cases eg
    cases ed
    cases eo
    refine k h' tk' c hS (by omega) fun b o e => ?_
    have lb := Heap.lt_size e
    refine mv.heap b o (fun z => ?_) (Heap.get?_push_of_some _ (Heap.get?_push_of_some _ e))
    rcases List.mem_cons.mp z with z | z
    · exact absurd z (Nat.ne_of_lt lb)
    · exact absurd (List.mem_singleton.mp z) (Nat.ne_of_lt (Nat.lt_trans lb up))
/-- what set.__init__ leaves -/
def Filled (w : World) (s : Shared) (ns : List Int) (r : Value) (s2 : Shared) : Prop := r = .none ∧ ∃ (h' : Heap) (tk c : Nat), s2 = { s with heap := h', toks := tk } ∧ SetR w h' s.heap.objs.size (fun j => decide (j ∈ ns)) c ∧ c ≤ ns.length ∧ ∀ b o, s.heap.get? b = some o → h'.get? b = some o
theorem set_init {l : Addr} {items : Array Value} {ns : List Int} (hd : A.handled = none) (isl : s.heap.IsList l items) (ia : IntsAre items.toList ns) (small : ns.length + 1 < scanBound) :
    codeAny (model P w) A (.call (.builtin "set.__init__") ⟨[.ref s.heap.objs.size, .ref l], []⟩) (wants (Filled w s ns) E) { s with heap := pushed w s.heap } := by
  have there : (pushed w s.heap).get? s.heap.objs.size = some (newSet w) := Heap.get?_push_size _ rfl
  have ty : Shared.TypeIs { s with heap := pushed w s.heap } (.ref s.heap.objs.size) "set" := ⟨_, there, rfl⟩
  refine codeAny_call_builtin F.called_set.init.plain F.entry_set_init (check_set_init_1 ty ?_)
  have isl1 : (pushed w s.heap).IsList l items := isl.push _
  obtain ⟨⟨oc, od, da, os⟩, ho, c1, nl, c2⟩ := isl
  simp only at c1 c2
  subst c1 c2
  have ho1 : (pushed w s.heap).get? l = some { cls := .type "list", dict := od, data := .seq items nl, slots := os } := Heap.get?_push_of_some _ ho
  have isl0 : s.heap.IsList l items := ⟨_, ho, rfl, nl, rfl⟩
  have f1 := F.sub_list_set
  have f2 := F.sub_list_frozenset
  have f3 : (Value.type "list" == Value.type "dict") = false := by decide
  unfold Builtin.«set.__init__» noKeywords Builtin.Frozenset.updateFrom
  generalize hI : pyIter = I
  wp_walk
  subst hI
  refine wpAny_pyIter_list isl1 (wpAny_bind (wpAny_runValue ?_))
  refine set_fill (by simp [hd]) isl0 ia small fun h' tk c hS hc kk => ?_
  show wpAny _ _ _ _ _ _
  refine wpAny_pure ?_
  show wpAny _ _ (ret Value.none) _ _ _
  exact wpAny_pure ⟨rfl, h', tk, c, rfl, hS, hc, kk⟩
theorem set_call {l : Addr} {items : Array Value} {ns : List Int} {Q : Value → Shared → Prop} (hd : A.handled = none) (isl : s.heap.IsList l items) (ia : IntsAre items.toList ns) (small : ns.length + 1 < scanBound)
    (k : ∀ (h' : Heap) (tk c : Nat), SetR w h' s.heap.objs.size (fun j => decide (j ∈ ns)) c → c ≤ ns.length → (∀ b o, s.heap.get? b = some o → h'.get? b = some o) → Q (.ref s.heap.objs.size) { s with heap := h', toks := tk }) :
    wpAny (model P w) A (call (.type "set") [.ref l]) Q E s := by
  obtain ⟨mc, mt, mro⟩ := F.called_set.mro
  have g1 := F.called_set.made
  have g2 := F.called_set.sub
  have g3 := F.called_set.notType
  have g4 := F.called_set.canCreate
  have g5 := F.typeCall_set_1 (.ref l)
  refine wpAny_call (codeAny_of_tree (show wpAny _ _ (callAny (.type "set") _) _ _ _ from wpAny_pure ⟨Code.quiet_builtin _ (by decide +kernel), codeAny_builtin F.entry_type_call ?_⟩))
  rw [Around.under_plain (weight_type_call_type "set" [.ref l] []) rfl]
  repeat (any_goals (first | assumption | wp_step))
  refine codeAny_mono (code_set_led1 (.ref l) (E := E) (Q₁ := fun u s1 => u = .ref s.heap.objs.size ∧ s1 = { s with heap := pushed w s.heap }) ⟨rfl, rfl⟩) fun r s1 hr => ?_
  match r, hr with
  | .error _, hr => exact hr
  | .ok .next, hr => exact hr.elim
  | .ok .brk, hr => exact hr.elim
  | .ok .cont, hr => exact hr.elim
  | .ok (.ret u), ⟨e1, e2⟩ =>
    subst e1 e2
    have there : (pushed w s.heap).get? s.heap.objs.size = some (newSet w) := Heap.get?_push_size _ rfl
    have ty : Shared.TypeIs { s with heap := pushed w s.heap } (.ref s.heap.objs.size) "set" := ⟨_, there, rfl⟩
    have g6 := F.called_set.init.lookup
    have g7 := F.called_set.init.bind (.ref s.heap.objs.size)
    repeat (any_goals (first | assumption | wp_step))
    refine codeAny_mono (set_init (E := E) (by simp [hd]) isl ia small) fun r2 s2 hr2 => ?_
    match r2, hr2 with
    | .error _, hr2 => exact hr2
    | .ok .next, hr2 => exact hr2.elim
    | .ok .brk, hr2 => exact hr2.elim
    | .ok .cont, hr2 => exact hr2.elim
    | .ok (.ret v), ⟨e3, h', tk, c, e4, hS, hc, kk⟩ =>
      subst e3 e4
      repeat (any_goals (first | assumption | wp_step))
      exact k _ _ _ hS hc kk
end
section
variable {X : Cx}
theorem setO_room {w : World} {h : Heap} {a : Addr} {S : Int → Bool} {n m : Nat} (R : SetR w h a S n) (e : n ≤ m) : ∃ c, c ≤ m ∧ SetR w h a S c := ⟨n, e, R⟩
/-- set(a list of whole numbers) -/
def rSetLI (K : PySem.W.Frag) (w : World) : List V → Hp → VK → Prop := fun xs H Q => ∃ (l : Addr) (ns : List Int), xs = [.ref l] ∧ SqL K H l (ns.map V.int) ∧ ns.length ≤ 1000 ∧ ∀ (p : Addr) (c : Nat), H p = none → c ≤ ns.length → Q (.ref p) (upd H p (SetO w p (fun j => decide (j ∈ ns)) c))
theorem cr_setLI (hc : X.calm = true) : CallR X (.type "set") (rSetLI X.K X.w) := by
  intro pins s σ H xs us Q I r h
  obtain ⟨l, ns, rfl, hq, hl, q⟩ := h
  rw [Vals.ref1 r]
  obtain ⟨its, rv, isl, len⟩ := I.list hq
  refine set_call (I.ok.hd hc) isl.isList (by simpa using ints_of_vals rv) (show ns.length + 1 < scanBound by unfold scanBound; omega) fun h' tk c hS hcn kk => ?_
  have n0 : H s.heap.objs.size = none := I.hok.fresh (Nat.le_refl _)
  exact ⟨.ref _, upd H s.heap.objs.size (SetO X.w s.heap.objs.size (fun j => decide (j ∈ ns)) c), I.laid (t' := tk) kk (Nat.le_refl _) (setO_new hS), rfl, q _ c n0 hcn⟩
end
end Lg

namespace Lg
open PySem PySem.Spec PyProof.Rows L2 Lm
/-! ### motions as data: the runs in them -/
def runQ : PyData → Option Run
  | .tuple [.int a, .int s, .int c] => some (a, s, c)
  | _ => none
def runsOf : PyData → List Run
  | .tuple ds => ds.filterMap runQ
  | _ => []
structure GoodR (r : Run) : Prop where
  f : 0 ≤ r.1
  s : 1 ≤ r.2.1
  c : 1 ≤ r.2.2
  o : r.2.2 = 1 → r.2.1 = 1
  l : lastM r ≤ 1000000000
theorem GoodR.ok {r : Run} (h : GoodR r) : RunOk r := by
  have b := run_bounds h.f h.s h.c h.o h.l
  exact ⟨⟨h.f, b.1⟩, ⟨h.s, b.2.1⟩, ⟨h.c, b.2.2⟩, h.l⟩
theorem runQ_runD (r : Run) : runQ (runD r) = some r := rfl
theorem runQ_all (rs : List Run) : (rs.map runD).filterMap runQ = rs := by
  induction rs with
  | nil => rfl
  | cons r rs ih => rw [List.map_cons, List.filterMap_cons, runQ_runD, ih]
theorem runsOf_runs (rs : List Run) : runsOf (runsD rs) = rs := runQ_all rs
theorem isN_two {d e : PyData} : isN (two d e) = false := rfl
theorem motGo_runs : ∀ {ds : List PyData} {i : Nat} {b : Int}, isN (motGo ds i b) = true → ds = (ds.filterMap runQ).map runD ∧ (∀ r ∈ ds.filterMap runQ, GoodR r) ∧ RunsUp b (ds.filterMap runQ)
  | [], _, _, _ => ⟨rfl, fun r h => (nomatch h), trivial⟩
  | d :: ds, i, b, h => by
    cases hr : runOf d with
    | none =>
      simp only [motGo, hr] at h
      rw [isN_two] at h
      cases h
    | some ab =>
      obtain ⟨a, s, c, rfl, e, h0, h1, h2, h3, h4, h5⟩ := runOf_wt (d := d) (by rw [hr]; rfl)
      rw [hr] at e
      cases e
      simp only [motGo, hr] at h
      by_cases g : a ≤ b
      · rw [if_pos g, isN_two] at h
        cases h
      · rw [if_neg g] at h
        obtain ⟨i1, i2, i3⟩ := motGo_runs h
        have dec : decide (0 ≤ a ∧ 1 ≤ s ∧ 1 ≤ c ∧ (c = 1 → s = 1) ∧ a + s * (c - 1) ≤ 1000000000) = true := by rw [← runOf_eq, hr]; rfl
        have dd := of_decide_eq_true dec
        have eq : List.filterMap runQ (.tuple [.int a, .int s, .int c] :: ds) = (a, s, c) :: ds.filterMap runQ := by rw [List.filterMap_cons]; rfl
        rw [eq]
        refine ⟨by rw [List.map_cons, ← i1]; rfl, fun r hm => ?_, ⟨by show b < a; omega, h2, h4, i3⟩⟩
        rcases List.mem_cons.mp hm with e | e
        · rw [e]; exact ⟨dd.1, dd.2.1, dd.2.2.1, dd.2.2.2.1, dd.2.2.2.2⟩
        · exact i2 r e
theorem motGo_of : ∀ {rs : List Run} {i : Nat} {b : Int}, (∀ r ∈ rs, GoodR r) → RunsUp b rs → isN (motGo (rs.map runD) i b) = true
  | [], _, _, _, _ => rfl
  | (a, s, c) :: rs, i, b, h, ⟨u1, _, _, u4⟩ => by
    have g := h _ List.mem_cons_self
    have e : runOf (.tuple [.int a, .int s, .int c]) = some (a, a + s * (c - 1)) := if_pos ⟨g.f, g.s, g.c, g.o, g.l⟩
    show isN (motGo (.tuple [.int a, .int s, .int c] :: rs.map runD) i b) = true
    simp only [motGo, e]
    rw [if_neg (show ¬ a ≤ b by have : b < a := u1; omega)]
    exact motGo_of (fun r hr => h r (List.mem_cons_of_mem _ hr)) u4
theorem mot_runs {d : PyData} (h : isN (motErr d) = true) : d = runsD (runsOf d) ∧ (runsOf d).length ≤ 360 ∧ (∀ r ∈ runsOf d, GoodR r) ∧ RunsUp (-1) (runsOf d) := by
  cases d with
  | tuple ds =>
    have e : motErr (.tuple ds) = if 360 < ds.length then two .none (.str "motions") else motGo ds 0 (-1) := rfl
    rw [e] at h
    by_cases g : 360 < ds.length
    · rw [if_pos g] at h; cases h
    · rw [if_neg g] at h
      obtain ⟨i1, i2, i3⟩ := motGo_runs h
      refine ⟨congrArg PyData.tuple i1, ?_, i2, i3⟩
      have := congrArg List.length i1
      rw [List.length_map] at this
      show (ds.filterMap runQ).length ≤ 360
      omega
  | _ => cases h
theorem mot_of {rs : List Run} (h : ∀ r ∈ rs, GoodR r) (u : RunsUp (-1) rs) (l : rs.length ≤ 360) : isN (motErr (runsD rs)) = true := by
  show isN (if 360 < (rs.map runD).length then two .none (.str "motions") else motGo (rs.map runD) 0 (-1)) = true
  rw [if_neg (by rw [List.length_map]; omega)]
  exact motGo_of h u
/-! ### what is explained -/
def hasB (l : Lamp) (rs : List Run) (g : List Stt) : Bool := !decide (60 < (logOf l rs).length) && decide (logOf l rs = g)
def giveB (rs : List Run) : List Lamp → List (List Stt) → Bool
  | l :: ls, g :: gs => hasB l rs g && giveB rs ls gs
  | _, _ => true
def explB (ls : List Lamp) (gs : List (List Stt)) (d : PyData) : Bool := isN (motErr d) && giveB (runsOf d) ls gs
def gsD (gs : List (List Stt)) : PyData := .tuple (gs.map logD)
theorem has_due {l : Lamp} {rs : List Run} {g : List Stt} (hs : 1 ≤ l.2) (u : RunsUp (-1) rs) (hg : g.length ≤ 60) : hasB l rs g = decide (logF l (spreadAll rs) = g) := by
  unfold hasB
  rcases logOf_spec (l := l) hs u with e | ⟨h1, h2⟩
  · rw [← e]
    by_cases q : logF l (spreadAll rs) = g
    · rw [decide_eq_true q, decide_eq_false (show ¬ 60 < (logF l (spreadAll rs)).length by rw [q]; omega)]; rfl
    · rw [decide_eq_false q, Bool.and_false]
  · rw [decide_eq_true h2, decide_eq_false (show ¬ logF l (spreadAll rs) = g from fun q => by rw [q] at h1; omega)]; rfl
theorem give_due {rs : List Run} (u : RunsUp (-1) rs) : ∀ {ls : List Lamp} {gs : List (List Stt)}, gs.length = ls.length → (∀ l ∈ ls, 1 ≤ l.2) → (∀ g ∈ gs, g.length ≤ 60) → giveB rs ls gs = decide ((ls.map fun l => logF l (spreadAll rs)) = gs)
  | [], [], _, _, _ => rfl
  | l :: ls, g :: gs, h, hl, hg => by
    rw [List.map_cons]
    unfold giveB
    rw [has_due (hl l List.mem_cons_self) u (hg g List.mem_cons_self), give_due u (by simpa using h) (fun x hx => hl x (List.mem_cons_of_mem _ hx)) fun x hx => hg x (List.mem_cons_of_mem _ hx)]
    by_cases e1 : logF l (spreadAll rs) = g <;> by_cases e2 : (ls.map fun l => logF l (spreadAll rs)) = gs <;> simp [e1, e2]
  | [], _ :: _, h, _, _ => by simp at h
  | _ :: _, [], h, _, _ => by simp at h
theorem expl_runs {rs : List Run} {ls : List Lamp} {gs : List (List Stt)} (h : ∀ r ∈ rs, GoodR r) (u : RunsUp (-1) rs) (n : rs.length ≤ 360) (e : gs.length = ls.length) (hl : ∀ l ∈ ls, 1 ≤ l.2) (hg : ∀ g ∈ gs, g.length ≤ 60) :
    explB ls gs (runsD rs) = decide ((ls.map fun l => logF l (spreadAll rs)) = gs) := by
  unfold explB
  rw [mot_of h u n, runsOf_runs, give_due u e hl hg, Bool.true_and]
/-! ### equal data -/
theorem eqv_pair (p q : Stt) : PyData.eqv (pD p) (pD q) = decide (p = q) := by
  obtain ⟨a, b⟩ := p
  obtain ⟨c, d⟩ := q
  show (a == c && (b == d && true)) = _
  by_cases e1 : a = c <;> by_cases e2 : b = d <;> simp [e1, e2]
theorem eqvAll_map {α : Type} [DecidableEq α] {D : α → PyData} (h : ∀ a b, PyData.eqv (D a) (D b) = decide (a = b)) : ∀ xs ys : List α, PyData.eqvAll (xs.map D) (ys.map D) = decide (xs = ys)
  | [], [] => rfl
  | [], _ :: _ => rfl
  | _ :: _, [] => rfl
  | x :: xs, y :: ys => by
    show (PyData.eqv (D x) (D y) && PyData.eqvAll (xs.map D) (ys.map D)) = _
    rw [h, eqvAll_map h]
    by_cases e1 : x = y <;> by_cases e2 : xs = ys <;> simp [e1, e2]
theorem eqv_log (a b : List Stt) : PyData.eqv (logD a) (logD b) = decide (a = b) := eqvAll_map eqv_pair a b
theorem eqv_gs (a b : List (List Stt)) : PyData.eqv (gsD a) (gsD b) = decide (a = b) := eqvAll_map eqv_log a b
theorem logs_dp {K : PySem.W.Frag} {G : Hp} : ∀ {xs : List V} {gs : List (List Stt)}, Dqs K G xs (gs.map logD) → DpAll K G xs (gs.map logD)
  | _, [], h => by rw [dqs_nil h]; exact .nil
  | _, q :: r, h => by
    obtain ⟨v, t, rfl, h1, h2⟩ := dqs_cons h
    exact .cons (log_dp h1) (logs_dp h2)
theorem gs_dp {K : PySem.W.Frag} {G : Hp} {v : V} {gs : List (List Stt)} (h : Dq K G v (gsD gs)) : Dp K G v (gsD gs) := by
  obtain ⟨a, xs, rfl, g, hx⟩ := dq_tup h
  exact .tup g (logs_dp hx)
theorem gs_lay : ∀ gs : List (List Stt), PyData.canLayAll0 (gs.map logD) = true ∧ PyData.depthAll (gs.map logD) ≤ 62
  | [] => ⟨rfl, by simp [PyData.depthAll]⟩
  | g :: gs => by
    have h := pD_shaped g
    unfold SeqAt.shaped at h
    obtain ⟨h1, h2⟩ := Bool.and_eq_true_iff.mp h
    have ih := gs_lay gs
    refine ⟨?_, ?_⟩
    · show (PyData.canLay0 (logD g) && PyData.canLayAll0 (gs.map logD)) = true
      rw [show PyData.canLay0 (logD g) = true from h1, ih.1]; rfl
    · rw [List.map_cons]
      simp only [PyData.depthAll]
      refine Nat.max_le.mpr ⟨?_, ih.2⟩
      have := pD_depth g
      simp only [logD, PyData.depth]
      omega
theorem gs_shaped (gs : List (List Stt)) : SeqAt.shaped (gsD gs) = true := by
  obtain ⟨h1, h2⟩ := gs_lay gs
  unfold SeqAt.shaped
  refine Bool.and_eq_true_iff.mpr ⟨h1, decide_eq_true ?_⟩
  simp only [gsD, PyData.depth]
  omega
/-! ### minutes put together one by one -/
def gpS : List Run → Int → List Run
  | [], m => [(m, 1, 1)]
  | r :: rs, m => if r.2.2 = 1 then (r.1, m - r.1, 2) :: rs else if 1 < r.2.2 ∧ r.1 + r.2.1 * r.2.2 = m then (r.1, r.2.1, r.2.2 + 1) :: rs else (m, 1, 1) :: r :: rs
def gpF (ms : List Int) : List Run := (ms.foldl gpS []).reverse
structure GpR (B : Int) (n : Nat) (r : Run) : Prop where
  f : 0 ≤ r.1 ∧ r.1 ≤ B
  s : 1 ≤ r.2.1 ∧ r.2.1 ≤ B + 1
  c : 1 ≤ r.2.2 ∧ r.2.2 ≤ n
  o : r.2.2 = 1 → r.2.1 = 1
theorem GpR.wide {B C : Int} {n m : Nat} {r : Run} (h : GpR B n r) (h1 : B ≤ C) (h2 : n ≤ m) : GpR C m r := ⟨by have := h.f; omega, by have := h.s; omega, by have := h.c; omega, h.o⟩
theorem ap_one (f st : Int) : ap f st 1 = [f] := by simp [ap]
theorem gpS_step {rs : List Run} {b m : Int} {n : Nat} (h : ∀ r ∈ rs, GpR b n r) (hn : 1 ≤ n ∨ rs = []) (b0 : b < m) (m0 : 0 ≤ m) :
    spreadAll (gpS rs m).reverse = spreadAll rs.reverse ++ [m] ∧ (∀ r ∈ gpS rs m, GpR m (n + 1) r) ∧ (gpS rs m).length ≤ rs.length + 1 := by
  have one : GpR m (n + 1) (m, 1, 1) := ⟨⟨m0, Int.le_refl _⟩, ⟨Int.le_refl _, by show (1 : Int) ≤ m + 1; omega⟩, ⟨Int.le_refl _, by show (1 : Int) ≤ ((n + 1 : Nat) : Int); omega⟩, fun _ => rfl⟩
  cases rs with
  | nil =>
    refine ⟨?_, fun r hr => ?_, Nat.le_refl _⟩
    · show spreadAll [(m, 1, 1)] = [m]
      simp [spreadAll, ap]
    · rw [List.mem_singleton.mp hr]; exact one
  | cons r rs =>
    have hr := h r List.mem_cons_self
    have hrs : ∀ x ∈ rs, GpR m (n + 1) x := fun x hx => (h x (List.mem_cons_of_mem _ hx)).wide (by omega) (Nat.le_succ _)
    obtain ⟨f, s, c⟩ := r
    have hf := hr.f
    have hs := hr.s
    have hc := hr.c
    simp only at hf hs hc
    simp only [gpS]
    split
    · rename_i g
      have g : c = 1 := g
      refine ⟨?_, fun x hx => ?_, Nat.le_succ _⟩
      · rw [List.reverse_cons, List.reverse_cons, spread_snoc, spread_snoc, List.append_assoc]
        congr 1
        show ap f (m - f) 2 = ap f s c.toNat ++ [m]
        rw [g, show (1 : Int).toNat = 1 from rfl, ap_one]
        show ap f (m - f) 2 = [f, m]
        simp [ap, List.range_succ]
        omega
      · rcases List.mem_cons.mp hx with e | e
        · rw [e]
          exact ⟨⟨hf.1, by show f ≤ m; omega⟩, ⟨by show 1 ≤ m - f; omega, by show m - f ≤ m + 1; omega⟩, ⟨by show (1 : Int) ≤ 2; omega, by show (2 : Int) ≤ ((n + 1 : Nat) : Int); omega⟩, fun z => by have z : (2 : Int) = 1 := z; omega⟩
        · exact hrs x e
    · split
      · rename_i g0 g
        obtain ⟨g1, g2⟩ := g
        have g1 : 1 < c := g1
        have g2 : f + s * c = m := g2
        refine ⟨?_, fun x hx => ?_, Nat.le_succ _⟩
        · rw [List.reverse_cons, List.reverse_cons, spread_snoc, spread_snoc, List.append_assoc]
          congr 1
          show ap f s (c + 1).toNat = ap f s c.toNat ++ [m]
          rw [show (c + 1).toNat = c.toNat + 1 by omega, ap_succ, show ((c.toNat : Nat) : Int) = c by omega, g2]
        · rcases List.mem_cons.mp hx with e | e
          · rw [e]
            exact ⟨⟨hf.1, by show f ≤ m; omega⟩, ⟨hs.1, by show s ≤ m + 1; omega⟩, ⟨by show 1 ≤ c + 1; omega, by show c + 1 ≤ ((n + 1 : Nat) : Int); omega⟩, fun z => by have z : c + 1 = 1 := z; omega⟩
          · exact hrs x e
      · refine ⟨?_, fun x hx => ?_, Nat.le_refl _⟩
        · rw [List.reverse_cons, spread_snoc]
          congr 1
          simp [ap]
        · rcases List.mem_cons.mp hx with e | e
          · rw [e]; exact one
          · rcases List.mem_cons.mp e with e | e
            · rw [e]; exact hr.wide (by omega) (Nat.le_succ _)
            · exact hrs x e
theorem gp_all : ∀ (ms : List Int) (rs : List Run) (b : Int) (n : Nat), (∀ r ∈ rs, GpR b n r) → (1 ≤ n ∨ rs = []) → Asc b ms → -1 ≤ b →
    ∃ B : Int, (B = b ∨ B ∈ ms) ∧ spreadAll (ms.foldl gpS rs).reverse = spreadAll rs.reverse ++ ms ∧ (∀ r ∈ ms.foldl gpS rs, GpR B (n + ms.length) r) ∧ (ms.foldl gpS rs).length ≤ rs.length + ms.length
  | [], rs, b, n, h, _, _, _ => ⟨b, .inl rfl, by simp, h, Nat.le_refl _⟩
  | m :: ms, rs, b, n, h, hn, ⟨a1, a2⟩, hb => by
    obtain ⟨i1, i2, i3⟩ := gpS_step h hn a1 (by omega)
    obtain ⟨B, j0, j1, j2, j3⟩ := gp_all ms (gpS rs m) m (n + 1) i2 (.inl (Nat.le_add_left 1 n)) a2 (by omega)
    refine ⟨B, ?_, ?_, ?_, ?_⟩
    · rcases j0 with e | e
      · exact .inr (by rw [e]; exact List.mem_cons_self)
      · exact .inr (List.mem_cons_of_mem _ e)
    · rw [List.foldl_cons, j1, i1, List.append_assoc]; rfl
    · rw [List.length_cons, show n + (ms.length + 1) = n + 1 + ms.length by omega]; exact j2
    · rw [List.foldl_cons, List.length_cons]; omega
/-- minutes as the law draws them -/
def MsOk (ms : List Int) : Prop := Asc (-1) ms ∧ ms.length ≤ 300 ∧ ∀ m ∈ ms, 0 ≤ m ∧ m ≤ 20000000
/-- runs that are these minutes -/
structure RunsAre (rs : List Run) (ms : List Int) : Prop where
  eq : spreadAll rs = ms
  good : ∀ r ∈ rs, GoodR r
  up : RunsUp (-1) rs
  len : rs.length ≤ ms.length
  sm : ∀ r ∈ rs, r.1 ≤ 20000000 ∧ r.2.1 ≤ 20000001 ∧ r.2.2 ≤ 300
theorem lastM_mem {rs : List Run} {r : Run} (hr : r ∈ rs) (hc : 1 ≤ r.2.2) : lastM r ∈ spreadAll rs := by
  have m1 := ap_mem (f := r.1) (st := r.2.1) (n := r.2.2.toNat) (k := r.2.2.toNat - 1) (by omega)
  have em : r.1 + r.2.1 * ((r.2.2.toNat - 1 : Nat) : Int) = lastM r := by
    unfold lastM
    rw [show ((r.2.2.toNat - 1 : Nat) : Int) = r.2.2 - 1 by omega]
  rw [em] at m1
  exact List.mem_flatMap.mpr ⟨r, hr, m1⟩
theorem gp_are {ms : List Int} (h : MsOk ms) : RunsAre (gpF ms) ms := by
  obtain ⟨a, l, m⟩ := h
  obtain ⟨B, j0, j1, j2, j3⟩ := gp_all ms [] (-1) 0 (fun r h => (nomatch h)) (.inr rfl) a (Int.le_refl _)
  have e : spreadAll (gpF ms) = ms := j1
  have hB : B ≤ 20000000 := by
    rcases j0 with z | z
    · omega
    · exact (m B z).2
  have g : ∀ r ∈ gpF ms, GpR B (0 + ms.length) r := fun r hr => j2 r (List.mem_reverse.mp hr)
  refine ⟨e, fun r hr => ?_, runs_up (by rw [e]; exact a) fun r hr => ⟨(g r hr).s.1, (g r hr).c.1⟩, by unfold gpF; rw [List.length_reverse]; simpa using j3, fun r hr => ?_⟩
  · have q := g r hr
    have z := lastM_mem hr q.c.1
    rw [e] at z
    exact ⟨q.f.1, q.s.1, q.c.1, q.o, by have := m _ z; omega⟩
  · have q := g r hr
    have h1 := q.f
    have h2 := q.s
    have h3 := q.c
    omega
def ones1 (ms : List Int) : List Run := ms.map fun m => (m, 1, 1)
theorem ones1_are {ms : List Int} (h : MsOk ms) : RunsAre (ones1 ms) ms := by
  obtain ⟨a, l, m⟩ := h
  have e : spreadAll (ones1 ms) = ms := by
    clear a l m
    induction ms with
    | nil => rfl
    | cons x xs ih =>
      show ap x 1 1 ++ spreadAll (ones1 xs) = x :: xs
      rw [ih, ap_one]; rfl
  have g : ∀ r ∈ ones1 ms, ∃ x ∈ ms, r = (x, 1, 1) := fun r hr => by
    obtain ⟨x, hx, e⟩ := List.mem_map.mp hr
    exact ⟨x, hx, e.symm⟩
  refine ⟨e, fun r hr => ?_, runs_up (by rw [e]; exact a) fun r hr => ?_, by unfold ones1; rw [List.length_map]; exact Nat.le_refl _, fun r hr => ?_⟩
  · obtain ⟨x, hx, rfl⟩ := g r hr
    have := m x hx
    exact ⟨this.1, Int.le_refl _, Int.le_refl _, fun _ => rfl, by show x + 1 * (1 - 1) ≤ _; omega⟩
  · obtain ⟨x, hx, rfl⟩ := g r hr
    exact ⟨Int.le_refl _, Int.le_refl _⟩
  · obtain ⟨x, hx, rfl⟩ := g r hr
    have := m x hx
    exact ⟨this.2, (by show (1 : Int) ≤ 20000001; decide), (by show (1 : Int) ≤ 300; decide)⟩
theorem expl_are {rs : List Run} {ms : List Int} {ls : List Lamp} {gs : List (List Stt)} (h : RunsAre rs ms) (n : ms.length ≤ 300) (e : gs.length = ls.length) (hl : ∀ l ∈ ls, 1 ≤ l.2) (hg : ∀ g ∈ gs, g.length ≤ 60) :
    explB ls gs (runsD rs) = decide ((ls.map fun l => logF l ms) = gs) := by
  have := h.len
  rw [expl_runs h.good h.up (by omega) e hl hg, h.eq]
end Lg

namespace Lg
open PySem PySem.Spec PyProof.Rows L2 Lm
theorem walk_zipT {K : PySem.W.Frag} {a b : Addr} {xs ys : List V} (hl : xs.length = ys.length) : Walk (RZ.ItzT K a b) xs.length (fun H => SqT K H a xs ∧ SqT K H b ys) (YPair (fun i => xs[i]?) (fun i => ys[i]?)) := by
  constructor
  · intro i H hi q
    exact ⟨xs, ys, xs[i], ys[i]'(by omega), q.1, q.2, List.getElem?_eq_getElem hi, List.getElem?_eq_getElem (by omega)⟩
  · intro H q
    exact ⟨xs, ys, q.1, q.2, .inl (Nat.le_refl _)⟩
  · intro i H v H' _ q y
    obtain ⟨T, x, z, e1, e2, e3, e4, e5⟩ := y
    exact ⟨T, x, z, e1, e2, e3, e4 xs q.1, e5 ys q.2⟩
def sp_counts (K : PySem.W.Frag) : Sp := fun vs H Q _ => ∃ (a b : Addr) (xs ys : List V), vs = [.ref a, .ref b] ∧ SqT K H a xs ∧ SqT K H b ys ∧ xs.length = ys.length ∧ Q .non H
def StayOk (l : Lamp) : Prop := 1 ≤ l.2 ∧ l.2 ≤ 1000000000
def sp_has (K : PySem.W.Frag) : Sp := sp_f K (fun x : Lamp × List Run × List Stt => [lampD x.1, runsD x.2.1, logD x.2.2]) (fun x => StayOk x.1 ∧ x.2.1.length ≤ 400 ∧ ∀ r ∈ x.2.1, RunOk r) (fun x => .bool (hasB x.1 x.2.1 x.2.2))
def sp_give (K : PySem.W.Frag) : Sp := sp_f K (fun x : List Run × List Lamp × List (List Stt) => [runsD x.1, lampsD x.2.1, gsD x.2.2]) (fun x => x.1.length ≤ 400 ∧ (∀ r ∈ x.1, RunOk r) ∧ x.2.2.length = x.2.1.length ∧ x.2.1.length ≤ 900 ∧ ∀ l ∈ x.2.1, StayOk l) (fun x => .bool (giveB x.1 x.2.1 x.2.2))
def sp_expl (K : PySem.W.Frag) : Sp := sp_f K (fun x : List Lamp × List (List Stt) × PyData => [lampsD x.1, gsD x.2.1, x.2.2]) (fun x => x.2.1.length = x.1.length ∧ x.1.length ≤ 900 ∧ (∀ l ∈ x.1, StayOk l) ∧ x.2.2.showable = true) (fun x => .bool (explB x.1 x.2.1 x.2.2))
def sp_gp (K : PySem.W.Frag) : Sp := sp_f K (fun ms : List Int => [minsD ms]) MsOk (fun ms => runsD (gpF ms))
/-- the source: other minutes near some -/
def sp_near (K : PySem.W.Frag) : Sp := fun vs H Q _ => ∃ (Z : Hp) (r c : Addr) (b : Nat) (x : V) (ms : List Int), vs = [.ref r, x] ∧ Iv (reel r c) Z (3 + b) H ∧ Dq K (hid (reel r c) Z H) x (minsD ms) ∧ MinsOk 50 ms ∧
  ∀ (y : V) (H' : Hp) (ns : List Int), Iv (reel r c) Z b H' → Kp (reel r c) Z H H' → Dq K (hid (reel r c) Z H') y (minsD ns) → MsOk ns → ns.length ≤ 51 → Q y H'
def sp_oddL (K : PySem.W.Frag) : Sp := fun vs H Q _ => ∃ (Z : Hp) (r c : Addr) (b : Nat), vs = [.ref r] ∧ Iv (reel r c) Z (1 + b) H ∧ ∀ (y : V) (H' : Hp), Iv (reel r c) Z b H' → Kp (reel r c) Z H H' → DR K (Sm 60 3) y (hid (reel r c) Z H') → Q y H'
def sp_many (K : PySem.W.Frag) : Sp := fun vs H Q _ => ∃ (Z : Hp) (r c : Addr) (b : Nat), vs = [.ref r] ∧ Iv (reel r c) Z (4 + b) H ∧ ∀ (H' : Hp), Iv (reel r c) Z b H' → Kp (reel r c) Z H H' → Q (.bl true) H'
def sp_bare : Sp := fun vs H Q _ => vs = [] ∧ ∀ H', Same H H' → Q (.bl true) H'
theorem giveB_snoc {rs : List Run} : ∀ {ls : List Lamp} {gs : List (List Stt)} {i : Nat} {l : Lamp} {g : List Stt}, ls[i]? = some l → gs[i]? = some g → giveB rs (ls.take (i + 1)) (gs.take (i + 1)) = (giveB rs (ls.take i) (gs.take i) && hasB l rs g)
  | l0 :: ls, g0 :: gs, 0, l, g, h1, h2 => by
    cases h1
    cases h2
    show (hasB l0 rs g0 && giveB rs (ls.take 0) (gs.take 0)) = (true && hasB l0 rs g0)
    rw [List.take_zero, List.take_zero]
    show (hasB l0 rs g0 && true) = _
    rw [Bool.and_true, Bool.true_and]
  | l0 :: ls, g0 :: gs, i + 1, l, g, h1, h2 => by
    show (hasB l0 rs g0 && giveB rs (ls.take (i + 1)) (gs.take (i + 1))) = ((hasB l0 rs g0 && giveB rs (ls.take i) (gs.take i)) && hasB l rs g)
    rw [giveB_snoc (i := i) h1 h2, Bool.and_assoc]
  | [], _, i, _, _, h1, _ => by simp at h1
  | _ :: _, [], i, _, _, _, h2 => by simp at h2
/-- what has_log said of the first so many -/
def hasL (rs : List Run) (ls : List Lamp) (gs : List (List Stt)) : List Bool := (ls.zip gs).map fun x => hasB x.1 rs x.2
theorem giveB_hasL (rs : List Run) : ∀ (ls : List Lamp) (gs : List (List Stt)), giveB rs ls gs = (hasL rs ls gs).all id
  | l :: ls, g :: gs => by
    show (hasB l rs g && giveB rs ls gs) = (hasB l rs g && (hasL rs ls gs).all id)
    rw [giveB_hasL rs ls gs]
  | [], gs => by cases gs <;> rfl
  | _ :: _, [] => rfl
theorem hasL_take {rs : List Run} {ls : List Lamp} {gs : List (List Stt)} {i : Nat} {l : Lamp} {g : List Stt} (h1 : ls[i]? = some l) (h2 : gs[i]? = some g) : (hasL rs ls gs).take (i + 1) = (hasL rs ls gs).take i ++ [hasB l rs g] := by
  rw [List.take_add_one]
  unfold hasL
  rw [List.getElem?_map, show (ls.zip gs)[i]? = some (l, g) from List.getElem?_zip_eq_some.mpr ⟨h1, h2⟩]
  rfl
theorem passE0 {X : Cx} : Passes (L2.CX X.prog X.w) X E0 := fun _ _ _ _ _ _ _ ⟨_, _, _, _, _, _, _, _, _, _, _, _, h⟩ => h.elim
end Lg

namespace Lg
open PySem PySem.Spec PyProof.Rows L2 Lm PySem.SeqAt PySem.MeetsSeq
open PySem.AutoSeq1 (wpAny_loadPart')
/-! ### a dict is no tuple -/
theorem tuple_declines_dict (l m : Addr) (items : Array Value) (n : Nat) (dd : Option Addr) (sl : Array (Option Value)) (es : Array DictEntry) (k : Nat) (d2 : Option Addr) (s2 : Array (Option Value)) :
    Meets (Builtin.«tuple.__eq__» ⟨[.ref l, .ref m], []⟩) (fun _ R s => s.heap.get? l = some { cls := .type "tuple", dict := dd, data := .seq items n, slots := sl } ∧ s.heap.get? m = some { cls := .type "dict", dict := d2, data := .dict es k, slots := s2 } ∧ R (.ok (.ret .notImplemented)) s) :=
  .of_wp fun prog w A R s h => by
    obtain ⟨hp, g, d, tk, os⟩ := s
    obtain ⟨h1, h2, h⟩ := h
    have f1 := F.sub_dict_tuple
    wp_walk using wpAny_loadPart' h1, wpAny_loadPart' h2, wpAny_load h2
    exact ⟨_, rfl, h⟩
section
variable {A : Around} {s : Shared}
theorem rc_dict_tuple {l m : Addr} {d1 d2 : Option Addr} {s1 s2 : Array (Option Value)} {es : Array DictEntry} {k n : Nat} {items : Array Value} (ho : s.heap.get? m = some { cls := .type "dict", dict := d2, data := .dict es k, slots := s2 })
    (hm : s.heap.get? l = some { cls := .type "tuple", dict := d1, data := .seq items n, slots := s1 }) (hu : A.units < cLine) : RcAt A s (.ref m) (.ref l) false := fun prog w E Q h => by
  have t1 : s.TypeIs (.ref m) "dict" := ⟨_, ho, rfl⟩
  have t2 : s.TypeIs (.ref l) "tuple" := ⟨_, hm, rfl⟩
  have nt : (Value.type "dict") ≠ .type "tuple" := by decide
  have ne : m ≠ l := fun e => by
    rw [e, hm] at ho
    exact absurd (congrArg Obj.cls (Option.some.inj ho)).symm nt
  refine rc_eq_decline_or (k := false) t1 t2 (by decide) F.sub_tuple_dict F.slot_dict_eq F.slot_tuple_eq_refl (fun _ hq => ?_)
    (fun _ hq => call_meets F.slot_tuple_eq_refl t2 F.entry_tuple_eq (F.args_tuple_eq_2 _ _) (tuple_declines_dict l m items n d1 s1 es k d2 s2) ⟨hm, ho, hq⟩)
    (fun _ hq => wpAny_isSame_ref_other ne ho hm nt hq) (.inr hu) h
  refine PySem.wpAny_call_entry PySem.F.slot_dict_eq t1 PySem.F.entry_dict_eq ?_ (PySem.F.args_dict_eq_2 _ _)
  show wpAny _ _ (Builtin.Dict.dictSlotArgs "__eq__" ⟨[.ref m, .ref l], []⟩ >>= _) _ _ s
  unfold Builtin.Dict.dictSlotArgs
  refine wpAny_bind (wpAny_bind (wpAny_notOrdered_dict t1 (show wpAny _ _ (pure (Value.ref m, Value.ref l)) _ _ s from wpAny_pure ?_)))
  refine wpAny_bind (wpAny_isInstance (T := "tuple") t2 PySem.F.sub_tuple_dict ?_)
  simp only [Bool.not_false, if_true]
  exact wpAny_bind (wpAny_rule (wpAny_pure ⟨_, rfl, hq⟩))
end
def isTE : PyData → Bool
  | .tuple [] => true
  | _ => false
/-- data == an empty tuple -/
def rEqTE (K : PySem.W.Frag) : R2 := fun x y H Q => ∃ (d : PyData) (b : Addr), y = .ref b ∧ H b = some (.tup []) ∧ ((Dp K H x d ∧ SeqAt.shaped d = true) ∨ (isTE d = false ∧ ∃ (a : Addr) (kvs : List (L2.Key × V)), x = .ref a ∧ H a = some (.dK kvs))) ∧ Q (.bl (isTE d)) H
theorem isTE_eqv (d : PyData) : PyData.eqv d (.tuple []) = isTE d := by
  cases d with
  | tuple ds => cases ds <;> simp [PyData.eqv, PyData.eqvAll, isTE]
  | _ => simp [PyData.eqv, isTE]
theorem op_eqTE {X : Cx} {K : PySem.W.Frag} (hK : X.K = K) (hu : X.A.units + 64 < cLine) : OpR X (compareOp .Eq) (rEqTE K) := by
  subst hK
  intro pins s σ H x y v u Q I rx ry h
  obtain ⟨d, b, rfl, hb, h, q⟩ := h
  rcases h with ⟨hd, sh⟩ | ⟨e, a, kvs, rfl, ha⟩
  · refine op_eqD hu pins s σ H x (.ref b) v u Q I rx ry ⟨d, .tuple [], hd, .tup (.inl (.inl hb)) .nil, sh, by decide, ?_⟩
    rw [isTE_eqv]
    exact q
  · cases rx
    cases ry
    obtain ⟨_, _, ws, _, o, es, ep, g1, hx, g2, _⟩ := I.hok _ _ ha
    obtain ⟨c1, d1, t1, s1⟩ := o
    have hc := hx.1
    simp only at g2 hc
    subst g2 hc
    obtain ⟨its, rv, pl, hz⟩ := I.tuple (show SqT X.K H b [] from .inl (.inl hb))
    obtain ⟨o2, h1, h2, n2, h3⟩ := pl
    obtain ⟨c2, d2, t2, s2⟩ := o2
    simp only at h2 h3
    subst h2 h3
    rw [e] at q
    exact rc_dict_tuple g1 h1 (by omega) _ _ _ _ ⟨.bl false, H, I, rfl, q⟩
/-! ### exact data -/
def DQ (K : PySem.W.Frag) (d : PyData) : VR := fun v G => Dq K G v d
def DQs (K : PySem.W.Frag) (ds : List PyData) : LR := fun vs G => Dqs K G vs ds
theorem DQ.mo {K : PySem.W.Frag} {d : PyData} : Mo (DQ K d) := fun _ _ _ s h => (show Dq K _ _ _ from h).mono s
section
variable {K : PySem.W.Frag} {S : Src} {Z H0 : Hp} {σ : L2.St} {te : TE} {tl : TA} {n n1 n2 : Nat} {d : PyData} {ds : List PyData}
theorem q_int {i : Int} : Ev S Z 0 H0 σ (tC (.int i)) (DQ K (.int i)) := ev_c.imp fun v G e => by rw [e]; exact .int i
theorem q_ei {i : Int} (h : Ev S Z n H0 σ te (EI i)) : Ev S Z n H0 σ te (DQ K (.int i)) := h.imp fun v G e => by rw [e]; exact .int i
theorem q_bl {b : Bool} : Ev S Z 0 H0 σ (tC (.bl b)) (DQ K (.bool b)) := ev_c.imp fun v G e => by rw [e]; exact .bl b
theorem q_str {x : Str} : Ev S Z 0 H0 σ (tC (.str x)) (DQ K (.str x)) := ev_c.imp fun v G e => by rw [e]; exact .str x
theorem q_non : Ev S Z 0 H0 σ (tC .non) (DQ K .none) := ev_c.imp fun v G e => by rw [e]; exact .non
theorem q_var {i : Nat} {v : V} (e : σ[i]? = some (some v)) (h : Dq K (hid S Z H0) v d) : Ev S Z 0 H0 σ (tVar i) (DQ K d) := ev_var e DQ.mo h
theorem qa_nil : EvA S Z 0 H0 σ tNil (DQs K []) := eva_nil.imp fun v G e => by rw [e]; exact .nil
theorem qa_cons (h1 : Ev S Z n1 H0 σ te (DQ K d)) (h2 : EvA S Z n2 H0 σ tl (DQs K ds)) : EvA S Z (n1 + n2) H0 σ (tCons te tl) (DQs K (d :: ds)) :=
  (eva_cons DQ.mo h1 h2).imp fun vs G ⟨v, r, e, hv, hr⟩ => by rw [e]; exact .cons hv hr
theorem q_tup (hl : ds.length ≤ 1000) (h : EvA S Z n H0 σ tl (DQs K ds)) : Ev S Z n H0 σ (tTup tl) (DQ K (.tuple ds)) :=
  (ev_tup h (fun vs G r => Nat.le_of_lt (small1000 (by rw [Dqs.len r]; exact hl))) (fun _ _ _ s h => (show Dqs K _ _ _ from h).mono s)).imp fun v G ⟨a, xs, e, g, r⟩ => by rw [e]; exact .tup (.inl (.inl g)) r
theorem q_lst (hl : ds.length ≤ 1000) (h : EvA S Z n H0 σ tl (DQs K ds)) : Ev S Z n H0 σ (tLst tl) (DQ K (.list ds)) :=
  fun H b Q P k q => h H b _ P k fun vs H1 P1 k1 r1 => ⟨Nat.le_of_lt (small1000 (by rw [Dqs.len r1]; exact hl)), fun t nt => by
    obtain ⟨P2, k2, e2⟩ := laid (o := .lst vs) P1 nt
    exact q _ _ P2 (k1.trans k2) (Dq.lst (.inl (.inl e2)) ((show Dqs K _ _ _ from r1).mono k2))⟩
theorem q_dnew : Ev S Z 0 H0 σ tDNewK (DQ K (.dict [])) := fun H b Q P k q t nt => by
  obtain ⟨P4, k4, e4⟩ := laid (o := .dK []) P nt
  exact q _ _ (P4.less (by omega)) k4 (.dct e4 .nil)
theorem q_disp1 {x : Str} {i : Int} : Ev S Z 0 H0 σ (tDisp [(tC (.str x), tC (.int i))]) (DQ K (.dict [(.str x, .int i)])) := fun H b Q P k q t nt => by
  have e : (upd (upd H t (.dK [])) t (.dK (mergeK [] [((Sum.inr x : L2.Key), V.int i)]))) = upd H t (.dK [(Sum.inr x, V.int i)]) := by rw [upd_upd]; rfl
  refine ⟨upd_same, [(Sum.inr x, V.int i)], rfl, Nat.le_add_left 1 14, ?_⟩
  rw [e]
  obtain ⟨P4, k4, e4⟩ := laid (o := .dK [(Sum.inr x, V.int i)]) P nt
  exact q _ _ (P4.less (by omega)) k4 (.dct (ds := [.int i]) e4 (.cons (.int i) .nil))
theorem q_mem {φ : PyData → Prop} (h : Ev S Z n H0 σ te (DQ K d)) (p : φ d) : Ev S Z n H0 σ te (DR K φ) := h.imp fun v G r => ⟨d, r, p⟩
theorem q_fn {α : Type} {A : α → List PyData} {P : α → Prop} {F : α → PyData} (x : α) (h : EvA S Z n H0 σ tl (DQs K (A x))) (hP : P x) : Ev S Z n H0 σ (tCall (sp_f K A P F) [] E0 tl) (DQ K (F x)) :=
  fun H b Q Pi k q => h H b _ Pi k fun vs H1 P1 k1 r1 => ⟨NZ S Z, x, P1.occ, by rw [List.append_nil]; exact r1, hP, fun r H' s hf => q _ _ (P1.keep s) (k1.trans (Kp.of s)) hf⟩
end
end Lg

namespace Lg
open PySem PySem.Spec PyProof.Rows L2 Lm
mutual
def noD : PyData → Bool
  | .dict _ => false
  | .list ds => noDs ds
  | .tuple ds => noDs ds
  | _ => true
def noDs : List PyData → Bool
  | [] => true
  | d :: ds => noD d && noDs ds
end
mutual
theorem dq_dp {K : PySem.W.Frag} {G : Hp} : ∀ (d : PyData) {v : V}, noD d = true → Dq K G v d → Dp K G v d
  | .none, _, _, h => by cases h; exact .non
  | .bool b, _, _, h => by cases h; exact .bl b
  | .int i, _, _, h => by cases h; exact .int i
  | .str x, _, _, h => by cases h; exact .str x
  | .list ds, _, e, h => by
    obtain ⟨a, xs, rfl, g, hx⟩ := dq_lst h
    exact .lst g (dqs_dp ds (by simpa only [noD] using e) hx)
  | .tuple ds, _, e, h => by
    obtain ⟨a, xs, rfl, g, hx⟩ := dq_tup h
    exact .tup g (dqs_dp ds (by simpa only [noD] using e) hx)
  | .dict _, _, e, _ => by simp only [noD] at e; cases e
theorem dqs_dp {K : PySem.W.Frag} {G : Hp} : ∀ (ds : List PyData) {xs : List V}, noDs ds = true → Dqs K G xs ds → DpAll K G xs ds
  | [], _, _, h => by rw [dqs_nil h]; exact .nil
  | d :: ds, _, e, h => by
    simp only [noDs] at e
    obtain ⟨e1, e2⟩ := Bool.and_eq_true_iff.mp e
    obtain ⟨v, r, rfl, h1, h2⟩ := dqs_cons h
    exact .cons (dq_dp d e1 h1) (dqs_dp ds e2 h2)
end
/-- the odd values of these laws -/
def oddL : List PyData := [.none, .bool true, .bool false, .int (-1), .int 0, .int 1, .int 1000000001, .int (10 ^ 39), .str "", .str "3", .tuple [], .list [], .dict [], .tuple [.int 0], .list [.int 0], .tuple [.int 3, .int 1, .int 1], .dict [(.str "a", .int 0)]]
def isDc : PyData → Bool
  | .dict _ => true
  | _ => false
def oddOk (d : PyData) : Bool := d.showable && (isTE d || !isN (motErr d)) && ((noD d && SeqAt.shaped d) || (isDc d && !isTE d))
theorem odd_all : oddL.all oddOk = true := by decide +kernel
theorem odd_ok {d : PyData} (h : d ∈ oddL) : d.showable = true ∧ (isTE d = true ∨ isN (motErr d) = false) ∧ ((noD d = true ∧ SeqAt.shaped d = true) ∨ (isDc d = true ∧ isTE d = false)) := by
  have := List.all_eq_true.mp odd_all d h
  unfold oddOk at this
  simp only [Bool.and_eq_true, Bool.or_eq_true, Bool.not_eq_true'] at this
  exact ⟨this.1.1, this.1.2, this.2⟩
theorem odd_te {K : PySem.W.Frag} {H : Hp} {x : V} {d : PyData} (h : d ∈ oddL) (hd : Dq K H x d) : (Dp K H x d ∧ SeqAt.shaped d = true) ∨ (isTE d = false ∧ ∃ (a : Addr) (kvs : List (L2.Key × V)), x = .ref a ∧ H a = some (.dK kvs)) := by
  rcases (odd_ok h).2.2 with ⟨h1, h2⟩ | ⟨h1, h2⟩
  · exact .inl ⟨dq_dp d h1 hd, h2⟩
  · refine .inr ⟨h2, ?_⟩
    cases hd with
    | dct g _ => exact ⟨_, _, rfl, g⟩
    | _ => cases h1
theorem te_eq {d : PyData} (h : isTE d = true) : d = .tuple [] := by
  unfold isTE at h
  split at h
  · rfl
  · cases h
/-! ### strictly rising lists of whole numbers as minutes -/
theorem asc_pw {ms : List Int} {b : Int} (h : ms.Pairwise (· < ·)) (hb : ∀ m ∈ ms, b < m) : Asc b ms := asc_of hb h
theorem near_ok {ks ns : List Int} {new : Int} {n : Nat} (hk : ks.length ≤ n) (hn : n ≤ 299) (bk : ∀ m ∈ ks, 0 ≤ m ∧ m ≤ 20000000) (bn : 0 ≤ new ∧ new ≤ 20000000) (up : ns.Pairwise (· < ·)) (mem : ∀ k : Int, k ∈ ns → k ∈ ks ∨ k = new) (len : ns.length ≤ n + 1) : MsOk ns := by
  have b : ∀ m ∈ ns, 0 ≤ m ∧ m ≤ 20000000 := fun m hm => by
    rcases mem m hm with e | e
    · exact bk m e
    · rw [e]; exact bn
  exact ⟨asc_pw up fun m hm => by have := (b m hm).1; omega, by omega, b⟩
end Lg
namespace Lg
open PySem PySem.Spec PyProof.Rows L2 Lm
def sp_oddM (K : PySem.W.Frag) : Sp := fun vs H Q _ => ∃ (Z : Hp) (r c : Addr) (b : Nat), vs = [.ref r] ∧ Iv (reel r c) Z (1 + b) H ∧ ∀ (y : V) (H' : Hp), Iv (reel r c) Z b H' → Kp (reel r c) Z H H' → DR K (· ∈ oddL) y (hid (reel r c) Z H') → Q y H'
end Lg
namespace Lg
open PySem PySem.Spec PyProof.Rows L2 Lm
def LI (G : Hp) (x : V) (ms : List Int) : Prop := ∃ a, x = .ref a ∧ G a = some (.lst (ms.map V.int))
theorem LI.mono {G G' : Hp} {x : V} {ms : List Int} (s : Same G G') (h : LI G x ms) : LI G' x ms := let ⟨a, e, g⟩ := h; ⟨a, e, s _ _ g⟩
theorem LI.dq {K : PySem.W.Frag} {G : Hp} {x : V} {ms : List Int} (h : LI G x ms) : Dq K G x (minsD ms) := by
  obtain ⟨a, rfl, g⟩ := h
  exact .lst (.inl (.inl g)) ints_dqs
def sp_minutesL : Sp := fun vs H Q _ => ∃ (Z : Hp) (r c : Addr) (b : Nat) (m g : Int), vs = [.ref r, .int m, .int g] ∧ Iv (reel r c) Z (205 + b) H ∧ 0 ≤ m ∧ m ≤ 50 ∧ 1 ≤ g ∧ g ≤ 20000 ∧
  ∀ (x : V) (H' : Hp) (ms : List Int), Iv (reel r c) Z b H' → Kp (reel r c) Z H H' → LI (hid (reel r c) Z H') x ms → MinsOk m ms → Q x H'
theorem minutes_imp (K : PySem.W.Frag) (vs : List V) (H : Hp) (Q : VK) (E : XK) (h : sp_minutes K vs H Q E) : sp_minutesL vs H Q E := by
  obtain ⟨Z, r, c, b, m, g, rfl, h1, h2, h3, h4, h5, q⟩ := h
  exact ⟨Z, r, c, b, m, g, rfl, h1, h2, h3, h4, h5, fun x H' ms P k l => q x H' ms P k l.dq⟩
def sp_nearL : Sp := fun vs H Q _ => ∃ (Z : Hp) (r c : Addr) (b : Nat) (x : V) (ms : List Int), vs = [.ref r, x] ∧ Iv (reel r c) Z (3 + b) H ∧ LI (hid (reel r c) Z H) x ms ∧ MinsOk 50 ms ∧
  ∀ (y : V) (H' : Hp) (ns : List Int), Iv (reel r c) Z b H' → Kp (reel r c) Z H H' → LI (hid (reel r c) Z H') y ns → MsOk ns → ns.length ≤ 51 → Q y H'
end Lg

namespace Lg
open PySem PySem.Spec PyProof.Rows L2 Lm
/-! ### no source -/
def src0 : Src where
  at_ := fun _ _ => True
  own := fun _ => False
  frame := fun _ _ => trivial
  less := fun _ _ => trivial
  full := fun _ h => h.elim
abbrev noZ : Hp := fun _ => none
theorem iv0 {H : Hp} {b : Nat} : Iv src0 noZ b H := ⟨trivial, fun _ _ e => (nomatch e), fun _ h => h.elim⟩
theorem hid0 {H : Hp} : hid src0 noZ H = H := by
  funext b
  exact hid_at ⟨fun z => z, rfl⟩
theorem kp0 {H H' : Hp} (k : Kp src0 noZ H H') : Same H H' := fun b o e => by
  have := k b o (by rw [hid0]; exact e)
  rwa [hid0] at this
/-! ### comprehensions with exact data -/
section
variable {K : PySem.W.Frag} {S : Src} {Z H0 : Hp} {σ : L2.St} {te : TE} {tl : TE} {n : Nat}
theorem q_lc {v : Nat} {ds : List PyData} {F : PyData → PyData} (hl : ds.length ≤ 900) (h : Ev S Z n H0 σ tl (DQ K (.list ds)))
    (hT : ∀ (Z' H1 : Hp) (x : V) (d : PyData), d ∈ ds → Same (hid S Z H0) (hid S Z' H1) → Dq K (hid S Z' H1) x d → Ev S Z' 0 H1 ((wipe σ [v]).set v (some x)) te (DQ K (F d))) :
    Ev S Z n H0 σ (tLc (iList K tl) (gName v) tYes te [v]) (DQ K (.list (ds.map F))) := fun H b Q P k q => by
  refine h H b _ P k fun x H1 P1 k1 r1 => ?_
  obtain ⟨a, xs, rfl, g, hx⟩ := dq_lst r1
  have lx := hx.len
  refine ⟨a, rfl, ⟨xs, Same.seqL hid_same g⟩, fun D nD => ?_⟩
  have f := P1.free nD
  refine lc_list (K := K) (a := a) (xs := xs) (fun i Hj => ∃ acc, Iv S (upd Z D (.lst acc)) b Hj ∧ acc.length = i ∧ Dqs K (hid S (upd Z D (.lst acc)) Hj) acc ((ds.take i).map F) ∧ Same (hid S Z H1) (hid S (upd Z D (.lst acc)) Hj)) ⟨[], (P1.new nD).hide upd_same f.1, rfl, .nil, hid_new2 nD⟩ (fun i Hj _ ⟨acc, _, _, _, sj⟩ => Same.seqL (Same.trans sj hid_same) g) ?_ ?_
  · rintro i x Hj hx' ⟨acc, Pj, la, da, sj⟩
    obtain ⟨d, hd, dq⟩ := hx.get hx'
    have hi : i < ds.length := (List.getElem?_eq_some_iff.mp hd).1
    refine ⟨by simp only [wipe, List.set_set], yes_if ?_⟩
    refine hT _ Hj x d (List.mem_of_getElem? hd) (Same.trans (Same.trans k k1) sj) (dq.mono sj) Hj b _ (by simpa using Pj) Kp.refl fun y H4 P4 k4 r4 => ⟨acc, P4.zz _ _ upd_same, small1000 (by omega), acc ++ [y], ?_, by rw [List.length_append, la]; rfl, ?_, (Same.trans sj k4).trans hid_swap⟩
    · exact ((P4.bare f.2).upd f).hide upd_same f.1
    · rw [List.take_add_one, hd, List.map_append]
      exact dqs_snoc (da.mono (Same.trans k4 hid_swap)) ((show Dq K _ _ _ from r4).mono hid_swap)
  · rintro Hn ⟨acc, Pn, la, da, sn⟩
    have e := Pn.zz _ _ upd_same
    rw [lx, List.take_length] at da
    exact q _ Hn (Pn.bare f.2) (Kp.trans k1 (sn.trans hid_hide)) (Dq.lst (.inl (.inl (by rw [hid_at f]; exact e))) (da.mono hid_hide))
theorem q_lcr {v : Nat} {j : Int} {F : Nat → PyData} (j0 : 0 ≤ j) (j1 : j ≤ 900)
    (hT : ∀ (Z' H1 : Hp) (i : Nat), i < j.toNat → Same (hid S Z H0) (hid S Z' H1) → Ev S Z' 0 H1 ((wipe σ [v]).set v (some (.int (0 + (i : Int))))) te (DQ K (F i))) :
    Ev S Z 0 H0 σ (tLc (iRng1 (tCons (tC (.int j)) tNil)) (gName v) tYes te [v]) (DQ K (.list ((List.range j.toNat).map F))) := fun H b Q P k q => by
  refine ⟨j, rfl, by omega, by omega, fun D nD => ?_⟩
  have P : Iv S Z b H := P.less (by omega)
  have f := P.free nD
  refine lc_range (fun i Hj => ∃ acc, Iv S (upd Z D (.lst acc)) b Hj ∧ acc.length = i ∧ Dqs K (hid S (upd Z D (.lst acc)) Hj) acc ((List.range i).map F) ∧ Same (hid S Z H) (hid S (upd Z D (.lst acc)) Hj)) ⟨[], (P.new nD).hide upd_same f.1, rfl, .nil, hid_new2 nD⟩ ?_ ?_
  · rintro i Hj hi ⟨acc, Pj, la, da, sj⟩
    refine ⟨by simp only [wipe, List.set_set], yes_if ?_⟩
    refine hT _ Hj i (by omega) (Same.trans k sj) Hj b _ (by simpa using Pj) Kp.refl fun y H4 P4 k4 r4 => ⟨acc, P4.zz _ _ upd_same, small1000 (by omega), acc ++ [y], ?_, by rw [List.length_append, la]; rfl, ?_, (Same.trans sj k4).trans hid_swap⟩
    · exact ((P4.bare f.2).upd f).hide upd_same f.1
    · rw [List.range_succ, List.map_append]
      exact dqs_snoc (da.mono (Same.trans k4 hid_swap)) ((show Dq K _ _ _ from r4).mono hid_swap)
  · rintro Hn ⟨acc, Pn, la, da, sn⟩
    have e := Pn.zz _ _ upd_same
    exact q _ Hn (Pn.bare f.2) (sn.trans hid_hide) (Dq.lst (.inl (.inl (by rw [hid_at f]; exact e))) (da.mono hid_hide))
theorem q_tupleOf {ds : List PyData} (h : Ev S Z n H0 σ te (DQ K (.list ds))) : Ev S Z n H0 σ (tCB (fun xs H Q => ∃ p ys, xs = [.ref p] ∧ ((SqL K H p ys ∧ ∀ l, H l = none → Q (.ref l) (upd H l (.tup ys))) ∨ (SqT K H p ys ∧ Q (.ref p) H))) (tCons te tNil)) (DQ K (.tuple ds)) :=
  fun H b Q P k q => h H b _ P k fun v H1 P1 k1 r1 => by
    obtain ⟨a, xs, rfl, g, hx⟩ := dq_lst r1
    refine ⟨a, xs, rfl, .inl ⟨Same.seqL hid_same g, fun t nt => ?_⟩⟩
    obtain ⟨P4, k4, e4⟩ := laid (o := .tup xs) P1 nt
    exact q _ _ P4 (k1.trans k4) (Dq.tup (.inl (.inl e4)) (hx.mono k4))
end
/-! ### the log of motions that are far from one another -/
theorem fold_far {kd : Bool} {s f st : Int} (hs : 1 ≤ s) (h : s < st) : ∀ n : Nat, (ap f st n).foldl (stepL kd s) [] = (pcs s f st n).reverse
  | 0 => by simp [ap, pcs]
  | n + 1 => by
    rw [ap_succ, pcs_succ, List.foldl_append, fold_far hs h n, List.reverse_append]
    cases n with
    | zero => rfl
    | succ n =>
      rw [pcs_succ, List.reverse_append]
      show stepL kd s ((f + st * (n : Int), f + st * (n : Int) + s) :: (pcs s f st n).reverse) (f + st * ((n + 1 : Nat) : Int)) = _
      have e : st * ((n + 1 : Nat) : Int) = st * (n : Int) + st := ap_mono (by omega) n
      simp only [stepL]
      rw [if_pos (by rw [e]; omega)]
      rfl
theorem logF_far {kd : Bool} {s f st : Int} (hs : 1 ≤ s) (h : s < st) (n : Nat) : logF (kd, s) (ap f st n) = pcs s f st n := by
  unfold logF
  rw [fold_far hs h, List.reverse_reverse]
theorem pcs_len (s f st : Int) (n : Nat) : (pcs s f st n).length = n := by simp [pcs]
theorem logF_ne {l : Lamp} : ∀ {ms : List Int}, ms ≠ [] → logF l ms ≠ [] := by
  intro ms h e
  have key : ∀ (ms : List Int) (acc : List Stt), acc ≠ [] → ms.foldl (stepL l.1 l.2) acc ≠ [] := by
    intro ms
    induction ms with
    | nil => intro acc h; exact h
    | cons m ms ih =>
      intro acc h
      refine ih _ ?_
      cases acc with
      | nil => exact absurd rfl h
      | cons q r =>
        simp only [stepL]
        split
        · simp
        · split <;> simp
  cases ms with
  | nil => exact h rfl
  | cons m ms =>
    have e : (ms.foldl (stepL l.1 l.2) [(m, m + l.2)]).reverse = [] := e
    exact key ms _ (by simp) (List.reverse_eq_nil_iff.mp e)
end Lg

namespace Lg
open PySem PySem.Spec PyProof.Rows L2 Lm
section
variable {K : PySem.W.Frag} {S : Src} {Z H0 : Hp} {σ : L2.St} {ta tb : TE} {tl : TA} {n n1 n2 : Nat} {d e : PyData}
theorem q_eqD (h1 : Ev S Z n1 H0 σ ta (DQ K d)) (h2 : Ev S Z n2 H0 σ tb (DQ K e)) (nd : noD d = true) (ne : noD e = true) (sd : SeqAt.shaped d = true) (se : SeqAt.shaped e = true) : Ev S Z (n1 + n2) H0 σ (tOp (rEqD K) ta tb) (DQ K (.bool (PyData.eqv d e))) :=
  fun H b Q P k q => h1 H (n2 + b) _ (P.less (by omega)) k fun x H1 P1 k1 r1 => h2 H1 b _ P1 (k.trans k1) fun y H2 P2 k2 r2 =>
    ⟨d, e, dq_dp d nd (((show Dq K _ _ _ from r1).mono k2).mono hid_same), dq_dp e ne ((show Dq K _ _ _ from r2).mono hid_same), sd, se, q _ _ P2 (k1.trans k2) (.bl _)⟩
/-- an answer of explains -/
theorem q_expl {ls : List Lamp} {gs : List (List Stt)} (h : EvA S Z n H0 σ tl (DQs K [lampsD ls, gsD gs, d])) (e : gs.length = ls.length) (l9 : ls.length ≤ 900) (hs : ∀ l ∈ ls, StayOk l) (sh : d.showable = true) : Ev S Z n H0 σ (tCall (sp_expl K) [] E0 tl) (DQ K (.bool (explB ls gs d))) :=
  q_fn (A := fun x : List Lamp × List (List Stt) × PyData => [lampsD x.1, gsD x.2.1, x.2.2]) (ls, gs, d) h ⟨e, l9, hs, sh⟩
end
def bareV : List PyData := [.tuple [], .tuple [.tuple [.int 5, .int 1, .int 1]], .none, .tuple [.tuple [.int 5, .int 2, .int 1]], .list []]
theorem bare_sh : ∀ d ∈ bareV, d.showable = true := by
  have h : bareV.all (fun d => d.showable) = true := by decide +kernel
  exact fun d hd => List.all_eq_true.mp h d hd
theorem bare_eq : PyData.eqv (.list (bareV.map fun d => PyData.bool (explB [] [] d))) (.list [.bool true, .bool true, .bool false, .bool false, .bool false]) = true := by decide +kernel
end Lg
namespace Lg
open PySem PySem.Spec PyProof.Rows L2 Lm
/-! ### runs that are too many -/
theorem run_good {f st c : Int} (h0 : 0 ≤ f) (h1 : f ≤ 1000) (s0 : 1 ≤ st) (s1 : st ≤ 100) (c0 : 2 ≤ c) (c1 : c ≤ 1000061) : GoodR (f, st, c) :=
  ⟨h0, s0, by show 1 ≤ c; omega, fun z => by have z : c = 1 := z; omega, by
    show f + st * (c - 1) ≤ 1000000000
    have : st * (c - 1) ≤ 100 * (c - 1) := Int.mul_le_mul_of_nonneg_right s1 (by omega)
    omega⟩
theorem expl_one {f st c : Int} {ls : List Lamp} {gs : List (List Stt)} (h0 : 0 ≤ f) (h1 : f ≤ 1000) (s0 : 1 ≤ st) (s1 : st ≤ 100) (c0 : 2 ≤ c) (c1 : c ≤ 1000061) (e : gs.length = ls.length) (hl : ∀ l ∈ ls, 1 ≤ l.2) (hg : ∀ g ∈ gs, g.length ≤ 60) :
    explB ls gs (runsD [(f, st, c)]) = decide ((ls.map fun l => logF l (ap f st c.toNat)) = gs) := by
  have g := run_good h0 h1 s0 s1 c0 c1
  rw [expl_runs (rs := [(f, st, c)]) (fun r hr => by rw [List.mem_singleton.mp hr]; exact g) ⟨by show -1 < f; omega, s0, by show 1 ≤ c; omega, trivial⟩ (Nat.le_add_left 1 359) e hl hg]
  rw [show spreadAll [(f, st, c)] = ap f st c.toNat by simp [spreadAll]]
theorem many_no {kd : Bool} {s f st c : Int} {g : List Stt} (hs : 1 ≤ s) (h : s < st) (h0 : 0 ≤ f) (h1 : f ≤ 1000) (s1 : st ≤ 100) (c0 : 61 ≤ c) (c1 : c ≤ 1000061) (hg : g.length ≤ 60) : explB [(kd, s)] [g] (runsD [(f, st, c)]) = false := by
  rw [expl_one h0 h1 (by omega) s1 (by omega) c1 rfl (fun l hl => by rw [List.mem_singleton.mp hl]; exact hs) (fun x hx => by rw [List.mem_singleton.mp hx]; exact hg)]
  refine decide_eq_false fun e => ?_
  have e : logF (kd, s) (ap f st c.toNat) = g := (List.cons.inj e).1
  rw [logF_far hs h] at e
  have := congrArg List.length e
  rw [pcs_len] at this
  omega
theorem many_two {kd : Bool} {s f st c : Int} {g : List Stt} (hs : 1 ≤ s) (h : s < st) (h0 : 0 ≤ f) (h1 : f ≤ 1000) (s1 : st ≤ 100) (c0 : 61 ≤ c) (c1 : c ≤ 1000061) (hg : g.length ≤ 60) : explB [(kd, 1000000000), (kd, s)] [[], g] (runsD [(f, st, c)]) = false := by
  rw [expl_one h0 h1 (by omega) s1 (by omega) c1 rfl (fun l hl => by
    rcases List.mem_cons.mp hl with e | e
    · rw [e]; exact (by decide : (1 : Int) ≤ 1000000000)
    · rw [List.mem_singleton.mp e]; exact hs) (fun x hx => by
    rcases List.mem_cons.mp hx with e | e
    · rw [e]; exact Nat.zero_le _
    · rw [List.mem_singleton.mp e]; exact hg)]
  refine decide_eq_false fun e => ?_
  have e : logF (kd, 1000000000) (ap f st c.toNat) = [] := (List.cons.inj e).1
  refine logF_ne (fun z => ?_) e
  have := congrArg List.length z
  simp [ap] at this
  omega
theorem many_yes {kd : Bool} {s f st : Int} (hs : 1 ≤ s) (h : s < st) (h0 : 0 ≤ f) (h1 : f ≤ 1000) (s1 : st ≤ 100) : explB [(kd, s)] [pcs s f st 60] (runsD [(f, st, 60)]) = true := by
  rw [expl_one h0 h1 (by omega) s1 (by decide) (by decide) rfl (fun l hl => by rw [List.mem_singleton.mp hl]; exact hs) (fun x hx => by rw [List.mem_singleton.mp hx, pcs_len]; decide)]
  refine decide_eq_true ?_
  show [logF (kd, s) (ap f st 60)] = _
  rw [logF_far hs h]
/-! ### small runs, seen -/
theorem int_sh {i : Int} (h : i.natAbs < 10 ^ 12) : (PyData.int i).showable = true := (Sm.int h).sh
end Lg
namespace Lg
open PySem PySem.Spec PyProof.Rows L2 Lm
section
variable {K : PySem.W.Frag} {S : Src} {Z H0 : Hp} {σ : L2.St} {te ta : TE} {n m : Nat} {ds : List PyData}
theorem q_notBl {x y : Bool} (h : Ev S Z n H0 σ te (DQ K (.bool x))) : Ev S Z n H0 σ (tOp rNotB te (tC (.bl y))) (DQ K (.bool (!decide (x = y)))) := fun H b Q P k q => h H b _ P k fun v H1 P1 k1 r1 => by
  obtain rfl := dq_bool r1
  exact ⟨x, y, rfl, rfl, q _ _ P1 k1 (.bl _)⟩
theorem cut_whole {xs : List V} {lo hi : Option Int} (h : HT.sIx xs.length 0 lo = 0 ∧ HT.sIx xs.length xs.length hi = xs.length) : cutV xs lo hi = xs := by
  unfold cutV
  rw [h.1, h.2]
  simp
theorem q_take (h : Ev S Z n H0 σ te (DQ K (.tuple ds))) : Ev S Z n H0 σ (tSl (rSlA K) te tNoPart (tPart (tC (.int (m : Int))))) (DQ K (.tuple (ds.take m))) := fun H b Q P k q => h H b _ P k fun v H1 P1 k1 r1 => by
  obtain ⟨a, xs, rfl, g, hx⟩ := dq_tup r1
  have lx := hx.len
  refine ⟨m, rfl, a, xs, rfl, Same.seqT hid_same g, fun hw => ?_, fun _ t nt => ?_⟩
  · have e := cut_whole hw
    rw [cutV_take] at e
    have l := congrArg List.length e
    rw [List.length_take] at l
    have w : ds.take m = ds := List.take_of_length_le (by omega)
    rw [w] at q
    exact q _ _ P1 k1 r1
  · rw [cutV_take]
    obtain ⟨P4, k4, e4⟩ := laid (o := .tup (xs.take m)) P1 nt
    exact q _ _ P4 (k1.trans k4) (Dq.tup (.inl (.inl e4)) ((Dqs.take m hx).mono k4))
theorem q_drop (hm : m ≤ ds.length) (h : Ev S Z n H0 σ te (DQ K (.tuple ds))) : Ev S Z n H0 σ (tSl (rSlA K) te (tPart (tC (.int (m : Int)))) tNoPart) (DQ K (.tuple (ds.drop m))) := fun H b Q P k q => h H b _ P k fun v H1 P1 k1 r1 => by
  obtain ⟨a, xs, rfl, g, hx⟩ := dq_tup r1
  have lx := hx.len
  refine ⟨m, rfl, a, xs, rfl, Same.seqT hid_same g, fun hw => ?_, fun _ t nt => ?_⟩
  · have e := cut_whole hw
    rw [cutV_drop _ (by omega)] at e
    have l := congrArg List.length e
    rw [List.length_drop] at l
    have : m = 0 ∨ ds = [] := by
      cases ds with
      | nil => exact .inr rfl
      | cons d r =>
        left
        simp only [List.length_cons] at lx
        omega
    rcases this with z | z
    · subst z
      exact q _ _ P1 k1 r1
    · subst z
      rw [List.drop_nil] at q
      exact q _ _ P1 k1 r1
  · rw [cutV_drop _ (by omega)]
    obtain ⟨P4, k4, e4⟩ := laid (o := .tup (xs.drop m)) P1 nt
    exact q _ _ P4 (k1.trans k4) (Dq.tup (.inl (.inl e4)) ((Dqs.drop m hx).mono k4))
end
end Lg

namespace Lg
open PySem PySem.Spec PyProof.Rows L2 Lm PySem.SeqAt PySem.MeetsSeq
open PySem.AutoSeq1 (wpAny_loadPart')
/-! ### a tuple times a whole number from 1 on -/
theorem tuple_once (l : Addr) (items : Array Value) (n : Nat) (dd : Option Addr) (sl : Array (Option Value)) (u : Tok) :
    Meets (Builtin.«tuple.__mul__» ⟨[.ref l, .int 1 u], []⟩) (fun _ R s => s.heap.get? l = some { cls := .type "tuple", dict := dd, data := .seq items n, slots := sl } ∧ R (.ok (.ret (.ref l))) s) :=
  .of_wp fun prog w A R s h => by
    obtain ⟨hp, g, d, tk, os⟩ := s
    obtain ⟨hl, h⟩ := h
    have f1 := AutoSeq1.idx_int
    have c1 : (items.isEmpty || (1 : Int) == 1) = true := by simp
    wp_walk using wpAny_loadPart' hl
    exact ⟨_, rfl, h⟩
def rRepB (K : PySem.W.Frag) : R2 := fun x y H Q => ∃ l k xs, x = .ref l ∧ y = .int k ∧ SqT K H l xs ∧ xs ≠ [] ∧ 1 ≤ k ∧ k ≤ 1000 ∧ xs.length ≤ 1000 ∧ (k = 1 → Q (.ref l) H) ∧ (2 ≤ k → ∀ p, H p = none → Q (.ref p) (upd H p (.tup (List.replicate k.toNat xs).flatten)))
theorem op_repB {X : Cx} {K : PySem.W.Frag} (hK : X.K = K) : OpR X (binaryOp .Mult) (rRepB K) := by
  subst hK
  intro pins s σ H x y v u Q I rx ry h
  obtain ⟨l, k, xs, rfl, rfl, hT, hne, h1, h2, h3, q1, q2⟩ := h
  by_cases e : k = 1
  · subst e
    cases rx
    obtain ⟨t, rfl⟩ := ry
    obtain ⟨its, r, ⟨⟨cls, dd, data, sl⟩, ho, hc, n, hd⟩, hs⟩ := I.tuple hT
    simp only at hc hd
    subst hc hd
    have ty : s.TypeIs (.ref l) "tuple" := ⟨_, ho, rfl⟩
    exact wpAny_binaryOp_repeat_ref (T := "tuple") (U := "int") (by decide) ty (fun s' => typeIs_int s' 1 t) noFill_tuple_mul F.fills_int_mul F.slot_int_rmul repeat_tuple F.slot_int_index.lookup
      (call_meets F.slot_int_rmul (typeIs_int s 1 t) F.entry_int_rmul (F.args_int_rmul_2 _ _) (int_rmul_tuple 1 t l its.toArray n dd sl) ⟨ho, rfl, ty,
        call_meets F.slot_tuple_mul ty F.entry_tuple_mul (F.args_tuple_mul_2 _ _) (tuple_once l its.toArray n dd sl t) ⟨ho, ⟨.ref l, H, I, rfl, q1 rfl⟩⟩⟩)
  · exact op_repT pins s σ H _ _ v u Q I rx ry ⟨l, k, xs, rfl, rfl, hT, hne, by omega, h2, h3, q2 (by omega)⟩
section
variable {K : PySem.W.Frag} {S : Src} {Z H0 : Hp} {σ : L2.St} {ta tb te : TE} {n n1 n2 : Nat} {ds es : PyData} {xs ys : List PyData}
theorem rep_one {α : Type} (x : α) : ∀ n : Nat, (List.replicate n [x]).flatten = List.replicate n x
  | 0 => rfl
  | n + 1 => by rw [List.replicate_succ, List.flatten_cons, rep_one x n]; rfl
theorem dqs_rep {G : Hp} {v : V} {d : PyData} (h : Dq K G v d) : ∀ n : Nat, Dqs K G (List.replicate n v) (List.replicate n d)
  | 0 => .nil
  | n + 1 => .cons h (dqs_rep h n)
theorem q_repB {d : PyData} {k : Int} (h1 : 1 ≤ k) (h2 : k ≤ 1000) (h : Ev S Z n1 H0 σ ta (DQ K (.tuple [d]))) (hk : Ev S Z n2 H0 σ tb (EI k)) : Ev S Z (n1 + n2) H0 σ (tOp (rRepB K) ta tb) (DQ K (.tuple (List.replicate k.toNat d))) :=
  fun H b Q P kk q => h H (n2 + b) _ (P.less (by omega)) kk fun x H1 P1 k1 r1 => hk H1 b _ P1 (kk.trans k1) fun y H2 P2 k2 r2 => by
    obtain ⟨a, xs, rfl, g, hx⟩ := dq_tup ((show Dq K _ _ _ from r1).mono k2)
    obtain ⟨v, r, rfl, hv, hr⟩ := dqs_cons hx
    obtain rfl := dqs_nil hr
    refine ⟨a, k, [v], rfl, r2, Same.seqT hid_same g, by simp, h1, h2, Nat.le_add_left 1 999, fun e => ?_, fun e p np => ?_⟩
    · subst e
      exact q _ _ P2 (k1.trans k2) (Dq.tup g (.cons hv .nil))
    · rw [rep_one]
      obtain ⟨P4, k4, e4⟩ := laid (o := .tup (List.replicate k.toNat v)) P2 np
      exact q _ _ P4 (k1.trans (k2.trans k4)) (Dq.tup (.inl (.inl e4)) (dqs_rep (hv.mono k4) _))
theorem q_catA (h1 : Ev S Z n1 H0 σ ta (DQ K (.tuple xs))) (h2 : Ev S Z n2 H0 σ tb (DQ K (.tuple ys))) (hl : xs.length + ys.length ≤ 1000) : Ev S Z (n1 + n2) H0 σ (tOp (rCatA K) ta tb) (DQ K (.tuple (xs ++ ys))) :=
  fun H b Q P k q => h1 H (n2 + b) _ (P.less (by omega)) k fun x H1 P1 k1 r1 => h2 H1 b _ P1 (k.trans k1) fun y H2 P2 k2 r2 => by
    have r1' := (show Dq K _ _ _ from r1).mono k2
    obtain ⟨a, us, rfl, g, hx⟩ := dq_tup r1'
    obtain ⟨a2, ws, rfl, g2, hy⟩ := dq_tup r2
    have lx := hx.len
    have ly := hy.len
    refine ⟨a, a2, us, ws, rfl, rfl, Same.seqT hid_same g, Same.seqT hid_same g2, Nat.le_of_lt (small1000 (by omega)), fun z => ?_, fun z1 z2 => ?_, fun z1 z2 t nt => ?_⟩
    · subst z
      have e : xs = [] := List.eq_nil_of_length_eq_zero (by rw [← lx]; rfl)
      subst e
      exact q _ _ P2 (k1.trans k2) r2
    · subst z2
      have e : ys = [] := List.eq_nil_of_length_eq_zero (by rw [← ly]; rfl)
      subst e
      rw [List.append_nil] at q
      exact q _ _ P2 (k1.trans k2) r1'
    · obtain ⟨P4, k4, e4⟩ := laid (o := .tup (us ++ ws)) P2 nt
      exact q _ _ P4 (k1.trans (k2.trans k4)) (Dq.tup (.inl (.inl e4)) (Dqs.app (hx.mono k4) (hy.mono k4)))
theorem q_listOf (h : Ev S Z n H0 σ te (DQ K (.tuple xs))) : Ev S Z n H0 σ (tCB (fun xs H Q => ∃ p ys, xs = [.ref p] ∧ (SqL K H p ys ∨ SqT K H p ys) ∧ ∀ l, H l = none → Q (.ref l) (upd H l (.lst ys))) (tCons te tNil)) (DQ K (.list xs)) :=
  fun H b Q P k q => h H b _ P k fun v H1 P1 k1 r1 => by
    obtain ⟨a, us, rfl, g, hx⟩ := dq_tup r1
    refine ⟨a, us, rfl, .inr (Same.seqT hid_same g), fun t nt => ?_⟩
    obtain ⟨P4, k4, e4⟩ := laid (o := .lst us) P1 nt
    exact q _ _ P4 (k1.trans k4) (Dq.lst (.inl (.inl e4)) (hx.mono k4))
theorem q_lenT (h : Ev S Z n H0 σ te (DQ K (.tuple xs))) : Ev S Z n H0 σ (tCB (fun xs H Q => ∃ p ys, xs = [.ref p] ∧ (SqL K H p ys ∨ SqT K H p ys) ∧ Q (.int ys.length) H) (tCons te tNil)) (EI (xs.length : Int)) :=
  fun H b Q P k q => h H b _ P k fun v H1 P1 k1 r1 => by
    obtain ⟨a, us, rfl, g, hx⟩ := dq_tup r1
    have lx := hx.len
    exact ⟨a, us, rfl, .inr (Same.seqT hid_same g), q _ _ P1 k1 (by rw [lx]; rfl)⟩
theorem q_eqTE {d : PyData} {b : Bool} (hd : d ∈ oddL) (h1 : Ev S Z n1 H0 σ ta (DQ K d)) (h2 : Ev S Z n2 H0 σ tb (fun v G => ∃ a, v = .ref a ∧ G a = some (.tup []))) : Ev S Z (n1 + n2) H0 σ (tOp (rEqTE K) ta tb) (DQ K (.bool (isTE d))) :=
  fun H b Q P k q => h1 H (n2 + b) _ (P.less (by omega)) k fun x H1 P1 k1 r1 => h2 H1 b _ P1 (k.trans k1) fun y H2 P2 k2 r2 => by
    obtain ⟨a, rfl, g⟩ := r2
    have r1' := ((show Dq K _ _ _ from r1).mono k2).mono hid_same
    exact ⟨d, a, rfl, hid_same _ _ g, odd_te hd r1', q _ _ P2 (k1.trans k2) (.bl _)⟩
theorem ev_tup0 : Ev S Z 0 H0 σ (tTup tNil) (fun v G => ∃ a, v = .ref a ∧ G a = some (.tup [])) := (ev_tup eva_nil (fun vs G e => by rw [e]; exact Nat.zero_le _) (fun _ _ _ _ h => h)).imp fun v G ⟨a, xs, e, g, z⟩ => ⟨a, e, by rw [g, z]⟩
end
end Lg

namespace Lg
open PySem PySem.Spec PyProof.Rows L2 Lm
/-! ### k14: values that are no motions -/
theorem shAll_app : ∀ xs ys : List PyData, PyData.showableAll (xs ++ ys) = (PyData.showableAll xs && PyData.showableAll ys)
  | [], ys => by simp [PyData.showableAll]
  | x :: xs, ys => by
    show (x.showable && PyData.showableAll (xs ++ ys)) = ((x.showable && PyData.showableAll xs) && PyData.showableAll ys)
    rw [shAll_app xs ys, Bool.and_assoc]
theorem runs_sh : ∀ {rs : List Run}, (∀ r ∈ rs, RunOk r) → PyData.showableAll (rs.map runD) = true
  | [], _ => rfl
  | r :: rs, h => by
    show ((runD r).showable && PyData.showableAll (rs.map runD)) = true
    rw [(run_sm (h r List.mem_cons_self)).sh, runs_sh fun x hx => h x (List.mem_cons_of_mem _ hx)]; rfl
def wrongV (rs : List Run) : List PyData := [.list (rs.map runD), .tuple (rs.map runD ++ [runD (0, 1, 1), runD (0, 1, 1)]), .tuple (rs.map runD ++ [.none]), .tuple (rs.map runD ++ [runD (1000000000, 1, 2)]), .none, .str "none"]
theorem up_last : ∀ {rs : List Run} {b : Int} {x y : Run}, RunsUp b (rs ++ [x, y]) → lastM x < y.1
  | [], _, _, _, ⟨_, _, _, h, _⟩ => h
  | r :: rs, _, _, _, ⟨_, _, _, h⟩ => up_last (rs := rs) h
theorem wrong_no {rs : List Run} {d : PyData} (h : d ∈ wrongV rs) : isN (motErr d) = false := by
  have key : ∀ d, d ∈ wrongV rs → ¬ isN (motErr d) = true := by
    intro d h e
    obtain ⟨m1, _, m3, m4⟩ := mot_runs e
    unfold wrongV at h
    rcases List.mem_cons.mp h with z | h
    · subst z; cases e
    rcases List.mem_cons.mp h with z | h
    · have q : d = runsD (rs ++ [(0, 1, 1), (0, 1, 1)]) := by rw [z]; simp [runsD]
      rw [q, runsOf_runs] at m4
      have : lastM (0, 1, 1) < (0 : Int) := up_last m4
      exact absurd this (by decide)
    rcases List.mem_cons.mp h with z | h
    · subst z
      have q : rs.map runD ++ [PyData.none] = (runsOf (.tuple (rs.map runD ++ [.none]))).map runD := PyData.tuple.inj m1
      have mem : PyData.none ∈ rs.map runD ++ [PyData.none] := List.mem_append_right _ List.mem_cons_self
      rw [q] at mem
      obtain ⟨r, _, z⟩ := List.mem_map.mp mem
      cases z
    rcases List.mem_cons.mp h with z | h
    · have q : d = runsD (rs ++ [(1000000000, 1, 2)]) := by rw [z]; simp [runsD]
      rw [q, runsOf_runs] at m3
      have := (m3 (1000000000, 1, 2) (List.mem_append_right _ List.mem_cons_self)).l
      exact absurd this (by decide)
    rcases List.mem_cons.mp h with z | h
    · subst z; cases e
    · rw [List.mem_singleton.mp h] at e; cases e
  cases hh : isN (motErr d) with
  | false => rfl
  | true => exact absurd hh (key d h)
theorem wrong_sh {rs : List Run} {d : PyData} (hr : ∀ r ∈ rs, RunOk r) (h : d ∈ wrongV rs) : d.showable = true := by
  have e := runs_sh hr
  unfold wrongV at h
  rcases List.mem_cons.mp h with z | h
  · rw [z]; exact e
  rcases List.mem_cons.mp h with z | h
  · rw [z]
    show PyData.showableAll (_ ++ _) = true
    rw [shAll_app, e]; decide +kernel
  rcases List.mem_cons.mp h with z | h
  · rw [z]
    show PyData.showableAll (_ ++ _) = true
    rw [shAll_app, e]; rfl
  rcases List.mem_cons.mp h with z | h
  · rw [z]
    show PyData.showableAll (_ ++ _) = true
    rw [shAll_app, e]; decide +kernel
  rcases List.mem_cons.mp h with z | h
  · rw [z]; rfl
  · rw [List.mem_singleton.mp h]; rfl
/-! ### what an odd value explains -/
theorem logOf_nil (l : Lamp) : logOf l [] = [] := by
  obtain ⟨h, s⟩ := l
  cases h <;> rfl
theorem give_nil : ∀ (ls : List Lamp) (gs : List (List Stt)), gs.length = ls.length → giveB [] ls gs = decide (gs = List.replicate ls.length [])
  | [], [], _ => rfl
  | l :: ls, g :: gs, h => by
    unfold giveB
    rw [give_nil ls gs (by simpa using h), List.length_cons, List.replicate_succ]
    unfold hasB
    rw [logOf_nil]
    by_cases e1 : g = [] <;> by_cases e2 : gs = List.replicate ls.length [] <;> simp [e1, e2, eq_comm]
  | [], _ :: _, h => by simp at h
  | _ :: _, [], h => by simp at h
theorem expl_odd {d : PyData} {ls : List Lamp} {gs : List (List Stt)} (h : d ∈ oddL) (e : gs.length = ls.length) : explB ls gs d = (isTE d && decide (gs = List.replicate ls.length [])) := by
  rcases (odd_ok h).2.1 with z | z
  · rw [z, te_eq z]
    show (true && giveB [] ls gs) = _
    rw [give_nil ls gs e]
  · unfold explB
    rw [z, Bool.false_and]
    cases hz : isTE d with
    | false => rfl
    | true => rw [te_eq hz] at z; cases z
/-! ### sizes -/
theorem lamps_sm {ls : List Lamp} {c : Nat} (hl : ls.length ≤ c) (h : ∀ l ∈ ls, StayOk l) : Sm (c * 35 + 3) 2 (lampsD ls) :=
  Sm.tuple (n := 33) (k := 1) (fun d hd => by
    obtain ⟨q, hq, rfl⟩ := List.mem_map.mp hd
    have := h q hq
    exact lamp_sm (by unfold StayOk at this; omega) (by unfold StayOk at this; omega)) (by rw [List.length_map]; exact hl)
theorem gs_sm {gs : List (List Stt)} {c : Nat} (hl : gs.length ≤ c) (h : ∀ g ∈ gs, StOk 60 10000000000 g) : Sm (c * 2105 + 3) 3 (gsD gs) :=
  Sm.tuple (n := 2103) (k := 2) (fun d hd => by
    obtain ⟨q, hq, rfl⟩ := List.mem_map.mp hd
    exact log_sm (n := 60) (h q hq) (Int.le_refl _)) (by rw [List.length_map]; exact hl)
theorem three_fine {a b c : PyData} {n k : Nat} (h1 : Sm n k a) (h2 : Sm n k b) (h3 : Sm n k c) (hn : 3 * (n + 2) + 3 ≤ 16777216) (hk : k + 1 ≤ 100) : Fine (.list [a, b, c]) :=
  (Sm.list (c := 3) (ds := [a, b, c]) (n := n) (k := k) (fun x hx => by
    rcases List.mem_cons.mp hx with z | z
    · rw [z]; exact h1
    · rcases List.mem_cons.mp z with z | z
      · rw [z]; exact h2
      · rw [List.mem_singleton.mp z]; exact h3) (Nat.le_refl 3)).fine hn hk
theorem gs_noD : ∀ gs : List (List Stt), noD (gsD gs) = true := by
  have p : ∀ ps : List Stt, noDs (ps.map pD) = true := by
    intro ps
    induction ps with
    | nil => rfl
    | cons q r ih => show (noD (pD q) && noDs (r.map pD)) = true; rw [ih]; rfl
  intro gs
  show noDs (gs.map logD) = true
  induction gs with
  | nil => rfl
  | cons g r ih =>
    show (noD (logD g) && noDs (r.map logD)) = true
    rw [ih]
    show (noDs (g.map pD) && true) = true
    rw [p]; rfl
theorem rep_gs (n : Nat) : PyData.tuple (List.replicate n (.tuple [])) = gsD (List.replicate n []) := by
  unfold gsD
  rw [List.map_replicate]; rfl
/-! ### evaluations of the law's own calls -/
section
variable {K : PySem.W.Frag} {r c : Addr} {Z H0 : Hp} {σ : L2.St} {te tl : TE} {n : Nat}
def MinR (v : V) (G : Hp) : Prop := ∃ ms, LI G v ms ∧ MsOk ms ∧ ms.length ≤ 51
theorem MinR.mo : Mo MinR := fun _ _ _ s ⟨ms, l, h⟩ => ⟨ms, l.mono s, h⟩
theorem ms_of {ms : List Int} {n : Int} (h : MinsOk n ms) (hn : n ≤ 50) : MsOk ms ∧ ms.length ≤ 51 := ⟨⟨h.1, by have := h.2.1; omega, fun m hm => by have := h.2.2 m hm; omega⟩, by have := h.2.1; omega⟩
theorem ev_near {i j : Nat} {x : V} {ms : List Int} (e : σ[i]? = some (some (.ref r))) (ej : σ[j]? = some (some x)) (hx : LI (hid (reel r c) Z H0) x ms) (hm : MinsOk 50 ms) : Ev (reel r c) Z 3 H0 σ (tCall sp_nearL [] E0 (tCons (tVar i) (tCons (tVar j) tNil))) MinR :=
  fun H b Q P k q => ⟨_, e, x, ej, Z, r, c, b, x, ms, rfl, P, hx.mono k, hm, fun y H' ns P' k' l h1 h2 => q y H' P' k' ⟨ns, l, h1, h2⟩⟩
theorem ev_minsL {i : Nat} {m g : Int} (e : σ[i]? = some (some (.ref r))) (m0 : 0 ≤ m) (m1 : m ≤ 50) (g0 : 1 ≤ g) (g1 : g ≤ 20000) : Ev (reel r c) Z 205 H0 σ (tCall sp_minutesL [] E0 (tCons (tVar i) (tCons (tC (.int m)) (tCons (tC (.int g)) tNil)))) MinR :=
  fun H b Q P k q => ⟨_, e, Z, r, c, b, m, g, rfl, P, m0, m1, g0, g1, fun y H' ns P' k' l h => q y H' P' k' ⟨ns, l, ms_of h m1⟩⟩
theorem ev_emptyL : Ev (reel r c) Z 0 H0 σ (tLst tNil) MinR := fun H b Q P k q => ⟨Nat.zero_le _, fun t nt => by
  obtain ⟨P4, k4, e4⟩ := laid (o := .lst []) P nt
  exact q _ _ (P4.less (by omega)) k4 ⟨[], ⟨t, rfl, e4⟩, ⟨trivial, Nat.zero_le _, fun m h => (nomatch h)⟩, Nat.zero_le _⟩⟩
def onesF : PyData → PyData
  | .int m => runD (m, 1, 1)
  | d => d
theorem onesF_map (ms : List Int) : (ms.map PyData.int).map onesF = (ones1 ms).map runD := by
  unfold ones1
  rw [List.map_map, List.map_map]; rfl
/-- tuple([(minute, 1, 1) for minute in ..]) -/
theorem q_ones {S : Src} {v : Nat} {ms : List Int} (hl : ms.length ≤ 900) (h : Ev S Z n H0 σ tl (DQ K (minsD ms))) (hv : v < σ.length) :
    Ev S Z n H0 σ (tCB (fun xs H Q => ∃ p ys, xs = [.ref p] ∧ ((SqL K H p ys ∧ ∀ l, H l = none → Q (.ref l) (upd H l (.tup ys))) ∨ (SqT K H p ys ∧ Q (.ref p) H))) (tCons (tLc (iList K tl) (gName v) tYes (tTup (tCons (tVar v) (tCons (tC (.int 1)) (tCons (tC (.int 1)) tNil)))) [v]) tNil)) (DQ K (runsD (ones1 ms))) := by
  have key := q_tupleOf (q_lc (K := K) (S := S) (Z := Z) (H0 := H0) (σ := σ) (v := v) (te := tTup (tCons (tVar v) (tCons (tC (.int 1)) (tCons (tC (.int 1)) tNil)))) (ds := ms.map .int) (F := onesF) (by rw [List.length_map]; exact hl) h fun Z' H1 x d hd s2 hx => by
    obtain ⟨m, _, rfl⟩ := List.mem_map.mp hd
    obtain rfl := dq_int hx
    refine q_tup (ds := [.int m, .int 1, .int 1]) (Nat.le_add_left 3 997) (qa_cons (q_var (v := .int m) ?_ (.int m)) (qa_cons q_int (qa_cons q_int qa_nil)))
    rw [List.getElem?_set_self (by simp [wipe, hv])])
  rw [onesF_map] at key
  exact key
end
end Lg
namespace Lg
open PySem PySem.Spec PyProof.Rows L2 Lm
section
variable {K : PySem.W.Frag} {S : Src} {Z H0 : Hp} {σ : L2.St} {tl : TA} {n : Nat}
theorem q_at {v : V} {d : PyData} (h : Dq K (hid S Z H0) v d) : Ev S Z 0 H0 σ (tC v) (DQ K d) := fun H b Q P k q => q v H (P.less (by omega)) Kp.refl ((show Dq K _ _ _ from h).mono k)
theorem q_logs {ls : List Lamp} {ms : List Int} (h : EvA S Z n H0 σ tl (DQs K [lampsD ls, minsD ms])) (h1 : ls.length ≤ 900) (h2 : ms.length ≤ 900) : Ev S Z n H0 σ (tCall (sp_l_logs K) [] E0 tl) (DQ K (gsD (ls.map fun l => logF l ms))) := by
  have := q_fn (K := K) (A := fun x : List Lamp × List Int => [lampsD x.1, minsD x.2]) (P := fun x : List Lamp × List Int => x.1.length ≤ 900 ∧ x.2.length ≤ 900) (F := fun x : List Lamp × List Int => PyData.tuple (x.1.map fun l => logD (logF l x.2))) (ls, ms) h ⟨h1, h2⟩
  rw [show gsD (ls.map fun l => logF l ms) = PyData.tuple (ls.map fun l => logD (logF l ms)) by unfold gsD; rw [List.map_map]; rfl]
  exact this
theorem q_gp {ms : List Int} (h : EvA S Z n H0 σ tl (DQs K [minsD ms])) (hm : MsOk ms) : Ev S Z n H0 σ (tCall (sp_gp K) [] E0 tl) (DQ K (runsD (gpF ms))) :=
  q_fn (K := K) (A := fun ms : List Int => [minsD ms]) (P := MsOk) (F := fun ms => runsD (gpF ms)) ms h hm
end
section
variable {K : PySem.W.Frag} {r c : Addr} {Z H0 : Hp} {σ : L2.St}
theorem ev_bent {i j : Nat} {v : V} {g0 : List Stt} {gr : List (List Stt)} {B : Int} (e : σ[i]? = some (some (.ref r))) (ej : σ[j]? = some (some v)) (hd : Dq K (hid (reel r c) Z H0) v (gsD (g0 :: gr))) (hg : LgOk 60 B g0) (b0 : 0 ≤ B) (b1 : B ≤ 100000000) :
    Ev (reel r c) Z 3 H0 σ (tCall (sp_bent K) [] E0 (tCons (tVar i) (tCons (tOp (rIxT K) (tVar j) (tC (.int 0))) tNil))) (DR K fun d => ∃ qs, d = logD qs ∧ LgOk 60 (B + 8) qs) := fun H b Q P k q => by
  obtain ⟨a, xs, rfl, g, hx⟩ := dq_tup (hd.mono k)
  obtain ⟨u, us, rfl, hu, _⟩ := dqs_cons hx
  refine ⟨_, e, .ref a, ej, a, _, 0, u, rfl, rfl, Same.seqT hid_same g, atI_nat (j := 0) rfl, Z, r, c, b, u, g0, B, rfl, P, hu, hg, b0, b1, fun y H' qs P' k' dq hq => ?_⟩
  exact q y H' P' k' ⟨_, dq, qs, rfl, hq⟩
end
end Lg
namespace Lg
open PySem PySem.Spec PyProof.Rows L2 Lm
theorem catA_run {K : PySem.W.Frag} {S : Src} {Z : Hp} {v w : V} {H : Hp} {b : Nat} {Q : VK} {xs ys : List PyData} (P : Iv S Z b H) (h1 : Dq K (hid S Z H) v (.tuple xs)) (h2 : Dq K (hid S Z H) w (.tuple ys)) (hl : xs.length + ys.length ≤ 1000)
    (q : ∀ u H', Iv S Z b H' → Kp S Z H H' → Dq K (hid S Z H') u (.tuple (xs ++ ys)) → Q u H') : rCatA K v w H Q :=
  (q_catA (σ := []) (q_at h1) (q_at h2) hl).run P (b := b) (by omega) q
end Lg
namespace Lg
open PySem PySem.Spec PyProof.Rows L2 Lm
/-- a comprehension whose test lets nothing through -/
theorem q_lc0 {K : PySem.W.Frag} {S : Src} {Z H0 : Hp} {σ : L2.St} {te tl : TE} {tt : TT} {n v : Nat} {ds : List PyData} (h : Ev S Z n H0 σ tl (DQ K (.list ds)))
    (hT : ∀ (Z' H1 : Hp) (x : V) (d : PyData) (b : Nat) (Q : Bool → Hp → Prop), d ∈ ds → Same (hid S Z H0) (hid S Z' H1) → Dq K (hid S Z' H1) x d → Iv S Z' b H1 → (∀ H', Iv S Z' b H' → Kp S Z' H1 H' → Q false H') → tt ((wipe σ [v]).set v (some x)) H1 Q) :
    Ev S Z n H0 σ (tLc (iList K tl) (gName v) tt te [v]) (fun u G => ∃ a, u = .ref a ∧ G a = some (.lst [])) := fun H b Q P k q => by
  refine h H b _ P k fun x H1 P1 k1 r1 => ?_
  obtain ⟨a, xs, rfl, g, hx⟩ := dq_lst r1
  refine ⟨a, rfl, ⟨xs, Same.seqL hid_same g⟩, fun D nD => ?_⟩
  have f := P1.free nD
  refine lc_list (K := K) (a := a) (xs := xs) (fun i Hj => Iv S (upd Z D (.lst [])) b Hj ∧ Same (hid S Z H1) (hid S (upd Z D (.lst [])) Hj)) ⟨(P1.new nD).hide upd_same f.1, hid_new2 nD⟩ (fun i Hj _ ⟨_, sj⟩ => Same.seqL (Same.trans sj hid_same) g) ?_ ?_
  · rintro i x Hj hx' ⟨Pj, sj⟩
    obtain ⟨d, hd, dq⟩ := hx.get hx'
    refine ⟨by simp only [wipe, List.set_set], ?_⟩
    exact hT _ Hj x d b _ (List.mem_of_getElem? hd) (Same.trans (Same.trans k k1) sj) (dq.mono sj) Pj fun H4 P4 k4 => iteF ⟨P4, Same.trans sj k4⟩
  · rintro Hn ⟨Pn, sn⟩
    have e := Pn.zz _ _ upd_same
    exact q _ Hn (Pn.bare f.2) (Kp.trans k1 (sn.trans hid_hide)) ⟨D, rfl, by rw [hid_at f]; exact e⟩
theorem ev_lst0 {S : Src} {Z H0 : Hp} {σ : L2.St} : Ev S Z 0 H0 σ (tLst tNil) (fun v G => ∃ a, v = .ref a ∧ G a = some (.lst [])) := fun H b Q P k q => ⟨Nat.zero_le _, fun t nt => by
  obtain ⟨P4, k4, e4⟩ := laid (o := .lst []) P nt
  exact q _ _ (P4.less (by omega)) k4 ⟨t, rfl, e4⟩⟩
theorem ev_neE {K : PySem.W.Frag} {S : Src} {Z H0 : Hp} {σ : L2.St} {ta tb : TE} {n1 n2 : Nat} (h1 : Ev S Z n1 H0 σ ta (fun v G => ∃ a, v = .ref a ∧ G a = some (.lst []))) (h2 : Ev S Z n2 H0 σ tb (fun v G => ∃ a, v = .ref a ∧ G a = some (.lst []))) : Ev S Z (n1 + n2) H0 σ (tOp (rNeE K) ta tb) (fun v _ => v = .bl false) :=
  fun H b Q P k q => h1 H (n2 + b) _ (P.less (by omega)) k fun x H1 P1 k1 r1 => h2 H1 b _ P1 (k.trans k1) fun y H2 P2 k2 r2 => by
    obtain ⟨a, rfl, g⟩ := r1
    obtain ⟨a2, rfl, g2⟩ := r2
    exact ⟨a, a2, [], rfl, rfl, .inl (.inl (hid_same _ _ (k2 _ _ g))), .inl (.inl (hid_same _ _ g2)), q _ _ P2 (k1.trans k2) rfl⟩
end Lg

namespace Lg
open PySem PySem.Spec PyProof.Rows L2 Lm
/-! ### k14: the far lamps and the many runs at its end -/
def farL (s : Int) : List Lamp := [(true, s), (false, s)]
def farG (s : Int) : List (List Stt) := [[(7, 100000000)], [(7, 100000000 - (99999993 : Int).fmod s)]]
def farR (s : Int) : List Run := [(7, s, (99999993 : Int).fdiv s), (100000000 - s, 1, 1)]
def farR' (s : Int) : List Run := if (99999993 : Int).fmod s = 0 then (farR s).take 1 else farR s
theorem five {s : Int} (h0 : 2 ≤ s) (h1 : s ≤ 6) : s = 2 ∨ s = 3 ∨ s = 4 ∨ s = 5 ∨ s = 6 := by omega
theorem far_one {s : Int} (h0 : 2 ≤ s) (h1 : s ≤ 6) : explB [(true, s)] [[(7, 100000000)]] (runsD (farR' s)) = true := by
  rcases five h0 h1 with e | e | e | e | e <;> subst e <;> decide +kernel
theorem far_two {s : Int} (h0 : 2 ≤ s) (h1 : s ≤ 6) : explB [(false, s)] [[(7, 100000000 - (99999993 : Int).fmod s)]] (runsD ((farR' s).take 1)) = true := by
  rcases five h0 h1 with e | e | e | e | e <;> subst e <;> decide +kernel
theorem far_sh {s : Int} (h0 : 2 ≤ s) (h1 : s ≤ 6) : (runsD (farR' s)).showable = true ∧ (runsD ((farR' s).take 1)).showable = true := by
  rcases five h0 h1 with e | e | e | e | e <;> subst e <;> exact ⟨by decide +kernel, by decide +kernel⟩
def rangeI (n : Nat) : List Int := (List.range n).map fun (k : Nat) => (k : Int)
theorem range_mem {n : Nat} {m : Int} (h : m ∈ rangeI n) : 0 ≤ m ∧ m < n := by
  obtain ⟨k, hk, rfl⟩ := List.mem_map.mp h
  have := List.mem_range.mp hk
  omega
theorem range_asc (n : Nat) : Asc (-1) (rangeI n) := by
  refine asc_of (fun m h => by have := range_mem h; omega) ?_
  unfold rangeI
  rw [List.pairwise_map]
  exact List.pairwise_lt_range.imp fun h => by omega
theorem ones_good {n : Nat} (hn : n ≤ 1000) : ∀ r ∈ ones1 (rangeI n), GoodR r := fun r hr => by
  obtain ⟨m, hm, rfl⟩ := List.mem_map.mp hr
  have := range_mem hm
  exact ⟨this.1, Int.le_refl _, Int.le_refl _, fun _ => rfl, by show m + 1 * (1 - 1) ≤ 1000000000; omega⟩
theorem ones_eq (ms : List Int) : spreadAll (ones1 ms) = ms := by
  induction ms with
  | nil => rfl
  | cons x xs ih =>
    show ap x 1 1 ++ spreadAll (ones1 xs) = x :: xs
    rw [ih, ap_one]; rfl
theorem range_take {n m : Nat} (h : m ≤ n) : (ones1 (rangeI n)).take m = ones1 (rangeI m) := by
  unfold ones1 rangeI
  rw [← List.map_take, ← List.map_take, List.take_range, Nat.min_eq_left h]
theorem range_len (n : Nat) : (ones1 (rangeI n)).length = n := by simp [ones1, rangeI]
theorem many_361 : explB [(true, 400)] [[(0, 760)]] (runsD (ones1 (rangeI 361))) = false := by
  unfold explB
  have e : isN (motErr (runsD (ones1 (rangeI 361)))) = false := by
    show isN (if 360 < ((ones1 (rangeI 361)).map runD).length then two .none (.str "motions") else motGo ((ones1 (rangeI 361)).map runD) 0 (-1)) = false
    rw [if_pos (by rw [List.length_map, range_len]; decide)]; rfl
  rw [e, Bool.false_and]
theorem many_360 : explB [(true, 400)] [[(0, 759)]] (runsD ((ones1 (rangeI 361)).take 360)) = true := by
  rw [range_take (by decide), expl_runs (ones_good (by decide)) (runs_up (by rw [ones_eq]; exact range_asc 360) fun r hr => ⟨(ones_good (n := 360) (by decide) r hr).s, (ones_good (n := 360) (by decide) r hr).c⟩) (by rw [range_len]; exact Nat.le_refl _) rfl (fun l hl => by rw [List.mem_singleton.mp hl]; decide) (fun g hg => by rw [List.mem_singleton.mp hg]; decide), ones_eq]
  decide +kernel
theorem range_F (n : Nat) : (List.range n).map (fun (i : Nat) => runD ((i : Int), 1, 1)) = (ones1 (rangeI n)).map runD := by
  unfold ones1 rangeI
  rw [List.map_map, List.map_map]; rfl
section
variable {K : PySem.W.Frag} {S : Src} {Z H0 : Hp} {σ : L2.St}
theorem ei_8 : Ev S Z 0 H0 σ (tOp (rI CPow fun i j => .int (i ^ j.toNat)) (tC (.int 10)) (tC (.int 8))) (EI 100000000) := (ei_pow (i := 10) (j := 8) (by decide)).imp fun v G e => (show v = _ from e).trans (congrArg V.int (by decide))
end
end Lg

set_option maxHeartbeats 2000000
namespace Ez
open PySem
open PySem.Sem (wp)
/-! ### enumerate(zip(xs, ys)): at the library's level, over two lists or two tuples -/
structure SeqI (II : Heap → Addr → Addr → Nat → Prop) (IS : Heap → Addr → Array Value → Prop) : Prop where
  item : ∀ {prog : Program} {w : World} {A : Around} {E : Value → Shared → Prop} {s : Shared} {it l : Addr} {i : Nat} {items : Array Value} {x : Value} {Q : Value → Shared → Prop}, II s.heap it l i → IS s.heap l items → items[i]? = some x →
    (∀ h', II h' it l (i + 1) → Heap.SameBut it s.heap h' → Q x { s with heap := h' }) → wpAny (model prog w) A (Builtin.SmallTypes.nextOf (.ref it)) Q E s
  done : ∀ {prog : Program} {w : World} {A : Around} {E : Value → Shared → Prop} {s : Shared} {it l : Addr} {i : Nat} {items : Array Value} {Q : Value → Shared → Prop}, A.handled = none → II s.heap it l i → IS s.heap l items → items[i]? = none →
    (∀ h' e, Heap.ExtBut it s.heap h' → (∃ o, h'.get? e = some o ∧ o.cls = .type "StopIteration") → E (.ref e) { s with heap := h' }) → wpAny (model prog w) A (Builtin.SmallTypes.nextOf (.ref it)) Q E s
  keep : ∀ {h h' : Heap} {it l : Addr} {i : Nat}, II h it l i → (∀ o, h.get? it = some o → h'.get? it = some o) → II h' it l i
  fld : ∀ {h : Heap} {it l : Addr} {i : Nat}, II h it l i → ∃ o, h.get? it = some o ∧ ∀ v, o.data ≠ .cell v
  skeep : ∀ {h h' : Heap} {l : Addr} {xs : Array Value}, IS h l xs → (∀ o, h.get? l = some o → h'.get? l = some o) → IS h' l xs
theorem seqI_tuple : SeqI (fun h it l i => h.IsTupleIter it l i) (fun h l xs => h.IsTuple l xs) where
  item := fun a b c d => RZ.nextOf_tuple_item a b c d
  done := fun a b c d e => RZ.nextOf_tuple_end a b c d e
  keep := fun h k => h.at k
  fld := fun ⟨o, e, _, d⟩ => ⟨o, e, fun v q => by rw [d] at q; cases q⟩
  skeep := fun ⟨o, e, r⟩ k => ⟨o, k o e, r⟩
theorem seqI_list : SeqI (fun h it l i => h.IsListIter it l i) (fun h l xs => h.IsList l xs) where
  item := fun a b c d => wpAny_nextOf_list_item a b c d
  done := fun a b c d e => wpAny_nextOf_list_end a b c d e
  keep := fun h k => h.at k
  fld := fun ⟨o, e, _, d⟩ => ⟨o, e, fun v q => by rw [d] at q; cases q⟩
  skeep := fun ⟨o, e, r⟩ k => ⟨o, k o e, r⟩
abbrev IsZp (h : Heap) (z TI TO : Addr) (f0 f1 : Value) : Prop :=
  h.get? z = some { cls := .type "zip", dict := none, data := .fields #[f0, f1, .bool false, .ref TI, .ref TO], slots := #[] }
/-- what a zip knows of its tuple -/
def Own (f0 f1 : Value) : Prop := (f0 = .none ∨ ∃ T : Nat, f0 = rawInt T) ∧ ∃ f : Bool, f1 = .bool f
def ZpAt (h : Heap) (z TI TO : Addr) : Prop := ∃ f0 f1, IsZp h z TI TO f0 f1 ∧ Own f0 f1
section
variable {prog : Program} {w : World} {A : Around} {E : Value → Shared → Prop} {s : Shared}
theorem alive_any {a : Addr} {Q : Option Obj → Shared → Prop} (h : Q (s.heap.get? a) s) : wpAny (model prog w) A (loadIfAlive a) Q E s := fun _ _ _ => h
theorem own_free {z TI TO : Addr} {f0 f1 : Value} {Q : Bool → Shared → Prop} (hz : IsZp s.heap z TI TO f0 f1) (ho : Own f0 f1)
    (h1 : Q true s) (h2 : ∀ h', ZpAt h' z TI TO → Heap.SameBut z s.heap h' → Q false { s with heap := h' }) : wpAny (model prog w) A (Builtin.SmallTypes.ownedTupleIsFree (.ref z)) Q E s := by
  obtain ⟨o0, f, rfl⟩ := ho
  unfold Builtin.SmallTypes.ownedTupleIsFree
  refine wpAny_bind (wpAny_field hz rfl (x := f0) rfl ?_)
  rcases o0 with rfl | ⟨T, rfl⟩
  · exact wpAny_pure h1
  · show wpAny _ _ (loadIfAlive ((T : Int).toNat) >>= _) _ _ _
    rw [Int.toNat_natCast]
    refine wpAny_bind (alive_any ?_)
    cases hT : s.heap.get? T with
    | none => exact wpAny_pure h1
    | some oT =>
      simp only [Option.isNone_some, Bool.false_eq_true, if_false]
      refine wpAny_bind (wpAny_field hz rfl (x := .bool f) rfl ?_)
      cases f with
      | true =>
        rw [if_neg (show ¬ ((Value.bool true != Value.bool true) = true) from Bool.false_ne_true)]
        exact wpAny_pure (h2 s.heap ⟨_, _, hz, .inr ⟨T, rfl⟩, true, rfl⟩ (Heap.SameBut.refl _ _))
      | false =>
        rw [if_pos (show (Value.bool false != Value.bool true) = true from rfl)]
        exact wpAny_bind (wpAny_setField_rec hz (by simp) fun h₁ hz₁ hs₁ => wpAny_pure (h2 h₁ ⟨_, _, hz₁, .inr ⟨T, rfl⟩, true, rfl⟩ hs₁))
variable {II : Heap → Addr → Addr → Nat → Prop} {IS : Heap → Addr → Array Value → Prop}
theorem zip_item (L : SeqI II IS) {z TI TO i1 i2 l1 l2 : Addr} {k1 k2 : Nat} {xs ys : Array Value} {x y a b : Value} {Q : Value → Shared → Prop} (D : ZipApart z TI TO i1 i2 l1 l2)
    (hz : ZpAt s.heap z TI TO) (hTI : IsPair s.heap TI (.ref i1) (.ref i2)) (hTO : IsPair s.heap TO a b)
    (h1 : II s.heap i1 l1 k1) (h2 : II s.heap i2 l2 k2) (hl1 : IS s.heap l1 xs) (hl2 : IS s.heap l2 ys) (hx : xs[k1]? = some x) (hy : ys[k2]? = some y)
    (hQ : ∀ h', ZpAt h' z TI TO → (∃ a b, IsPair h' TO a b) → II h' i1 l1 (k1 + 1) → II h' i2 l2 (k2 + 1) → IsPair h' s.heap.objs.size x y → h'.objs.size = s.heap.objs.size + 1 →
      (∀ c o, c ≠ z → c ≠ TO → c ≠ i1 → c ≠ i2 → s.heap.get? c = some o → h'.get? c = some o) → Q (.ref s.heap.objs.size) { s with heap := h' }) :
    wpAny (model prog w) A (Builtin.«zip.__next__» ⟨[.ref z], []⟩) (fun fin s' => ∃ v, fin = .done (.ret v) ∧ Q v s') E s := by
  obtain ⟨f0, f1, hz, ho⟩ := hz
  show wpAny _ _ (field (.ref z) 2 >>= _) _ _ _
  refine wpAny_bind (wpAny_field hz rfl (x := .bool false) rfl ?_)
  show wpAny _ _ (field (.ref z) 3 >>= _) _ _ _
  refine wpAny_bind (wpAny_field hz rfl (x := .ref TI) rfl ?_)
  refine wpAny_bind (wpAny_seqItems hTI rfl ?_)
  show wpAny _ _ (Builtin.SmallTypes.ownedTupleIsFree (.ref z) >>= _) _ _ _
  refine wpAny_bind (own_free hz ho ?_ fun h₁ hz₁ hs₁ => ?_)
  · simp only [if_true]
    refine wpAny_bind (wpAny_rule ?_)
    refine wpAny_bind (wpAny_field hz rfl (x := .ref TO) rfl ?_)
    refine wpAny_bind (wpAny_setField_rec hz (by simp) fun h₁ hz₁ hs₁ => ?_)
    replace hz₁ : IsZp h₁ z TI TO .ellipsis f1 := hz₁
    refine wpAny_bind ?_
    simp only [List.zipIdx_cons, List.zipIdx_nil, List.forIn_cons, List.forIn_nil]
    refine wpAny_bind (wpAny_bind (wpAny_onRaise ?_))
    show wpAny _ _ (Builtin.SmallTypes.nextOf (.ref i1) >>= _) _ _ _
    refine wpAny_bind (L.item (L.keep h1 fun o e => hs₁.extBut _ o D.i1z e) (L.skeep hl1 fun o e => hs₁.extBut _ o D.l1z e) hx fun h₂ h1₂ hs₂ => wpAny_pure ?_)
    replace hs₂ : Heap.SameBut i1 h₁ h₂ := hs₂
    have hTO₂ : IsPair h₂ TO a b := hs₂.extBut _ _ D.TOi1 (hs₁.extBut _ _ D.TOz hTO)
    refine wpAny_bind (wpAny_seqItems hTO₂ rfl ?_)
    refine wpAny_bind (wpAny_updateSeq_pair hTO₂ fun h₃ hTO₃ hs₃ => ?_)
    replace hs₃ : Heap.SameBut TO h₂ h₃ := hs₃
    replace hTO₃ : IsPair h₃ TO x b := hTO₃
    refine wpAny_bind (wpAny_letGo (wpAny_pure ?_))
    refine wpAny_bind (wpAny_bind (wpAny_onRaise ?_))
    show wpAny _ _ (Builtin.SmallTypes.nextOf (.ref i2) >>= _) _ _ _
    refine wpAny_bind (L.item (L.keep h2 fun o e => hs₃.extBut _ o D.TOi2.symm (hs₂.extBut _ o D.i12.symm (hs₁.extBut _ o D.i2z e)))
      (L.skeep hl2 fun o e => hs₃.extBut _ o D.l2TO (hs₂.extBut _ o D.l2i1 (hs₁.extBut _ o D.l2z e))) hy fun h₄ h2₄ hs₄ => wpAny_pure ?_)
    replace hs₄ : Heap.SameBut i2 h₃ h₄ := hs₄
    have hTO₄ : IsPair h₄ TO x b := hs₄.extBut _ _ D.TOi2 hTO₃
    refine wpAny_bind (wpAny_seqItems hTO₄ rfl ?_)
    refine wpAny_bind (wpAny_updateSeq_pair hTO₄ fun h₅ hTO₅ hs₅ => ?_)
    replace hs₅ : Heap.SameBut TO h₄ h₅ := hs₅
    replace hTO₅ : IsPair h₅ TO x y := hTO₅
    refine wpAny_bind (wpAny_letGo (wpAny_pure (wpAny_pure ?_)))
    refine wpAny_bind (wpAny_seqItems hTO₅ rfl ?_)
    refine wpAny_bind (wpAny_newTuple ?_)
    have hsz : h₅.objs.size = s.heap.objs.size := by rw [hs₅.1, hs₄.1, hs₃.1, hs₂.1, hs₁.1]
    have hz₅ : IsZp h₅ z TI TO .ellipsis f1 := hs₅.extBut _ _ D.TOz.symm (hs₄.extBut _ _ D.i2z.symm (hs₃.extBut _ _ D.TOz.symm (hs₂.extBut _ _ D.i1z.symm hz₁)))
    have hk₅ : ∀ c o, c ≠ z → c ≠ TO → c ≠ i1 → c ≠ i2 → s.heap.get? c = some o → h₅.get? c = some o := fun c o c1 c2 c3 c4 e =>
      hs₅.extBut _ _ c2 (hs₄.extBut _ _ c4 (hs₃.extBut _ _ c2 (hs₂.extBut _ _ c3 (hs₁.extBut _ _ c1 e))))
    have h1₅ : II h₅ i1 l1 (k1 + 1) := L.keep h1₂ fun o e => hs₅.extBut _ o D.TOi1.symm (hs₄.extBut _ o D.i12 (hs₃.extBut _ o D.TOi1.symm e))
    have h2₅ : II h₅ i2 l2 (k2 + 1) := L.keep h2₄ fun o e => hs₅.extBut _ o D.TOi2.symm e
    have hzlt : z < h₅.objs.size := Heap.lt_size hz₅
    show wpAny _ _ (Builtin.SmallTypes.ownedTupleHandOut (.ref z) (.ref h₅.objs.size) >>= _) _ _ _
    refine wpAny_bind ?_
    unfold Builtin.SmallTypes.ownedTupleHandOut
    have hz₆ : IsZp (h₅.push { cls := .type "tuple", data := .seq #[x, y] }) z TI TO .ellipsis f1 := Heap.get?_push_of_some _ hz₅
    refine wpAny_bind (wpAny_setField_rec hz₆ (by simp) fun h₇ hz₇ hs₇ => ?_)
    replace hz₇ : IsZp h₇ z TI TO (rawInt h₅.objs.size) f1 := hz₇
    refine wpAny_setField_rec hz₇ (by simp) fun h₈ hz₈ hs₈ => ?_
    replace hz₈ : IsZp h₈ z TI TO (rawInt h₅.objs.size) (.bool false) := hz₈
    have up : ∀ c o, c ≠ z → h₅.get? c = some o → h₈.get? c = some o := fun c o c1 e => hs₈.extBut _ _ c1 (hs₇.extBut _ _ c1 (Heap.get?_push_of_some _ e))
    have hT₈ : IsPair h₈ h₅.objs.size x y := hs₈.extBut _ _ (Nat.ne_of_gt hzlt) (hs₇.extBut _ _ (Nat.ne_of_gt hzlt) (Heap.get?_push_size _ rfl))
    have hz8 : h₈.objs.size = h₅.objs.size + 1 := by rw [hs₈.1, hs₇.1, Heap.size_push]
    rw [hsz] at hz₈ hT₈ hz8
    refine wpAny_pure ⟨_, rfl, ?_⟩
    show Q (.ref h₅.objs.size) _
    rw [hsz]
    exact hQ h₈ ⟨_, _, hz₈, .inr ⟨_, rfl⟩, false, rfl⟩ ⟨x, y, up _ _ D.TOz hTO₅⟩ (L.keep h1₅ fun o e => up _ o D.i1z e) (L.keep h2₅ fun o e => up _ o D.i2z e) hT₈ hz8 fun c o c1 c2 c3 c4 e => up c o c1 (hk₅ c o c1 c2 c3 c4 e)
  · simp only [Bool.false_eq_true, if_false]
    refine wpAny_bind ?_
    rw [← Array.forIn_toList]
    simp only [List.forIn_cons, List.forIn_nil]
    refine wpAny_bind (wpAny_bind (wpAny_holding ?_))
    show wpAny _ _ (Builtin.SmallTypes.nextOf (.ref i1) >>= _) _ _ _
    refine wpAny_bind (L.item (s := { s with heap := h₁ }) (L.keep h1 fun o e => hs₁.extBut _ o D.i1z e) (L.skeep hl1 fun o e => hs₁.extBut _ o D.l1z e) hx fun h₂ h1₂ hs₂ => wpAny_pure ?_)
    replace hs₂ : Heap.SameBut i1 h₁ h₂ := hs₂
    refine wpAny_pure ?_
    refine wpAny_bind (wpAny_bind (wpAny_holding ?_))
    show wpAny _ _ (Builtin.SmallTypes.nextOf (.ref i2) >>= _) _ _ _
    refine wpAny_bind (L.item (s := { s with heap := h₂ }) (L.keep h2 fun o e => hs₂.extBut _ o D.i12.symm (hs₁.extBut _ o D.i2z e)) (L.skeep hl2 fun o e => hs₂.extBut _ o D.l2i1 (hs₁.extBut _ o D.l2z e)) hy fun h₃ h2₃ hs₃ => wpAny_pure ?_)
    replace hs₃ : Heap.SameBut i2 h₂ h₃ := hs₃
    refine wpAny_pure (wpAny_pure ?_)
    show wpAny _ _ (newTuple [x, y] >>= _) _ _ _
    refine wpAny_bind (wpAny_newTuple ?_)
    have hsz : h₃.objs.size = s.heap.objs.size := by rw [hs₃.1, hs₂.1, hs₁.1]
    obtain ⟨g0, g1, hz₁, hg⟩ := hz₁
    have hz₃ : IsZp h₃ z TI TO g0 g1 := hs₃.extBut _ _ D.i2z.symm (hs₂.extBut _ _ D.i1z.symm hz₁)
    have hk : ∀ c o, c ≠ z → c ≠ i1 → c ≠ i2 → s.heap.get? c = some o → h₃.get? c = some o := fun c o c1 c2 c3 e => hs₃.extBut _ _ c3 (hs₂.extBut _ _ c2 (hs₁.extBut _ _ c1 e))
    have h1₃ : II h₃ i1 l1 (k1 + 1) := L.keep h1₂ fun o e => hs₃.extBut _ o D.i12 e
    refine wpAny_pure ⟨_, rfl, ?_⟩
    show Q (.ref h₃.objs.size) _
    have hp : IsPair (h₃.push { cls := .type "tuple", data := .seq #[x, y] }) h₃.objs.size x y := Heap.get?_push_size _ rfl
    have hz4 : (h₃.push { cls := .type "tuple", data := .seq #[x, y] }).objs.size = h₃.objs.size + 1 := Heap.size_push ..
    rw [hsz] at hp hz4 ⊢
    exact hQ _ ⟨_, _, Heap.get?_push_of_some _ hz₃, hg⟩ ⟨a, b, Heap.get?_push_of_some _ (hk _ _ D.TOz D.TOi1 D.TOi2 hTO)⟩ (L.keep h1₃ fun o e => Heap.get?_push_of_some _ e) (L.keep h2₃ fun o e => Heap.get?_push_of_some _ e) hp hz4 fun c o c1 _ c2 c3 e => Heap.get?_push_of_some _ (hk c o c1 c2 c3 e)
theorem zip_end (L : SeqI II IS) {z TI TO i1 i2 l1 l2 : Addr} {k1 k2 : Nat} {xs ys : Array Value} {a b : Value} {Q : Fin → Shared → Prop} (hh : A.handled = none) (D : ZipApart z TI TO i1 i2 l1 l2)
    (hz : ZpAt s.heap z TI TO) (hTI : IsPair s.heap TI (.ref i1) (.ref i2)) (hTO : IsPair s.heap TO a b)
    (h1 : II s.heap i1 l1 k1) (h2 : II s.heap i2 l2 k2) (hl1 : IS s.heap l1 xs) (hl2 : IS s.heap l2 ys) (hend : xs[k1]? = none ∨ ys[k2]? = none)
    (hE : ∀ h' e, (∀ c o, c ≠ z → c ≠ TO → c ≠ i1 → c ≠ i2 → s.heap.get? c = some o → h'.get? c = some o) → (∃ o, h'.get? e = some o ∧ o.cls = .type "StopIteration") → E (.ref e) { s with heap := h' }) :
    wpAny (model prog w) A (Builtin.«zip.__next__» ⟨[.ref z], []⟩) Q E s := by
  obtain ⟨f0, f1, hz, ho⟩ := hz
  show wpAny _ _ (field (.ref z) 2 >>= _) _ _ _
  refine wpAny_bind (wpAny_field hz rfl (x := .bool false) rfl ?_)
  show wpAny _ _ (field (.ref z) 3 >>= _) _ _ _
  refine wpAny_bind (wpAny_field hz rfl (x := .ref TI) rfl ?_)
  refine wpAny_bind (wpAny_seqItems hTI rfl ?_)
  show wpAny _ _ (Builtin.SmallTypes.ownedTupleIsFree (.ref z) >>= _) _ _ _
  refine wpAny_bind (own_free hz ho ?_ fun h₁ hz₁ hs₁ => ?_)
  · simp only [if_true]
    refine wpAny_bind (wpAny_rule ?_)
    refine wpAny_bind (wpAny_field hz rfl (x := .ref TO) rfl ?_)
    refine wpAny_bind (wpAny_setField_rec hz (by simp) fun h₁ hz₁ hs₁ => ?_)
    replace hz₁ : IsZp h₁ z TI TO .ellipsis f1 := hz₁
    refine wpAny_bind ?_
    simp only [List.zipIdx_cons, List.zipIdx_nil, List.forIn_cons, List.forIn_nil]
    refine wpAny_bind (wpAny_bind (wpAny_onRaise ?_))
    show wpAny _ _ (Builtin.SmallTypes.nextOf (.ref i1) >>= _) _ _ _
    cases hx : xs[k1]? with
    | none =>
      refine wpAny_bind (L.done hh (L.keep h1 fun o e => hs₁.extBut _ o D.i1z e) (L.skeep hl1 fun o e => hs₁.extBut _ o D.l1z e) hx fun h₂ e hs₂ he => ?_)
      obtain ⟨oe, hoe, hce⟩ := he
      have hz₂ : IsZp h₂ z TI TO .ellipsis f1 := hs₂ _ _ D.i1z.symm hz₁
      have hez : e ≠ z := fun x => by subst x; rw [hz₂] at hoe; cases hoe; simp at hce
      refine wpAny_setField_rec hz₂ (by simp) fun h₃ _ hs₃ => hE h₃ e (fun c o c1 _ c3 _ x => hs₃.extBut _ _ c1 (hs₂ _ _ c3 (hs₁.extBut _ _ c1 x))) ⟨oe, hs₃.extBut _ _ hez hoe, hce⟩
    | some x =>
      have hy : ys[k2]? = none := by rcases hend with h | h; rw [hx] at h; cases h; exact h
      refine wpAny_bind (L.item (L.keep h1 fun o e => hs₁.extBut _ o D.i1z e) (L.skeep hl1 fun o e => hs₁.extBut _ o D.l1z e) hx fun h₂ h1₂ hs₂ => wpAny_pure ?_)
      replace hs₂ : Heap.SameBut i1 h₁ h₂ := hs₂
      have hTO₂ : IsPair h₂ TO a b := hs₂.extBut _ _ D.TOi1 (hs₁.extBut _ _ D.TOz hTO)
      refine wpAny_bind (wpAny_seqItems hTO₂ rfl ?_)
      refine wpAny_bind (wpAny_updateSeq_pair hTO₂ fun h₃ hTO₃ hs₃ => ?_)
      replace hs₃ : Heap.SameBut TO h₂ h₃ := hs₃
      refine wpAny_bind (wpAny_letGo (wpAny_pure ?_))
      refine wpAny_bind (wpAny_bind (wpAny_onRaise ?_))
      show wpAny _ _ (Builtin.SmallTypes.nextOf (.ref i2) >>= _) _ _ _
      refine wpAny_bind (L.done hh (L.keep h2 fun o e => hs₃.extBut _ o D.TOi2.symm (hs₂.extBut _ o D.i12.symm (hs₁.extBut _ o D.i2z e)))
        (L.skeep hl2 fun o e => hs₃.extBut _ o D.l2TO (hs₂.extBut _ o D.l2i1 (hs₁.extBut _ o D.l2z e))) hy fun h₄ e hs₄ he => ?_)
      obtain ⟨oe, hoe, hce⟩ := he
      have hz₄ : IsZp h₄ z TI TO .ellipsis f1 := hs₄ _ _ D.i2z.symm (hs₃.extBut _ _ D.TOz.symm (hs₂.extBut _ _ D.i1z.symm hz₁))
      have hez : e ≠ z := fun x => by subst x; rw [hz₄] at hoe; cases hoe; simp at hce
      refine wpAny_setField_rec hz₄ (by simp) fun h₅ _ hs₅ => hE h₅ e (fun c o c1 c2 c3 c4 x => hs₅.extBut _ _ c1 (hs₄ _ _ c4 (hs₃.extBut _ _ c2 (hs₂.extBut _ _ c3 (hs₁.extBut _ _ c1 x))))) ⟨oe, hs₅.extBut _ _ hez hoe, hce⟩
  · simp only [Bool.false_eq_true, if_false]
    refine wpAny_bind ?_
    rw [← Array.forIn_toList]
    simp only [List.forIn_cons, List.forIn_nil]
    refine wpAny_bind (wpAny_bind (wpAny_holding ?_))
    show wpAny _ _ (Builtin.SmallTypes.nextOf (.ref i1) >>= _) _ _ _
    cases hx : xs[k1]? with
    | none =>
      refine wpAny_bind (L.done (s := { s with heap := h₁ }) hh (L.keep h1 fun o e => hs₁.extBut _ o D.i1z e) (L.skeep hl1 fun o e => hs₁.extBut _ o D.l1z e) hx fun h₂ e hs₂ he => ?_)
      exact hE h₂ e (fun c o c1 _ c2 _ x => hs₂ _ _ c2 (hs₁.extBut _ _ c1 x)) he
    | some x =>
      have hy : ys[k2]? = none := by rcases hend with h | h; rw [hx] at h; cases h; exact h
      refine wpAny_bind (L.item (s := { s with heap := h₁ }) (L.keep h1 fun o e => hs₁.extBut _ o D.i1z e) (L.skeep hl1 fun o e => hs₁.extBut _ o D.l1z e) hx fun h₂ h1₂ hs₂ => wpAny_pure ?_)
      replace hs₂ : Heap.SameBut i1 h₁ h₂ := hs₂
      refine wpAny_pure ?_
      refine wpAny_bind (wpAny_bind (wpAny_holding ?_))
      show wpAny _ _ (Builtin.SmallTypes.nextOf (.ref i2) >>= _) _ _ _
      refine wpAny_bind (L.done (s := { s with heap := h₂ }) hh (L.keep h2 fun o e => hs₂.extBut _ o D.i12.symm (hs₁.extBut _ o D.i2z e)) (L.skeep hl2 fun o e => hs₂.extBut _ o D.l2i1 (hs₁.extBut _ o D.l2z e)) hy fun h₃ e hs₃ he => ?_)
      exact hE h₃ e (fun c o c1 _ c2 c3 x => hs₃ _ _ c3 (hs₂.extBut _ _ c2 (hs₁.extBut _ _ c1 x))) he
/-- the one asked by enumerate -/
theorem nextOf_zip_item (L : SeqI II IS) {z TI TO i1 i2 l1 l2 : Addr} {k1 k2 : Nat} {xs ys : Array Value} {x y a b : Value} {Q : Value → Shared → Prop} (D : ZipApart z TI TO i1 i2 l1 l2)
    (hz : ZpAt s.heap z TI TO) (hTI : IsPair s.heap TI (.ref i1) (.ref i2)) (hTO : IsPair s.heap TO a b)
    (h1 : II s.heap i1 l1 k1) (h2 : II s.heap i2 l2 k2) (hl1 : IS s.heap l1 xs) (hl2 : IS s.heap l2 ys) (hx : xs[k1]? = some x) (hy : ys[k2]? = some y)
    (hQ : ∀ h', ZpAt h' z TI TO → (∃ a b, IsPair h' TO a b) → II h' i1 l1 (k1 + 1) → II h' i2 l2 (k2 + 1) → IsPair h' s.heap.objs.size x y → h'.objs.size = s.heap.objs.size + 1 →
      (∀ c o, c ≠ z → c ≠ TO → c ≠ i1 → c ≠ i2 → s.heap.get? c = some o → h'.get? c = some o) → Q (.ref s.heap.objs.size) { s with heap := h' }) :
    wpAny (model prog w) A (Builtin.SmallTypes.nextOf (.ref z)) Q E s := by
  have hTy : s.TypeIs (.ref z) "zip" := by obtain ⟨_, _, e, _⟩ := hz; exact ⟨_, e, rfl⟩
  unfold Builtin.SmallTypes.nextOf
  exact wpAny_bind (wpAny_callSpecial?_slot (name := Str.ofString "__next__") hTy F.slot_zip_next
    (wpAny_call_entry F.slot_zip_next hTy F.entry_zip_next (zip_item L D hz hTI hTO h1 h2 hl1 hl2 hx hy fun h' a1 a2 a3 a4 a5 a6 a7 => wpAny_pure (hQ h' a1 a2 a3 a4 a5 a6 a7)) (F.args_zip_next_1 _)))
theorem nextOf_zip_end (L : SeqI II IS) {z TI TO i1 i2 l1 l2 : Addr} {k1 k2 : Nat} {xs ys : Array Value} {a b : Value} {Q : Value → Shared → Prop} (hh : A.handled = none) (D : ZipApart z TI TO i1 i2 l1 l2)
    (hz : ZpAt s.heap z TI TO) (hTI : IsPair s.heap TI (.ref i1) (.ref i2)) (hTO : IsPair s.heap TO a b)
    (h1 : II s.heap i1 l1 k1) (h2 : II s.heap i2 l2 k2) (hl1 : IS s.heap l1 xs) (hl2 : IS s.heap l2 ys) (hend : xs[k1]? = none ∨ ys[k2]? = none)
    (hE : ∀ h' e, (∀ c o, c ≠ z → c ≠ TO → c ≠ i1 → c ≠ i2 → s.heap.get? c = some o → h'.get? c = some o) → (∃ o, h'.get? e = some o ∧ o.cls = .type "StopIteration") → E (.ref e) { s with heap := h' }) :
    wpAny (model prog w) A (Builtin.SmallTypes.nextOf (.ref z)) Q E s := by
  have hTy : s.TypeIs (.ref z) "zip" := by obtain ⟨_, _, e, _⟩ := hz; exact ⟨_, e, rfl⟩
  unfold Builtin.SmallTypes.nextOf
  exact wpAny_bind (wpAny_callSpecial?_slot (name := Str.ofString "__next__") hTy F.slot_zip_next
    (wpAny_call_entry F.slot_zip_next hTy F.entry_zip_next (zip_end L hh D hz hTI hTO h1 h2 hl1 hl2 hend hE) (F.args_zip_next_1 _)))
theorem enum_zip_item (L : SeqI II IS) {e z TI TO i1 i2 l1 l2 : Addr} {k : Nat} {xs ys : Array Value} {x y a b old : Value} {Q : Option Value → Shared → Prop} (D : ZipApart z TI TO i1 i2 l1 l2)
    (he : IsEnum s.heap e z (k : Int) old) (n1 : e ≠ z) (n2 : e ≠ TI) (n3 : e ≠ TO) (n4 : e ≠ i1) (n5 : e ≠ i2)
    (hz : ZpAt s.heap z TI TO) (hTI : IsPair s.heap TI (.ref i1) (.ref i2)) (hTO : IsPair s.heap TO a b)
    (h1 : II s.heap i1 l1 k) (h2 : II s.heap i2 l2 k) (hl1 : IS s.heap l1 xs) (hl2 : IS s.heap l2 ys) (hx : xs[k]? = some x) (hy : ys[k]? = some y)
    (hQ : ∀ h' tk, IsEnumOut h' e z ((k : Int) + 1) (.ref s.heap.objs.size) (s.heap.objs.size + 1) → ZpAt h' z TI TO → (∃ a b, IsPair h' TO a b) → II h' i1 l1 (k + 1) → II h' i2 l2 (k + 1) → IsPair h' s.heap.objs.size x y →
      h'.get? (s.heap.objs.size + 1) = some { cls := .type "tuple", data := .seq #[.int k tk, .ref s.heap.objs.size] } →
      (∀ c o, c ≠ e → c ≠ z → c ≠ TO → c ≠ i1 → c ≠ i2 → s.heap.get? c = some o → h'.get? c = some o) → Q (some (.ref (s.heap.objs.size + 1))) { s with heap := h', toks := s.toks + 1 }) :
    wpAny (model prog w) A (pyNext (.ref e)) Q E s := by
  have hTy : s.TypeIs (.ref e) "enumerate" := ⟨_, he, rfl⟩
  unfold pyNext
  refine wpAny_bind (wpAny_attempt (wpAny_callSpecial?_slot (name := Str.ofString "__next__") hTy F.slot_enumerate_next
    (wpAny_call_entry F.slot_enumerate_next hTy F.entry_enumerate_next ?_ (F.args_enumerate_next_1 _))))
  obtain ⟨hp, g, d, tk, os⟩ := s
  show wpAny _ _ (field (.ref e) 2 >>= _) _ _ _
  refine wpAny_bind (wpAny_field he rfl (x := .ref z) rfl ?_)
  have hel : e < hp.objs.size := Heap.lt_size he
  refine wpAny_bind (nextOf_zip_item L D hz hTI hTO h1 h2 hl1 hl2 hx hy fun h₁ z₁ to₁ it1 it2 p₁ sz₁ k₁ => ?_)
  replace p₁ : IsPair h₁ hp.objs.size x y := p₁
  replace sz₁ : h₁.objs.size = hp.objs.size + 1 := sz₁
  replace k₁ : ∀ c o, c ≠ z → c ≠ TO → c ≠ i1 → c ≠ i2 → hp.get? c = some o → h₁.get? c = some o := k₁
  show wpAny _ _ (field (.ref e) 3 >>= _) _ _ ⟨h₁, g, d, tk, os⟩
  have he₁ : IsEnum h₁ e z (k : Int) old := k₁ _ _ n1 n3 n4 n5 he
  refine wpAny_bind (wpAny_field he₁ rfl (x := rawInt k) rfl ?_)
  show wpAny _ _ (field (.ref e) 4 >>= _) _ _ ⟨h₁, g, d, tk, os⟩
  refine wpAny_bind (wpAny_field he₁ rfl (x := .none) rfl ?_)
  show wpAny _ _ (mkInt k >>= _) _ _ ⟨h₁, g, d, tk, os⟩
  refine wpAny_bind (wpAny_mkInt ?_)
  show wpAny _ _ (setField (.ref e) 3 (rawInt ((k : Int) + 1)) >>= _) _ _ ⟨h₁, g, d, tk + 1, os⟩
  refine wpAny_bind (wpAny_setField_rec he₁ (by simp) fun h₂ he₂ hs₂ => ?_)
  replace hs₂ : Heap.SameBut e h₁ h₂ := hs₂
  replace he₂ : IsEnum h₂ e z ((k : Int) + 1) old := he₂
  show wpAny _ _ (setField (.ref e) 4 .none >>= _) _ _ ⟨h₂, g, d, tk + 1, os⟩
  refine wpAny_bind (wpAny_setField_rec he₂ (by simp) fun h₃ he₃ hs₃ => ?_)
  replace hs₃ : Heap.SameBut e h₂ h₃ := hs₃
  replace he₃ : IsEnum h₃ e z ((k : Int) + 1) old := he₃
  show wpAny _ _ (newTuple [.int k tk, .ref hp.objs.size] >>= _) _ _ ⟨h₃, g, d, tk + 1, os⟩
  refine wpAny_bind (wpAny_newTuple ?_)
  have he₄ : IsEnum (h₃.push { cls := .type "tuple", data := .seq #[.int k tk, .ref hp.objs.size] }) e z ((k : Int) + 1) old := Heap.get?_push_of_some _ he₃
  have hsz : h₃.objs.size = hp.objs.size + 1 := by rw [hs₃.1, hs₂.1, sz₁]
  have up : ∀ c o, c ≠ e → h₁.get? c = some o → (h₃.push { cls := .type "tuple", data := .seq #[.int k tk, .ref hp.objs.size] }).get? c = some o := fun c o hc q => Heap.get?_push_of_some _ (hs₃.extBut c o hc (hs₂.extBut c o hc q))
  have ht : (h₃.push { cls := .type "tuple", data := .seq #[.int k tk, .ref hp.objs.size] }).get? (hp.objs.size + 1) = some { cls := .type "tuple", data := .seq #[.int k tk, .ref hp.objs.size] } := by rw [← hsz]; exact Heap.get?_push_size _ rfl
  generalize h₃.push { cls := .type "tuple", data := .seq #[.int k tk, .ref hp.objs.size] } = h₄ at he₄ up ht ⊢
  rw [hsz]
  clear he₃ hs₃ he₂ hs₂ hsz
  show wpAny _ _ (Builtin.SmallTypes.ownedTupleIsFree (.ref e) >>= _) _ _ ⟨h₄, g, d, tk + 1, os⟩
  refine wpAny_bind ?_
  unfold Builtin.SmallTypes.ownedTupleIsFree
  refine wpAny_bind (wpAny_field he₄ rfl (x := .none) rfl (wpAny_pure ?_))
  simp only [if_true]
  refine wpAny_bind (wpAny_rule ?_)
  refine wpAny_bind (wpAny_field he₄ rfl (x := old) rfl ?_)
  refine wpAny_bind (wpAny_setField_rec he₄ (by simp) fun h₅ he₅ hs₅ => ?_)
  replace hs₅ : Heap.SameBut e h₄ h₅ := hs₅
  replace he₅ : IsEnum h₅ e z ((k : Int) + 1) (.ref hp.objs.size) := he₅
  show wpAny _ _ (Builtin.SmallTypes.ownedTupleHandOut (.ref e) (.ref (hp.objs.size + 1)) >>= _) _ _ ⟨h₅, g, d, tk + 1, os⟩
  refine wpAny_bind ?_
  unfold Builtin.SmallTypes.ownedTupleHandOut
  refine wpAny_bind (wpAny_setField_rec he₅ (by simp) fun h₆ he₆ hs₆ => ?_)
  replace hs₆ : Heap.SameBut e h₅ h₆ := hs₆
  replace he₆ : IsEnumOut h₆ e z ((k : Int) + 1) (.ref hp.objs.size) (hp.objs.size + 1) := he₆
  refine wpAny_setField_rec he₆ (by simp) fun h₇ he₇ hs₇ => ?_
  replace hs₇ : Heap.SameBut e h₆ h₇ := hs₇
  replace he₇ : IsEnumOut h₇ e z ((k : Int) + 1) (.ref hp.objs.size) (hp.objs.size + 1) := he₇
  have up2 : ∀ c o, c ≠ e → h₄.get? c = some o → h₇.get? c = some o := fun c o hc q => hs₇.extBut c o hc (hs₆.extBut c o hc (hs₅.extBut c o hc q))
  have up3 : ∀ c o, c ≠ e → h₁.get? c = some o → h₇.get? c = some o := fun c o hc q => up2 c o hc (up c o hc q)
  obtain ⟨f0, f1, z₁, ho⟩ := z₁
  obtain ⟨a', b', to₁⟩ := to₁
  refine wpAny_bind (wpAny_letGo (wpAny_pure ⟨_, rfl, wpAny_pure (hQ h₇ tk he₇ ⟨f0, f1, up3 _ _ n1.symm z₁, ho⟩ ⟨a', b', up3 _ _ n3.symm to₁⟩ (L.keep it1 fun o q => up3 _ o n4.symm q) (L.keep it2 fun o q => up3 _ o n5.symm q) (up3 _ _ (Nat.ne_of_gt hel) p₁) (up2 _ _ (Nat.ne_of_gt (Nat.lt_succ_of_lt hel)) ht) fun c o c0 c1 c2 c3 c4 q => up3 c o c0 (k₁ c o c1 c2 c3 c4 q))⟩))
theorem enum_zip_end (L : SeqI II IS) {e z TI TO i1 i2 l1 l2 : Addr} {k : Nat} {xs ys : Array Value} {a b old : Value} {Q : Option Value → Shared → Prop} (hh : A.handled = none) (D : ZipApart z TI TO i1 i2 l1 l2)
    (he : IsEnum s.heap e z (k : Int) old)
    (hz : ZpAt s.heap z TI TO) (hTI : IsPair s.heap TI (.ref i1) (.ref i2)) (hTO : IsPair s.heap TO a b)
    (h1 : II s.heap i1 l1 k) (h2 : II s.heap i2 l2 k) (hl1 : IS s.heap l1 xs) (hl2 : IS s.heap l2 ys) (hend : xs[k]? = none ∨ ys[k]? = none)
    (hQ : ∀ h', (∀ c o, c ≠ z → c ≠ TO → c ≠ i1 → c ≠ i2 → s.heap.get? c = some o → h'.get? c = some o) → Q none { s with heap := h' }) :
    wpAny (model prog w) A (pyNext (.ref e)) Q E s := by
  have hTy : s.TypeIs (.ref e) "enumerate" := ⟨_, he, rfl⟩
  unfold pyNext
  refine wpAny_bind (wpAny_attempt (wpAny_callSpecial?_slot (name := Str.ofString "__next__") hTy F.slot_enumerate_next
    (wpAny_call_entry F.slot_enumerate_next hTy F.entry_enumerate_next ?_ (F.args_enumerate_next_1 _))))
  show wpAny _ _ (field (.ref e) 2 >>= _) _ _ _
  refine wpAny_bind (wpAny_field he rfl (x := .ref z) rfl ?_)
  refine wpAny_bind (nextOf_zip_end L hh D hz hTI hTO h1 h2 hl1 hl2 hend fun h' x k hx' => ?_)
  obtain ⟨o, ho, hc⟩ := hx'
  refine wpAny_bind (wpAny_isInstance (T := "StopIteration") (b := true) ⟨o, ho, hc⟩ isSubtype_stop ?_)
  exact wpAny_pure (hQ _ k)
end
end Ez

set_option maxHeartbeats 2000000
namespace Ez
open PySem PySem.Spec PyProof.Rows L2
section
variable {X : Cx} {pins : List (Addr × Obj)} {σ : L2.St} {H : Hp} {s : Shared} {h' : Heap}
/-- several records of ours have turned, and two new objects are laid -/
theorem turnedNew2 {t' : Nat} {ch : List Addr} {T0 T : Addr} {o0 ob : HO} (I : Inv X pins σ H s) (k : ∀ b o, b ∉ ch → s.heap.get? b = some o → h'.get? b = some o) (hf : ∀ b ∈ ch, FpOk X pins H b) (hT0 : s.heap.objs.size ≤ T0) (hT : s.heap.objs.size ≤ T) (hne : T0 ≠ T)
    (new0 : ObjOk X.prog X.w (upd (upd H T0 o0) T ob) h' T0 o0) (new : ObjOk X.prog X.w (upd (upd H T0 o0) T ob) h' T ob) : Inv X pins σ (upd (upd H T0 o0) T ob) { s with heap := h', toks := t' } := by
  have hn0 : H T0 = none := I.hok.fresh hT0
  have hn : H T = none := I.hok.fresh hT
  have nit : ∀ b u, H b = some u → b ∉ ch := fun b u e z => by
    have q := (hf b z).1
    rw [q] at e; cases e
  have old : ∀ b, b ≠ T0 → b ≠ T → upd (upd H T0 o0) T ob b = H b := fun b h0 h1 => by rw [upd_ne h1, upd_ne h0]
  have oldS : ∀ b u, H b = some u → upd (upd H T0 o0) T ob b = some u := fun b u e => by rw [old b (ne_of_none e hn0) (ne_of_none e hn)]; exact e
  refine I.step (g' := s.gens) (d' := s.drawn) (ch := ch) (fun b hb => ⟨(hf b hb).2.2.2.1, (hf b hb).2.1, (hf b hb).2.2.2.2.1, (hf b hb).2.2.2.2.2⟩) (fun b o _ _ hc e _ => k b o hc e) (fun b o _ _ hc e _ => ⟨o.slots, k b o hc e⟩)
    (fun b o _ e n => ?_) (fun b o hc e => ⟨o, k b o hc e⟩) (fun b xs e => oldS _ _ e) (fun b o u e => oldS _ _ e) (fun b ps e => ⟨#[], ?_⟩) (fun m hm => ?_) (fun b u e => ?_) I.bare
  · rw [old b (Nat.ne_of_lt (Nat.lt_of_lt_of_le (Heap.lt_size e) hT0)) (Nat.ne_of_lt (Nat.lt_of_lt_of_le (Heap.lt_size e) hT))]; exact n
  · rw [oldS _ _ e]; simp
  · obtain ⟨o, es, ep, ho, r⟩ := hm
    exact ⟨o, es, ep, k _ o (fun z => (hf _ z).2.1 rfl) ho, r⟩
  · by_cases hb : b = T
    · subst hb
      rw [upd_same] at e
      cases e
      exact new
    · by_cases hb0 : b = T0
      · subst hb0
        rw [upd_ne hb, upd_same] at e
        cases e
        exact new0
      · rw [old b hb0 hb] at e
        refine (I.hok b u e).stay (fun c v hc q => k c v ?_ q) (fun c q => oldS _ _ q) fun c xs q => oldS _ _ q
        rcases hc with z | z
        · rw [z]; exact nit b u e
        · exact nit c _ z
end
/-- enumerate(zip(xs, ys)): S tells which sequence stands at an address -/
def Itez (S : Hp → Addr → List V → Prop) (a b : Addr) : It :=
  ⟨fun i H => ∃ (xs ys : List V) (x y : V), S H a xs ∧ S H b ys ∧ xs[i]? = some x ∧ ys[i]? = some y,
    fun i H v H' => ∃ T0 T x y, v = .ref T ∧ H T0 = none ∧ H T = none ∧ T0 ≠ T ∧ H' = upd (upd H T0 (.tup [x, y])) T (.tup [.int (i : Nat), .ref T0]) ∧ (∀ xs, S H a xs → xs[i]? = some x) ∧ ∀ ys, S H b ys → ys[i]? = some y,
    fun i H => ∃ xs ys : List V, S H a xs ∧ S H b ys ∧ (xs.length ≤ i ∨ ys.length ≤ i)⟩
structure SeqS (K : PySem.W.Frag) (IS : Heap → Addr → Array Value → Prop) (S : Hp → Addr → List V → Prop) : Prop where
  at_ : ∀ {X : Cx} {pins : List (Addr × Obj)} {σ : L2.St} {H : Hp} {s : Shared} {a : Addr} {xs : List V}, X.K = K → Inv X pins σ H s → S H a xs → ∃ its, Vals xs its ∧ IS s.heap a its.toArray
  inj : ∀ {X : Cx} {pins : List (Addr × Obj)} {σ : L2.St} {H : Hp} {s : Shared} {a : Addr} {xs ys : List V}, X.K = K → Inv X pins σ H s → S H a xs → S H a ys → xs = ys
theorem seqS_tuple {K : PySem.W.Frag} : SeqS K (fun h l xs => h.IsTuple l xs) (fun H a xs => SqT K H a xs) where
  at_ := fun e I h => by
    subst e
    obtain ⟨its, rv, p, _⟩ := I.tuple h
    exact ⟨its, rv, p⟩
  inj := fun e I h1 h2 => by
    subst e
    exact I.tuple_inj h1 h2
theorem seqS_list {K : PySem.W.Frag} : SeqS K (fun h l xs => h.IsList l xs) (fun H a xs => SqL K H a xs) where
  at_ := fun e I h => by
    subst e
    obtain ⟨its, rv, p, _⟩ := I.list h
    exact ⟨its, rv, p.isList⟩
  inj := fun e I h1 h2 => by
    subst e
    exact I.list_inj h1 h2
theorem turn_ez {II : Heap → Addr → Addr → Nat → Prop} {IS : Heap → Addr → Array Value → Prop} {S : Hp → Addr → List V → Prop} {P : Program} {w : World} {K : PySem.W.Frag} (L : SeqI II IS) (LS : SeqS K IS S) {elts : List Expr} {kk : Nat} {tpos : Pos} {a b e z TI TO i1 i2 : Addr} (D : ZipApart z TI TO i1 i2 a b)
    (n1 : e ≠ z) (n2 : e ≠ TI) (n3 : e ≠ TO) (n4 : e ≠ i1) (n5 : e ≠ i2) :
    Turn P w K (.Tuple elts kk tpos) (Itez S a b) [e, z, TI, TO, i1, i2] e (fun i h => (∃ old, IsEnum h e z ((i : Nat) : Int) old) ∧ ZpAt h z TI TO ∧ IsPair h TI (.ref i1) (.ref i2) ∧ (∃ x y, IsPair h TO x y) ∧ II h i1 a i ∧ II h i2 b i) where
  mem := by simp
  obj := fun i h st c hc => by
    obtain ⟨⟨old, he⟩, ⟨f0, f1, hz, _⟩, hTI, ⟨x, y, hTO⟩, h1, h2⟩ := st
    have e' : c = e ∨ c = z ∨ c = TI ∨ c = TO ∨ c = i1 ∨ c = i2 := by simpa using hc
    rcases e' with q | q | q | q | q | q
    · rw [q]; exact ⟨_, he, fun v q => nomatch q⟩
    · rw [q]; exact ⟨_, hz, fun v q => nomatch q⟩
    · rw [q]; exact ⟨_, hTI, fun v q => nomatch q⟩
    · rw [q]; exact ⟨_, hTO, fun v q => nomatch q⟩
    · rw [q]; exact L.fld h1
    · rw [q]; exact L.fld h2
  keep := fun i h h' st k => by
    obtain ⟨⟨old, he⟩, ⟨f0, f1, hz, ho⟩, hTI, ⟨x, y, hTO⟩, h1, h2⟩ := st
    exact ⟨⟨old, k e (by simp) _ he⟩, ⟨f0, f1, k z (by simp) _ hz, ho⟩, k TI (by simp) _ hTI, ⟨x, y, k TO (by simp) _ hTO⟩, L.keep h1 fun o q => k i1 (by simp) o q, L.keep h2 fun o q => k i2 (by simp) o q⟩
  item := by
    intro X hP hw hK hc i pins s σ H E I hf st hg
    subst hP hw
    obtain ⟨⟨old, he⟩, hz, hTI, ⟨x0, y0, hTO⟩, h1, h2⟩ := st
    obtain ⟨xs, ys, x, y, hqx, hqy, hx, hy⟩ := hg
    obtain ⟨its, rv, p⟩ := LS.at_ hK I hqx
    obtain ⟨its2, rv2, p2⟩ := LS.at_ hK I hqy
    obtain ⟨u, hu, ru⟩ := rv.get hx
    obtain ⟨u2, hu2, ru2⟩ := rv2.get hy
    have hel : e < s.heap.objs.size := Heap.lt_size he
    refine enum_zip_item L D he n1 n2 n3 n4 n5 hz hTI hTO h1 h2 p p2 (x := u) (y := u2) (by simpa using hu) (by simpa using hu2) fun h' tk ho z' TO' h1' h2' hT0 hT hk => ?_
    refine ⟨_, rfl, wpAny_letOwnedTupleGo_enum (s := { s with heap := h', toks := s.toks + 1 }) ho fun h'' e'' sb => ?_⟩
    have sb' : ∀ c o, c ≠ e → h'.get? c = some o → h''.get? c = some o := fun c o hc q => (sb.2 c hc).trans q
    have hT02 : h''.get? s.heap.objs.size = some { cls := .type "tuple", data := .seq #[u, u2] } := sb' _ _ (Nat.ne_of_gt hel) hT0
    have hT2 : h''.get? (s.heap.objs.size + 1) = some { cls := .type "tuple", data := .seq #[.int i tk, .ref s.heap.objs.size] } := sb' _ _ (Nat.ne_of_gt (Nat.lt_succ_of_lt hel)) hT
    have nT : s.heap.objs.size ≠ s.heap.objs.size + 1 := (Nat.succ_ne_self _).symm
    have new0 : ObjOk X.prog X.w (upd (upd H s.heap.objs.size (.tup [x, y])) (s.heap.objs.size + 1) (.tup [.int (i : Nat), .ref s.heap.objs.size])) h'' s.heap.objs.size (.tup [x, y]) :=
      ⟨by show 2 ≤ sizeLine; decide, [u, u2], .cons ru (.cons ru2 .nil), ⟨_, hT02, rfl, _, rfl⟩⟩
    have new : ObjOk X.prog X.w (upd (upd H s.heap.objs.size (.tup [x, y])) (s.heap.objs.size + 1) (.tup [.int (i : Nat), .ref s.heap.objs.size])) h'' (s.heap.objs.size + 1) (.tup [.int (i : Nat), .ref s.heap.objs.size]) :=
      ⟨by show 2 ≤ sizeLine; decide, [.int i tk, .ref s.heap.objs.size], .cons ⟨_, rfl⟩ (.cons rfl .nil), ⟨_, hT2, rfl, _, rfl⟩⟩
    have I1 : Inv X pins σ (upd (upd H s.heap.objs.size (.tup [x, y])) (s.heap.objs.size + 1) (.tup [.int (i : Nat), .ref s.heap.objs.size])) { s with heap := h'', toks := s.toks + 1 } :=
      turnedNew2 (t' := s.toks + 1) (ch := [e, z, TI, TO, i1, i2]) I (fun c o hb q => sb' c o (fun q' => hb (by simp [q'])) (hk c o (fun q' => hb (by simp [q'])) (fun q' => hb (by simp [q'])) (fun q' => hb (by simp [q'])) (fun q' => hb (by simp [q'])) (fun q' => hb (by simp [q'])) q)) hf (Nat.le_refl _) (Nat.le_succ _) nT new0 new
    obtain ⟨f0, f1, z', zo⟩ := z'
    obtain ⟨a', b', TO'⟩ := TO'
    refine ⟨.ref (s.heap.objs.size + 1), _, I1, rfl, ⟨_, _, x, y, rfl, I.hok.fresh (Nat.le_refl _), I.hok.fresh (Nat.le_succ _), nT, rfl, fun l hl => by rw [LS.inj hK I hl hqx]; exact hx, fun l hl => by rw [LS.inj hK I hl hqy]; exact hy⟩, ⟨⟨.ref s.heap.objs.size, ?_⟩, ⟨f0, f1, sb' _ _ n1.symm z', zo⟩, ?_, ⟨a', b', sb' _ _ n3.symm TO'⟩, L.keep h1' fun o q => sb' _ o n4.symm q, L.keep h2' fun o q => sb' _ o n5.symm q⟩, fun c hcm => ?_⟩
    · have e1 : ((i + 1 : Nat) : Int) = (i : Int) + 1 := by omega
      rw [e1]; exact e''
    · exact sb' _ _ n2.symm (hk _ _ n2.symm D.TIz D.TITO D.TIi1 D.TIi2 hTI)
    · have hlt : c < s.heap.objs.size := by
        have e' : c = e ∨ c = z ∨ c = TI ∨ c = TO ∨ c = i1 ∨ c = i2 := by simpa using hcm
        rcases e' with q | q | q | q | q | q
        · rw [q]; exact hel
        · rw [q]; obtain ⟨_, _, q2, _⟩ := hz; exact Heap.lt_size q2
        · rw [q]; exact Heap.lt_size hTI
        · rw [q]; exact Heap.lt_size hTO
        · rw [q]; obtain ⟨_, e1, _⟩ := L.fld h1; exact Heap.lt_size e1
        · rw [q]; obtain ⟨_, e2, _⟩ := L.fld h2; exact Heap.lt_size e2
      rw [upd_ne (Nat.ne_of_lt (Nat.lt_succ_of_lt hlt)), upd_ne (Nat.ne_of_lt hlt)]
      exact (hf c hcm).1
  done := by
    intro X hP hw hK hc i pins s σ H E I hf st hg
    subst hP hw
    obtain ⟨⟨old, he⟩, hz, hTI, ⟨x0, y0, hTO⟩, h1, h2⟩ := st
    obtain ⟨xs, ys, hqx, hqy, hend⟩ := hg
    obtain ⟨its, rv, p⟩ := LS.at_ hK I hqx
    obtain ⟨its2, rv2, p2⟩ := LS.at_ hK I hqy
    have l1 := rv.length
    have l2 := rv2.length
    have hE : its.toArray[i]? = none ∨ its2.toArray[i]? = none := by
      rcases hend with q | q
      · exact .inl (by simp; omega)
      · exact .inr (by simp; omega)
    exact enum_zip_end L (I.ok.hd hc) D he hz hTI hTO h1 h2 p p2 hE fun h' hk => ⟨rfl, I.turnedL (t' := s.toks) (ch := [e, z, TI, TO, i1, i2]) (fun c o hb q =>
      hk c o (fun q' => hb (by simp [q'])) (fun q' => hb (by simp [q'])) (fun q' => hb (by simp [q'])) (fun q' => hb (by simp [q'])) q) hf⟩
  self := fun A i s Q E st h => let ⟨⟨_, he⟩, _⟩ := st; wpAny_pyIter_enum he h
/-- both are tuples, or both are lists -/
def iEz (K : PySem.W.Frag) (ta : TA) : TI := fun σ H R => ta σ H fun vs H1 => ∃ a b xs ys, vs = [.ref a, .ref b] ∧ ((SqL K H1 a xs ∧ SqL K H1 b ys ∧ R (Itez (fun H a xs => SqL K H a xs) a b) H1) ∨ (SqT K H1 a xs ∧ SqT K H1 b ys ∧ R (Itez (fun H a xs => SqT K H a xs) a b) H1))
set_option maxHeartbeats 1000000 in
theorem meets_enumerate_newZ (z TI TO : Addr) (f0 : Value) :
    Meets (Builtin.«enumerate.__new__» ⟨[.type "enumerate", .ref z], []⟩) (fun _ R s => IsZip s.heap z TI TO f0 ∧
      R (.ok (.ret (.ref s.heap.objs.size))) { s with heap := s.heap.push { cls := .type "enumerate", data := .fields #[.none, .bool false, .ref z, rawInt 0, .none, .none] } }) :=
  .of_wp fun prog w A R s h => by
    obtain ⟨hp, g, d, tk, os⟩ := s; obtain ⟨h1, h⟩ := h
    have hsub := sub_enumerate
    have q1 : ∀ {A' : Around} {E : Value → Shared → Prop} {Q : Value → Shared → Prop}, Q (.ref z) ⟨hp, g, d, tk, os⟩ → wpAny (model prog w) A' (pyIter (.ref z)) Q E ⟨hp, g, d, tk, os⟩ :=
      fun q => wpAny_pyIter_zip h1 q
    wp_walk using q1
    refine wpAny_stack_any fun st => wpAny_pure ?_
    split
    · rename_i c _ _ _ _ _
      cases (c == Value.type "enumerate")
      · wp_walk using q1
        exact ⟨_, rfl, h⟩
      · wp_walk using q1
        exact ⟨_, rfl, h⟩
    · wp_walk using q1
      exact ⟨_, rfl, h⟩
theorem call_enumerate_zip {prog : Program} {w : World} {A : Around} {E : Value → Shared → Prop} {s : Shared} {z TI TO : Addr} {f0 : Value} {Q : Value → Shared → Prop} (hz : IsZip s.heap z TI TO f0)
    (h : ∀ h', IsEnum h' s.heap.objs.size z 0 .none → (∀ b o, s.heap.get? b = some o → h'.get? b = some o) → Q (.ref s.heap.objs.size) { s with heap := h' }) :
    wpAny (model prog w) A (call (.type "enumerate") [.ref z]) Q E s := by
  refine callType_new F.called_enumerate (by decide) (F.typeCall_enumerate_1 _) (F.newCall_enumerate_1 _) (fun obj => F.args_object_init_2 obj _) F.entry_enumerate_new
    (meets_enumerate_newZ z TI TO f0) ⟨hz, ?_⟩
  have he : IsEnum (s.heap.push { cls := .type "enumerate", data := .fields #[.none, .bool false, .ref z, rawInt 0, .none, .none] }) s.heap.objs.size z 0 .none := Heap.get?_push_size _ rfl
  exact ⟨⟨_, he, rfl⟩, h _ he fun b o x => Heap.get?_push_of_some _ x⟩
theorem pi_ez {X : Cx} {e e2 : Expr} {ta : TA} {p p2 pos pos2 tpos : Pos} {elts : List Expr} {kk : Nat} (hg : Gl X "enumerate") (hm : X.mg "enumerate" = none) (hg2 : Gl X "zip") (hm2 : X.mg "zip" = none) (ha : PA X [e, e2] ta)
    (na : starEach [Expr.Call (.Name "zip" p2) [e, e2] [] pos2] X.env = (false, eval (.Call (.Name "zip" p2) [e, e2] [] pos2) X.env) :: starEach [] X.env := by rfl)
    (hs : starEach [e, e2] X.env = (false, eval e X.env) :: starEach [e2] X.env := by rfl) (hpl : (backTo pos2 (starEach [e2] X.env)).any (·.1) = false := by rfl) :
    PI X (.Tuple elts kk tpos) (.Call (.Name "enumerate" p) [.Call (.Name "zip" p2) [e, e2] [] pos2] [] pos) (iEz X.K ta) := by
  refine ⟨fun pins s σ H R I h => ?_⟩
  refine Call_ (ld_blt I hg hm boot_enumerate (PyProof.Rows.callWith_type1 (PyProof.Rows.args_cons ?_ na) na rfl))
  refine Call_ (ld_blt I hg2 hm2 PyProof.Rows.boot_zip (PyProof.Rows.callWith_type1 (thn (ha.run pos2 pins s σ H _ I h) fun us s1 ⟨vs, H1, I1, r1, q1⟩ => ?_) hs hpl))
  obtain ⟨a, b, xs, ys, ex, q1⟩ := q1
  subst ex
  cases r1 with
  | cons r rr =>
    cases rr with
    | cons r' rr =>
      cases rr
      cases r
      cases r'
      have fresh6 : ∀ c, c ∈ [s1.heap.objs.size + 5, s1.heap.objs.size + 4, s1.heap.objs.size + 2, s1.heap.objs.size + 3, s1.heap.objs.size, s1.heap.objs.size + 1] → FpOk X pins H1 c := fun c hcm => by
        have e' : c = s1.heap.objs.size + 5 ∨ c = s1.heap.objs.size + 4 ∨ c = s1.heap.objs.size + 2 ∨ c = s1.heap.objs.size + 3 ∨ c = s1.heap.objs.size ∨ c = s1.heap.objs.size + 1 := by simpa using hcm
        have hle : s1.heap.objs.size ≤ c := by
          rcases e' with z | z | z | z | z | z
          · rw [z]; exact Nat.le_add_right _ _
          · rw [z]; exact Nat.le_add_right _ _
          · rw [z]; exact Nat.le_add_right _ _
          · rw [z]; exact Nat.le_add_right _ _
          · rw [z]; exact Nat.le_refl _
          · rw [z]; exact Nat.le_add_right _ _
        exact I1.fpOk hle (I1.hok.fresh hle)
      have ne5 : ∀ j : Nat, j ≠ 5 → s1.heap.objs.size + 5 ≠ s1.heap.objs.size + j := fun j hj z => hj (Nat.add_left_cancel z).symm
      rcases q1 with ⟨hqx, hqy, q⟩ | ⟨hqx, hqy, q⟩
      · obtain ⟨its, rv, p1, _⟩ := I1.list hqx
        obtain ⟨its2, rv2, p2', _⟩ := I1.list hqy
        refine call_zip_2 p1.isList p2'.isList fun h' hz hTI hTO h1 h2 hsz hk => PyProof.Rows.args_nil ?_
        refine call_enumerate_zip hz fun h'' he hk2 => wpAny_pyIter_enum he ?_
        have I2 : Inv X pins σ H1 { s1 with heap := h'' } := I1.kept (t' := s1.toks) fun b o z => hk2 b o (hk b o z)
        rw [show ({ s1 with heap := h' } : Shared).heap.objs.size = s1.heap.objs.size + 5 from hsz] at he ⊢
        exact ⟨s1.heap.objs.size + 5, [s1.heap.objs.size + 5, s1.heap.objs.size + 4, s1.heap.objs.size + 2, s1.heap.objs.size + 3, s1.heap.objs.size, s1.heap.objs.size + 1], _, _, H1, rfl, I2,
          turn_ez seqI_list seqS_list (PySem.W.ktu_apart s1.heap.objs.size a b p1.lt p2'.lt) (ne5 4 (by decide)) (ne5 2 (by decide)) (ne5 3 (by decide)) (ne5 0 (by decide)) (ne5 1 (by decide)),
          ⟨⟨.none, he⟩, ⟨_, _, hk2 _ _ hz, .inl rfl, false, rfl⟩, hk2 _ _ hTI, ⟨_, _, hk2 _ _ hTO⟩, h1.at fun o z => hk2 _ o z, h2.at fun o z => hk2 _ o z⟩, fresh6, q⟩
      · obtain ⟨its, rv, p1, _⟩ := I1.tuple hqx
        obtain ⟨its2, rv2, p2', _⟩ := I1.tuple hqy
        obtain ⟨o1, ho1, _⟩ := id p1
        obtain ⟨o2, ho2, _⟩ := id p2'
        refine RZ.call_zipT (show s1.heap.IsTuple a its.toArray from p1) (show s1.heap.IsTuple b its2.toArray from p2') fun h' hz hTI hTO h1 h2 hsz hk => PyProof.Rows.args_nil ?_
        refine call_enumerate_zip hz fun h'' he hk2 => wpAny_pyIter_enum he ?_
        have I2 : Inv X pins σ H1 { s1 with heap := h'' } := I1.kept (t' := s1.toks) fun b o z => hk2 b o (hk b o z)
        rw [show ({ s1 with heap := h' } : Shared).heap.objs.size = s1.heap.objs.size + 5 from hsz] at he ⊢
        exact ⟨s1.heap.objs.size + 5, [s1.heap.objs.size + 5, s1.heap.objs.size + 4, s1.heap.objs.size + 2, s1.heap.objs.size + 3, s1.heap.objs.size, s1.heap.objs.size + 1], _, _, H1, rfl, I2,
          turn_ez seqI_tuple seqS_tuple (PySem.W.ktu_apart s1.heap.objs.size a b (Heap.lt_size ho1) (Heap.lt_size ho2)) (ne5 4 (by decide)) (ne5 2 (by decide)) (ne5 3 (by decide)) (ne5 0 (by decide)) (ne5 1 (by decide)),
          ⟨⟨.none, he⟩, ⟨_, _, hk2 _ _ hz, .inl rfl, false, rfl⟩, hk2 _ _ hTI, ⟨_, _, hk2 _ _ hTO⟩, h1.at fun o z => hk2 _ o z, h2.at fun o z => hk2 _ o z⟩, fresh6, q⟩
end Ez

set_option maxHeartbeats 2000000
/-! ### lambdas in a def whose own wish is free; the end of a row with tables, where no repr runs around -/
namespace Lb
open PySem PySem.Spec PyProof.Rows L2 LamX
/-- law_call with tables: cs, the code objects and their tables -/
theorem law_callTG {P : Program} {w : World} {K : PySem.W.Frag} {mg mb : Str → Option Value} {k : Nat} {fa a : Addr} {cs : List (Addr × Addr)} {fd : FuncData} {x : Str} {sp : Sp} {s₁ : Shared} {vs : List Value} {ns : List Int}
    (KX : K.In s₁.heap) (hns : s₁.heap.Ns mainGlobals mg) (hb : s₁.heap.Ns builtinsNs mb) (hbb : ∀ x : Str, x ≠ "__name__" → mb x = bootBuiltins x) (hlim : s₁.heap.NoLimit) (hg : s₁.gens = #[])
    (hT : ∀ p ∈ cs, s₁.heap.get? p.2 = some { cls := .none, data := .fields #[] }) (nT : ∀ p ∈ cs, K.lookup p.2 = none) (C : ∀ p ∈ cs, PySem.W.CodeHd s₁.heap p.1 p.2)
    (hbm : ∃ (bm : Addr) (ob : Obj), mg "__builtins__" = some (.ref bm) ∧ bm ≠ builtinsNs ∧ s₁.heap.get? bm = some ob ∧ ob.cls = .type "module" ∧ ob.dict = some builtinsNs ∧ ob.data = .plain)
    (ha : s₁.heap.get? a = some { cls := .type "list", data := .seq vs.toArray }) (hi : IntsAre vs ns) (hl : ns.length ≤ sizeLine) (hr : Room k callerA)
    (F : ∀ base : Heap, K.In base → base.Ns mainGlobals mg → (∀ p ∈ cs, TabB base mg p.1 p.2) → Lm.FnG P w K mg base CX0 k fa fd [x] sp) (hbind : ∀ (s : Shared) (u : Value), BindsTo s fd ⟨[u], []⟩ [(x, u)])
    (hsp : ∀ H : Hp, (∀ p ∈ cs, H p.2 = some (.tbl #[])) → SqL K H a (ns.map V.int) → sp [.ref a] H (fun v _ => v = .bl true) fun _ _ _ => False) :
    codeAny (model P w) callerA (.call (.ref fa) ⟨[.ref a], []⟩) (fun r s' => r = .ok (.ret (.bool true)) ∧ OldK s₁.heap s'.heap ∧ s'.os = s₁.os ∧ AllBare s'.gens) s₁ := by
  have rv := vals_ints hi
  have lenV := hi.length
  have isT : ∀ b : Addr, b ∈ cs.map (·.2) → s₁.heap.get? b = some { cls := .none, data := .fields #[] } := fun b hb => by
    obtain ⟨p, hp, e⟩ := List.mem_map.mp hb
    rw [← e]
    exact hT p hp
  have aT : a ∉ cs.map (·.2) := fun z => by
    have q := isT a z
    rw [ha] at q
    have z' : Data.seq vs.toArray _ = Data.fields #[] := congrArg Obj.data (Option.some.inj q)
    cases z'
  have memT : ∀ p ∈ cs, p.2 ∈ cs.map (·.2) := fun p hp => List.mem_map.mpr ⟨p, hp, rfl⟩
  -- from an abstract heap in which nothing but the script and the tables may be tracked
  have core : ∀ H : Hp, (∀ p ∈ cs, H p.2 = some (.tbl #[])) → (∀ b, H b = none ∨ b ∈ cs.map (·.2) ∨ ∃ o xs, H b = some (.frz o (.lst xs))) → SqL K H a (ns.map V.int) → HOk P w H s₁.heap → (∀ b, H b ≠ none → b = a ∨ b ∈ cs.map (·.2)) → (H a ≠ none → K.lookup a = none) →
      codeAny (model P w) callerA (.call (.ref fa) ⟨[.ref a], []⟩) (fun r s' => r = .ok (.ret (.bool true)) ∧ OldK s₁.heap s'.heap ∧ s'.os = s₁.os ∧ AllBare s'.gens) s₁ := by
    intro H hH hO hS hok hA hK
    have base_of : ∀ {b : Addr} {o : Obj}, s₁.heap.get? b = some o → H b = none → (hidT s₁.heap H).get? b = some o := fun e n => hidT_get e n
    have noD : ∀ {b : Addr} {o : Obj}, s₁.heap.get? b = some o → (∀ vs n, o.data ≠ .seq vs n) → o.data ≠ .fields #[] → H b = none := fun {b o} e h1 h2 => by
      cases q : H b with
      | none => rfl
      | some u =>
        rcases hA b (by rw [q]; simp) with e' | e'
        · rw [e', ha] at e
          cases e
          exact (h1 _ _ rfl).elim
        · rw [isT b e'] at e
          cases e
          exact (h2 rfl).elim
    have noA : ∀ {b : Addr} {o : Obj} {es : Array DictEntry} {ep : Nat}, s₁.heap.get? b = some o → o.data = .dict es ep → H b = none := fun {b o es ep} e d => by
      refine noD e (fun vs n z => ?_) fun z => ?_
      · rw [d] at z
        cases z
      · rw [d] at z
        cases z
    have nsK : ∀ {b : Addr} {m : Str → Option Value}, s₁.heap.Ns b m → (hidT s₁.heap H).Ns b m := fun {b m} ⟨o, es, ep, e, d, r⟩ => ⟨o, es, ep, base_of e (noA e d), d, r⟩
    have hKb : K.In (hidT s₁.heap H) := fun b o e => base_of (KX b o e) (by
      cases q : H b with
      | none => rfl
      | some u =>
        rcases hA b (by rw [q]; simp) with e' | e'
        · rw [e'] at e q
          rw [hK (by rw [q]; simp)] at e
          cases e
        · obtain ⟨p, hp, ep⟩ := List.mem_map.mp e'
          rw [← ep, nT p hp] at e
          cases e)
    have hM : L2.Mod K mg (hidT s₁.heap H) := ⟨hKb, nsK hns, ⟨mb, nsK hb, hbb⟩, let ⟨mc, h1, h2⟩ := hlim; ⟨mc, nsK h1, h2⟩⟩
    have TB : ∀ p ∈ cs, TabB (hidT s₁.heap H) mg p.1 p.2 := fun p hp => by
      have hTp := hT p hp
      refine ⟨?_, ?_, fun z => ?_⟩
      · obtain ⟨o, us, file, tf, flags, tg, inF, text, tt, e1, r1, r2, r3, r4, r5, r6, r7, r8, hne⟩ := C p hp
        refine ⟨o, us, file, tf, flags, tg, inF, text, tt, base_of e1 (noD e1 (fun vs n z => ?_) fun z => ?_), r1, r2, r3, r4, r5, r6, r7, r8, hne⟩
        · rw [r2] at z
          cases z
        · rw [r2] at z
          cases z
          simp at r3
      · obtain ⟨bm, ob, b1, b2, b3, b4, b5, b6⟩ := hbm
        have nG : bm ≠ mainGlobals := fun q => by
          obtain ⟨o, es, ep, e, hd, _⟩ := hns
          rw [q, e] at b3
          cases b3
          rw [hd] at b6
          cases b6
        have nP : bm ≠ p.2 := fun q => by
          rw [q, hTp] at b3
          cases b3
          cases b6
        refine ⟨bm, ob, b1, b2, nG, nP, base_of b3 (noD b3 (fun vs n z => ?_) fun z => ?_), b4, b5, b6⟩
        · rw [b6] at z
          cases z
        · rw [b6] at z
          cases z
      · obtain ⟨o, es, ep, e, hd, _⟩ := hns
        rw [z, hTp] at e
        cases e
        cases hd
    have e0 : Env0 P w K mg (hidT s₁.heap H) callerA [] s₁ H := ⟨rfl, hM, fun b o e => of_hidT e, Nat.le_of_eq (hidT_size _ _), trivial, fun b hb => absurd (show b ∈ ([] : List Addr) from hb) (by simp), hok, .of_eq hg⟩
    refine codeAny_mono ((F _ hKb (nsK hns) TB).go callerA [] s₁ H ⟨[.ref a], []⟩ [.ref a] [.ref a] _ _ rfl hr e0 (hbind s₁ (.ref a)) (.cons rfl .nil) (hsp H hH hS)) fun r s' h => ?_
    cases r with
    | error e => exact False.elim h
    | ok fl =>
      cases fl with
      | next => exact False.elim h
      | brk => exact False.elim h
      | cont => exact False.elim h
      | ret u =>
        obtain ⟨v, H', os, bare, un, hok', r', q⟩ := h
        have q' : v = .bl true := q
        subst q'
        obtain rfl : u = Value.bool true := r'
        have key : ∀ b o, b ∉ cs.map (·.2) → s₁.heap.get? b = some o → s'.heap.get? b = some o := fun b o nb e => by
          cases q : H b with
          | none => exact un.keep b o e q (by intro z; exact absurd (show b ∈ ([] : List Addr) from z) (by simp)) (by simp)
          | some u =>
            rcases hO b with z | z | ⟨ob, xs, z⟩
            · rw [q] at z; cases z
            · exact absurd z nb
            · have z2 := un.frzs b ob _ z
              obtain ⟨e1, _⟩ := hok b _ z
              obtain ⟨e2, _⟩ := hok' b _ z2
              rw [e] at e1; cases e1
              exact e2
        have grown : ∀ p ∈ cs, ∃ more : Array Value, s'.heap.get? p.2 = some { cls := .none, data := .fields more } := fun p hp => by
          obtain ⟨more, z⟩ := un.tbls p.2 #[] (hH p hp)
          exact ⟨_, hok' p.2 _ z⟩
        refine ⟨rfl, ⟨fun b o e => ?_, fun b o e => ?_⟩, os, bare⟩
        · by_cases hb : b ∈ cs.map (·.2)
          · obtain ⟨p, hp, ep⟩ := List.mem_map.mp hb
            obtain ⟨more, hm⟩ := grown p hp
            rw [← ep] at e ⊢
            rw [hT p hp] at e
            cases e
            exact .inr (.inl ⟨((C p hp).tab (hT p hp)).isCodeTable, rfl, #[], more, rfl, by rw [Array.empty_append]; exact hm⟩)
          · exact .inl (key b o hb e)
        · by_cases hb : b ∈ cs.map (·.2)
          · obtain ⟨p, hp, ep⟩ := List.mem_map.mp hb
            obtain ⟨more, hm⟩ := grown p hp
            rw [← ep]
            exact ⟨_, hm⟩
          · exact ⟨o, key b o hb e⟩
  cases hk : K.lookup a with
  | some o =>
    have e := KX a o hk
    rw [ha] at e
    cases e
    refine core (fun b => if b ∈ cs.map (·.2) then some (.tbl #[]) else none) (fun p hp => if_pos (memT p hp)) (fun b => ?_) (.inr ⟨_, vs.toArray, _, hk, rfl, rfl, rfl, by rw [List.size_toArray, lenV]; exact hl, by simpa using rv⟩) (fun b u z => ?_) (fun b z => ?_) fun z => absurd (show (if a ∈ cs.map (·.2) then some (HO.tbl #[]) else none) = none from if_neg aT) z
    · by_cases hb : b ∈ cs.map (·.2)
      · exact .inr (.inl hb)
      · exact .inl (if_neg hb)
    · by_cases hb : b ∈ cs.map (·.2)
      · have z' := (if_pos hb).symm.trans z
        cases z'
        exact isT b hb
      · have z' := (if_neg hb).symm.trans z
        cases z'
    · by_cases hb : b ∈ cs.map (·.2)
      · exact .inr hb
      · exact absurd (if_neg hb) z
  | none =>
    refine core (fun b => if b = a then some (.frz { cls := .type "list", data := .seq vs.toArray } (.lst (ns.map V.int))) else if b ∈ cs.map (·.2) then some (.tbl #[]) else none) (fun p hp => (if_neg (show ¬ p.2 = a from fun z => aT (by rw [← z]; exact memT p hp))).trans (if_pos (memT p hp))) (fun b => ?_)
      (.inl (.inr ⟨{ cls := .type "list", data := .seq vs.toArray }, if_pos rfl⟩)) (fun b u z => ?_) (fun b z => ?_) fun _ => hk
    · by_cases hb : b = a
      · exact .inr (.inr ⟨_, _, if_pos hb⟩)
      · by_cases hb2 : b ∈ cs.map (·.2)
        · exact .inr (.inl hb2)
        · exact .inl ((if_neg hb).trans (if_neg hb2))
    · by_cases hb : b = a
      · have z' := (if_pos hb).symm.trans z
        cases z'
        rw [hb]
        exact ⟨ha, by rw [List.length_map]; exact hl, vs, _, rv, ha⟩
      · have z1 := (if_neg hb).symm.trans z
        by_cases hb2 : b ∈ cs.map (·.2)
        · have z' := (if_pos hb2).symm.trans z1
          cases z'
          exact isT b hb2
        · have z' := (if_neg hb2).symm.trans z1
          cases z'
    · by_cases hb : b = a
      · exact .inl hb
      · by_cases hb2 : b ∈ cs.map (·.2)
        · exact .inr hb2
        · exact absurd ((if_neg hb).trans (if_neg hb2)) z

/-- a law row's end: tables of the defs of these names -/
theorem walkGT {l : PySem.W.OpenLaw} {n k : Nat} {q : Program} {loose : List Str} {XP : (Str → Option Value) → Heap → Prop} {YP : World → Heap → Prop} {d : DefRec} {K : Params → PySem.W.Frag} {x : Str}
    (hn : l.most = some n) (hn2 : n ≤ sizeLine) (hdf : d.params.defaults = []) (hr : Room k callerA) (hY : ∀ (w : World) (h : Heap), YP w h → (K w.params).In h)
    (F : ∀ (w : World) (mg : Str → Option Value) (fa : Addr) (h : Heap), (K w.params).In h → h.Ns mainGlobals mg → mg d.name = some (.ref fa) →
      ∃ (fd : FuncData) (cs : List (Addr × Addr)) (sp : Sp), (∀ p ∈ cs, ∃ y, PySem.W.tabIn (K w.params) y = some p ∧ ((recsOf q).find? fun e => e.name == y).isSome = true) ∧ (∀ p ∈ cs, (K w.params).lookup p.2 = none) ∧ (∀ (s : Shared) (u : Value), BindsTo s fd ⟨[u], []⟩ [(x, u)]) ∧
        (∀ (H : Hp) (a : Addr) (ns : List Int), ns.length ≤ n → (∀ p ∈ cs, H p.2 = some (.tbl #[])) → SqL (K w.params) H a (ns.map V.int) → sp [.ref a] H (fun v _ => v = .bl true) fun _ _ _ => False) ∧
        ∀ base : Heap, (K w.params).In base → base.Ns mainGlobals mg → (∀ p ∈ cs, TabB base mg p.1 p.2) → Lm.FnG l.prog w (K w.params) mg base CX0 k fa fd [x] sp) :
    PySem.W.WalkO q loose XP YP l.row.toRowW d [] (fun f vs => PySem.call f vs) := by
  refine Att.attach_callB hn hdf fun w s₀ s₁ mg mb fa o pm cd doc a vs ns G Y ho hd hcd hmg hobj hints hlen hbits hg => ?_
  have KX := hY w _ Y
  obtain ⟨fd, cs, sp, ht, nT, hb, hsp, hF⟩ := F w mg fa _ KX G.T.g hmg
  have C : ∀ p ∈ cs, PySem.W.CodeHd s₁.heap p.1 p.2 ∧ s₁.heap.get? p.2 = some { cls := .none, data := .fields #[] } := fun p hp => by
    obtain ⟨y, h1, h2⟩ := ht p hp
    obtain ⟨dr, h3⟩ := Option.isSome_iff_exists.mp h2
    exact PySem.W.tab_of G.T KX h3 h1
  exact law_callTG KX G.T.g G.T.b G.T.builtins G.T.nolimit hg (fun p hp => (C p hp).2) nT (fun p hp => (C p hp).1) G.T.bmain hobj hints (Nat.le_trans hlen hn2) hr hF hb fun H hH hS => hsp H a ns hlen hH hS
/-- what the making of a lambda does to the heap -/
def MkT (P : Addr) (q : Str) (H H1 : Hp) : Prop := H1 = H ∨ ∃ (ps : Array Value) (pos : Pos) (c' : Addr), H P = some (.tbl ps) ∧ TriplesOk ps.toList ∧ H c' = none ∧ H1 = upd (upd H P (.tbl (ps ++ #[rawInt pos.line, rawInt pos.col, .ref c']))) c' (CodeO c' q)
section
variable {X : Cx} {pins : List (Addr × Obj)} {σ : L2.St} {H HZ : Hp} {s s1 : Shared}
/-- the lambda is made: its code object is new, or found in the table -/
theorem lam_makeS {T : List (Addr × Str)} {c P : Addr} {params : Arguments} {body : Expr} {scope : Scope} {pos : Pos} {E : Value → Shared → Prop} {Q : Value → Shared → Prop} (I : Inv X pins σ H s) (TB : TabB X.base X.mg c P) (hcode : X.env.code = .ref c)
    (hm : (P, X.env.qual ++ "<lambda>") ∈ T) (hu : ∀ p ∈ T, p.1 = P → p.2 = X.env.qual ++ "<lambda>") (hT : Tabs T H) (hdef : defaultsOf params X.env = ([], [])) (hfree : ∀ y ∈ scope.names, y.2 = .free → ∃ c, X.env.cells.lookup y.1 = some c)
    (h : ∀ (f c' : Addr) (pm ctv : Value) (H1 : Hp) (s' : Shared), Inv X pins σ H1 s' → MkT P (X.env.qual ++ "<lambda>") H H1 → Tabs T H1 →
      s'.heap.get? f = some (PySem.W.kla_obj "<lambda>" (X.env.qual ++ "<lambda>") params body scope (cloFrom X.env.cells scope.names []) pm c' ctv) → H1 f = none → f ∉ frs X.stack → H1 c' = some (CodeO c' (X.env.qual ++ "<lambda>")) → Q (.ref f) s') :
    wpAny (model X.prog X.w) X.A (eval (.Lambda params body scope pos) X.env) Q E s := by
  obtain ⟨ps, hP, ht, ha⟩ := hT _ hm
  refine PySem.W.kla_eval hdef ?_
  have bP : s.heap.BuiltinsAt X.mg P := TB.bm.keeps I.bk
  have hP' : s.heap.get? P = some { cls := .none, data := .fields ps } := I.hok P _ hP
  have nofr : ∀ f, s.heap.objs.size ≤ f → f ∉ frs X.stack := fun f hf z => by
    rcases List.mem_cons.mp (I.stkSub _ z) with e | e
    · have h1 := I.lt
      rw [← e] at h1
      exact Nat.lt_irrefl _ (Nat.lt_of_lt_of_le h1 hf)
    · exact I.nofs hf e
  cases hc : codeAmong pos ps.toList with
  | none =>
    refine PySem.W.kla_makeFunction (mg := X.mg) (c := c) (P := P) (ps := ps) (closure_ok hfree) I.ok.glob (I.mod.glob.keeps I.bk) hcode (TB.code.keeps I.bk) hP' ht hc TB.gP bP fun c' ctv h' tk hx hge hlt hrec htb => ?_
    obtain ⟨c2, oc, vs, t, e2, hoc, hd, hv⟩ := hrec
    cases e2
    have hsz : s.heap.objs.size ≤ h'.objs.size := Nat.le_trans hge (Nat.le_of_lt hlt)
    have nC : H c' = none := I.hok.fresh hge
    have I1 := inv_table (t' := tk) (more := #[rawInt pos.line, rawInt pos.col, .ref c']) (h' := h'.push (PySem.W.kla_obj "<lambda>" (X.env.qual ++ "<lambda>") params body scope (cloFrom X.env.cells scope.names []) ((X.mg "__name__").getD .none) c' ctv)) I hP
      (fun b o hb e => Heap.get?_push_of_some _ (hx b o hb e)) (Heap.get?_push_of_some _ htb) hge ⟨oc, vs, t, Heap.get?_push_of_some _ hoc, hd, hv⟩
    have hE : ExtN H (upd (upd H P (.tbl (ps ++ #[rawInt pos.line, rawInt pos.col, .ref c']))) c' (CodeO c' (X.env.qual ++ "<lambda>"))) := fun b o e n => by
      rw [upd_ne (ne_of_none e nC), upd_ne (fun z => n ps (Option.some.inj (e.symm.trans (by rw [z]; exact hP))))]
      exact e
    have eL : (ps ++ #[rawInt pos.line, rawInt pos.col, .ref c']).toList = ps.toList ++ [rawInt pos.line, rawInt pos.col, .ref c'] := by simp
    refine h h'.objs.size c' ((X.mg "__name__").getD .none) ctv _ _ I1 (.inr ⟨ps, pos, c', hP, ht, nC, rfl⟩) (fun p hp => ?_) (Heap.get?_push_size _ rfl) ?_ (nofr _ hsz) upd_same
    · by_cases hb : p.1 = P
      · rw [hu p hp hb, hb]
        refine ⟨_, by rw [upd_ne (ne_of_none hP nC), upd_same], by rw [eL]; exact PySem.TriplesOk_snoc _ _ _ _ ht, fun p' cv hcv => ?_⟩
        rw [eL] at hcv
        rcases among_app _ ht hcv with z | z
        · obtain ⟨c0, e1, e2⟩ := ha p' cv z
          exact ⟨c0, e1, hE _ _ e2 codeO_ne⟩
        · exact ⟨c', z, upd_same⟩
      · obtain ⟨ps', a1, a2, a3⟩ := hT p hp
        refine ⟨ps', by rw [upd_ne (ne_of_none a1 nC), upd_ne hb]; exact a1, a2, fun p' cv hcv => ?_⟩
        obtain ⟨c0, e1, e2⟩ := a3 p' cv hcv
        exact ⟨c0, e1, hE _ _ e2 codeO_ne⟩
    · have n1 : h'.objs.size ≠ c' := Nat.ne_of_gt hlt
      have n2 : h'.objs.size ≠ P := Nat.ne_of_gt (Nat.lt_of_lt_of_le (Heap.lt_size hP') hsz)
      rw [upd_ne n1, upd_ne n2]
      exact I.hok.fresh hsz
  | some cv =>
    obtain ⟨c', e, hco⟩ := ha pos cv hc
    subst e
    refine PySem.W.kla_makeFunctionHit (mg := X.mg) (c := c) (P := P) (ps := ps) (closure_ok hfree) I.ok.glob (I.mod.glob.keeps I.bk) hcode (TB.code.keeps I.bk) hP' ht hc bP fun ctv h' tk hx hsz => ?_
    have I1 : Inv X pins σ H { s with heap := h'.push (PySem.W.kla_obj "<lambda>" (X.env.qual ++ "<lambda>") params body scope (cloFrom X.env.cells scope.names []) ((X.mg "__name__").getD .none) c' ctv), toks := tk } := I.kept fun b o e => Heap.get?_push_of_some _ (hx b o e)
    exact h h'.objs.size c' ((X.mg "__name__").getD .none) ctv H _ I1 (.inl rfl) hT (Heap.get?_push_size _ rfl) (I.hok.fresh hsz) (nofr _ hsz) hco
/-- x(), in the def that got the lambda: Z is that def's context, entered at s -/
theorem pe_actS {CXg : CXT} {Eg : XK} {Ng : List Str} {qg : Str} {sg : Scope} {g f c' : Addr} {cdg pm ctv : Value} {params : Arguments} {body : Expr} {scope : Scope} {k i : Nat} {a : Str} {pn : List (Addr × Obj)} {xe : Value → Shared → Prop} {W : WX} {tb : XK → TE} {p1 p2 : Pos}
    (I : Inv X pins σ H s) (L : LamS X.env.scope scope) (hf : s.heap.get? f = some (PySem.W.kla_obj "<lambda>" (X.env.qual ++ "<lambda>") params body scope (cloFrom X.env.cells scope.names []) pm c' ctv)) (hfn : H f = none) (hfr : f ∉ frs X.stack)
    (hbind : bindArgs (PySem.W.kla_fn "<lambda>" (X.env.qual ++ "<lambda>") params body scope (cloFrom X.env.cells scope.names []) pm (.ref c') ctv) ⟨[], []⟩ = pure [])
    (tk : Takes ((cxOf CXg X.prog X.w X.K X.mg X.base Ng qg sg g cdg X.A X.stack s H Eg).tr pn xe) W) (hr : Room (k + 1) (X.A.deeper (envOfC qg sg s.heap.objs.size g cdg)))
    (hbody : ∀ (A : Around) (outer : List Env) (s : Shared) (H : Hp) (E : XK), Room k (A.deeper (lamEnv X scope s.heap.objs.size f c')) → PE (lamCx X A outer s H E scope f c') body (tb E))
    (hN : Ng[i]? = some a) (hv : Vis sg a) (hd : (a == ("__debug__" : Str)) = false := by decide) (hcd : (a == ("__classdict__" : Str)) = false := by decide) :
    PE ((cxOf CXg X.prog X.w X.K X.mg X.base Ng qg sg g cdg X.A X.stack s H Eg).tr pn xe) (.Call (.Name a p1) [] [] p2)
      (fun σZ HZ Q => σZ[i]? = some (some (.ref f)) ∧ HZ c' = some (CodeO c' (X.env.qual ++ "<lambda>")) ∧ tb (L2.WE W σZ) σ HZ Q) := by
  refine ⟨fun pinsZ sZ σZ HZ Q IZ h => ?_⟩
  obtain ⟨hs, hc, ht⟩ := h
  generalize hE : L2.WE W σZ = E at ht
  refine wpAny_Call_Name_kw (thn ((pe_var (pos := p1) (i := i) hN hv hd hcd).run pinsZ sZ σZ HZ (fun v H1 => v = .ref f ∧ H1 = HZ) IZ ⟨.ref f, hs, rfl, rfl⟩) fun u s1 ⟨v, H1, I1, r1, q1⟩ => ?_)
  obtain ⟨ev, eH⟩ := q1
  subst ev
  rw [eH] at I1
  obtain rfl : u = Value.ref f := r1
  have of1 : s1.heap.get? f = some (PySem.W.kla_obj "<lambda>" (X.env.qual ++ "<lambda>") params body scope (cloFrom X.env.cells scope.names []) pm c' ctv) := I1.base.keep f _ hf hfn hfr (fun z => nomatch (show f ∈ ([] : List Addr) from z))
  refine PySem.W.callWith_F0 ⟨_, _, _, _, of1⟩ ?_
  have un : Un (frs X.stack) [] H HZ s.heap s1.heap := I1.base
  obtain ⟨⟨oc, vs, t, hoc, hdc, hvc⟩, _, _⟩ := I1.hok c' _ hc
  have rc : codeAny (model X.prog X.w) (X.A.deeper (envOfC qg sg s.heap.objs.size g cdg)) (.call (.ref f) ⟨[], []⟩) (CR (L2.CX X.prog X.w) (envOfC qg sg s.heap.objs.size g cdg :: X.stack) X.prog X.w HZ s1 Q E) s1 := by
    refine PySem.W.kla_callFunE hr.depth of1 rfl L.co L.gen rfl ⟨c', oc, vs, t, rfl, hoc, hdc, hvc⟩ ?_
    rw [hbind]
    refine wpAny_pure (wpAny_newFunctionEnv (fun y hy => (L.own y hy).2) (fun y hy => absurd hy (by simp)) (fun h₁ hns hsb => ⟨I1.nolimit.fresh _ hsb, ?_⟩) L.kind)
    show codeAny _ _ (.expr body (lamEnv X scope s1.heap.objs.size f c')) _ _
    have kp : ∀ b o, s1.heap.get? b = some o → h₁.get? b = some o := fun b o e => hsb.extBut b o (Nat.ne_of_lt (Heap.lt_size e)) (Heap.get?_push_of_some _ e)
    have J : Inv (lamCx X (X.A.deeper (envOfC qg sg s.heap.objs.size g cdg)) (envOfC qg sg s.heap.objs.size g cdg :: X.stack) s1 HZ E scope f c') [] σ HZ { s1 with heap := h₁, toks := s1.toks + ([] : List (Str × Value)).length } :=
      lam_start2 I L I1.env0 hr.hd un hns kp
    refine PySem.W.kla_codeExpr (wpAny_mono ((hbody _ _ s1 HZ E (hr.deeper _)).run [] _ _ HZ Q J ht) (fun v s' hq => ?_) fun e s' hq => hq)
    obtain ⟨w', H', J', rv, q⟩ := hq
    exact ⟨w', H', J'.os, J'.bare, J'.base, J'.hok, rv, q⟩
  have hx := L2.passAt tk σZ
  rw [hE] at hx
  refine wpAny_call (codeAny_mono rc fun r s' hq => ?_)
  cases r with
  | error e => exact hx pinsZ HZ s1 e s' I1 hq
  | ok fl =>
    cases fl with
    | ret u => exact I1.after hq
    | next => exact False.elim hq
    | brk => exact False.elim hq
    | cont => exact False.elim hq
end
/-- the def that calls what it got: a calls it; TT: what it makes of the lambda's reading -/
def GivesS (P : Program) (w : World) (K : PySem.W.Frag) (mg : Str → Option Value) (base : Heap) (AA : Around) (stk : List Env) (Ng : List Str) (x : Str) (sg : Scope) (g : Addr) (cdg : Value) (bg : List Stmt) (a : Str) (q : Str) (TT : (XK → Hp → VK → Prop) → Hp → VK → Prop) : Prop :=
  ∀ (f c' : Addr) (s : Shared) (H : Hp) (Q : VK) (tl : XK → Hp → VK → Prop),
    (∀ (W : WX) (pn : List (Addr × Obj)) (xe : Value → Shared → Prop) (p1 p2 : Pos), Takes ((cxOf C8.CX0 P w K mg base Ng x sg g cdg AA stk s H C8.E0).tr pn xe) W →
      PE ((cxOf C8.CX0 P w K mg base Ng x sg g cdg AA stk s H C8.E0).tr pn xe) (.Call (.Name a p1) [] [] p2) (fun σZ HZ Q => σZ[0]? = some (some (.ref f)) ∧ HZ c' = some (CodeO c' q) ∧ tl (L2.WE W σZ) HZ Q)) →
    H c' = some (CodeO c' q) → TT tl H Q →
    ∃ t, PSs (cxOf C8.CX0 P w K mg base Ng x sg g cdg AA stk s H C8.E0).nox bg t ∧ t { nx := fun _ H' => Q .non H', rt := Q } (L2.start Ng [.ref f]) H
def tLamS (P : Addr) (q : Str) (T : List (Addr × Str)) (TT : (XK → Hp → VK → Prop) → Hp → VK → Prop) (t : XK → TE) : TE := fun σ H Q => Tabs T H ∧ ∀ H1, MkT P q H H1 → Tabs T H1 → TT (fun E H' Q' => t E σ H' Q') H1 Q
section
variable {X : Cx}
/-- x(lambda: body) -/
theorem pe_lamcallS {T : List (Addr × Str)} {TT : (XK → Hp → VK → Prop) → Hp → VK → Prop} {x a : Str} {g c P : Addr} {k : Nat} {pg : Arguments} {bg : List Stmt} {sg : Scope} {dV kV doc pm cdv ct oc : Value} {an od : Option Addr} {osl : Array (Option Value)} {Ng : List Str}
    {params : Arguments} {body : Expr} {scope : Scope} {t : XK → TE} {p lpos pos : Pos} (hg : Gl X x) (hm : X.mg x = some (.ref g)) (hk : PySem.W.keepIn X.K (.ref g) = true)
    (lk : X.K.lookup g = some ⟨oc, od, .func (PySem.W.fnOf x x pg bg sg dV kV doc pm an cdv ct), osl⟩) (hcg : PySem.W.codeIn X.K cdv x = true) (hb : L2.Binds X.K (PySem.W.fnOf x x pg bg sg dV kV doc pm an cdv ct) [a] []) (Sg : FnScope Ng [a] sg) (hNg : Ng[0]? = some a) (hva : Vis sg a)
    (hG : GivesS X.prog X.w X.K X.mg X.base X.A X.stack Ng x sg g cdv bg a (X.env.qual ++ "<lambda>") TT)
    (TB : TabB X.base X.mg c P) (hcode : X.env.code = .ref c) (hmT : (P, X.env.qual ++ "<lambda>") ∈ T) (hu : ∀ p ∈ T, p.1 = P → p.2 = X.env.qual ++ "<lambda>") (hr : Room (k + 2) X.A) (L : LamS X.env.scope scope) (hdef : defaultsOf params X.env = ([], []))
    (hbind : ∀ (q : Str) (cl : List (Str × Addr)) (pm cv ctv : Value), bindArgs (PySem.W.kla_fn "<lambda>" q params body scope cl pm cv ctv) ⟨[], []⟩ = pure [])
    (hbody : ∀ (A : Around) (outer : List Env) (s : Shared) (H : Hp) (E : XK) (f c' : Addr), Room k (A.deeper (lamEnv X scope s.heap.objs.size f c')) → PE (lamCx X A outer s H E scope f c') body (t E))
    (hdb : (x == ("__debug__" : Str)) = false := by decide) (hd : (a == ("__debug__" : Str)) = false := by decide) (hcd : (a == ("__classdict__" : Str)) = false := by decide) :
    PE X (.Call (.Name x p) [.Lambda params body scope lpos] [] pos) (tLamS P (X.env.qual ++ "<lambda>") T TT t) := by
  refine ⟨fun pins s σ H Q I h => ?_⟩
  obtain ⟨hT, h⟩ := h
  refine wpAny_Call_Name_kw (ld_glob I hg hm ?_ hdb)
  refine PySem.W.callWith_K (h₀ := X.base) I.ok.mod.kin hk ?_ (by rfl) (by rfl)
  show wpAny _ _ (spliced ((false, eval (.Lambda params body scope lpos) X.env) :: backTo pos (starEach [] X.env))) _ _ s
  refine Calls.spliced_cons (lam_makeS I TB hcode hmT hu hT hdef (L.has I.ok) fun f c' pm' ctv H1 s' I1 eN T1 hf hfn hfr hco => ?_)
  refine Calls.spliced_nil ⟨I1.kIn, ?_⟩
  have rc : codeAny (model X.prog X.w) X.A (.call (.ref g) ⟨[.ref f], []⟩) (CR C8.CX0 X.stack X.prog X.w H1 s' Q C8.E0) s' := by
    refine run_ofS (N := Ng) (ps := [a]) (us := [.ref f]) (vs := [.ref f]) lk hcg Sg hr I1.env0 (hb s' [.ref f] I1.kIn rfl) (.cons rfl .nil) rfl fun hr' => ?_
    obtain ⟨t', ht', hq'⟩ := hG f c' s' H1 Q (fun E H' Q' => t E σ H' Q') (fun W pn xe p1 p2 tk => pe_actS (i := 0) I1 L hf hfn hfr (hbind _ _ _ _ _) tk hr' (fun A outer s H E hr2 => hbody A outer s H E f c' hr2) hNg hva hd hcd) hco (h H1 eN T1)
    exact ⟨t', ht'.nox, hq'⟩
  refine wpAny_call (codeAny_mono rc fun r s2 hq => ?_)
  cases r with
  | error e => exact (show False from hq).elim
  | ok fl =>
    cases fl with
    | ret u => exact I1.after hq
    | next => exact False.elim hq
    | brk => exact False.elim hq
    | cont => exact False.elim hq
end
end Lb

namespace Lg
open PySem PySem.Spec PyProof.Rows L2 Lm
/-! ### enumerate(zip(..)) walked -/
def YEz (xs ys : List V) : Nat → Hp → V → Hp → Prop := fun i H v H' => ∃ T0 T x y, v = .ref T ∧ H T0 = none ∧ H T = none ∧ T0 ≠ T ∧ H' = upd (upd H T0 (.tup [x, y])) T (.tup [.int (i : Nat), .ref T0]) ∧ xs[i]? = some x ∧ ys[i]? = some y
theorem walk_ez {S : Hp → Addr → List V → Prop} {a b : Addr} {xs ys : List V} (hl : xs.length = ys.length) : Walk (Ez.Itez S a b) xs.length (fun H => S H a xs ∧ S H b ys) (YEz xs ys) := by
  constructor
  · intro i H hi q
    exact ⟨xs, ys, xs[i], ys[i]'(by omega), q.1, q.2, List.getElem?_eq_getElem hi, List.getElem?_eq_getElem (by omega)⟩
  · intro H q
    exact ⟨xs, ys, q.1, q.2, .inl (Nat.le_refl _)⟩
  · intro i H v H' _ q y
    obtain ⟨T0, T, x, z, e1, e2, e3, e4, e5, e6, e7⟩ := y
    exact ⟨T0, T, x, z, e1, e2, e3, e4, e5, e6 xs q.1, e7 ys q.2⟩
/-! ### which stretch does not fit -/
def seqD (b : Bool) (ds : List PyData) : PyData := if b then .tuple ds else .list ds
def misF : Nat → List Lamp → List (List Stt) → Option (Int × Int)
  | k, l :: ls, g :: gs => match wrongs (fitB l) 0 g with
    | [] => misF (k + 1) ls gs
    | w :: _ => some ((k : Int), w)
  | _, _, _ => none
def reasonD (n i : Int) : PyData := .tuple [.str "stretch", .int n, .int i]
def misD : Option (Int × Int) → PyData
  | none => .none
  | some p => reasonD p.1 p.2
/-- a stretch as it is looked at -/
def SttIn (q : Stt) : Prop := 0 ≤ q.1 ∧ q.1 < q.2 ∧ q.2 ≤ 10000000000
structure LgIn (g : List Stt) : Prop where
  len : g.length ≤ 900
  stt : ∀ q ∈ g, SttIn q
def StayIn (l : Lamp) : Prop := 1 ≤ l.2 ∧ l.2 < 1073741824
structure MisOk (ls : List Lamp) (gs : List (List Stt)) : Prop where
  same : ls.length = gs.length
  len : ls.length ≤ 900
  lamp : ∀ l ∈ ls, StayIn l
  log : ∀ g ∈ gs, LgIn g
def sp_misfit (K : PySem.W.Frag) : Sp := sp_f K (fun x : Bool × List Lamp × List (List Stt) => [seqD x.1 (x.2.1.map lampD), seqD x.1 (x.2.2.map logD)]) (fun x => MisOk x.2.1 x.2.2) (fun x => misD (misF 0 x.2.1 x.2.2))
def unexp (C : Addr) : Option (Int × Int) → Option (Addr × Str × PyData)
  | none => none
  | some p => some (C, "reason", reasonD p.1 p.2)
def sp_checkFits (K : PySem.W.Frag) (C : Addr) : Sp := sp_fe K (fun x : Bool × List Lamp × List (List Stt) => [seqD x.1 (x.2.1.map lampD), seqD x.1 (x.2.2.map logD)]) (fun x => MisOk x.2.1 x.2.2) (fun _ => .none) (fun x => unexp C (misF 0 x.2.1 x.2.2))
theorem misF_one (l : Lamp) (g : List Stt) : misF 0 [l] [g] = match wrongs (fitB l) 0 g with
    | [] => none
    | w :: _ => some (0, w) := by
  simp only [misF]
  cases wrongs (fitB l) 0 g <;> rfl
/-- one lamp and its log -/
def One (x : Lamp × List Stt) : Prop := StayIn x.1 ∧ LgIn x.2
theorem One.mis {x : Lamp × List Stt} (h : One x) : MisOk [x.1] [x.2] := ⟨rfl, (show 1 ≤ 900 by decide), fun l hl => by rw [List.mem_singleton.mp hl]; exact h.1, fun g hg => by rw [List.mem_singleton.mp hg]; exact h.2⟩
/-! ### sure runs -/
def sureR (l : Lamp) (q : Stt) : Run := if q.2 - q.1 = l.2 then (q.1, 1, 1) else if l.1 then (q.1, q.2 - l.2 - q.1, 2) else (q.1, l.2, (q.2 - q.1).fdiv l.2)
def sp_sureRun (K : PySem.W.Frag) : Sp := sp_f K (fun x : Lamp × Stt => [lampD x.1, pD x.2]) (fun x => StayIn x.1) (fun x => runD (sureR x.1 x.2))
def oneErr (C : Addr) (x : Lamp × List Stt) : Option (Addr × Str × PyData) := unexp C (misF 0 [x.1] [x.2])
def sp_sureRuns (K : PySem.W.Frag) (C : Addr) : Sp := sp_fe K (fun x : Lamp × List Stt => [lampD x.1, logD x.2]) One (fun x => .tuple ((x.2.map (sureR x.1)).map runD)) (oneErr C)
theorem oneErr_some {C : Addr} {x : Lamp × List Stt} {w : Int} {r : List Int} (h : wrongs (fitB x.1) 0 x.2 = w :: r) : oneErr C x = some (C, ("reason" : Str), reasonD 0 w) := by
  unfold oneErr
  rw [misF_one, h]
  rfl
theorem oneErr_none {C : Addr} {x : Lamp × List Stt} (h : wrongs (fitB x.1) 0 x.2 = []) : oneErr C x = none := by
  unfold oneErr
  rw [misF_one, h]
  rfl
/-! ### what a law makes of an answer that may be an error -/
/-- ("result", value), or (name of the class, its field) -/
def toldE (F : PyData) : Option (Addr × Str × PyData) → PyData
  | none => .tuple [.str "result", F]
  | some e => .tuple [.str "Unexplained", e.2.2]
/-- what the def that gets the lambda makes of its reading -/
def TTold (C : Addr) : (XK → Hp → VK → Prop) → Hp → VK → Prop := fun tl H Q => ∀ f, H f = none → ∀ (E' : XK) (Q' : VK),
  (∀ H2 dd v, H2 dd = some (.xd [("reason", v)]) → H2 f = some (.lst []) → (∀ t H4, H2 t = none → t ≠ f → H4 t = some (.tup [.str "Unexplained", v]) → (∀ b o, b ≠ f → H2 b = some o → H4 b = some o) → Q (.ref t) H4) → E' (.ref C) (some dd) H2) →
  (∀ v H2, (∀ t, H2 t = none → Q (.ref t) (upd H2 t (.tup [.str "result", v]))) → Q' v H2) → tl E' (upd H f (.lst [])) Q'
/-! ### a law's own table of code objects -/
section
variable {S : Src} {Z H H1 : Hp} {b : Nat} {P : Addr} {q : Str}
/-- what is seen beside the table -/
noncomputable abbrev vis (S : Src) (Z : Hp) (P : Addr) (H : Hp) : Hp := hid S (upd Z P (.tbl #[])) H
theorem hid_tb {o o' : HO} : hid S (upd Z P o) H = hid S (upd Z P o') H := by
  funext a
  have e : NZ S (upd Z P o) a ↔ NZ S (upd Z P o') a := by
    show (S.own a ∨ upd Z P o a ≠ none) ↔ (S.own a ∨ upd Z P o' a ≠ none)
    by_cases h : a = P
    · rw [h, upd_same, upd_same]
      constructor <;> exact fun _ => .inr fun z => nomatch z
    · rw [upd_ne h, upd_ne h]
  show Lg.cut _ H a = Lg.cut _ H a
  unfold Lg.cut
  by_cases h : NZ S (upd Z P o) a
  · rw [if_pos h, if_pos (e.mp h)]
  · rw [if_neg h, if_neg fun z => h (e.mpr z)]
theorem vis_eq {ps : Array Value} : hid S (upd Z P (.tbl ps)) H = vis S Z P H := hid_tb
/-- the source stands, the table is hidden, its code objects are known -/
def LT (S : Src) (Z : Hp) (P : Addr) (q : Str) (b : Nat) (H : Hp) : Prop := ∃ ps : Array Value, Iv S (upd Z P (.tbl ps)) b H ∧ TriplesOk ps.toList ∧ ∀ (pos : Pos) (cv : Value), codeAmong pos ps.toList = some cv → ∃ c, cv = .ref c ∧ vis S Z P H c = some (LamX.CodeO c q)
theorem LT.tabs (h : LT S Z P q b H) : LamX.Tabs [(P, q)] H := fun p hp => by
  rw [List.mem_singleton.mp hp]
  obtain ⟨ps, Pi, ht, hc⟩ := h
  refine ⟨ps, Pi.zz _ _ upd_same, ht, fun pos cv e => ?_⟩
  obtain ⟨c, e1, e2⟩ := hc pos cv e
  exact ⟨c, e1, hid_same _ _ e2⟩
theorem LT.less {c : Nat} (h : LT S Z P q b H) (l : c ≤ b) : LT S Z P q c H := by
  obtain ⟨ps, Pi, ht, hc⟩ := h
  exact ⟨ps, Pi.less l, ht, hc⟩
theorem LT.step {ps : Array Value} {c : Nat} (h : LT S Z P q b H) (hp : H P = some (.tbl ps)) (Pi : Iv S (upd Z P (.tbl ps)) c H1) (k : Kp S (upd Z P (.tbl ps)) H H1) : LT S Z P q c H1 := by
  obtain ⟨ps', Pi', ht, hc⟩ := h
  have e := Pi'.zz _ _ (upd_same (a := P) (o := .tbl ps'))
  rw [hp] at e
  cases e
  refine ⟨ps, Pi, ht, fun pos cv e => ?_⟩
  obtain ⟨c0, e1, e2⟩ := hc pos cv e
  refine ⟨c0, e1, ?_⟩
  rw [← vis_eq (ps := ps)] at e2 ⊢
  exact k _ _ e2
theorem LT.keep (h : LT S Z P q b H) (s : Same H H1) : LT S Z P q b H1 := by
  obtain ⟨ps, Pi, ht, hc⟩ := id h
  exact h.step (Pi.zz _ _ upd_same) (Pi.keep s) (Kp.of s)
theorem LT.lam (h : LT S Z P q b H) (m : Lb.MkT P q H H1) : LT S Z P q b H1 ∧ Same (vis S Z P H) (vis S Z P H1) := by
  rcases m with rfl | ⟨ps, pos, c', hP, ht, hc', rfl⟩
  · exact ⟨h, Same.refl _⟩
  · obtain ⟨ps', Pi, ht', hc⟩ := h
    have e := Pi.zz _ _ (upd_same (a := P) (o := .tbl ps'))
    rw [hP] at e
    cases e
    have nPc : P ≠ c' := ne_of_none hP hc'
    have oP : ¬ S.own P := fun z => by
      have := Pi.zo _ z
      rw [upd_same] at this
      cases this
    have fr := Pi.free hc'
    have zc : Z c' = none := by have := fr.2; rw [upd_ne nPc.symm] at this; exact this
    have zP : ∀ o, upd Z P o P = some o := fun o => upd_same
    generalize hn : ps ++ #[rawInt pos.line, rawInt pos.col, .ref c'] = pn
    have at_ : ∀ a, a ≠ P → a ≠ c' → upd (upd H P (.tbl pn)) c' (LamX.CodeO c' q) a = H a := fun a h1 h2 => by rw [upd_ne h2, upd_ne h1]
    have sv : Same (vis S Z P H) (vis S Z P (upd (upd H P (.tbl pn)) c' (LamX.CodeO c' q))) := fun a o e => by
      have n := hid_some e
      rw [vis, hid_at n] at e
      rw [vis, hid_at n]
      have nP : a ≠ P := fun z => by have := n.2; rw [z, upd_same] at this; cases this
      rw [at_ a nP (ne_of_none e hc')]
      exact e
    refine ⟨⟨pn, ⟨S.frame (fun a ha => at_ a (fun z => oP (z ▸ ha)) fun z => fr.1 (z ▸ ha)) Pi.src, fun a o e => ?_, fun a ha => ?_⟩, ?_, fun p' cv e => ?_⟩, sv⟩
    · by_cases hb : a = P
      · rw [hb, upd_same] at e
        rw [hb, upd_ne nPc, upd_same]
        exact e
      · rw [upd_ne hb] at e
        have e2 := Pi.zz a o (by rw [upd_ne hb]; exact e)
        rw [at_ a hb (ne_of_none e2 hc')]
        exact e2
    · have := Pi.zo a ha
      have hb : a ≠ P := fun z => oP (z ▸ ha)
      rw [upd_ne hb] at this ⊢
      exact this
    · rw [← hn]
      have eL : (ps ++ #[rawInt pos.line, rawInt pos.col, .ref c']).toList = ps.toList ++ [rawInt pos.line, rawInt pos.col, .ref c'] := by simp
      rw [eL]
      exact PySem.TriplesOk_snoc _ _ _ _ ht
    · rw [← hn] at e
      have eL : (ps ++ #[rawInt pos.line, rawInt pos.col, .ref c']).toList = ps.toList ++ [rawInt pos.line, rawInt pos.col, .ref c'] := by simp
      rw [eL] at e
      rcases LamX.among_app _ ht e with z | z
      · obtain ⟨c0, e1, e2⟩ := hc p' cv z
        exact ⟨c0, e1, sv _ _ e2⟩
      · refine ⟨c', z, ?_⟩
        rw [vis, hid_at (show Off S (upd Z P (.tbl #[])) c' from ⟨fr.1, by rw [upd_ne nPc.symm]; exact zc⟩), upd_same]
theorem lt_start (Pi : Iv S Z b H) (hP : H P = some (.tbl #[])) (oP : ¬ S.own P) : LT S Z P q b H :=
  ⟨#[], Pi.hide hP oP, trivial, fun pos cv e => by
    have z : codeAmong pos [] = some cv := e
    simp [codeAmong] at z⟩
/-- a list of the law's own is hidden beside the table -/
theorem LT.iv (h : LT S Z P q b H) : ∃ ps : Array Value, H P = some (.tbl ps) ∧ Iv S (upd Z P (.tbl ps)) b H := by
  obtain ⟨ps, Pi, _, _⟩ := h
  exact ⟨ps, Pi.zz _ _ upd_same, Pi⟩
end
end Lg
namespace Lg
open PySem PySem.Spec PyProof.Rows L2 Lm
section
variable {X : Cx} {K : PySem.W.Frag} {o e : Expr} {es : List Expr} {to : TE} {t : TA} {name : Str} {apos cpos : Pos} {T id : String} {r : V → List V → Hp → VK → Prop}
/-- a method of a built-in type, the written part named (in a suite) -/
theorem pe_bmK (hK : X.K = K) (pa : PlainAttrs T) (slot : Slot T name id) (hty : typeOf (.builtin id) = pure (.type "method_descriptor")) (hm : MtR X id r) (ho : PE X o to) (ha : PA X (e :: es) t)
    (hbase : attributeBase o name X.env (eval o X.env) = eval o X.env := by rfl)
    (hfew : ((backTo cpos (starEach (e :: es) X.env)).all (fun x => !x.1) && (backToKw cpos (keywordEach [] X.env)).all (fun x => x.1.isSome)
      && decide ((e :: es).length + ([] : List Keyword).length + (if ([] : List Keyword).isEmpty then 0 else 1) < 30)) = true := by rfl)
    (hline : (apos.endLine == cpos.line) = true := by rfl) (hs : starEach (e :: es) X.env = (false, eval e X.env) :: starEach es X.env := by rfl) (hplain : (backTo cpos (starEach es X.env)).any (·.1) = false := by rfl) :
    PE X (.Call (.Attribute o name apos) (e :: es) [] cpos) (tBM K T r to t) := hK ▸ pe_bm pa slot hty hm ho ha hbase hfew hline hs hplain
end
end Lg
namespace Lg
open PySem PySem.Spec PyProof.Rows L2 Lm
def dueS (l : Lamp) (g : List Stt) : PyData := match wrongs (fitB l) 0 g with
  | [] => .tuple [.str "result", .tuple ((g.map (sureR l)).map runD)]
  | w :: _ => .tuple [.str "Unexplained", reasonD 0 w]
def sp_dueS (K : PySem.W.Frag) : Sp := sp_f K (fun x : Lamp × List Stt => [lampD x.1, logD x.2]) One (fun x => dueS x.1 x.2)
theorem wrongs_nil {p : Stt → Bool} : ∀ {i : Nat} {ps : List Stt}, wrongs p i ps = [] → ∀ q ∈ ps, p q = true
  | _, [], _, q, h => nomatch h
  | i, x :: r, e, q, h => by
    simp only [wrongs] at e
    cases hp : p x with
    | false => rw [hp] at e; simp at e
    | true =>
      rw [hp] at e
      rcases List.mem_cons.mp h with z | z
      · rw [z]; exact hp
      · exact wrongs_nil (i := i + 1) (by simpa using e) q z
/-- what the law finds of a stretch that fits -/
theorem sureR_alt {l : Lamp} {q : Stt} (hs : 1 ≤ l.2) (hf : fitB l q = true) :
    sureR l q = if q.2 - l.2 = q.1 then (q.1, 1, 1) else if l.1 then (q.1, q.2 - l.2 - q.1, 2) else (q.1, l.2, (q.2 - l.2 - q.1).fdiv l.2 + 1) := by
  unfold sureR
  by_cases h : q.2 - q.1 = l.2
  · rw [if_pos h, if_pos (by omega)]
  · have h2 : ¬ q.2 - l.2 = q.1 := by omega
    simp only [if_neg h, if_neg h2]
    cases l.1 with
    | true => rfl
    | false =>
      have e : q.2 - q.1 = (q.2 - l.2 - q.1) + l.2 * 1 := by omega
      have e2 : (q.2 - q.1).fdiv l.2 = (q.2 - l.2 - q.1).fdiv l.2 + 1 := by
        rw [e, Int.add_mul_fdiv_left _ _ (by omega)]
      rw [e2]
end Lg

set_option maxHeartbeats 1000000
namespace Lg
open PySem PySem.Spec PyProof.Rows L2 Lm
/-! ### one turn of a list of answers that a lambda's def gives -/
section
variable {S : Src} {Z H H1 Hk G : Hp} {b : Nat} {P tl f : Addr} {q : Str} {xs : List V} {K : PySem.W.Frag}
/-- what is seen beside the table and the list at tl -/
noncomputable abbrev cv (S : Src) (Z : Hp) (P tl : Addr) (H : Hp) : Hp := cut1 tl (vis S Z P H)
/-- the list at tl is the law's own, no table -/
abbrev OffT (S : Src) (Z : Hp) (P tl : Addr) : Prop := Off S (upd Z P (.tbl #[])) tl
theorem OffT.ne (o : OffT S Z P tl) : tl ≠ P := fun z => by
  have := o.2
  rw [z, upd_same] at this
  cases this
theorem OffT.off (o : OffT S Z P tl) {ps : Array Value} : Off S (upd Z P (.tbl ps)) tl := ⟨o.1, by
  have h := o.2
  have n : tl ≠ P := o.ne
  rw [upd_ne n] at h ⊢
  exact h⟩
theorem LT.occ (h : LT S Z P q b H) : Occ (NZ S (upd Z P (.tbl #[]))) H := by
  obtain ⟨ps, Pi, _, _⟩ := h
  intro a ha
  refine Pi.occ a (ha.elim .inl fun z => .inr ?_)
  by_cases e : a = P
  · rw [e, upd_same]; exact fun z => nomatch z
  · rw [upd_ne e] at z ⊢
    exact z
theorem LT.free (h : LT S Z P q b H) (n : H f = none) : OffT S Z P f := ⟨fun z => (h.occ f (.inl z)) n, by
  cases e : upd Z P (.tbl #[]) f with
  | none => rfl
  | some o => exact absurd n (h.occ f (.inr (by rw [e]; exact fun z => nomatch z)))⟩
theorem LT.upd {o : HO} {u : HO} (h : LT S Z P q b G) (of : OffT S Z P tl) (e : G tl = some u) (ne : u ≠ LamX.CodeO tl q) : LT S Z P q b (L2.upd G tl o) := by
  obtain ⟨ps, Pi, ht, hc⟩ := h
  refine ⟨ps, Pi.upd of.off, ht, fun pos cv e1 => ?_⟩
  obtain ⟨c0, e2, e3⟩ := hc pos cv e1
  refine ⟨c0, e2, ?_⟩
  have n := hid_some e3
  rw [vis, hid_at n] at e3 ⊢
  rw [upd_ne (fun z => ne (by rw [z] at e3; rw [e] at e3; exact Option.some.inj e3))]
  exact e3
theorem lst_code {c : Addr} (q : Str) (xs : List V) : (HO.lst xs) ≠ LamX.CodeO c q := fun z => by
  unfold LamX.CodeO at z
  cases z
theorem lam_at (m : Lb.MkT P q Hk H1) (n : tl ≠ P) {o : HO} (e : Hk tl = some o) : H1 tl = some o := by
  rcases m with rfl | ⟨ps, pos, c', hP, _, hc', rfl⟩
  · exact e
  · rw [upd_ne (ne_of_none e hc'), upd_ne n]
    exact e
theorem told_lam {C : Addr} {α : Type} {A : α → List PyData} {Pr : α → Prop} {F : α → PyData} {B : α → Option (Addr × Str × PyData)} {x : α} {vs : List V} {tb : XK → TE} {σ : L2.St} {Qf : VK}
    (L : LT S Z P q b Hk) (of : OffT S Z P tl) (et : Hk tl = some (.lst xs)) (hv : Dqs K (cv S Z P tl Hk) vs (A x)) (hx : Pr x) (hB : ∀ C' f d, B x = some (C', f, d) → C' = C ∧ f = "reason")
    (hcall : ∀ E H' Q', sp_fe K A Pr F B vs H' Q' E → tb E σ H' Q')
    (hq : ∀ v G, LT S Z P q b G → Same (cv S Z P tl Hk) (cv S Z P tl G) → G tl = some (.lst xs) → Dq K (cv S Z P tl G) v (toldE (F x) (B x)) → Qf v G) :
    Lb.tLamS P q [(P, q)] (TTold C) tb σ Hk Qf := by
  refine ⟨L.tabs, fun H1 m T1 f nf E' Q' hE hQ => hcall _ _ _ ?_⟩
  obtain ⟨L1, sv⟩ := L.lam m
  have et1 := lam_at m of.ne et
  have O1 := L1.occ
  have tf : tl ≠ f := ne_of_none et1 nf
  have sf : Same H1 (L2.upd H1 f (.lst [])) := same_new nf
  have cN0 : ∀ G : Hp, Lg.cut (NP (NZ S (L2.upd Z P (.tbl #[]))) tl) G = cv S Z P tl G := fun G => np_cut1
  have s0 : Same (cv S Z P tl Hk) (cv S Z P tl H1) := cut_mono sv
  have sN : Same (cv S Z P tl H1) (Lg.cut (NP (NP (NZ S (L2.upd Z P (.tbl #[]))) tl) f) (L2.upd H1 f (.lst []))) := by
    rw [np_cut1, cN0]
    intro a o e
    have n1 : a ≠ f := ne_of_none ((cut_some (cut_some e).2).2) nf
    rw [cut1_at n1]
    have := cut_mono (N := fun a => a = tl) (cut_mono (N := NZ S (L2.upd Z P (.tbl #[]))) sf) _ _ e
    exact this
  have Of : Occ (NP (NP (NZ S (L2.upd Z P (.tbl #[]))) tl) f) (L2.upd H1 f (.lst [])) := fun a ha => by
    rcases ha with (h | h) | h
    · exact (O1.keep sf) a h
    · rw [h, sf _ _ et1]; exact fun z => nomatch z
    · rw [h, upd_same]; exact fun z => nomatch z
  have down : ∀ G : Hp, Same (Lg.cut (NP (NP (NZ S (L2.upd Z P (.tbl #[]))) tl) f) G) (cv S Z P tl G) := fun G => by
    rw [np_cut1, cN0]
    exact cut_same
  refine ⟨NP (NP (NZ S (L2.upd Z P (.tbl #[]))) tl) f, x, Of, hv.mono (s0.trans sN), hx, fun hb r G sG hr => hQ r G fun t nt => ?_, fun C' fl d hb dd v H2 sG nd hdd hd => ?_⟩
  · have st : Same G (L2.upd G t (.tup [.str "result", r])) := same_new nt
    have sA : Same H1 (L2.upd G t (.tup [.str "result", r])) := (sf.trans sG).trans st
    have Ot : Occ (NP (NZ S (L2.upd Z P (.tbl #[]))) tl) G := fun a ha => ((O1.keep (sf.trans sG)).more (f := tl) (by rw [(sf.trans sG) _ _ et1]; exact fun z => nomatch z)) a ha
    refine hq _ _ (L1.keep sA) (s0.trans (cut_mono (cut_mono sA))) (sA _ _ et1) ?_
    rw [hb]
    refine .tup (.inl (.inl ?_)) (.cons (.str _) (.cons ((hr.mono (down G)).mono (cut_mono (cut_mono st))) .nil))
    rw [← cN0]
    exact cut_new Ot nt
  · obtain ⟨rfl, rfl⟩ := hB _ _ _ hb
    have ef2 : H2 f = some (.lst []) := sG _ _ upd_same
    refine hE H2 dd v hdd ef2 fun t H4 nt tne h4 hk4 => ?_
    have sA : Same H1 H4 := fun a o e => hk4 a o (ne_of_none e nf) (sG _ _ (sf _ _ e))
    have s24 : Same (Lg.cut (NP (NP (NZ S (L2.upd Z P (.tbl #[]))) tl) f) H2) (cv S Z P tl H4) := by
      rw [np_cut1, cN0]
      intro a o e
      have n1 : a ≠ f := (cut_some e).1
      have e2 := (cut_some e).2
      have n2 := (cut_some e2).1
      have e3 := (cut_some e2).2
      have n3 := (cut_some e3).1
      have e4 := (cut_some e3).2
      show cut1 tl (vis S Z P H4) a = some o
      rw [cut1_at n2]
      show Lg.cut _ H4 a = some o
      rw [cut_at n3]
      exact hk4 a o n1 e4
    refine hq _ _ (L1.keep sA) (s0.trans (cut_mono (cut_mono sA))) (sA _ _ et1) ?_
    rw [hb]
    have O2 : Occ (NP (NZ S (L2.upd Z P (.tbl #[]))) tl) H2 := fun a ha => ((O1.keep (sf.trans sG)).more (f := tl) (by rw [(sf.trans sG) _ _ et1]; exact fun z => nomatch z)) a ha
    refine .tup (.inl (.inl ?_)) (.cons (.str _) (.cons (hd.mono s24) .nil))
    rw [← cN0, cut_at fun z => O2 t z nt]
    exact h4
/-- the answer is added to the list -/
theorem told_add {G : Hp} {o : HO} : cv S Z P tl (L2.upd G tl o) = cv S Z P tl G := set_cut
end
/-! ### sizes -/
def SmallLog (g : List Stt) : Prop := StOk 60 10000000000 g
theorem sureR_b {l : Lamp} {q : Stt} (hl : StayIn l) (hq : SttIn q) : (sureR l q).1.natAbs < 10 ^ 12 ∧ (sureR l q).2.1.natAbs < 10 ^ 12 ∧ (sureR l q).2.2.natAbs < 10 ^ 12 := by
  obtain ⟨h0, h1⟩ := hl
  obtain ⟨q0, q1, q2⟩ := hq
  unfold sureR
  split
  · exact ⟨by show q.1.natAbs < _; omega, by show (1 : Int).natAbs < _; decide, by show (1 : Int).natAbs < _; decide⟩
  · split
    · exact ⟨by show q.1.natAbs < _; omega, by show (q.2 - l.2 - q.1).natAbs < _; omega, by show (2 : Int).natAbs < _; decide⟩
    · refine ⟨by show q.1.natAbs < _; omega, by show l.2.natAbs < _; omega, ?_⟩
      show ((q.2 - q.1).fdiv l.2).natAbs < _
      rw [Int.fdiv_eq_ediv_of_nonneg _ (by omega)]
      have a : (q.2 - q.1) / l.2 ≤ q.2 - q.1 := Int.ediv_le_self _ (by omega)
      have b : 0 ≤ (q.2 - q.1) / l.2 := Int.ediv_nonneg (by omega) (by omega)
      omega
theorem run3_sm {r : Run} (h : r.1.natAbs < 10 ^ 12 ∧ r.2.1.natAbs < 10 ^ 12 ∧ r.2.2.natAbs < 10 ^ 12) : Sm 48 1 (runD r) :=
  Sm.tuple (c := 3) (n := 13) (k := 0) (ds := [.int r.1, .int r.2.1, .int r.2.2]) (fun d hd => by
    simp only [List.mem_cons, List.not_mem_nil, or_false] at hd
    rcases hd with e | e | e
    · rw [e]; exact Sm.int h.1
    · rw [e]; exact Sm.int h.2.1
    · rw [e]; exact Sm.int h.2.2) (Nat.le_refl _)
theorem reason_sm {n i : Int} (h1 : n.natAbs < 10 ^ 12) (h2 : i.natAbs < 10 ^ 12) : Sm 48 1 (reasonD n i) :=
  Sm.tuple (c := 3) (n := 13) (k := 0) (ds := [.str "stretch", .int n, .int i]) (fun d hd => by
    simp only [List.mem_cons, List.not_mem_nil, or_false] at hd
    rcases hd with e | e | e
    · rw [e]; exact sm_chk (by decide +kernel)
    · rw [e]; exact Sm.int h1
    · rw [e]; exact Sm.int h2) (Nat.le_refl _)
theorem pair_sm {d e : PyData} {n k : Nat} (h1 : Sm n k d) (h2 : Sm n k e) : Sm (2 * (n + 2) + 3) (k + 1) (.tuple [d, e]) :=
  Sm.tuple (c := 2) (fun x hx => by
    simp only [List.mem_cons, List.not_mem_nil, or_false] at hx
    rcases hx with e | e
    · rw [e]; exact h1
    · rw [e]; exact h2) (Nat.le_refl _)
theorem dueS_sm {l : Lamp} {g : List Stt} (h : One (l, g)) (h60 : g.length ≤ 60) : Sm 6100 3 (dueS l g) := by
  unfold dueS
  split
  · refine (pair_sm (n := 3003) (k := 2) ((sm_chk (n := 30) (k := 0) (by decide +kernel)).wide (by decide) (by decide)) ((Sm.tuple (c := 60) (n := 48) (k := 1) (fun d hd => ?_) (by rw [List.length_map, List.length_map]; exact h60)).wide (by decide) (by decide))).wide (by decide) (by decide)
    obtain ⟨r, hr, rfl⟩ := List.mem_map.mp hd
    obtain ⟨q, hq, rfl⟩ := List.mem_map.mp hr
    exact run3_sm (sureR_b h.1 (h.2.stt q hq))
  · rename_i w r hw
    have := wrongs_lt (fitB l) 0 g w (by rw [hw]; exact List.mem_cons_self)
    exact (pair_sm (n := 48) (k := 1) ((sm_chk (n := 30) (k := 0) (by decide +kernel)).wide (by decide) (by decide)) (reason_sm (by decide) (by omega))).wide (by decide) (by decide)
theorem dueS_told {C : Addr} (l : Lamp) (g : List Stt) : toldE (.tuple ((g.map (sureR l)).map runD)) (oneErr C (l, g)) = dueS l g := by
  unfold dueS
  cases h : wrongs (fitB l) 0 g with
  | nil => rw [oneErr_none (x := (l, g)) h]; rfl
  | cons w r => rw [oneErr_some (x := (l, g)) h]; rfl
theorem oneErr_is {C C' : Addr} {f : Str} {d : PyData} {x : Lamp × List Stt} (h : oneErr C x = some (C', f, d)) : C' = C ∧ f = "reason" := by
  unfold oneErr at h
  rw [misF_one] at h
  cases e : wrongs (fitB x.1) 0 x.2 with
  | nil => rw [e] at h; cases h
  | cons w r => rw [e] at h; cases h; exact ⟨rfl, rfl⟩
/-! ### a def whose code object is known, where no repr runs around -/
section
variable {P : Program} {w : World} {K : PySem.W.Frag} {mg : Str → Option Value} {base : Heap}
theorem okGC {x qual : Str} {st : Stmt} {f c : Addr} {fd : FuncData} {N ps : List Str} {k : Nat} {sp : Sp} (F : Fun K x qual st f fd) (hcode : fd.code = .ref c) (S : FnScope N ps (defScope st)) (hlen : ∀ vs H Q E, sp vs H Q E → vs.length = ps.length)
    (hb : ∀ (A : Around) (outer : List Env) (s : Shared) (H : Hp) (vs : List V) (Q : VK) (E : XK), A.guards = some [] → Room k (A.deeper (envOfC qual (defScope st) s.heap.objs.size f (.ref c))) → sp vs H Q E →
      ∃ t, PSs (cxOf CX0 P w K mg base N qual (defScope st) f (.ref c) A outer s H E).nox (defBody st) t ∧ t { nx := fun _ H' => Q .non H', rt := Q } (start N vs) H) : FnG P w K mg base CX0 (k + 1) f fd ps sp := by
  obtain ⟨oc, od, kV, doc, pm, an, cdv, ct, osl, rfl, lk, hcd⟩ := F.ex
  have hcode : cdv = .ref c := hcode
  subst hcode
  refine ⟨hlen, fun A outer s H args us vs Q E g hr e0 bd r hs => ?_⟩
  have hl := hlen _ _ _ _ hs
  have KX : K.In s.heap := e0.mod.kin.keeps fun b o e => (e0.bs b o e).1
  have nl : s.heap.NoLimit := e0.mod.nolimit.keeps fun b o e => (e0.bs b o e).1
  have kinds : ∀ y ∈ ps.zip us, (defScope st).names.lookup y.1 = some .local ∨ ((defScope st).names.lookup y.1 = some .cell ∧ ((cellsFrom (s.heap.objs.size + 1) (defScope st).names []).lookup y.1).isSome = true) := by
    rintro ⟨nm, v⟩ hy
    have hm := (List.of_mem_zip hy).1
    cases S.par nm hm with
    | inl q => exact .inl q
    | inr q => exact .inr ⟨q, PySem.W.cellsFrom_some _ _ _ (.inl q)⟩
  refine codeAny_call_function (hr.depth) (KX _ _ lk) rfl S.co S.gen rfl (PySem.W.codeRec_of KX hcd) (bd _ _ _ _ ?_)
  refine wpAny_newFunctionEnv_cells S.kind kinds ?_
  intro env he s1 x
  subst he
  refine ⟨nl.keeps x.toInCall.keep, codeAny_func ?_⟩
  obtain ⟨t, ht, hq⟩ := hb A outer s H vs Q E g (hr.deeper _) hs
  have J := inv_start (CX := CX0) (E := E) S hr.hd e0 hl r x
  refine wpAny_mono (ht.nox.run [] s1 (start N vs) H _ J hq) ?_ (fun e s' z => z)
  intro fl s' z
  cases fl with
  | ret u => obtain ⟨v, σ2, H2, J2, rv, q⟩ := z; exact ⟨v, H2, J2.os, J2.bare, J2.base, J2.hok, rv, q⟩
  | next => obtain ⟨σ2, H2, J2, q⟩ := z; exact ⟨V.non, H2, J2.os, J2.bare, J2.base, J2.hok, rfl, q⟩
  | brk => obtain ⟨_, _, _, q⟩ := z; exact q.elim
  | cont => obtain ⟨_, _, _, q⟩ := z; exact q.elim
end
/-- the law's promise, its table told -/
def sp_lawT (K : PySem.W.Frag) (PT : Addr) : Sp := fun vs H Q _ => ∃ (a : Addr) (ns : List Int), vs = [.ref a] ∧ SqL K H a (ns.map V.int) ∧ ns.length ≤ 63 ∧ H PT = some (.tbl #[]) ∧ ∀ H', Q (.bl true) H'
theorem tab_in {K : PySem.W.Frag} {x : Str} {f c P : Addr} {oc e : Value} {od dd : Option Addr} {fd : FuncData} {sl sl2 : Array (Option Value)} {us : Array Value} (a : PySem.W.nsIn K mainGlobals x = some (some (.ref f))) (l : K.lookup f = some ⟨oc, od, .func fd, sl⟩) (hc : fd.code = .ref c)
    (l2 : K.lookup c = some ⟨e, dd, .fields us, sl2⟩) (h : us[11]? = some (.ref P)) : PySem.W.tabIn K x = some (c, P) := by
  unfold PySem.W.tabIn
  rw [a]
  simp only [l, hc, l2, h]
end Lg

set_option maxHeartbeats 1000000
namespace Lg
open PySem PySem.Spec PyProof.Rows L2 Lm
/-! ### a comprehension over pairs, with a test, that makes new pairs -/
theorem lc_pairs {J : It} {Gd : Hp → Prop} {K : PySem.W.Frag} {N : Addr → Prop} {xs : List V} {g : TG} {tt : TT} {te : TE} {vs : List Nat} {σ : L2.St} {H1 : Hp} {Dl : Addr} {Qd : Hp → Prop} {as : List Stt} (p : Stt → Bool) (f : Stt → Stt)
    (w : Walk J xs.length Gd (YAt xs)) (hG : ∀ H', Same H1 H' → Gd H') (nD : H1 Dl = none) (O : Occ N H1) (hd : Dqs K (cut N H1) xs (as.map pD)) (hl : as.length ≤ 990)
    (hT : ∀ (G : Hp) (ax : Addr) (y : Stt) (R : V → Hp → Prop) (Rn : Hp → Prop), y ∈ as → Same H1 G → SqT K G ax [.int y.1, .int y.2] →
      (p y = true → ∀ t, G t = none → R (.ref t) (upd G t (.tup [.int (f y).1, .int (f y).2]))) → (p y = false → Rn G) →
      g (.ref ax) (wipe σ vs) G fun σ2 H2 => wipe σ2 vs = wipe σ vs ∧ tt σ2 H2 fun b H3 => if b = true then te σ2 H3 R else Rn H3)
    (hq : ∀ H' acc, Same H1 H' → H' Dl = some (.lst acc) → Dqs K (cut (NP N Dl) H') acc (((as.filter p).map f).map pD) → Qd H') :
    ∃ W : Nat → Nat → Hp → Prop, (∃ m, W 0 m (upd H1 Dl (.lst []))) ∧ ∀ i m H, W i m H →
      (J.stop i H ∧ Qd H) ∨ (J.go i H ∧ ∃ Nx : Hp → Prop, (∀ H', Nx H' → ∃ m', m' < m ∧ W (i + 1) m' H') ∧ ∀ x H', J.yld i H x H' → g x (wipe σ vs) H' fun σ2 H2 => wipe σ2 vs = wipe σ vs ∧ tt σ2 H2 fun b H3 =>
        if b = true then te σ2 H3 fun y H4 => ∃ acc, H4 Dl = some (.lst acc) ∧ acc.length < sizeLine ∧ Nx (upd H4 Dl (.lst (acc ++ [y]))) else Nx H3) := by
  have len := hd.len
  rw [List.length_map] at len
  refine lc_it w (fun i Hj => ∃ acc, Same H1 Hj ∧ Hj Dl = some (.lst acc) ∧ Dqs K (cut (NP N Dl) Hj) acc ((((as.take i).filter p).map f).map pD)) ⟨[], same_new nD, upd_same, .nil⟩ (fun i H _ ⟨_, s, _⟩ => hG H s) ?_ ?_
  · rintro i x Hj H' hi ⟨acc, sj, ej, dj⟩ ⟨rfl, hx⟩
    obtain ⟨y, hy, qy⟩ := dqs_get hd hx
    have la := dj.len
    have lf : ((as.take i).filter p).length ≤ i := Nat.le_trans (List.length_filter_le _ _) (by rw [List.length_take]; omega)
    rw [List.length_map, List.length_map] at la
    obtain ⟨ax, rfl, gx⟩ := dq_pair (qy.mono (cut_mono sj))
    have tk : (as.take (i + 1)).filter p = (as.take i).filter p ++ (if p y then [y] else []) := by
      rw [List.take_add_one, hy, List.filter_append]
      cases hp : p y <;> simp [hp]
    refine hT _ ax y _ _ (List.mem_of_getElem? hy) sj (Same.seqT cut_same gx) (fun hp t nt => ?_) (fun hp => ?_)
    · have s2 := same_new (o := .tup [.int (f y).1, .int (f y).2]) nt
      refine ⟨acc, s2 _ _ ej, small1000 (by omega), acc ++ [.ref t], same_upd (sj.trans s2) nD, upd_same, ?_⟩
      rw [tk, if_pos hp, cut_upd (.inr rfl), List.map_append, List.map_append]
      refine dqs_snoc (dj.mono (cut_mono s2)) (dq_pairT (q := f y) (.inl (.inl ?_)))
      exact cut_new (np_occ (O.keep sj) ej) nt
    · refine ⟨acc, sj, ej, ?_⟩
      rw [tk, if_neg (by rw [hp]; decide), List.append_nil]
      exact dj
  · rintro Hn ⟨acc, sn, en, dn⟩
    rw [len, List.take_length] at dn
    exact hq Hn acc sn en dn
/-! ### quiet spans, spans with a call -/
def unseen (l : Lamp) : Int := if l.1 then l.2 - 1 else 0
def stepQ (u : Int) (x : List Stt × Int) (q : Stt) : List Stt × Int := (x.1 ++ [(x.2, q.1 - 1)], q.2 - u)
def foldQ (l : Lamp) (g : List Stt) : List Stt × Int := g.foldl (stepQ (unseen l)) ([], 0)
def okQ (q : Stt) : Bool := decide (q.1 ≤ q.2)
def quietS (l : Lamp) (g : List Stt) : List Stt := ((foldQ l g).1 ++ [((foldQ l g).2, 1000000000)]).filter okQ
def callS (l : Lamp) (g : List Stt) : List Stt := if l.1 then (g.filter fun q => decide (l.2 ≤ q.2 - l.2 - q.1 + 1)).map (fun q => (q.1, q.2 - l.2)) else []
theorem stepQ_len (u : Int) : ∀ (g : List Stt) (x : List Stt × Int), (g.foldl (stepQ u) x).1.length = x.1.length + g.length
  | [], x => rfl
  | q :: g, x => by
    rw [List.foldl_cons, stepQ_len u g]
    simp only [stepQ, List.length_append, List.length_cons, List.length_nil]
    omega
theorem foldQ_len (l : Lamp) (g : List Stt) : (foldQ l g).1.length = g.length := by
  unfold foldQ
  rw [stepQ_len]
  simp
def spansD (ps : List Stt) : PyData := .tuple (ps.map pD)
def sp_quiet (K : PySem.W.Frag) (C : Addr) : Sp := sp_fe K (fun x : Lamp × List Stt => [lampD x.1, logD x.2]) One (fun x => spansD (quietS x.1 x.2)) (oneErr C)
def sp_calls (K : PySem.W.Frag) (C : Addr) : Sp := sp_fe K (fun x : Lamp × List Stt => [lampD x.1, logD x.2]) One (fun x => spansD (callS x.1 x.2)) (oneErr C)
end Lg
namespace Lg
open PySem PySem.Spec PyProof.Rows L2 Lm
def sp_lawQuiet (K : PySem.W.Frag) : Sp := sp_f K (fun x : Lamp × List Stt => [lampD x.1, logD x.2]) One (fun x => .list ((quietS x.1 x.2).map pD))
end Lg
namespace Lg
open PySem PySem.Spec PyProof.Rows L2 Lm
theorem rep_if (b : Bool) (v : V) : (List.replicate ((if b = true then (1 : Int) else 0).toNat) [v]).flatten = if b then [v] else [] := by
  cases b <;> rfl
/-- zs + [v] * int(b) -/
theorem cat_rep {fa u : Addr} {zs : List V} {v : V} {b : Bool} {H : Hp} {Q : VK} (ef : H fa = some (.lst zs)) (eu : H u = some (.lst [v])) (hl : zs.length ≤ 990)
    (q : ∀ (w : Addr) (G : Hp), H w = none → Same H G → G w = some (.lst (if b then zs ++ [v] else zs)) → Q (.ref w) G) :
    rRep (.ref u) (.int (if b = true then 1 else 0)) H fun y H2 => rCat (.ref fa) y H2 Q := by
  refine ⟨u, _, [v], rfl, rfl, eu, by split <;> decide, by split <;> decide, ?_, fun r nr => ⟨fa, r, zs, _, rfl, rfl, same_new nr _ _ ef, upd_same, ?_, fun w nw => ?_⟩⟩
  · split
    · exact Nat.le_of_lt (small1000 (show 1 * 1 ≤ 1000 by decide))
    · exact Nat.le_of_lt (small1000 (show 1 * 0 ≤ 1000 by decide))
  · rw [rep_if]
    refine Nat.le_of_lt (small1000 ?_)
    cases b
    · show zs.length + 0 ≤ 1000; omega
    · show zs.length + 1 ≤ 1000; omega
  · refine q w _ ((same_new nr).free nw) ((same_new nr).trans (same_new nw)) ?_
    rw [upd_same, rep_if]
    cases b with
    | true => rfl
    | false => rw [if_neg (by decide), if_neg (by decide), List.append_nil]
end Lg
namespace Lg
open PySem PySem.Spec PyProof.Rows L2 Lm
def dueG (F : PyData) (l : Lamp) (g : List Stt) : PyData := match wrongs (fitB l) 0 g with
  | [] => .tuple [.str "result", F]
  | w :: _ => .tuple [.str "Unexplained", reasonD 0 w]
def dueQ (way : Bool) (l : Lamp) (g : List Stt) : PyData := dueG (spansD (if way then quietS l g else callS l g)) l g
theorem dueG_told {C : Addr} (F : PyData) (l : Lamp) (g : List Stt) : toldE F (oneErr C (l, g)) = dueG F l g := by
  unfold dueG
  cases h : wrongs (fitB l) 0 g with
  | nil => rw [oneErr_none (x := (l, g)) h]; rfl
  | cons w r => rw [oneErr_some (x := (l, g)) h]; rfl
theorem callS_alt (l : Lamp) (g : List Stt) : (g.filter fun q => l.1 && decide (2 * l.2 - 1 ≤ q.2 - q.1)).map (fun q => (q.1, q.2 - l.2)) = callS l g := by
  unfold callS
  cases l.1 with
  | true =>
    rw [if_pos rfl]
    refine congrArg _ (List.filter_congr fun q _ => ?_)
    rw [Bool.true_and]
    exact decide_eq_decide.mpr (by omega)
  | false =>
    rw [if_neg (by decide)]
    have : (g.filter fun q => false && decide (2 * l.2 - 1 ≤ q.2 - q.1)) = [] := List.filter_eq_nil_iff.mpr fun q _ => by simp
    rw [this]; rfl
def sp_dueQ (K : PySem.W.Frag) : Sp := sp_f K (fun x : Bool × Lamp × List Stt => [.int (if x.1 then 0 else 1), lampD x.2.1, logD x.2.2]) (fun x => One x.2) (fun x => dueQ x.1 x.2.1 x.2.2)
end Lg
namespace Lg
open PySem PySem.Spec PyProof.Rows L2 Lm
def SmallP (q : Stt) : Prop := q.1.natAbs < 10 ^ 12 ∧ q.2.natAbs < 10 ^ 12
theorem foldQ_small {u : Int} (hu : u.natAbs ≤ 2000000000) : ∀ (g : List Stt) (x : List Stt × Int), (∀ q ∈ g, SttIn q) → (∀ q ∈ x.1, SmallP q) → x.2.natAbs ≤ 20000000000 → (∀ q ∈ (g.foldl (stepQ u) x).1, SmallP q) ∧ (g.foldl (stepQ u) x).2.natAbs ≤ 20000000000
  | [], x, _, h1, h2 => ⟨h1, h2⟩
  | q :: g, x, hg, h1, h2 => by
    have hq := hg q List.mem_cons_self
    obtain ⟨a, b, c⟩ := hq
    refine foldQ_small hu g (stepQ u x q) (fun z hz => hg z (List.mem_cons_of_mem _ hz)) (fun z hz => ?_) ?_
    · rcases List.mem_append.mp hz with h | h
      · exact h1 z h
      · rw [List.mem_singleton.mp h]
        exact ⟨by show x.2.natAbs < _; omega, by show (q.1 - 1).natAbs < _; omega⟩
    · show (q.2 - u).natAbs ≤ _
      omega
theorem quietS_small {l : Lamp} {g : List Stt} (h : One (l, g)) : ∀ q ∈ quietS l g, SmallP q := fun q hq => by
  have hm := (List.mem_filter.mp hq).1
  have hl : StayIn l := h.1
  obtain ⟨h1, h2⟩ := hl
  have hu : (unseen l).natAbs ≤ 2000000000 := by unfold unseen; split <;> omega
  obtain ⟨a, b⟩ := foldQ_small hu g ([], 0) h.2.stt (fun z hz => nomatch hz) (by decide)
  rcases List.mem_append.mp hm with h | h
  · exact a q h
  · rw [List.mem_singleton.mp h]
    exact ⟨by show (g.foldl (stepQ (unseen l)) ([], 0)).2.natAbs < _; omega, by show (1000000000 : Int).natAbs < _; decide⟩
theorem quietS_len (l : Lamp) (g : List Stt) : (quietS l g).length ≤ g.length + 1 := by
  refine Nat.le_trans (List.length_filter_le _ _) ?_
  rw [List.length_append, foldQ_len]
  exact Nat.le_refl _
theorem callS_small {l : Lamp} {g : List Stt} (h : One (l, g)) : ∀ q ∈ callS l g, SmallP q := fun q hq => by
  unfold callS at hq
  split at hq
  · obtain ⟨z, hz, rfl⟩ := List.mem_map.mp hq
    obtain ⟨a, b, c⟩ := h.2.stt z (List.mem_filter.mp hz).1
    have hl : StayIn l := h.1
    obtain ⟨h1, h2⟩ := hl
    exact ⟨by show z.1.natAbs < _; omega, by show (z.2 - l.2).natAbs < _; omega⟩
  · cases hq
theorem callS_len (l : Lamp) (g : List Stt) : (callS l g).length ≤ g.length := by
  unfold callS
  split
  · rw [List.length_map]; exact List.length_filter_le _ _
  · exact Nat.zero_le _
theorem spans_sm {ps : List Stt} {n : Nat} (hl : ps.length ≤ n) (h : ∀ q ∈ ps, SmallP q) : Sm (n * 35 + 3) 2 (spansD ps) :=
  Sm.tuple (c := n) (n := 33) (k := 1) (fun d hd => by
    obtain ⟨q, hq, rfl⟩ := List.mem_map.mp hd
    exact pD_sm (h q hq).1 (h q hq).2) (by rw [List.length_map]; exact hl)
theorem dueQ_sm {l : Lamp} {g : List Stt} (way : Bool) (h : One (l, g)) (h60 : g.length ≤ 60) : Sm 4400 3 (dueQ way l g) := by
  unfold dueQ dueG
  split
  · have hs : Sm (61 * 35 + 3) 2 (spansD (if way then quietS l g else callS l g)) := by
      cases way with
      | true => exact spans_sm (Nat.le_trans (quietS_len l g) (by omega)) (quietS_small h)
      | false => exact spans_sm (Nat.le_trans (callS_len l g) (by omega)) (callS_small h)
    exact (pair_sm (n := 2138) (k := 2) ((sm_chk (n := 30) (k := 0) (by decide +kernel)).wide (by decide) (by decide)) (hs.wide (by decide) (by decide))).wide (by decide) (by decide)
  · rename_i w r hw
    have := wrongs_lt (fitB l) 0 g w (by rw [hw]; exact List.mem_cons_self)
    exact (pair_sm (n := 48) (k := 1) ((sm_chk (n := 30) (k := 0) (by decide +kernel)).wide (by decide) (by decide)) (reason_sm (by decide) (by omega))).wide (by decide) (by decide)
end Lg

namespace Lg
open PySem PySem.Spec PyProof.Rows L2 Lm
def topS (i : Nat) : Stmt := PySem.Challenge.pw_lampstays_k13_quiet_minutes_and_calls.main.body.getD i (.Pass ⟨0, 0, 0, 0⟩)
abbrev s_stretch_fits : Stmt := topS 11
abbrev n_stretch_fits : List Str := ["lamp", "stretch", "kind", "stay", "on", "off"]
theorem sc_stretch_fits : FnScope n_stretch_fits ["lamp", "stretch"] (defScope s_stretch_fits) := ⟨rfl, rfl, rfl, by decide +kernel, rfl, by decide +kernel, by decide +kernel⟩
abbrev s_wrong_stretches : Stmt := topS 12
abbrev n_wrong_stretches : List Str := ["lamp", "log", "index", "stretch"]
theorem sc_wrong_stretches : FnScope n_wrong_stretches ["lamp", "log"] (defScope s_wrong_stretches) := ⟨rfl, rfl, rfl, by decide +kernel, rfl, by decide +kernel, by decide +kernel⟩
abbrev s_misfit : Stmt := topS 13
abbrev n_misfit : List Str := ["lamps", "logs", "number", "lamp", "log", "wrong"]
theorem sc_misfit : FnScope n_misfit ["lamps", "logs"] (defScope s_misfit) := ⟨rfl, rfl, rfl, by decide +kernel, rfl, by decide +kernel, by decide +kernel⟩
abbrev s_check_fits : Stmt := topS 14
abbrev n_check_fits : List Str := ["lamps", "logs", "reason"]
theorem sc_check_fits : FnScope n_check_fits ["lamps", "logs"] (defScope s_check_fits) := ⟨rfl, rfl, rfl, by decide +kernel, rfl, by decide +kernel, by decide +kernel⟩
abbrev s_quiet_spans : Stmt := topS 15
abbrev n_quiet_spans : List Str := ["lamp", "log", "kind", "stay", "unseen", "spans", "begin", "on", "off", "first", "last"]
theorem sc_quiet_spans : FnScope n_quiet_spans ["lamp", "log"] (defScope s_quiet_spans) := ⟨rfl, rfl, rfl, by decide +kernel, rfl, by decide +kernel, by decide +kernel⟩
abbrev s_call_spans : Stmt := topS 16
abbrev n_call_spans : List Str := ["lamp", "log", "kind", "stay", "on", "off"]
theorem sc_call_spans : FnScope n_call_spans ["lamp", "log"] (defScope s_call_spans) := ⟨rfl, rfl, rfl, by decide +kernel, rfl, by decide +kernel, by decide +kernel⟩
abbrev s_l_reel : Stmt := topS 18
abbrev n_l_reel : List Str := ["script", "cell", "cells"]
theorem sc_l_reel : FnScope n_l_reel ["script"] (defScope s_l_reel) := ⟨rfl, rfl, rfl, by decide +kernel, rfl, by decide +kernel, by decide +kernel⟩
abbrev s_l_spin : Stmt := topS 19
abbrev n_l_spin : List Str := ["reel", "many", "cells", "turn", "seat", "cell", "mixed"]
theorem sc_l_spin : FnScope n_l_spin ["reel", "many"] (defScope s_l_spin) := ⟨rfl, rfl, rfl, by decide +kernel, rfl, by decide +kernel, by decide +kernel⟩
abbrev s_l_lamps : Stmt := topS 20
abbrev n_l_lamps : List Str := ["reel", "many", "top", "found", "k", "stay"]
theorem sc_l_lamps : FnScope n_l_lamps ["reel", "many", "top"] (defScope s_l_lamps) := ⟨rfl, rfl, rfl, by decide +kernel, rfl, by decide +kernel, by decide +kernel⟩
abbrev s_l_minutes : Stmt := topS 21
abbrev n_l_minutes : List Str := ["reel", "many", "gap", "here", "found", "way", "step", "k"]
theorem sc_l_minutes : FnScope n_l_minutes ["reel", "many", "gap"] (defScope s_l_minutes) := ⟨rfl, rfl, rfl, by decide +kernel, rfl, by decide +kernel, by decide +kernel⟩
abbrev s_l_log : Stmt := topS 22
abbrev n_l_log : List Str := ["lamp", "minutes", "kind", "stay", "found", "minute"]
theorem sc_l_log : FnScope n_l_log ["lamp", "minutes"] (defScope s_l_log) := ⟨rfl, rfl, rfl, by decide +kernel, rfl, by decide +kernel, by decide +kernel⟩
abbrev s_l_logs : Stmt := topS 23
abbrev n_l_logs : List Str := ["lamps", "minutes", "lamp"]
theorem sc_l_logs : FnScope n_l_logs ["lamps", "minutes"] (defScope s_l_logs) := ⟨rfl, rfl, rfl, by decide +kernel, rfl, by decide +kernel, by decide +kernel⟩
abbrev s_l_bent : Stmt := topS 24
abbrev n_l_bent : List Str := ["reel", "log", "at", "by", "on", "off", "some", "way", "parts", "found", "begin", "end"]
theorem sc_l_bent : FnScope n_l_bent ["reel", "log"] (defScope s_l_bent) := ⟨rfl, rfl, rfl, by decide +kernel, rfl, by decide +kernel, by decide +kernel⟩
abbrev s_l_scene : Stmt := topS 25
abbrev n_l_scene : List Str := ["reel", "many", "top", "motions", "lamps", "logs", "k", "at"]
theorem sc_l_scene : FnScope n_l_scene ["reel", "many", "top", "motions"] (defScope s_l_scene) := ⟨rfl, rfl, rfl, by decide +kernel, rfl, by decide +kernel, by decide +kernel⟩
abbrev s_l_fits : Stmt := topS 26
abbrev n_l_fits : List Str := ["lamp", "stretch", "kind", "stay", "on", "off"]
theorem sc_l_fits : FnScope n_l_fits ["lamp", "stretch"] (defScope s_l_fits) := ⟨rfl, rfl, rfl, by decide +kernel, rfl, by decide +kernel, by decide +kernel⟩
abbrev s_l_quiet : Stmt := topS 27
abbrev n_l_quiet : List Str := ["lamp", "log", "kind", "stay", "found", "first", "on", "off"]
theorem sc_l_quiet : FnScope n_l_quiet ["lamp", "log"] (defScope s_l_quiet) := ⟨rfl, rfl, rfl, by decide +kernel, rfl, by decide +kernel, by decide +kernel⟩
abbrev s_l_told : Stmt := topS 28
abbrev n_l_told : List Str := ["call", "found", "error"]
theorem sc_l_told : FnScope n_l_told ["call"] (defScope s_l_told) := ⟨rfl, rfl, rfl, by decide +kernel, rfl, by decide +kernel, by decide +kernel⟩
abbrev s_l_due : Stmt := topS 29
abbrev n_l_due : List Str := ["way", "lamp", "log", "k", "wrong", "stay", "on", "off", "spans"]
theorem sc_l_due : FnScope n_l_due ["way", "lamp", "log"] (defScope s_l_due) := ⟨rfl, rfl, rfl, by decide +kernel, rfl, by decide +kernel, by decide +kernel⟩
abbrev s_law : Stmt := topS 30
abbrev n_law : List Str := ["script", "reel", "turn", "lamps", "logs", "stay", "far", "wide", "shown", "told", "again", "first", "due", "lamp", "log"]
theorem sc_law : FnScope n_law ["script"] (defScope s_law) := ⟨rfl, rfl, rfl, by decide +kernel, rfl, by decide +kernel, by decide +kernel⟩
abbrev s_X_BadLamp : Stmt := inClass (topS 3) 0
abbrev n_X_BadLamp : List Str := ["self", "value"]
theorem sc_X_BadLamp : FnScope n_X_BadLamp ["self", "value"] (defScope s_X_BadLamp) := ⟨rfl, rfl, rfl, by decide +kernel, rfl, by decide +kernel, by decide +kernel⟩
abbrev s_X_BadLog : Stmt := inClass (topS 4) 0
abbrev n_X_BadLog : List Str := ["self", "error"]
theorem sc_X_BadLog : FnScope n_X_BadLog ["self", "error"] (defScope s_X_BadLog) := ⟨rfl, rfl, rfl, by decide +kernel, rfl, by decide +kernel, by decide +kernel⟩
abbrev s_X_NoIndex : Stmt := inClass (topS 5) 0
abbrev n_X_NoIndex : List Str := ["self", "index"]
theorem sc_X_NoIndex : FnScope n_X_NoIndex ["self", "index"] (defScope s_X_NoIndex) := ⟨rfl, rfl, rfl, by decide +kernel, rfl, by decide +kernel, by decide +kernel⟩
abbrev s_X_NoMinute : Stmt := inClass (topS 6) 0
abbrev n_X_NoMinute : List Str := ["self", "value"]
theorem sc_X_NoMinute : FnScope n_X_NoMinute ["self", "value"] (defScope s_X_NoMinute) := ⟨rfl, rfl, rfl, by decide +kernel, rfl, by decide +kernel, by decide +kernel⟩
abbrev s_X_OtherCount : Stmt := inClass (topS 7) 0
abbrev n_X_OtherCount : List Str := ["self", "count"]
theorem sc_X_OtherCount : FnScope n_X_OtherCount ["self", "count"] (defScope s_X_OtherCount) := ⟨rfl, rfl, rfl, by decide +kernel, rfl, by decide +kernel, by decide +kernel⟩
abbrev s_X_TooLarge : Stmt := inClass (topS 8) 0
abbrev n_X_TooLarge : List Str := ["self", "limit"]
theorem sc_X_TooLarge : FnScope n_X_TooLarge ["self", "limit"] (defScope s_X_TooLarge) := ⟨rfl, rfl, rfl, by decide +kernel, rfl, by decide +kernel, by decide +kernel⟩
abbrev s_X_Unexplained : Stmt := inClass (topS 9) 0
abbrev n_X_Unexplained : List Str := ["self", "reason"]
theorem sc_X_Unexplained : FnScope n_X_Unexplained ["self", "reason"] (defScope s_X_Unexplained) := ⟨rfl, rfl, rfl, by decide +kernel, rfl, by decide +kernel, by decide +kernel⟩
structure All (K : PySem.W.Frag) (mg : Str → Option Value) where
  f_stretch_fits : Addr
  fd_stretch_fits : FuncData
  D_stretch_fits : Def K mg "stretch_fits" s_stretch_fits ["lamp", "stretch"] f_stretch_fits fd_stretch_fits
  f_wrong_stretches : Addr
  fd_wrong_stretches : FuncData
  D_wrong_stretches : Def K mg "wrong_stretches" s_wrong_stretches ["lamp", "log"] f_wrong_stretches fd_wrong_stretches
  f_misfit : Addr
  fd_misfit : FuncData
  D_misfit : Def K mg "misfit" s_misfit ["lamps", "logs"] f_misfit fd_misfit
  f_check_fits : Addr
  fd_check_fits : FuncData
  D_check_fits : Def K mg "check_fits" s_check_fits ["lamps", "logs"] f_check_fits fd_check_fits
  f_quiet_spans : Addr
  fd_quiet_spans : FuncData
  D_quiet_spans : Def K mg "quiet_spans" s_quiet_spans ["lamp", "log"] f_quiet_spans fd_quiet_spans
  f_call_spans : Addr
  fd_call_spans : FuncData
  D_call_spans : Def K mg "call_spans" s_call_spans ["lamp", "log"] f_call_spans fd_call_spans
  f_l_reel : Addr
  fd_l_reel : FuncData
  D_l_reel : Def K mg "_law_reel" s_l_reel ["script"] f_l_reel fd_l_reel
  f_l_spin : Addr
  fd_l_spin : FuncData
  D_l_spin : Def K mg "_law_spin" s_l_spin ["reel", "many"] f_l_spin fd_l_spin
  f_l_lamps : Addr
  fd_l_lamps : FuncData
  D_l_lamps : Def K mg "_law_lamps" s_l_lamps ["reel", "many", "top"] f_l_lamps fd_l_lamps
  f_l_minutes : Addr
  fd_l_minutes : FuncData
  D_l_minutes : Def K mg "_law_minutes" s_l_minutes ["reel", "many", "gap"] f_l_minutes fd_l_minutes
  f_l_log : Addr
  fd_l_log : FuncData
  D_l_log : Def K mg "_law_log" s_l_log ["lamp", "minutes"] f_l_log fd_l_log
  f_l_logs : Addr
  fd_l_logs : FuncData
  D_l_logs : Def K mg "_law_logs" s_l_logs ["lamps", "minutes"] f_l_logs fd_l_logs
  f_l_bent : Addr
  fd_l_bent : FuncData
  D_l_bent : Def K mg "_law_bent" s_l_bent ["reel", "log"] f_l_bent fd_l_bent
  f_l_scene : Addr
  fd_l_scene : FuncData
  D_l_scene : Def K mg "_law_scene" s_l_scene ["reel", "many", "top", "motions"] f_l_scene fd_l_scene
  f_l_fits : Addr
  fd_l_fits : FuncData
  D_l_fits : Def K mg "_law_fits" s_l_fits ["lamp", "stretch"] f_l_fits fd_l_fits
  f_l_quiet : Addr
  fd_l_quiet : FuncData
  D_l_quiet : Def K mg "_law_quiet" s_l_quiet ["lamp", "log"] f_l_quiet fd_l_quiet
  f_l_told : Addr
  fd_l_told : FuncData
  D_l_told : Def K mg "_law_told" s_l_told ["call"] f_l_told fd_l_told
  f_l_due : Addr
  fd_l_due : FuncData
  D_l_due : Def K mg "_law_due" s_l_due ["way", "lamp", "log"] f_l_due fd_l_due
  f_law : Addr
  fd_law : FuncData
  D_law : Def K mg "law" s_law ["script"] f_law fd_law
  C_LampError : Addr
  g_LampError : mg "LampError" = some (.ref C_LampError)
  C_BadLamp : Addr
  g_BadLamp : mg "BadLamp" = some (.ref C_BadLamp)
  fI_BadLamp : Addr
  fdI_BadLamp : FuncData
  X_BadLamp : ExC K mg "BadLamp" "BadLamp.__init__" "value" C_BadLamp fI_BadLamp fdI_BadLamp s_X_BadLamp
  C_BadLog : Addr
  g_BadLog : mg "BadLog" = some (.ref C_BadLog)
  fI_BadLog : Addr
  fdI_BadLog : FuncData
  X_BadLog : ExC K mg "BadLog" "BadLog.__init__" "error" C_BadLog fI_BadLog fdI_BadLog s_X_BadLog
  C_NoIndex : Addr
  g_NoIndex : mg "NoIndex" = some (.ref C_NoIndex)
  fI_NoIndex : Addr
  fdI_NoIndex : FuncData
  X_NoIndex : ExC K mg "NoIndex" "NoIndex.__init__" "index" C_NoIndex fI_NoIndex fdI_NoIndex s_X_NoIndex
  C_NoMinute : Addr
  g_NoMinute : mg "NoMinute" = some (.ref C_NoMinute)
  fI_NoMinute : Addr
  fdI_NoMinute : FuncData
  X_NoMinute : ExC K mg "NoMinute" "NoMinute.__init__" "value" C_NoMinute fI_NoMinute fdI_NoMinute s_X_NoMinute
  C_OtherCount : Addr
  g_OtherCount : mg "OtherCount" = some (.ref C_OtherCount)
  fI_OtherCount : Addr
  fdI_OtherCount : FuncData
  X_OtherCount : ExC K mg "OtherCount" "OtherCount.__init__" "count" C_OtherCount fI_OtherCount fdI_OtherCount s_X_OtherCount
  C_TooLarge : Addr
  g_TooLarge : mg "TooLarge" = some (.ref C_TooLarge)
  fI_TooLarge : Addr
  fdI_TooLarge : FuncData
  X_TooLarge : ExC K mg "TooLarge" "TooLarge.__init__" "limit" C_TooLarge fI_TooLarge fdI_TooLarge s_X_TooLarge
  C_Unexplained : Addr
  g_Unexplained : mg "Unexplained" = some (.ref C_Unexplained)
  fI_Unexplained : Addr
  fdI_Unexplained : FuncData
  X_Unexplained : ExC K mg "Unexplained" "Unexplained.__init__" "reason" C_Unexplained fI_Unexplained fdI_Unexplained s_X_Unexplained
  kit0 : PySem.W.exmOne K (.ref C_Unexplained) (.ref C_LampError) = some true
  kit1 : PySem.W.kitOne K (.ref C_Unexplained) (.ref C_OtherCount) = some false
  kit2 : PySem.W.kitOne K (.ref C_Unexplained) (.ref C_Unexplained) = some true
  kit3 : PySem.W.kitOne K (.ref C_Unexplained) (.ref C_NoMinute) = some false
  kit4 : PySem.W.kitOne K (.ref C_Unexplained) (.ref C_NoIndex) = some false
  kit5 : PySem.W.kitOne K (.ref C_Unexplained) (.type "ValueError") = some true
  kit6 : PySem.W.kitAny K (.ref C_Unexplained) ([C_BadLamp, C_BadLog, C_TooLarge].map Value.ref) = some false
  z_ValueError : mg "ValueError" = none
  z_abs : mg "abs" = none
  z_enumerate : mg "enumerate" = none
  z_int : mg "int" = none
  z_isinstance : mg "isinstance" = none
  z_len : mg "len" = none
  z_list : mg "list" = none
  z_max : mg "max" = none
  z_min : mg "min" = none
  z_range : mg "range" = none
  z_repr : mg "repr" = none
  z_tuple : mg "tuple" = none
  z_zip : mg "zip" = none
  t_MAX_MINUTE : Tok
  c_MAX_MINUTE : mg "MAX_MINUTE" = some (.int 1000000000 t_MAX_MINUTE)
section
variable {P : Program} {w : World} {K : PySem.W.Frag} {mg : Str → Option Value} {base : Heap}
theorem ok_X_BadLamp (T : All K mg) : FnOk P w K mg base CX0 1 T.fI_BadLamp T.fdI_BadLamp ["self", "value"] (sp_init K "value") := by
  have nd := sc_X_BadLamp.nd
  refine T.X_BadLamp.F.ok sc_X_BadLamp (fun vs H Q E h => ?_) (fun cdv A outer s H vs Q E hr h => ?_)
  · obtain ⟨a, C, v, rfl, _⟩ := h
    rfl
  · obtain ⟨a, C, v, rfl, ox, no, ha, q⟩ := h
    refine ⟨_, pss_one (ps_ost (pv 0) (pv 1)), ?_⟩
    exact ⟨v, rfl, .ref a, rfl, a, C, rfl, ox, no, .inl ⟨ha, fun dx n ne => q dx n ne⟩⟩
theorem ok_X_BadLog (T : All K mg) : FnOk P w K mg base CX0 1 T.fI_BadLog T.fdI_BadLog ["self", "error"] (sp_init K "error") := by
  have nd := sc_X_BadLog.nd
  refine T.X_BadLog.F.ok sc_X_BadLog (fun vs H Q E h => ?_) (fun cdv A outer s H vs Q E hr h => ?_)
  · obtain ⟨a, C, v, rfl, _⟩ := h
    rfl
  · obtain ⟨a, C, v, rfl, ox, no, ha, q⟩ := h
    refine ⟨_, pss_one (ps_ost (pv 0) (pv 1)), ?_⟩
    exact ⟨v, rfl, .ref a, rfl, a, C, rfl, ox, no, .inl ⟨ha, fun dx n ne => q dx n ne⟩⟩
theorem ok_X_NoIndex (T : All K mg) : FnOk P w K mg base CX0 1 T.fI_NoIndex T.fdI_NoIndex ["self", "index"] (sp_init K "index") := by
  have nd := sc_X_NoIndex.nd
  refine T.X_NoIndex.F.ok sc_X_NoIndex (fun vs H Q E h => ?_) (fun cdv A outer s H vs Q E hr h => ?_)
  · obtain ⟨a, C, v, rfl, _⟩ := h
    rfl
  · obtain ⟨a, C, v, rfl, ox, no, ha, q⟩ := h
    refine ⟨_, pss_one (ps_ost (pv 0) (pv 1)), ?_⟩
    exact ⟨v, rfl, .ref a, rfl, a, C, rfl, ox, no, .inl ⟨ha, fun dx n ne => q dx n ne⟩⟩
theorem ok_X_NoMinute (T : All K mg) : FnOk P w K mg base CX0 1 T.fI_NoMinute T.fdI_NoMinute ["self", "value"] (sp_init K "value") := by
  have nd := sc_X_NoMinute.nd
  refine T.X_NoMinute.F.ok sc_X_NoMinute (fun vs H Q E h => ?_) (fun cdv A outer s H vs Q E hr h => ?_)
  · obtain ⟨a, C, v, rfl, _⟩ := h
    rfl
  · obtain ⟨a, C, v, rfl, ox, no, ha, q⟩ := h
    refine ⟨_, pss_one (ps_ost (pv 0) (pv 1)), ?_⟩
    exact ⟨v, rfl, .ref a, rfl, a, C, rfl, ox, no, .inl ⟨ha, fun dx n ne => q dx n ne⟩⟩
theorem ok_X_OtherCount (T : All K mg) : FnOk P w K mg base CX0 1 T.fI_OtherCount T.fdI_OtherCount ["self", "count"] (sp_init K "count") := by
  have nd := sc_X_OtherCount.nd
  refine T.X_OtherCount.F.ok sc_X_OtherCount (fun vs H Q E h => ?_) (fun cdv A outer s H vs Q E hr h => ?_)
  · obtain ⟨a, C, v, rfl, _⟩ := h
    rfl
  · obtain ⟨a, C, v, rfl, ox, no, ha, q⟩ := h
    refine ⟨_, pss_one (ps_ost (pv 0) (pv 1)), ?_⟩
    exact ⟨v, rfl, .ref a, rfl, a, C, rfl, ox, no, .inl ⟨ha, fun dx n ne => q dx n ne⟩⟩
theorem ok_X_TooLarge (T : All K mg) : FnOk P w K mg base CX0 1 T.fI_TooLarge T.fdI_TooLarge ["self", "limit"] (sp_init K "limit") := by
  have nd := sc_X_TooLarge.nd
  refine T.X_TooLarge.F.ok sc_X_TooLarge (fun vs H Q E h => ?_) (fun cdv A outer s H vs Q E hr h => ?_)
  · obtain ⟨a, C, v, rfl, _⟩ := h
    rfl
  · obtain ⟨a, C, v, rfl, ox, no, ha, q⟩ := h
    refine ⟨_, pss_one (ps_ost (pv 0) (pv 1)), ?_⟩
    exact ⟨v, rfl, .ref a, rfl, a, C, rfl, ox, no, .inl ⟨ha, fun dx n ne => q dx n ne⟩⟩
theorem ok_X_Unexplained (T : All K mg) : FnOk P w K mg base CX0 1 T.fI_Unexplained T.fdI_Unexplained ["self", "reason"] (sp_init K "reason") := by
  have nd := sc_X_Unexplained.nd
  refine T.X_Unexplained.F.ok sc_X_Unexplained (fun vs H Q E h => ?_) (fun cdv A outer s H vs Q E hr h => ?_)
  · obtain ⟨a, C, v, rfl, _⟩ := h
    rfl
  · obtain ⟨a, C, v, rfl, ox, no, ha, q⟩ := h
    refine ⟨_, pss_one (ps_ost (pv 0) (pv 1)), ?_⟩
    exact ⟨v, rfl, .ref a, rfl, a, C, rfl, ox, no, .inl ⟨ha, fun dx n ne => q dx n ne⟩⟩
theorem ok_stretch_fits (T : All K mg) : FnOk P w K mg base CX0 1 T.f_stretch_fits T.fd_stretch_fits ["lamp", "stretch"] (sp_fits K) := by
  have nd := sc_stretch_fits.nd
  refine T.D_stretch_fits.F.ok sc_stretch_fits (fun vs H Q E h => ?_) (fun cdv A outer s H vs Q E hr h => ?_)
  · obtain ⟨N, x, _, hd, _⟩ := h
    exact hd.len
  · obtain ⟨N, ⟨⟨kd, st⟩, ⟨a, b⟩⟩, O, hd, ⟨hs, hab⟩, qq⟩ := h
    have hs : 1 ≤ st := hs
    have hab : a < b := hab
    obtain ⟨v1, _, rfl, hd1, hd⟩ := dqs_cons hd
    obtain ⟨v2, _, rfl, hd2, hd⟩ := dqs_cons hd
    obtain rfl := dqs_nil hd
    obtain ⟨a1, rfl, g1⟩ := dq_lamp hd1
    obtain ⟨a2, rfl, g2⟩ := dq_pair hd2
    have fin : ∀ z : Bool, z = fitB (kd, st) (a, b) → Q (.bl z) H := fun z e => qq _ _ (Same.refl _) (by rw [e]; exact .bl _)
    refine ⟨_, (pss_cons (ps_asg (pv 0) (pg_tup rfl (pgs_cons (pg_name (i := 2) nd rfl (by first | exact Or.inl rfl | exact Or.inr rfl)) (pgs_cons (pg_name (i := 3) nd rfl (by first | exact Or.inl rfl | exact Or.inr rfl)) pgs_nil))))
  (pss_cons (ps_asg (pv 1) (pg_tup rfl (pgs_cons (pg_name (i := 4) nd rfl (by first | exact Or.inl rfl | exact Or.inr rfl)) (pgs_cons (pg_name (i := 5) nd rfl (by first | exact Or.inl rfl | exact Or.inr rfl)) pgs_nil))))
  (pss_cons (ps_if (pt_cmpR op_gt (pe_op op_sub (pv 5) (pv 3)) (pe_glob (v := .int 1000000000) (by rfl) T.c_MAX_MINUTE ⟨_, rfl⟩) (nomark _))
    (pss_one (ps_ret pe_bl))
    pss_nil)
  (pss_cons (ps_if (pt_cmpR op_eq (pv 2) pe_str (nomark _))
    (pss_one (ps_ret (pe_cmpR op_ge (pe_op op_sub (pv 5) (pv 4)) (pv 3) (nomark _))))
    pss_nil)
  (pss_one (ps_ret (pe_cmpR op_eq (pe_op op_modN (pe_op op_sub (pv 5) (pv 4)) (pv 3)) pe_int (nomark _)))))))), ?_⟩
    refine ⟨.ref a1, rfl, a1, _, rfl, Same.seqT cut_same g1, rfl, _, _, rfl, _, _, rfl, rfl, .ref a2, rfl, a2, _, rfl, Same.seqT cut_same g2, rfl, _, _, rfl, _, _, rfl, rfl, ?_⟩
    refine ⟨.int b, rfl, .int st, rfl, b, st, rfl, rfl, _, _, rfl, rfl, _, rfl, ite2 (fun h1 => ?_) (fun h1 => ?_)⟩
    · have h1' : (1000000000 : Int) < b - st := of_decide_eq_true h1
      exact fin false (by simp only [fitB]; rw [decide_eq_false (by omega)]; rfl)
    · have h1' : ¬ (1000000000 : Int) < b - st := fun z => h1 (decide_eq_true z)
      have e1 : decide (b - st ≤ 1000000000) = true := decide_eq_true (by omega)
      refine ⟨.str (kindS kd), rfl, rfl, _, rfl, ite_b (fun hk => ?_) (fun hk => ?_)⟩
      · rw [kindS_hold] at hk
        refine ⟨.int b, rfl, .int a, rfl, b, a, rfl, rfl, .int st, rfl, _, _, rfl, rfl, fin _ ?_⟩
        simp only [fitB]
        rw [e1, hk]
        rfl
      · rw [kindS_hold] at hk
        refine ⟨.int b, rfl, .int a, rfl, b, a, rfl, rfl, .int st, rfl, _, _, rfl, rfl, by omega, rfl, fin _ ?_⟩
        simp only [fitB]
        rw [e1, hk]
        simp
theorem ok_wrong_stretches (T : All K mg) : FnOk P w K mg base CX0 2 T.f_wrong_stretches T.fd_wrong_stretches ["lamp", "log"] (sp_wrong K) := by
  have nd := sc_wrong_stretches.nd
  refine T.D_wrong_stretches.F.ok sc_wrong_stretches (fun vs H Q E h => ?_) (fun cdv A outer s H vs Q E hr h => ?_)
  · obtain ⟨N, x, _, hd, _⟩ := h
    exact hd.len
  · obtain ⟨N, ⟨l, ps⟩, O, hd, ⟨hs, hb, hl⟩, qq⟩ := h
    obtain ⟨v1, _, rfl, hd1, hd⟩ := dqs_cons hd
    obtain ⟨v2, _, rfl, hd2, hd⟩ := dqs_cons hd
    obtain rfl := dqs_nil hd
    obtain ⟨a2, ys, rfl, g2, hy⟩ := dq_tup hd2
    have hl : ps.length ≤ 900 := hl
    have len := hy.len
    rw [List.length_map] at len
    refine ⟨_, (pss_one (ps_ret (pe_callTy call_tuple_of (by rfl) T.z_tuple (by decide +kernel) (pa_cons (pe_lc (own := [("index", 2), ("stretch", 3)]) rfl nd (pi_enumT (by rfl) T.z_enumerate (pa_cons (pv 1) pa_nil)) (blkOk_by (own := [("index", 2), ("stretch", 3)]) (N := n_wrong_stretches) (sc := defScope s_wrong_stretches) (by decide +kernel)) (fun _ _ _ _ _ => (pg_tupK (K := K) (n := 2) rfl rfl (pgs_cons (pg_name (i := 2) nd rfl (by first | exact Or.inl rfl | exact Or.inr rfl)) (pgs_cons (pg_name (i := 3) nd rfl (by first | exact Or.inl rfl | exact Or.inr rfl)) pgs_nil)))) (fun _ _ _ _ _ => (pts_one (pt_not (pt_val (pe_call (ok_stretch_fits T) (hr.mono (by decide)) (by rfl) T.D_stretch_fits.g T.D_stretch_fits.F.kp T.D_stretch_fits.b .nil pass0 (pa_cons (pv 0) (pa_cons (pv 3) pa_nil))))))) (fun _ _ _ _ _ => (pv 2))) pa_nil)))), ?_⟩
    refine ⟨.ref a2, rfl, a2, _, rfl, Same.seqT cut_same g2, fun D nD => ?_⟩
    refine lc_it (walk_enumT (K := K) (a := a2) (xs := ys)) (fun i Hj => Same H Hj ∧ Hj D = some (.lst ((wrongs (fitB l) 0 (ps.take i)).map V.int))) ⟨same_new nD, upd_same⟩ (fun i H1 _ h => Same.seqT (cut_same.trans h.1) g2) ?_ ?_
    · rintro i x Hj H' hi ⟨sj, ej⟩ ⟨t, z, rfl, nt, rfl, hz⟩
      obtain ⟨q, hq, hv⟩ := dqs_get hy hz
      have s2 := same_new (o := .tup [.int (i : Nat), z]) nt
      refine ⟨t, _, rfl, .inl (.inl upd_same), rfl, _, _, rfl, _, _, rfl, rfl, rfl, ?_⟩
      refine ⟨v1, rfl, z, rfl, N, (l, q), O.keep (sj.trans s2), .cons (hd1.mono (cut_mono (sj.trans s2))) (.cons (hv.mono (cut_mono (sj.trans s2))) .nil), ⟨hs, hb q (List.mem_of_getElem? hq)⟩, fun r G sG hr => ?_⟩
      obtain rfl := dq_bool hr
      have eG := sG _ _ (s2 _ _ ej)
      have sa := sj.trans (s2.trans sG)
      have ll := wrongs_len (fitB l) 0 (ps.take i)
      rw [List.length_take] at ll
      refine ⟨_, rfl, ?_⟩
      have wt := wrongs_take (fitB l) hq
      cases hf : fitB l q with
      | true =>
        rw [hf] at wt
        refine iteF_e (by simp [hf]) ⟨sa, ?_⟩
        rw [wt]
        simpa using eG
      | false =>
        rw [hf] at wt
        refine iteT_e (by simp [hf]) ⟨.int (i : Nat), rfl, _, eG, small1000 (by rw [List.length_map]; omega), same_upd sa nD, ?_⟩
        rw [wt, upd_same]
        rfl
    · rintro Hn ⟨sn, en⟩
      rw [len, List.take_length] at en
      refine ⟨D, _, rfl, .inl ⟨.inl (.inl en), fun t nt => ?_⟩⟩
      exact qq _ _ (sn.trans (same_new nt)) (.tup (.inl (.inl (cut_new (O.keep sn) nt))) ints_dqs)
theorem ok_misfit (T : All K mg) : FnOk P w K mg base CX0 3 T.f_misfit T.fd_misfit ["lamps", "logs"] (sp_misfit K) := by
  have nd := sc_misfit.nd
  refine T.D_misfit.F.ok sc_misfit (fun vs H Q E h => ?_) (fun cdv A outer s H vs Q E hr h => ?_)
  · obtain ⟨N, x, _, hd, _⟩ := h
    exact hd.len
  · obtain ⟨N, ⟨bb, ls, gs⟩, O, hd, hM, qq⟩ := h
    have hM : MisOk ls gs := hM
    obtain ⟨v1, _, rfl, hd1, hd⟩ := dqs_cons hd
    obtain ⟨v2, _, rfl, hd2, hd⟩ := dqs_cons hd
    obtain rfl := dqs_nil hd
    refine ⟨_, (pss_cons (ps_for PassesOwn.never rfl (Ez.pi_ez (by rfl) T.z_enumerate (by rfl) T.z_zip (pa_cons (pv 0) (pa_cons (pv 1) pa_nil))) (pg_tup rfl (pgs_cons (pg_name (i := 2) nd rfl (by first | exact Or.inl rfl | exact Or.inr rfl)) (pgs_cons (pg_tup rfl (pgs_cons (pg_name (i := 3) nd rfl (by first | exact Or.inl rfl | exact Or.inr rfl)) (pgs_cons (pg_name (i := 4) nd rfl (by first | exact Or.inl rfl | exact Or.inr rfl)) pgs_nil))) pgs_nil)))
    (pss_cons (ps_set (i := 5) nd rfl (by first | exact Or.inl rfl | exact Or.inr rfl) (pe_call (ok_wrong_stretches T) (hr.mono (by decide)) (by rfl) T.D_wrong_stretches.g T.D_wrong_stretches.F.kp T.D_wrong_stretches.b .nil pass0 (pa_cons (pv 3) (pa_cons (pv 4) pa_nil))))
  (pss_one (ps_if (pt_truth (pv 5) (by intro _; rfl))
    (pss_one (ps_ret (pe_tup (pa_cons pe_str (pa_cons (pv 2) (pa_cons (pe_ix ix_tup (pv 5) pe_int (fun _ _ => rfl)) pa_nil))))))
    pss_nil))))
  (pss_one (ps_ret pe_non))), ?_⟩
    obtain ⟨a1, xs, a2, ys, rfl, rfl, hx, hy, hS⟩ : ∃ a1 xs a2 ys, v1 = .ref a1 ∧ v2 = .ref a2 ∧ Dqs K (Lg.cut N H) xs (ls.map lampD) ∧ Dqs K (Lg.cut N H) ys (gs.map logD) ∧ ((SqL K H a1 xs ∧ SqL K H a2 ys) ∨ (SqT K H a1 xs ∧ SqT K H a2 ys)) := by
      cases bb with
      | true =>
        obtain ⟨a1, xs, rfl, g1, hx⟩ := dq_tup hd1
        obtain ⟨a2, ys, rfl, g2, hy⟩ := dq_tup hd2
        exact ⟨a1, xs, a2, ys, rfl, rfl, hx, hy, .inr ⟨Same.seqT cut_same g1, Same.seqT cut_same g2⟩⟩
      | false =>
        obtain ⟨a1, xs, rfl, g1, hx⟩ := dq_lst hd1
        obtain ⟨a2, ys, rfl, g2, hy⟩ := dq_lst hd2
        exact ⟨a1, xs, a2, ys, rfl, rfl, hx, hy, .inl ⟨cut_same.seq g1, cut_same.seq g2⟩⟩
    have lx := hx.len
    rw [List.length_map] at lx
    have ly := hy.len
    rw [List.length_map] at ly
    have lxy : xs.length = ys.length := by rw [lx, ly]; exact hM.same
    refine ⟨.ref a1, rfl, .ref a2, rfl, a1, a2, xs, ys, rfl, ?_⟩
    have fin : ∀ Hi, Same H Hi → ∀ d, d = misD (misF 0 ls gs) → ∀ r, Dq K (Lg.cut N Hi) r d → Q r Hi := fun Hi s d e r hr => qq r Hi s (by rw [e] at hr; exact hr)
    rcases hS with ⟨s1, s2⟩ | ⟨s1, s2⟩
    · refine .inl ⟨s1, s2, for_it (walk_ez (a := a1) (b := a2) (xs := xs) (ys := ys) lxy) (fun i σ Hi => ∃ y2 y3 y4 y5, σ = [some (.ref a1), some (.ref a2), y2, y3, y4, y5] ∧ Same H Hi ∧ misF 0 ls gs = misF i (ls.drop i) (gs.drop i)) ⟨_, _, _, _, rfl, Same.refl _, rfl⟩ (fun i σ Hi _ h => by
        obtain ⟨_, _, _, _, _, sH, _⟩ := h
        exact ⟨sH.seq s1, sH.seq s2⟩) ?_ ?_⟩
      · rintro i v σ Hi H' hi ⟨y2, y3, y4, y5, rfl, sH, em⟩ ⟨T0, Tt, x, y, rfl, n0, n1, ne, rfl, hxi, hyi⟩
        obtain ⟨l, hl, dl⟩ := dqs_get hx hxi
        obtain ⟨g, hg, dg⟩ := dqs_get hy hyi
        have s3 : Same Hi (upd (upd Hi T0 (.tup [x, y])) Tt (.tup [.int (i : Nat), .ref T0])) := (same_new n0).trans (same_new (by rw [upd_ne ne.symm]; exact n1))
        have sA := sH.trans s3
        have eT : (upd (upd Hi T0 (.tup [x, y])) Tt (.tup [.int (i : Nat), .ref T0])) T0 = some (.tup [x, y]) := by rw [upd_ne ne, upd_same]
        refine ⟨Tt, _, rfl, .inl (.inl upd_same), rfl, _, _, rfl, _, _, rfl, T0, _, rfl, .inl (.inl eT), rfl, _, _, rfl, _, _, rfl, rfl, rfl, ?_⟩
        refine s_set ⟨x, rfl, y, rfl, N, (l, g), O.keep sA, .cons (dl.mono (cut_mono sA)) (.cons (dg.mono (cut_mono sA)) .nil), ⟨(hM.lamp l (List.mem_of_getElem? hl)).1, fun q hq => ((hM.log g (List.mem_of_getElem? hg)).stt q hq).2.1, (hM.log g (List.mem_of_getElem? hg)).len⟩, fun r G sG hr => ?_⟩
        obtain ⟨ar, rs, rfl, gr, hrs⟩ := dq_tup hr
        obtain rfl := dqs_ints hrs
        have sB := sA.trans sG
        have ed : misF 0 ls gs = match wrongs (fitB l) 0 g with
            | [] => misF (i + 1) (ls.drop (i + 1)) (gs.drop (i + 1))
            | w :: _ => some ((i : Int), w) := by rw [em, drop_get hl, drop_get hg]; rfl
        refine s_if1 ⟨_, rfl, _, .inr (.inl ⟨_, Same.seqT cut_same gr, rfl⟩), ?_⟩
        cases hw : wrongs (fitB l) 0 g with
        | nil =>
          rw [hw] at ed
          exact ⟨_, _, _, _, rfl, sB, ed⟩
        | cons ww wr =>
          rw [hw] at ed gr
          refine ⟨_, rfl, .ref ar, rfl, ar, _, 0, .int ww, rfl, rfl, Same.seqT cut_same gr, atI_nat (j := 0) rfl, Nat.le_of_lt (small1000 (show 3 ≤ 1000 by decide)), fun t nt => ?_⟩
          exact fin _ (sB.trans (same_new nt)) (reasonD (i : Int) ww) (by rw [ed]; rfl) _ (.tup (.inl (.inl (cut_new (O.keep sB) nt))) (.cons (.str _) (.cons (.int _) (.cons (.int _) .nil))))
      · rintro σ Hi ⟨y2, y3, y4, y5, rfl, sH, em⟩
        refine fin Hi sH .none ?_ _ .non
        rw [em, List.drop_eq_nil_of_le (by omega : ls.length ≤ xs.length)]
        rfl
    · refine .inr ⟨s1, s2, for_it (walk_ez (a := a1) (b := a2) (xs := xs) (ys := ys) lxy) (fun i σ Hi => ∃ y2 y3 y4 y5, σ = [some (.ref a1), some (.ref a2), y2, y3, y4, y5] ∧ Same H Hi ∧ misF 0 ls gs = misF i (ls.drop i) (gs.drop i)) ⟨_, _, _, _, rfl, Same.refl _, rfl⟩ (fun i σ Hi _ h => by
        obtain ⟨_, _, _, _, _, sH, _⟩ := h
        exact ⟨Same.seqT sH s1, Same.seqT sH s2⟩) ?_ ?_⟩
      · rintro i v σ Hi H' hi ⟨y2, y3, y4, y5, rfl, sH, em⟩ ⟨T0, Tt, x, y, rfl, n0, n1, ne, rfl, hxi, hyi⟩
        obtain ⟨l, hl, dl⟩ := dqs_get hx hxi
        obtain ⟨g, hg, dg⟩ := dqs_get hy hyi
        have s3 : Same Hi (upd (upd Hi T0 (.tup [x, y])) Tt (.tup [.int (i : Nat), .ref T0])) := (same_new n0).trans (same_new (by rw [upd_ne ne.symm]; exact n1))
        have sA := sH.trans s3
        have eT : (upd (upd Hi T0 (.tup [x, y])) Tt (.tup [.int (i : Nat), .ref T0])) T0 = some (.tup [x, y]) := by rw [upd_ne ne, upd_same]
        refine ⟨Tt, _, rfl, .inl (.inl upd_same), rfl, _, _, rfl, _, _, rfl, T0, _, rfl, .inl (.inl eT), rfl, _, _, rfl, _, _, rfl, rfl, rfl, ?_⟩
        refine s_set ⟨x, rfl, y, rfl, N, (l, g), O.keep sA, .cons (dl.mono (cut_mono sA)) (.cons (dg.mono (cut_mono sA)) .nil), ⟨(hM.lamp l (List.mem_of_getElem? hl)).1, fun q hq => ((hM.log g (List.mem_of_getElem? hg)).stt q hq).2.1, (hM.log g (List.mem_of_getElem? hg)).len⟩, fun r G sG hr => ?_⟩
        obtain ⟨ar, rs, rfl, gr, hrs⟩ := dq_tup hr
        obtain rfl := dqs_ints hrs
        have sB := sA.trans sG
        have ed : misF 0 ls gs = match wrongs (fitB l) 0 g with
            | [] => misF (i + 1) (ls.drop (i + 1)) (gs.drop (i + 1))
            | w :: _ => some ((i : Int), w) := by rw [em, drop_get hl, drop_get hg]; rfl
        refine s_if1 ⟨_, rfl, _, .inr (.inl ⟨_, Same.seqT cut_same gr, rfl⟩), ?_⟩
        cases hw : wrongs (fitB l) 0 g with
        | nil =>
          rw [hw] at ed
          exact ⟨_, _, _, _, rfl, sB, ed⟩
        | cons ww wr =>
          rw [hw] at ed gr
          refine ⟨_, rfl, .ref ar, rfl, ar, _, 0, .int ww, rfl, rfl, Same.seqT cut_same gr, atI_nat (j := 0) rfl, Nat.le_of_lt (small1000 (show 3 ≤ 1000 by decide)), fun t nt => ?_⟩
          exact fin _ (sB.trans (same_new nt)) (reasonD (i : Int) ww) (by rw [ed]; rfl) _ (.tup (.inl (.inl (cut_new (O.keep sB) nt))) (.cons (.str _) (.cons (.int _) (.cons (.int _) .nil))))
      · rintro σ Hi ⟨y2, y3, y4, y5, rfl, sH, em⟩
        refine fin Hi sH .none ?_ _ .non
        rw [em, List.drop_eq_nil_of_le (by omega : ls.length ≤ xs.length)]
        rfl
theorem ok_check_fits (T : All K mg) : FnOk P w K mg base (L2.CX P w) 4 T.f_check_fits T.fd_check_fits ["lamps", "logs"] (sp_checkFits K T.C_Unexplained) := by
  have nd := sc_check_fits.nd
  refine T.D_check_fits.F.okX sc_check_fits (fun vs H Q E h => ?_) (fun cdv A outer s H vs Q E hr h => ?_)
  · obtain ⟨N, x, _, hd, _⟩ := h
    exact hd.len
  · obtain ⟨N, ⟨bb, ls, gs⟩, O, hd, hM, q1, q2⟩ := h
    have hM : MisOk ls gs := hM
    have q1 : unexp T.C_Unexplained (misF 0 ls gs) = none → ∀ r H', Same H H' → Dq K (Lg.cut N H') r .none → Q r H' := q1
    have q2 : ∀ C f d, unexp T.C_Unexplained (misF 0 ls gs) = some (C, f, d) → _ := q2
    obtain ⟨v1, _, rfl, hd1, hd'⟩ := dqs_cons hd
    obtain ⟨v2, _, rfl, hd2, hd'⟩ := dqs_cons hd'
    obtain rfl := dqs_nil hd'
    refine ⟨_, (pss_cons (ps_set (i := 2) nd rfl (by first | exact Or.inl rfl | exact Or.inr rfl) (pe_call (ok_misfit T) (hr.mono (by decide)) (by rfl) T.D_misfit.g T.D_misfit.F.kp T.D_misfit.b .nil pass0 (pa_cons (pv 0) (pa_cons (pv 1) pa_nil))))
  (pss_one (ps_if (pt_cmpR op_notN (pv 2) pe_non (nomark _))
    (pss_one (ps_raise rfl (takes_of rfl rfl rfl rfl) (pmk_oex T.X_Unexplained.ox T.X_Unexplained.iC T.X_Unexplained.tI (ok_X_Unexplained T) (hr.mono (by decide)) T.X_Unexplained.b .nil pass0 (by rfl) T.X_Unexplained.g (pa_cons (pv 2) pa_nil))))
    pss_nil))), ?_⟩
    refine s_set ⟨v1, rfl, v2, rfl, N, (bb, ls, gs), O, .cons hd1 (.cons hd2 .nil), hM, fun r G sG hr => ?_⟩
    have hr : Dq K (Lg.cut N G) r (misD (misF 0 ls gs)) := hr
    cases hm : misF 0 ls gs with
    | none =>
      rw [hm] at hr q1
      have e : r = .non := dq_none hr
      subst e
      exact ⟨.non, rfl, rfl, _, rfl, iteF (q1 rfl .non G sG .non)⟩
    | some p =>
      rw [hm] at hr q2
      obtain ⟨ar, rs, rfl, gr, hrs⟩ := dq_tup hr
      refine ⟨.ref ar, rfl, rfl, _, rfl, iteT ?_⟩
      exact ⟨.ref ar, rfl, mkO_run T.X_Unexplained.ox T.X_Unexplained.no fun dd H' s1 nd hd => q2 _ _ _ rfl dd _ H' (sG.trans s1) (sG.free nd) hd (hr.mono (cut_mono s1))⟩
theorem ok_quiet_spans (T : All K mg) : FnOk P w K mg base (L2.CX P w) 5 T.f_quiet_spans T.fd_quiet_spans ["lamp", "log"] (sp_quiet K T.C_Unexplained) := by
  have nd := sc_quiet_spans.nd
  refine T.D_quiet_spans.F.okX sc_quiet_spans (fun vs H Q E h => ?_) (fun cdv A outer s H vs Q E hr h => ?_)
  · obtain ⟨N, x, _, hd, _⟩ := h
    exact hd.len
  · obtain ⟨N, ⟨l, g⟩, O, hd, hM, q1, q2⟩ := h
    have hM : One (l, g) := hM
    obtain ⟨v1, _, rfl, hd1, hd'⟩ := dqs_cons hd
    obtain ⟨v2, _, rfl, hd2, hd'⟩ := dqs_cons hd'
    obtain rfl := dqs_nil hd'
    have hd1 : Dq K (Lg.cut N H) v1 (lampD l) := hd1
    have hd2 : Dq K (Lg.cut N H) v2 (logD g) := hd2
    obtain ⟨a2, ys, rfl, g2, hy⟩ := dq_tup hd2
    have len := hy.len
    rw [List.length_map] at len
    have lg : g.length ≤ 900 := hM.2.len
    have s1 : 1 ≤ sizeLine := Nat.le_of_lt (small1000 (show 1 ≤ 1000 by decide))
    have s2 : 2 ≤ sizeLine := Nat.le_of_lt (small1000 (show 2 ≤ 1000 by decide))
    refine ⟨_, (pss_cons (ps_expr (pe_call (E := E) (ok_check_fits T) (hr.mono (by decide)) (by rfl) T.D_check_fits.g T.D_check_fits.F.kp T.D_check_fits.b .nil (passes_call (takes_of rfl rfl rfl rfl) (fun _ _ _ _ h => h)) (pa_cons (pe_tup (pa_cons (pv 0) pa_nil)) (pa_cons (pe_tup (pa_cons (pv 1) pa_nil)) pa_nil))))
  (pss_cons (ps_asg (pv 0) (pg_tup rfl (pgs_cons (pg_name (i := 2) nd rfl (by first | exact Or.inl rfl | exact Or.inr rfl)) (pgs_cons (pg_name (i := 3) nd rfl (by first | exact Or.inl rfl | exact Or.inr rfl)) pgs_nil))))
  (pss_cons (ps_set (i := 4) nd rfl (by first | exact Or.inl rfl | exact Or.inr rfl) (pe_ifExp (pt_cmpR op_eq (pv 2) pe_str (nomark _)) pe_int (pe_op op_sub (pv 3) pe_int)))
  (pss_cons (ps_set (i := 5) nd rfl (by first | exact Or.inl rfl | exact Or.inr rfl) (pe_lst pa_nil))
  (pss_cons (ps_set (i := 6) nd rfl (by first | exact Or.inl rfl | exact Or.inr rfl) pe_int)
  (pss_cons (ps_for (passes_of rfl) rfl (pi_tup (pv 1)) (pg_tup rfl (pgs_cons (pg_name (i := 7) nd rfl (by first | exact Or.inl rfl | exact Or.inr rfl)) (pgs_cons (pg_name (i := 8) nd rfl (by first | exact Or.inl rfl | exact Or.inr rfl)) pgs_nil)))
    (pss_cons (ps_expr (pe_bm PySem.F.plainAttrs_list PySem.F.slot_list_append PySem.F.type_list_append mt_append (pv 5) (pa_cons (pe_tup (pa_cons (pv 6) (pa_cons (pe_op op_sub (pv 7) pe_int) pa_nil))) pa_nil)))
  (pss_one (ps_set (i := 6) nd rfl (by first | exact Or.inl rfl | exact Or.inr rfl) (pe_op op_sub (pv 8) (pv 4))))))
  (pss_cons (ps_expr (pe_bm PySem.F.plainAttrs_list PySem.F.slot_list_append PySem.F.type_list_append mt_append (pv 5) (pa_cons (pe_tup (pa_cons (pv 6) (pa_cons (pe_glob (v := .int 1000000000) (by rfl) T.c_MAX_MINUTE ⟨_, rfl⟩) pa_nil))) pa_nil)))
  (pss_one (ps_ret (pe_callTy call_tuple_of (by rfl) T.z_tuple (by decide +kernel) (pa_cons (pe_lc (own := [("first", 9), ("last", 10)]) rfl nd (pi_list (pv 5)) (blkOk_by (own := [("first", 9), ("last", 10)]) (N := n_quiet_spans) (sc := defScope s_quiet_spans) (by decide +kernel)) (fun _ _ _ _ _ => (pg_tupK (K := K) (n := 2) rfl rfl (pgs_cons (pg_name (i := 9) nd rfl (by first | exact Or.inl rfl | exact Or.inr rfl)) (pgs_cons (pg_name (i := 10) nd rfl (by first | exact Or.inl rfl | exact Or.inr rfl)) pgs_nil)))) (fun _ _ _ _ _ => (pts_one (pt_cmpR op_le (pv 9) (pv 10) (nomark _)))) (fun _ _ _ _ _ => (pe_tup (pa_cons (pv 9) (pa_cons (pv 10) pa_nil))))) pa_nil))))))))))), ?_⟩
    refine s_expr ⟨v1, rfl, s1, fun t1 n1 => ⟨.ref a2, rfl, s1, fun t2 n2 => ?_⟩⟩
    have e1 := same_new (o := .tup [v1]) n1
    have e2 := same_new (o := .tup [.ref a2]) n2
    have eA := e1.trans e2
    refine ⟨N, (true, [l], [g]), O.keep eA, .cons (.tup (.inl (.inl ?_)) (.cons (hd1.mono (cut_mono eA)) .nil)) (.cons (.tup (.inl (.inl ?_)) (.cons (hd2.mono (cut_mono eA)) .nil)) .nil), hM.mis, fun hB r G sG _ => ?_, fun C f d hB dd v H' sG nd hdd hv => q2 C f d hB dd v H' (eA.trans sG) (eA.free nd) hdd hv⟩
    · exact cut_mono e2 _ _ (cut_new O n1)
    · exact cut_new (O.keep e1) n2
    · have sB := eA.trans sG
      obtain ⟨a1, rfl, g1⟩ := dq_lamp hd1
      have hdG := hy.mono (cut_mono sB)
      have OG := O.keep sB
      have g2G := Same.seqT (cut_same.trans sB) g2
      refine ⟨.ref a1, rfl, a1, _, rfl, Same.seqT (cut_same.trans sB) g1, rfl, _, _, rfl, _, _, rfl, rfl, ?_⟩
      -- unseen
      dsimp only
      refine s_set (te_of (fun v G' => G' = G ∧ v = .int (unseen l)) ?_ ?_)
      case refine_2 =>
        intro Q' hQ
        refine ⟨.str (kindS l.1), rfl, rfl, _, rfl, ite_b (fun hk => ?_) (fun hk => ?_)⟩
        · have hk' : l.1 = false := by rw [kindS_pulse] at hk; simpa using hk
          exact hQ _ _ ⟨rfl, by unfold unseen; rw [hk']; rfl⟩
        · have hk' : l.1 = true := by rw [kindS_pulse] at hk; simpa using hk
          exact ⟨.int l.2, rfl, _, _, rfl, rfl, hQ _ _ ⟨rfl, by unfold unseen; rw [hk']; rfl⟩⟩
      rintro _ G' ⟨eG, rfl⟩
      subst eG
      refine s_set ⟨Nat.zero_le _, fun f nf => ?_⟩
      have nf0 : G' f = none := nf
      refine s_set ?_
      refine ⟨.ref a2, rfl, a2, rfl, ⟨_, Same.seqT (same_new nf) g2G⟩, for_it walk_tup (fun i σ Hi => ∃ y7 y8, σ = [some (.ref a1), some (.ref a2), some (.str (kindS l.1)), some (.int l.2), some (.int (unseen l)), some (.ref f), some (.int (foldQ l (g.take i)).2), y7, y8, none, none] ∧ GrowG K N G' f pD (foldQ l (g.take i)).1 Hi) ⟨_, _, rfl, GrowG.start nf0⟩ (fun i σ H1 _ h => by
        obtain ⟨_, _, _, ⟨xs, s1, _⟩⟩ := h
        exact Same.seqT s1 g2G) ?_ ?_⟩
      · rintro i x σ Hi H' hi ⟨y7, y8, rfl, ⟨zs, si, ei, hz⟩⟩ ⟨rfl, hxi⟩
        obtain ⟨st, hst, dst⟩ := dqs_get hdG hxi
        obtain ⟨ax, rfl, gx⟩ := dq_pair (dst.mono (cut_mono si))
        have nx : foldQ l (g.take (i + 1)) = stepQ (unseen l) (foldQ l (g.take i)) st := foldl_take (stepQ (unseen l)) ([], 0) g hst
        have lz := hz.len
        rw [List.length_map, foldQ_len, List.length_take] at lz
        generalize foldQ l (g.take i) = fo at hz nx lz
        obtain ⟨acc, b⟩ := fo
        obtain ⟨on, off⟩ := st
        have nx : foldQ l (g.take (i + 1)) = (acc ++ [(b, on - 1)], off - unseen l) := nx
        refine ⟨ax, _, rfl, Same.seqT cut_same gx, rfl, _, _, rfl, _, _, rfl, rfl, ?_⟩
        refine s_expr ⟨.ref f, rfl, .inl ⟨rfl, _, .inl (.inl ei)⟩, .int b, rfl, .int on, rfl, on, 1, rfl, rfl, s2, fun t nt => ⟨f, zs, _, rfl, rfl, by rw [upd_ne (ne_of_none ei nt)]; exact ei, small1000 (by omega), ?_⟩⟩
        refine s_set1 ⟨.int off, rfl, .int (unseen l), rfl, off, unseen l, rfl, rfl, ?_⟩
        refine ⟨some (.int on), some (.int off), by rw [nx]; rfl, ?_⟩
        rw [nx]
        exact GrowG.put (x := (b, on - 1)) (fun G2 hG => dq_pairT (q := (b, on - 1)) hG) nf0 OG si (Same.refl _) ei hz nt
      · rintro σ Hi ⟨y7, y8, rfl, ⟨zs, si, ei, hz⟩⟩
        rw [len, List.take_length] at hz
        simp only [len, List.take_length]
        have lz := hz.len
        rw [List.length_map, foldQ_len] at lz
        have qS : quietS l g = ((foldQ l g).1 ++ [((foldQ l g).2, 1000000000)]).filter okQ := rfl
        generalize foldQ l g = fo at hz qS
        obtain ⟨acc, b⟩ := fo
        have hz : Dqs K (cut1 f (Lg.cut N Hi)) zs (acc.map pD) := hz
        have qS : quietS l g = (acc ++ [(b, 1000000000)]).filter okQ := qS
        refine s_expr ⟨.ref f, rfl, .inl ⟨rfl, _, .inl (.inl ei)⟩, .int b, rfl, s2, fun t nt => ⟨f, zs, _, rfl, rfl, by rw [upd_ne (ne_of_none ei nt)]; exact ei, small1000 (by omega), ?_⟩⟩
        have G2 := GrowG.put (x := (b, 1000000000)) (fun G2 hG => dq_pairT (q := (b, 1000000000)) hG) nf0 OG si (Same.refl _) ei hz nt
        generalize upd (upd Hi t (.tup [.int b, .int 1000000000])) f (.lst (zs ++ [.ref t])) = H8 at G2 ⊢
        obtain ⟨ws, s8, e8, d8⟩ := G2
        have d8' := grow_list OG nf0 e8 d8
        have lw := d8.len
        rw [List.length_map, List.length_append] at lw
        have la := hz.len
        rw [List.length_map] at la
        have hl8 : (acc ++ [(b, 1000000000)] : List Stt).length ≤ 990 := by rw [List.length_append]; show acc.length + 1 ≤ 990; omega
        refine ⟨.ref f, rfl, f, rfl, ⟨_, .inl (.inl e8)⟩, fun D nD => ?_⟩
        refine lc_pairs (K := K) (N := NP N f) (xs := ws) okQ id (walk_list (K := K) (a := f) (xs := ws)) (fun H' s => .inl (.inl (s _ _ e8))) nD (np_occ ((OG.keep s8)) e8) (by rw [np_cut1]; exact d8) hl8 ?_ ?_
        · intro G3 ax y R Rn hy sG3 gx hT hF
          refine ⟨ax, _, rfl, gx, rfl, _, _, rfl, _, _, rfl, rfl, rfl, ?_⟩
          refine ⟨.int y.1, rfl, .int y.2, rfl, _, _, rfl, rfl, _, rfl, ?_⟩
          by_cases ho : okQ y = true
          · rw [show decide (y.1 ≤ y.2) = true from ho]
            exact iteT ⟨_, rfl, _, rfl, s2, fun t nt => hT ho t nt⟩
          · have ho : okQ y = false := by simpa using ho
            rw [show decide (y.1 ≤ y.2) = false from ho]
            exact iteF (hF ho)
        · intro H9 acc9 s9 e9 d9
          refine ⟨D, acc9, rfl, .inl ⟨.inl (.inl e9), fun t nt => ?_⟩⟩
          have sC := sB.trans (s8.trans s9)
          refine q1 hB _ _ (sC.trans (same_new nt)) ?_
          show Dq K _ _ (spansD (quietS l g))
          rw [qS]
          rw [List.map_id] at d9
          exact .tup (.inl (.inl (cut_new (O.keep sC) nt))) ((d9.mono (cut_le fun _ h => .inl (.inl h))).mono (cut_mono (same_new nt)))
theorem ok_call_spans (T : All K mg) : FnOk P w K mg base (L2.CX P w) 5 T.f_call_spans T.fd_call_spans ["lamp", "log"] (sp_calls K T.C_Unexplained) := by
  have nd := sc_call_spans.nd
  refine T.D_call_spans.F.okX sc_call_spans (fun vs H Q E h => ?_) (fun cdv A outer s H vs Q E hr h => ?_)
  · obtain ⟨N, x, _, hd, _⟩ := h
    exact hd.len
  · obtain ⟨N, ⟨l, g⟩, O, hd, hM, q1, q2⟩ := h
    have hM : One (l, g) := hM
    obtain ⟨v1, _, rfl, hd1, hd'⟩ := dqs_cons hd
    obtain ⟨v2, _, rfl, hd2, hd'⟩ := dqs_cons hd'
    obtain rfl := dqs_nil hd'
    have hd1 : Dq K (Lg.cut N H) v1 (lampD l) := hd1
    have hd2 : Dq K (Lg.cut N H) v2 (logD g) := hd2
    obtain ⟨a2, ys, rfl, g2, hy⟩ := dq_tup hd2
    have len := hy.len
    rw [List.length_map] at len
    have lg : g.length ≤ 900 := hM.2.len
    have s1 : 1 ≤ sizeLine := Nat.le_of_lt (small1000 (show 1 ≤ 1000 by decide))
    have s2 : 2 ≤ sizeLine := Nat.le_of_lt (small1000 (show 2 ≤ 1000 by decide))
    refine ⟨_, (pss_cons (ps_expr (pe_call (E := E) (ok_check_fits T) (hr.mono (by decide)) (by rfl) T.D_check_fits.g T.D_check_fits.F.kp T.D_check_fits.b .nil (passes_call (takes_of rfl rfl rfl rfl) (fun _ _ _ _ h => h)) (pa_cons (pe_tup (pa_cons (pv 0) pa_nil)) (pa_cons (pe_tup (pa_cons (pv 1) pa_nil)) pa_nil))))
  (pss_cons (ps_asg (pv 0) (pg_tup rfl (pgs_cons (pg_name (i := 2) nd rfl (by first | exact Or.inl rfl | exact Or.inr rfl)) (pgs_cons (pg_name (i := 3) nd rfl (by first | exact Or.inl rfl | exact Or.inr rfl)) pgs_nil))))
  (pss_cons (ps_if (pt_cmpR op_eq (pv 2) pe_str (nomark _))
    (pss_one (ps_ret (pe_tup pa_nil)))
    pss_nil)
  (pss_one (ps_ret (pe_callTy call_tuple_of (by rfl) T.z_tuple (by decide +kernel) (pa_cons (pe_lc (own := [("on", 4), ("off", 5)]) rfl nd (pi_tup (pv 1)) (blkOk_by (own := [("on", 4), ("off", 5)]) (N := n_call_spans) (sc := defScope s_call_spans) (by decide +kernel)) (fun _ _ _ _ _ => (pg_tupK (K := K) (n := 2) rfl rfl (pgs_cons (pg_name (i := 4) nd rfl (by first | exact Or.inl rfl | exact Or.inr rfl)) (pgs_cons (pg_name (i := 5) nd rfl (by first | exact Or.inl rfl | exact Or.inr rfl)) pgs_nil)))) (fun _ _ _ _ _ => (pts_one (pt_cmpR op_ge (pe_op op_add (pe_op op_sub (pe_op op_sub (pv 5) (pv 3)) (pv 4)) pe_int) (pv 3) (nomark _)))) (fun _ _ _ _ _ => (pe_tup (pa_cons (pv 4) (pa_cons (pe_op op_sub (pv 5) (pv 3)) pa_nil))))) pa_nil))))))), ?_⟩
    refine s_expr ⟨v1, rfl, s1, fun t1 n1 => ⟨.ref a2, rfl, s1, fun t2 n2 => ?_⟩⟩
    have e1 := same_new (o := .tup [v1]) n1
    have e2 := same_new (o := .tup [.ref a2]) n2
    have eA := e1.trans e2
    refine ⟨N, (true, [l], [g]), O.keep eA, .cons (.tup (.inl (.inl ?_)) (.cons (hd1.mono (cut_mono eA)) .nil)) (.cons (.tup (.inl (.inl ?_)) (.cons (hd2.mono (cut_mono eA)) .nil)) .nil), hM.mis, fun hB r G sG _ => ?_, fun C f d hB dd v H' sG nd hdd hv => q2 C f d hB dd v H' (eA.trans sG) (eA.free nd) hdd hv⟩
    · exact cut_mono e2 _ _ (cut_new O n1)
    · exact cut_new (O.keep e1) n2
    · have sB := eA.trans sG
      obtain ⟨a1, rfl, g1⟩ := dq_lamp hd1
      have hdG := hy.mono (cut_mono sB)
      have OG := O.keep sB
      have g2G := Same.seqT (cut_same.trans sB) g2
      have fin : ∀ (r : V) (H' : Hp), Same G H' → Dq K (Lg.cut N H') r (spansD (callS l g)) → Q r H' := fun r H' s d => q1 hB r H' (sB.trans s) d
      refine ⟨.ref a1, rfl, a1, _, rfl, Same.seqT (cut_same.trans sB) g1, rfl, _, _, rfl, _, _, rfl, rfl, ?_⟩
      refine ⟨.str (kindS l.1), rfl, rfl, _, rfl, ite_b (fun hk => ?_) (fun hk => ?_)⟩
      · have hk' : l.1 = false := by rw [kindS_pulse] at hk; simpa using hk
        refine ⟨Nat.zero_le _, fun t nt => fin _ _ (same_new nt) ?_⟩
        unfold callS
        rw [hk']
        exact .tup (.inl (.inl (cut_new OG nt))) .nil
      · have hk' : l.1 = true := by rw [kindS_pulse] at hk; simpa using hk
        refine ⟨.ref a2, rfl, a2, rfl, ⟨_, g2G⟩, fun D nD => ?_⟩
        refine lc_pairs (K := K) (N := N) (xs := ys) (fun q => decide (l.2 ≤ q.2 - l.2 - q.1 + 1)) (fun q => (q.1, q.2 - l.2)) (walk_tup (K := K) (a := a2) (xs := ys)) (fun H' s => Same.seqT s g2G) nD OG hdG (by omega) ?_ ?_
        · intro G3 ax y R Rn hy sG3 gx hT hF
          refine ⟨ax, _, rfl, gx, rfl, _, _, rfl, _, _, rfl, rfl, rfl, ?_⟩
          refine ⟨.int y.2, rfl, .int l.2, rfl, _, _, rfl, rfl, .int y.1, rfl, _, _, rfl, rfl, _, 1, rfl, rfl, .int l.2, rfl, _, _, rfl, rfl, _, rfl, ?_⟩
          by_cases ho : decide (l.2 ≤ y.2 - l.2 - y.1 + 1) = true
          · rw [show decide (y.2 - l.2 - y.1 + 1 ≥ l.2) = true from ho]
            exact iteT ⟨_, rfl, _, rfl, _, rfl, _, _, rfl, rfl, s2, fun t nt => hT ho t nt⟩
          · have ho : decide (l.2 ≤ y.2 - l.2 - y.1 + 1) = false := by simpa using ho
            rw [show decide (y.2 - l.2 - y.1 + 1 ≥ l.2) = false from ho]
            exact iteF (hF ho)
        · intro H9 acc9 s9 e9 d9
          refine ⟨D, acc9, rfl, .inl ⟨.inl (.inl e9), fun t nt => ?_⟩⟩
          refine fin _ _ (s9.trans (same_new nt)) ?_
          unfold callS
          rw [if_pos hk']
          exact .tup (.inl (.inl (cut_new (OG.keep s9) nt))) ((d9.mono (cut_le fun _ h => .inl h)).mono (cut_mono (same_new nt)))
theorem ok_l_reel (T : All K mg) : FnOk P w K mg base CX0 1 T.f_l_reel T.fd_l_reel ["script"] (sp_reel K) := by
  have nd := sc_l_reel.nd
  refine T.D_l_reel.F.ok sc_l_reel (fun vs H Q E h => ?_) (fun cdv A outer s H vs Q E hr h => ?_)
  · obtain ⟨a, ns, rfl, _⟩ := h
    rfl
  · obtain ⟨a, ns, rfl, hS, hl, q⟩ := h
    refine ⟨_, (pss_cons (ps_setLc (i := 2) (own := [("cell", 1)]) rfl nd rfl rfl (sw_true rfl rfl rfl (by decide +kernel)) (pi_list (pe_slice sl_list (pv 0) po_none (po_some pe_int))) (blkOk_by (own := [("cell", 1)]) (N := n_l_reel) (sc := defScope s_l_reel) (by decide +kernel)) (fun _ _ _ _ _ => (pg_name (i := 1) nd rfl (by first | exact Or.inl rfl | exact Or.inr rfl))) (fun _ _ _ _ _ => pts_nil) (fun _ _ _ _ _ => (pe_callB call_abs (by rfl) T.z_abs (by decide +kernel) (pa_cons (pv 1) pa_nil))))
  (pss_one (ps_ret (pe_lst (pa_cons (pe_op op_cat (pv 2) (pe_op op_rep (pe_lst (pa_cons pe_int pa_nil)) (pe_callTy call_int1 (by rfl) T.z_int (by decide +kernel) (pa_cons (pe_cmpR (op_eqE hr.units0) (pv 2) (pe_lst pa_nil) (nomark _)) pa_nil)))) (pa_cons pe_int pa_nil)))))), ?_⟩
    -- cells
    refine ⟨.ref a, rfl, 59, rfl, a, _, rfl, hS, fun c nc => ⟨c, rfl, ⟨_, .inl (.inl upd_same)⟩, fun D nD => ?_⟩⟩
    obtain ⟨ks, hks, hk⟩ : ∃ ks : List Int, cutV (ns.map V.int) none (some 59) = ks.map V.int ∧ ks.length ≤ 63 := by
      obtain ⟨ks, h1, h2⟩ := cut_ints ns none (some 59)
      exact ⟨ks, h1, by omega⟩
    rw [hks] at nD ⊢
    have nDc : D ≠ c := (ne_of_none upd_same nD).symm
    have nD0 : H D = none := (same_new (o := .lst (ks.map V.int)) nc).free nD
    refine lc_list (K := K) (a := c) (xs := ks.map V.int) (fun i H1 => H1 D = some (.lst ((ks.take i).map fun n => V.int (if n < 0 then -n else n))) ∧ H1 c = some (.lst (ks.map V.int)) ∧ Same H H1)
      ⟨upd_same, by rw [upd_ne nDc.symm]; exact upd_same, same_upd2 (same_new nc) nD0⟩ (fun i H1 _ h => .inl (.inl h.2.1)) ?_ ?_
    · rintro i x H1 hx ⟨eD, ec, s1⟩
      obtain ⟨n, hn, rfl⟩ : ∃ n, ks[i]? = some n ∧ x = V.int n := by
        rw [List.getElem?_map] at hx
        cases e : ks[i]? with
        | none => rw [e] at hx; cases hx
        | some n => rw [e] at hx; exact ⟨n, rfl, (Option.some.inj hx).symm⟩
      have hi : i < ks.length := (List.getElem?_eq_some_iff.mp hn).1
      refine ⟨rfl, yes_if ?_⟩
      refine ⟨.int n, rfl, n, rfl, _, eD, small1000 (by simp; omega), ?_, ?_, same_upd2 s1 nD0⟩
      · rw [upd_same, List.take_add_one, hn, List.map_append]
        rfl
      · rw [upd_ne nDc.symm]
        exact ec
    · rintro H2 ⟨eD, ec, s2⟩
      rw [List.length_map, List.take_length] at eD
      generalize hcs : (ks.map fun n => if n < 0 then -n else n) = cs
      have eD2 : H2 D = some (.lst (cs.map V.int)) := by
        rw [eD, ← hcs, List.map_map]
        rfl
      have lcs : cs.length ≤ 63 := by rw [← hcs, List.length_map]; exact hk
      -- [cells + [37] * int(cells == []), 0]
      refine ⟨.ref D, rfl, Nat.le_of_lt (small1000 (by decide)), fun f nf => ⟨.ref D, rfl, Nat.zero_le _, fun g ng => ?_⟩⟩
      have s3 : Same H2 (upd H2 f (.lst [V.int 37])) := same_new nf
      have s4 : Same (upd H2 f (.lst [V.int 37])) (upd (upd H2 f (.lst [V.int 37])) g (.lst [])) := same_new ng
      have ef : (upd (upd H2 f (.lst [V.int 37])) g (.lst [])) f = some (.lst [V.int 37]) := s4 _ _ upd_same
      have eD4 : (upd (upd H2 f (.lst [V.int 37])) g (.lst [])) D = some (.lst (cs.map V.int)) := s4 _ _ (s3 _ _ eD2)
      refine ⟨D, g, _, rfl, rfl, .inl (.inl eD4), .inl (.inl upd_same), .inr ⟨_, rfl, f, _, [V.int 37], rfl, rfl, ef, ?_, ?_, ?_, fun r nr => ?_⟩⟩
      · split <;> decide
      · split <;> decide
      · split <;> exact Nat.le_of_lt (small1000 (by decide))
      have s5 := same_new (o := .lst (List.replicate (if (cs.map V.int).isEmpty = true then (1 : Int) else 0).toNat [V.int 37]).flatten) nr
      refine ⟨D, r, _, _, rfl, rfl, s5 _ _ eD4, upd_same, Nat.le_of_lt (small1000 ?_), fun al na => ?_⟩
      · cases cs with
        | nil => decide
        | cons x xs => simp at lcs ⊢; omega
      have s6 := same_new (o := .lst (cs.map V.int ++ (List.replicate (if (cs.map V.int).isEmpty = true then (1 : Int) else 0).toNat [V.int 37]).flatten)) na
      have s7 : Same H2 _ := ((s3.trans s4).trans s5).trans s6
      refine ⟨sz2, fun rr nrr => ?_⟩
      have nal : al ≠ rr := (ne_of_none upd_same nrr)
      refine q rr al _ ⟨⟨0, (if cs = [] then [37] else cs), upd_same, ?_, ?_, ?_, by decide⟩, fun b x e => (nomatch e), fun _ _ => rfl⟩ (s2.trans (s7.trans (same_new nrr)))
      · rw [upd_ne nal, upd_same]
        cases cs <;> simp
      · cases cs <;> simp
      · cases cs with
        | nil => decide
        | cons x xs => simp at lcs ⊢; omega
theorem ok_l_spin (T : All K mg) : FnOk P w K mg base CX0 1 T.f_l_spin T.fd_l_spin ["reel", "many"] sp_spin := by
  have nd := sc_l_spin.nd
  refine T.D_l_spin.F.ok sc_l_spin (fun vs H Q E h => ?_) (fun cdv A outer s H vs Q E hr h => ?_)
  · obtain ⟨Z, r, c, b, n, rfl, _⟩ := h
    rfl
  · obtain ⟨Z, r, c, b, n, rfl, hP, n0, n1, q⟩ := h
    refine ⟨_, (pss_cons (ps_asg (pv 0) (pg_lst rfl (pgs_cons (pg_name (i := 2) nd rfl (by first | exact Or.inl rfl | exact Or.inr rfl)) (pgs_cons (pg_name (i := 3) nd rfl (by first | exact Or.inl rfl | exact Or.inr rfl)) pgs_nil))))
  (pss_cons (ps_asg (pe_op op_add (pv 3) pe_int) (pg_sub (pv 0) pe_int set_list))
  (pss_cons (ps_set (i := 4) nd rfl (by first | exact Or.inl rfl | exact Or.inr rfl) (pe_op op_modN (pv 3) (pe_callB call_len_seq (by rfl) T.z_len (by decide +kernel) (pa_cons (pv 2) pa_nil))))
  (pss_cons (ps_set (i := 5) nd rfl (by first | exact Or.inl rfl | exact Or.inr rfl) (pe_ix ix_list (pv 2) (pv 4) (fun _ _ => rfl)))
  (pss_cons (ps_if (pt_cmpR op_ge (pv 5) (pe_op op_pow pe_int pe_int) (nomark _))
    (pss_cons (ps_asg (pe_op op_fdivN (pv 5) (pv 1)) (pg_sub (pv 2) (pv 4) set_list))
  (pss_one (ps_ret (pe_op op_modN (pv 5) (pv 1)))))
    pss_nil)
  (pss_cons (ps_set (i := 6) nd rfl (by first | exact Or.inl rfl | exact Or.inr rfl) (pe_op op_add (pe_op op_mul (pe_op op_modN (pv 5) pe_int) pe_int) (pe_op op_mul (pe_op op_mul (pv 3) (pv 3)) pe_int)))
  (pss_cons (ps_set (i := 6) nd rfl (by first | exact Or.inl rfl | exact Or.inr rfl) (pe_op op_modN (pe_op op_add (pe_op op_add (pv 6) (pe_op op_mul pe_int (pv 3))) pe_int) pe_int))
  (pss_cons (ps_set (i := 6) nd rfl (by first | exact Or.inl rfl | exact Or.inr rfl) (pe_op op_modN (pe_op op_mul (pe_op op_modN (pe_op op_mul (pv 6) (pv 6)) pe_int) pe_int) pe_int))
  (pss_one (ps_ret (pe_op op_modN (pe_op op_fdivN (pe_op op_modN (pe_op op_mul (pv 6) (pe_op op_add (pe_op op_add (pv 6) (pe_op op_mul pe_int (pv 3))) pe_int)) pe_int) pe_int) (pv 1)))))))))))), ?_⟩
    obtain ⟨t, ns, hR, hC, hne, hlen, hb⟩ := hP.src
    have hrc := reel_ne hP.src
    refine ⟨.ref r, rfl, r, _, rfl, .inl (.inl hR), rfl, _, _, rfl, _, _, rfl, rfl, ?_⟩
    refine ⟨.int t, rfl, t, 1, rfl, rfl, .ref r, rfl, r, _, 1, 1, rfl, rfl, hR, rfl, ?_⟩
    generalize hH1 : upd H r _ = H1
    have hR1 : H1 r = some (.lst [.ref c, .int ((t + 1 : Nat) : Int)]) := by rw [← hH1, upd_same]; rfl
    have hC1 : H1 c = some (.lst (ns.map V.int)) := by rw [← hH1, upd_ne hrc.symm]; exact hC
    have k1 : Kp (reel r c) Z H H1 := fun b u e => by
      have nn := hid_some e
      rw [hid_at nn] at e ⊢
      rw [← hH1, upd_ne (show b ≠ r from fun z => nn.1 (.inl z))]
      exact e
    have P1 : Iv (reel r c) Z b H1 := ⟨⟨t + 1, ns, hR1, hC1, hne, hlen, by omega⟩, by rw [← hH1]; exact zz_upd hP.zz (hP.zo r (.inl rfl)), hP.zo⟩
    have lpos : (0 : Int) < ((ns.map V.int).length : Int) := by
      cases ns with
      | nil => exact absurd rfl hne
      | cons c r => simp
    have bx := fmodB (a := (t : Int)) lpos
    obtain ⟨x, hx⟩ : ∃ x, ns[((t : Int).fmod ((ns.map V.int).length : Int)).toNat]? = some x := by
      have hb : ((t : Int).fmod ((ns.map V.int).length : Int)).toNat < ns.length := by
        rw [List.length_map] at bx ⊢
        omega
      exact ⟨_, List.getElem?_eq_getElem hb⟩
    refine ⟨.int t, rfl, .ref c, rfl, c, _, rfl, .inl (.inl (.inl hC1)), t, _, rfl, rfl, by omega, ?_⟩
    refine ⟨.ref c, rfl, _, rfl, c, _, _, .int x, rfl, rfl, .inl (.inl hC1), at_of (j := ((t : Int).fmod ((ns.map V.int).length : Int)).toNat) (by omega) (by rw [List.getElem?_map, hx]; rfl), ?_⟩
    refine ⟨.int x, rfl, 10, 18, rfl, rfl, ⟨by decide, by decide, by decide⟩, x, _, rfl, rfl, _, rfl, ite2 (fun g => ?_) (fun g => ?_)⟩
    · refine ⟨.int x, rfl, .int n, rfl, x, n, rfl, rfl, ⟨by omega, by omega⟩, .ref c, rfl, _, rfl, c, _, _, ((t : Int).fmod ((ns.map V.int).length : Int)).toNat, rfl, rfl, hC1, ?_, ?_⟩
      · unfold ixN
        rw [if_pos bx.1, if_pos bx.2]
      · refine ⟨.int x, rfl, .int n, rfl, x, n, rfl, rfl, by omega, ?_⟩
        refine q _ _ ?_ ?_ (fmodB (by omega)).1 (fmodB (by omega)).2
        · refine ⟨⟨t + 1, ns.set ((t : Int).fmod ((ns.map V.int).length : Int)).toNat (x.fdiv n), by rw [upd_ne hrc]; exact hR1, by rw [upd_same, List.map_set], ?_, by rw [List.length_set]; exact hlen, by omega⟩, zz_upd P1.zz (hP.zo c (.inr rfl)), hP.zo⟩
          intro e
          have := congrArg List.length e
          rw [List.length_set] at this
          cases ns with
          | nil => exact hne rfl
          | cons a b => simp at this
        · refine k1.trans fun b u e => ?_
          have nn := hid_some e
          rw [hid_at nn] at e ⊢
          rw [upd_ne (show b ≠ c from fun z => nn.1 (.inr z))]
          exact e
    · have w1 : (998244353 : Int) ≠ 0 := by decide
      have ht : (t : Int) < 2 ^ 64 ∧ -(2 ^ 64) < (t : Int) := by omega
      refine ⟨.int x, rfl, x, _, rfl, rfl, w1, _, _, rfl, rfl, .inr ⟨by decide, by decide⟩, .int t, rfl, .int t, rfl, t, t, rfl, rfl, .inl ⟨ht.2, ht.1⟩, _, _, rfl, rfl, .inr ⟨by decide, by decide⟩, _, _, rfl, rfl, ?_⟩
      dsimp only [gName, List.set]
      generalize hz : (x.fmod 998244353 * 30011 + ↑t * ↑t * 92821 : Int) = z
      refine ⟨.int z, rfl, .int t, rfl, _, _, rfl, rfl, .inl ⟨by decide, by decide⟩, _, _, rfl, rfl, _, _, rfl, rfl, _, _, rfl, rfl, (show (2147483587 : Int) ≠ 0 by decide), ?_⟩
      dsimp only [gName, List.set]
      generalize hy : (z + 514229 * ↑t + 433494437 : Int).fmod 2147483587 = y
      have by1 : 0 ≤ y ∧ y < 2147483587 := by rw [← hy]; exact fmodB (by decide)
      refine ⟨.int y, rfl, .int y, rfl, y, y, rfl, rfl, .inl ⟨by omega, by omega⟩, _, _, rfl, rfl, (show (2147483629 : Int) ≠ 0 by decide), _, _, rfl, rfl, .inr ⟨by decide, by decide⟩, _, _, rfl, rfl, (show (2147483563 : Int) ≠ 0 by decide), ?_⟩
      dsimp only [gName, List.set]
      generalize hu : ((y * y).fmod 2147483629 * 39916801 : Int).fmod 2147483563 = u
      have bu : 0 ≤ u ∧ u < 2147483563 := by rw [← hu]; exact fmodB (by decide)
      refine ⟨.int u, rfl, .int u, rfl, .int t, rfl, _, _, rfl, rfl, .inl ⟨by decide, by decide⟩, _, _, rfl, rfl, _, _, rfl, rfl, u, _, rfl, rfl, .inl ⟨by omega, by omega⟩, _, _, rfl, rfl, (show (2147483587 : Int) ≠ 0 by decide), _, _, rfl, rfl, ⟨by decide, by decide⟩, .int n, rfl, _, _, rfl, rfl, by omega, ?_⟩
      exact q _ _ P1 k1 (fmodB (by omega)).1 (fmodB (by omega)).2
theorem ok_l_lamps (T : All K mg) : FnOk P w K mg base CX0 2 T.f_l_lamps T.fd_l_lamps ["reel", "many", "top"] (sp_lamps K) := by
  have nd := sc_l_lamps.nd
  refine T.D_l_lamps.F.ok sc_l_lamps (fun vs H Q E h => ?_) (fun cdv A outer s H vs Q E hr h => ?_)
  · obtain ⟨Z, r, c, b, m, tp, rfl, _⟩ := h
    rfl
  · obtain ⟨Z, r, c, b, m, tp, rfl, hP, m0, m1, t0, t1, q⟩ := h
    refine ⟨_, (pss_cons (ps_set (i := 3) nd rfl (by first | exact Or.inl rfl | exact Or.inr rfl) (pe_lst pa_nil))
  (pss_cons (ps_for PassesOwn.never rfl (pi_range1 (by rfl) T.z_range (pa_cons (pe_op op_add pe_int (pe_call (ok_l_spin T) (hr.mono (by decide)) (by rfl) T.D_l_spin.g T.D_l_spin.F.kp T.D_l_spin.b .nil pass0 (pa_cons (pv 0) (pa_cons (pv 1) pa_nil)))) pa_nil)) (pg_name (i := 4) nd rfl (by first | exact Or.inl rfl | exact Or.inr rfl))
    (pss_cons (ps_set (i := 5) nd rfl (by first | exact Or.inl rfl | exact Or.inr rfl) (pe_ix ix_list (pe_lst (pa_cons (pe_op op_add pe_int (pe_call (ok_l_spin T) (hr.mono (by decide)) (by rfl) T.D_l_spin.g T.D_l_spin.F.kp T.D_l_spin.b .nil pass0 (pa_cons (pv 0) (pa_cons (pv 2) pa_nil)))) (pa_cons (pe_op op_add pe_int (pe_call (ok_l_spin T) (hr.mono (by decide)) (by rfl) T.D_l_spin.g T.D_l_spin.F.kp T.D_l_spin.b .nil pass0 (pa_cons (pv 0) (pa_cons (pe_callB (call_min2 rfl) (by rfl) T.z_min (by decide +kernel) (pa_cons (pv 2) (pa_cons pe_int pa_nil))) pa_nil)))) pa_nil))) (pe_call (ok_l_spin T) (hr.mono (by decide)) (by rfl) T.D_l_spin.g T.D_l_spin.F.kp T.D_l_spin.b .nil pass0 (pa_cons (pv 0) (pa_cons pe_int pa_nil))) (fun _ _ => rfl)))
  (pss_one (ps_expr (pe_bm PySem.F.plainAttrs_list PySem.F.slot_list_append PySem.F.type_list_append mt_append (pv 3) (pa_cons (pe_tup (pa_cons (pe_ix ix_list (pe_lst (pa_cons pe_str (pa_cons pe_str pa_nil))) (pe_call (ok_l_spin T) (hr.mono (by decide)) (by rfl) T.D_l_spin.g T.D_l_spin.F.kp T.D_l_spin.b .nil pass0 (pa_cons (pv 0) (pa_cons pe_int pa_nil))) (fun _ _ => rfl)) (pa_cons (pv 5) pa_nil))) pa_nil))))))
  (pss_one (ps_ret (pe_callTy call_tuple_of (by rfl) T.z_tuple (by decide +kernel) (pa_cons (pv 3) pa_nil)))))), ?_⟩
    refine s_set ⟨Nat.zero_le _, fun f nf => ?_⟩
    obtain ⟨P1, k1, e1⟩ := laid (o := .lst []) hP nf
    have ff := hP.free nf
    refine s_rng ?_
    refine (eva_cons IR.mo (ev_add (a := 1) (b := 1) ev_int (ev_spin (b := m) (by rfl) (by omega) (ev_ivar (by rfl) m0 (Int.le_refl _)))) eva_nil).run P1 (b := 24 + b) (by omega) fun vs H2 P2 k2 r2 => ?_
    obtain ⟨_, _, rfl, ⟨n, rfl, n0, n1⟩, rfl⟩ := r2
    refine ⟨n, rfl, by omega, by omega, for_it walk_range (fun i σ Hi => ∃ ls xs y4 y5, σ = [some (.ref r), some (.int m), some (.int tp), some (.ref f), y4, y5] ∧ Iv (reel r c) Z (4 * (6 - i) + b) Hi ∧ Kp (reel r c) Z H Hi ∧ Hi f = some (.lst xs) ∧
      Dqs K (cut1 f (hid (reel r c) Z Hi)) xs (ls.map lampD) ∧ ls.length = i ∧ ∀ l ∈ ls, 1 ≤ l.2 ∧ l.2 ≤ tp) ⟨[], [], _, _, rfl, P2, k1.trans k2, k2.at_ ff upd_same, .nil, rfl, fun l hl => nomatch hl⟩ (fun i σ H1 _ h => trivial) ?_ ?_⟩
    · rintro i x σ Hi H' hi ⟨ls, xs, y4, y5, rfl, Pi, ki, ei, hd, hl, hb⟩ ⟨rfl, rfl⟩
      refine s_set ?_
      refine (ev_ixL (m := 2) (c := 2) (R := IR 1 tp) IR.mo (ev_lst (by decide) IR.mo (eall_cons IR.mo ((ev_add (a := 1) (b := 1) ev_int (ev_spin (b := tp) (by rfl) (by omega) (ev_ivar (by rfl) t0 (Int.le_refl _)))).wide (by omega) (by omega))
        (eall_cons IR.mo ((ev_add (a := 1) (b := 1) ev_int (ev_spin (b := tp) (by rfl) (by omega) ((ev_min2 (ev_ivar (lo := 1) (hi := tp) (by rfl) t0 (Int.le_refl _)) (ev_int (i := 3))).wide (by decide) (Int.le_refl _)))).wide (by omega) (by omega)) eall_nil)))
        (ev_spinC (m := 2))).run Pi (b := 1 + (4 * (6 - (i + 1)) + b)) (by omega) fun v H3 P3 k3 r3 => ?_
      obtain ⟨st, rfl, s0, s1⟩ := r3
      have f3 := k3.at_ ff ei
      refine s_expr1 ⟨.ref f, rfl, .inl ⟨rfl, _, .inl (.inl f3)⟩, ?_⟩
      refine r_cons (r_tup ?_)
      refine (eva_pair KS.mo EI_mo (ev_ixL (m := 2) (c := 2) KS.mo ev_kinds (ev_spinC (m := 2))) (ev_iv (g := st) (by rfl))).run P3 (b := 4 * (6 - (i + 1)) + b) (by omega) fun vs H4 P4 k4 r4 => ?_
      obtain ⟨_, _, rfl, ⟨kd, rfl⟩, rfl⟩ := r4
      refine ⟨sz2, fun t nt => ?_⟩
      have f4 := k4.at_ ff f3
      have tf : f ≠ t := fun e => by rw [← e, f4] at nt; cases nt
      have ll := hd.len
      rw [List.length_map] at ll
      refine ⟨f, xs, _, rfl, rfl, by rw [upd_ne tf]; exact f4, small1000 (by omega), ?_⟩
      obtain ⟨P5, k5⟩ := app_iv (vs := [.str (kindS kd), .int st]) (o := .lst (xs ++ [.ref t])) hP nf P4 ((ki.trans k3).trans k4) nt
      obtain ⟨s5, e5⟩ := app_cut (vs := [.str (kindS kd), .int st]) (o' := .lst (xs ++ [.ref t])) P4.occ f4 nt
      refine ⟨ls ++ [(kd, st)], _, _, _, rfl, P5, k5, upd_same, ?_, by rw [List.length_append, hl]; rfl, fun l hl => ?_⟩
      · rw [List.map_append]
        exact dqs_snoc (Dqs.mono ((cut_mono (Kp.trans k3 k4)).trans s5) hd) (dq_lampT (.inl (.inl e5)))
      · rcases List.mem_append.mp hl with e | e
        · exact hb l e
        · rw [List.mem_singleton.mp e]; exact ⟨s0, s1⟩
    · rintro σ Hi ⟨ls, xs, y4, y5, rfl, Pi, ki, ei, hd, hl, hb⟩
      refine ⟨.ref f, rfl, f, xs, rfl, .inl ⟨.inl (.inl ei), fun t nt => ?_⟩⟩
      obtain ⟨P6, k6, e6⟩ := laid (o := .tup xs) Pi nt
      exact q _ _ ls (P6.less (by omega)) (ki.trans k6) (.tup (.inl (.inl e6)) (hd.mono (cut_same.trans k6))) (by omega) (by omega) hb
theorem ok_l_minutes (T : All K mg) : FnOk P w K mg base CX0 2 T.f_l_minutes T.fd_l_minutes ["reel", "many", "gap"] (sp_minutes K) := by
  have nd := sc_l_minutes.nd
  refine T.D_l_minutes.F.ok sc_l_minutes (fun vs H Q E h => ?_) (fun cdv A outer s H vs Q E hr h => ?_)
  · obtain ⟨Z, r, c, b, m, g, rfl, _⟩ := h
    rfl
  · obtain ⟨Z, r, c, b, m, g, rfl, hP, m0, m1, g0, g1, q⟩ := h
    refine ⟨_, (pss_cons (ps_par3 (i := 3) (j := 4) (l := 5) (by rfl) nd rfl rfl rfl (by decide) (by decide) (by decide) rfl rfl rfl (pa_cons (pe_call (ok_l_spin T) (hr.mono (by decide)) (by rfl) T.D_l_spin.g T.D_l_spin.F.kp T.D_l_spin.b .nil pass0 (pa_cons (pv 0) (pa_cons (pe_ix ix_list (pe_lst (pa_cons pe_int (pa_cons (pe_op op_pow pe_int pe_int) pa_nil))) (pe_call (ok_l_spin T) (hr.mono (by decide)) (by rfl) T.D_l_spin.g T.D_l_spin.F.kp T.D_l_spin.b .nil pass0 (pa_cons (pv 0) (pa_cons pe_int pa_nil))) (fun _ _ => rfl)) pa_nil))) (pa_cons (pe_lst pa_nil) (pa_cons (pe_call (ok_l_spin T) (hr.mono (by decide)) (by rfl) T.D_l_spin.g T.D_l_spin.F.kp T.D_l_spin.b .nil pass0 (pa_cons (pv 0) (pa_cons pe_int pa_nil))) pa_nil))) (by rfl))
  (pss_cons (ps_set (i := 6) nd rfl (by first | exact Or.inl rfl | exact Or.inr rfl) (pe_op op_add pe_int (pe_call (ok_l_spin T) (hr.mono (by decide)) (by rfl) T.D_l_spin.g T.D_l_spin.F.kp T.D_l_spin.b .nil pass0 (pa_cons (pv 0) (pa_cons (pv 2) pa_nil)))))
  (pss_cons (ps_for PassesOwn.never rfl (pi_range1 (by rfl) T.z_range (pa_cons (pe_call (ok_l_spin T) (hr.mono (by decide)) (by rfl) T.D_l_spin.g T.D_l_spin.F.kp T.D_l_spin.b .nil pass0 (pa_cons (pv 0) (pa_cons (pe_op op_add (pv 1) pe_int) pa_nil))) pa_nil)) (pg_name (i := 7) nd rfl (by first | exact Or.inl rfl | exact Or.inr rfl))
    (pss_cons (ps_expr (pe_bm PySem.F.plainAttrs_list PySem.F.slot_list_append PySem.F.type_list_append mt_append (pv 4) (pa_cons (pv 3) pa_nil)))
  (pss_cons (ps_set (i := 3) nd rfl (by first | exact Or.inl rfl | exact Or.inr rfl) (pe_op op_add (pv 3) (pe_ix ix_list (pe_lst (pa_cons (pe_op op_add pe_int (pe_call (ok_l_spin T) (hr.mono (by decide)) (by rfl) T.D_l_spin.g T.D_l_spin.F.kp T.D_l_spin.b .nil pass0 (pa_cons (pv 0) (pa_cons (pv 2) pa_nil)))) (pa_cons (pv 6) (pa_cons pe_int (pa_cons (pe_op op_add pe_int (pe_call (ok_l_spin T) (hr.mono (by decide)) (by rfl) T.D_l_spin.g T.D_l_spin.F.kp T.D_l_spin.b .nil pass0 (pa_cons (pv 0) (pa_cons (pe_op op_mul pe_int (pv 2)) pa_nil)))) pa_nil))))) (pv 5) (fun _ _ => rfl))))
  (pss_one (ps_if (pt_cmpR op_eq (pe_call (ok_l_spin T) (hr.mono (by decide)) (by rfl) T.D_l_spin.g T.D_l_spin.F.kp T.D_l_spin.b .nil pass0 (pa_cons (pv 0) (pa_cons pe_int pa_nil))) pe_int (nomark _))
    (pss_one (ps_set (i := 3) nd rfl (by first | exact Or.inl rfl | exact Or.inr rfl) (pe_op op_add (pv 3) (pe_ix ix_list (pe_lst (pa_cons (pv 2) (pa_cons (pe_op op_pow pe_int pe_int) pa_nil))) (pe_call (ok_l_spin T) (hr.mono (by decide)) (by rfl) T.D_l_spin.g T.D_l_spin.F.kp T.D_l_spin.b .nil pass0 (pa_cons (pv 0) (pa_cons pe_int pa_nil))) (fun _ _ => rfl)))))
    pss_nil)))))
  (pss_one (ps_ret (pv 4)))))), ?_⟩
    have big : CPow 10 6 := by decide
    refine s_par3 (r_cons ?_)
    refine (ev_spin (b := 1000000) (by rfl) (by decide) (ev_ixL (m := 2) (c := 2) (R := IR 1 1000000) IR.mo (ev_lst (by decide) IR.mo (eall_cons IR.mo (ev_int.wide (by decide) (by decide)) (eall_cons IR.mo ((ev_pow big).wide (by decide) (by decide)) eall_nil))) (ev_spinC (m := 2)))).run hP (b := 203 + b) (by omega) fun v H1 P1 k1 r1 => ?_
    obtain ⟨h, rfl, h0, h1⟩ := r1
    refine ⟨Nat.zero_le _, fun f nf => ?_⟩
    obtain ⟨P2, k2, e2⟩ := laid (o := .lst []) P1 nf
    have ff := P1.free nf
    refine r_cons ?_
    refine (ev_spinC (m := 4)).run P2 (b := 202 + b) (by omega) fun v H3 P3 k3 r3 => ?_
    obtain ⟨wy, rfl, w0, w1⟩ := r3
    refine ⟨_, _, _, rfl, ?_⟩
    refine s_set ?_
    refine (ev_add (a := 1) (b := 1) ev_int (ev_spin (b := g) (by rfl) (by omega) (ev_ivar (by rfl) g0 (Int.le_refl _)))).run P3 (b := 201 + b) (by omega) fun v H4 P4 k4 r4 => ?_
    obtain ⟨st, rfl, s0, s1⟩ := r4
    refine s_rng ?_
    refine (eva_cons IR.mo (ev_spin (b := m + 1) (by rfl) (by omega) ((ev_add (ev_ivar (lo := m) (hi := m) (by rfl) (Int.le_refl _) (Int.le_refl _)) (ev_int (i := 1))).wide (by omega) (by omega))) eva_nil).run P4 (b := 200 + b) (by omega) fun vs H5 P5 k5 r5 => ?_
    obtain ⟨_, _, rfl, ⟨n, rfl, n0, n1⟩, rfl⟩ := r5
    have kf := (k3.trans k4).trans k5
    refine ⟨n, rfl, by omega, by omega, for_it walk_range (fun i σ Hi => ∃ ms x y7, σ = [some (.ref r), some (.int m), some (.int g), some (.int x), some (.ref f), some (.int wy), some (.int st), y7] ∧ Iv (reel r c) Z (4 * (50 - i) + b) Hi ∧ Kp (reel r c) Z H1 Hi ∧ Hi f = some (.lst (ms.map V.int)) ∧
      ms.length = i ∧ Asc (-1) ms ∧ (∀ y ∈ ms, 0 ≤ y ∧ y < x) ∧ 0 ≤ x ∧ x ≤ 1000000 + (i : Int) * 160000) ⟨[], h, _, rfl, P5, k2.trans kf, kf.at_ ff upd_same, rfl, trivial, (fun y hy => nomatch hy), h0, by omega⟩ (fun i σ H1 _ h => trivial) ?_ ?_⟩
    · rintro i x σ Hi H' hi ⟨ms, x, y7, rfl, Pi, ki, ei, hl, ha, hb, x0, x1⟩ ⟨rfl, rfl⟩
      refine s_expr ⟨.ref f, rfl, .inl ⟨rfl, _, .inl (.inl ei)⟩, .int x, rfl, f, _, _, rfl, rfl, ei, small1000 (by rw [List.length_map]; omega), ?_⟩
      obtain ⟨P6, k6⟩ := set_iv (o := .lst (ms.map V.int ++ [.int x])) P1 nf Pi ki
      refine s_set ?_
      refine (ev_add (ev_ivar (lo := x) (hi := x) (by rfl) (Int.le_refl _) (Int.le_refl _)) (ev_ixL (m := 4) (c := 4) (lo := 0) (up := 3) (R := IR 1 60000) IR.mo (ev_lst (by decide) IR.mo
        (eall_cons IR.mo ((ev_add (a := 1) (b := 1) ev_int (ev_spin (b := g) (by rfl) (by omega) (ev_ivar (by rfl) g0 (Int.le_refl _)))).wide (by omega) (by omega))
        (eall_cons IR.mo (ev_ivar (by rfl) (by omega) (by omega))
        (eall_cons IR.mo (ev_int.wide (by decide) (by decide))
        (eall_cons IR.mo ((ev_add (a := 1) (b := 1) ev_int (ev_spin (b := 60000) (by rfl) (by omega) ((ev_mul (a := 3) (b := 3) (c := 1) (d := 20000) (by decide) (by decide) (by decide) ev_int (ev_ivar (by rfl) g0 g1)).wide (by decide) (by decide)))).wide (by omega) (by omega)) eall_nil)))))
        (ev_ivar (by rfl) w0 (by omega)))).run P6 (b := 2 + (4 * (50 - (i + 1)) + b)) (by omega) fun v H7 P7 k7 r7 => ?_
      obtain ⟨x2, rfl, x20, x21⟩ := r7
      refine s_if1 ?_
      refine (ev_spinC (m := 9)).run P7 (b := 1 + (4 * (50 - (i + 1)) + b)) (by omega) fun v H8 P8 k8 r8 => ?_
      obtain ⟨w9, rfl, _, _⟩ := r8
      have f7 := k7.at_ ff upd_same
      have e8 : ∀ {Hk : Hp}, Kp (reel r c) Z H8 Hk → Hk f = some (.lst ((ms ++ [x]).map V.int)) := fun k => by
        rw [List.map_append]
        exact k.at_ ff (k8.at_ ff f7)
      have k8' := (k6.trans k7).trans k8
      have fin : ∀ (z : Int) (Hk : Hp), x < z → z ≤ x + 160000 → Iv (reel r c) Z (4 * (50 - (i + 1)) + b) Hk → Kp (reel r c) Z H8 Hk → _ := fun z Hk z0 z1 Pk kk =>
        (⟨ms ++ [x], z, _, rfl, Pk, k8'.trans kk, e8 kk, by rw [List.length_append, hl]; rfl, Asc.snoc ha (by omega) fun y hy => (hb y hy).2, fun y hy => by
          rcases List.mem_append.mp hy with e | e
          · have := hb y e; omega
          · rw [List.mem_singleton.mp e]; omega, by omega, by omega⟩ : ∃ ms x y7, ([some (.ref r), some (.int m), some (.int g), some (.int z), some (.ref f), some (.int wy), some (.int st), some (.int (0 + (i : Int)))] : L2.St) = [some (.ref r), some (.int m), some (.int g), some (.int x), some (.ref f), some (.int wy), some (.int st), y7] ∧ Iv (reel r c) Z (4 * (50 - (i + 1)) + b) Hk ∧ Kp (reel r c) Z H1 Hk ∧ Hk f = some (.lst (ms.map V.int)) ∧
      ms.length = i + 1 ∧ Asc (-1) ms ∧ (∀ y ∈ ms, 0 ≤ y ∧ y < x) ∧ 0 ≤ x ∧ x ≤ 1000000 + ((i + 1 : Nat) : Int) * 160000)
      refine ⟨rfl, _, rfl, ite2 (fun _ => ?_) (fun _ => ?_)⟩
      · refine s_set1 ?_
        refine (ev_add (ev_ivar (lo := x2) (hi := x2) (by rfl) (Int.le_refl _) (Int.le_refl _)) (ev_ixL (m := 2) (c := 2) (R := IR 1 100000) IR.mo (ev_lst (by decide) IR.mo (eall_cons IR.mo (ev_ivar (by rfl) g0 (by omega)) (eall_cons IR.mo ((ev_pow (by decide)).wide (by decide) (by decide)) eall_nil))) (ev_spinC (m := 2)))).run P8 (b := 4 * (50 - (i + 1)) + b) (by omega) fun v H9 P9 k9 r9 => ?_
        obtain ⟨x3, rfl, x30, x31⟩ := r9
        exact fin x3 H9 (by omega) (by omega) P9 k9
      · exact fin x2 H8 (by omega) (by omega) (P8.less (by omega)) Kp.refl
    · rintro σ Hi ⟨ms, x, y7, rfl, Pi, ki, ei, hl, ha, hb, x0, x1⟩
      refine ⟨.ref f, rfl, q _ _ ms (Pi.less (by omega)) (k1.trans ki) ?_ ⟨ha, by omega, fun y hy => ?_⟩⟩
      · exact .lst (.inl (.inl (hid_get ff ei))) ints_dqs
      · have := hb y hy; omega
theorem ok_l_log (T : All K mg) : FnOk P w K mg base CX0 1 T.f_l_log T.fd_l_log ["lamp", "minutes"] (sp_l_log K) := by
  have nd := sc_l_log.nd
  refine T.D_l_log.F.ok sc_l_log (fun vs H Q E h => ?_) (fun cdv A outer s H vs Q E hr h => ?_)
  · obtain ⟨N, x, _, hd, _⟩ := h
    exact hd.len
  · obtain ⟨N, ⟨⟨kd, st⟩, ms⟩, O, hd, hl, qq⟩ := h
    have hl : ms.length ≤ 900 := hl
    obtain ⟨v1, _, rfl, hd1, hd⟩ := dqs_cons hd
    obtain ⟨v2, _, rfl, hd2, hd⟩ := dqs_cons hd
    obtain rfl := dqs_nil hd
    obtain ⟨a1, rfl, g1⟩ := dq_lamp hd1
    obtain ⟨a2, ys, rfl, g2, hy⟩ := dq_lst hd2
    obtain rfl := dqs_ints hy
    refine ⟨_, (pss_cons (ps_asg (pv 0) (pg_tup rfl (pgs_cons (pg_name (i := 2) nd rfl (by first | exact Or.inl rfl | exact Or.inr rfl)) (pgs_cons (pg_name (i := 3) nd rfl (by first | exact Or.inl rfl | exact Or.inr rfl)) pgs_nil))))
  (pss_cons (ps_set (i := 4) nd rfl (by first | exact Or.inl rfl | exact Or.inr rfl) (pe_lst pa_nil))
  (pss_cons (ps_for PassesOwn.never rfl (pi_list (pv 1)) (pg_name (i := 5) nd rfl (by first | exact Or.inl rfl | exact Or.inr rfl))
    (pss_one (ps_if (PW.pt (pw_or (pt_cmpR (op_eqE hr.units0) (pv 4) (pe_lst pa_nil) (nomark _)) (pw_or1 (pt_cmpR op_gt (pv 5) (pe_ix ix_tup (pe_ix ix_list (pv 4) (pe_un un_neg pe_int) (fun _ _ => rfl)) pe_int (fun _ _ => rfl)) (nomark _)))))
    (pss_one (ps_expr (pe_bm PySem.F.plainAttrs_list PySem.F.slot_list_append PySem.F.type_list_append mt_append (pv 4) (pa_cons (pe_tup (pa_cons (pv 5) (pa_cons (pe_op op_add (pv 5) (pv 3)) pa_nil))) pa_nil))))
    (pss_one (ps_if (PW.pt (pw_or (pt_cmpR op_eq (pv 2) pe_str (nomark _)) (pw_or1 (pt_cmpR op_eq (pv 5) (pe_ix ix_tup (pe_ix ix_list (pv 4) (pe_un un_neg pe_int) (fun _ _ => rfl)) pe_int (fun _ _ => rfl)) (nomark _)))))
    (pss_one (ps_asg (pe_tup (pa_cons (pe_ix ix_tup (pe_ix ix_list (pv 4) (pe_un un_neg pe_int) (fun _ _ => rfl)) pe_int (fun _ _ => rfl)) (pa_cons (pe_op op_add (pv 5) (pv 3)) pa_nil))) (pg_sub (pv 4) (pe_un un_neg pe_int) set_list)))
    pss_nil)))))
  (pss_one (ps_ret (pe_callTy call_tuple_of (by rfl) T.z_tuple (by decide +kernel) (pa_cons (pv 4) pa_nil))))))), ?_⟩
    refine ⟨.ref a1, rfl, a1, _, rfl, Same.seqT cut_same g1, rfl, _, _, rfl, _, _, rfl, rfl, ?_⟩
    refine ⟨Nat.zero_le _, fun f nf => ?_⟩
    refine ⟨.ref a2, rfl, a2, rfl, ⟨_, Same.seqL (cut_same.trans (same_new nf)) g2⟩, for_it walk_list (fun i σ Hi => (∃ y5, σ = [some (.ref a1), some (.ref a2), some (.str (kindS kd)), some (.int st), some (.ref f), y5]) ∧ GrowAt K N H f ((ms.take i).foldl (stepL kd st) []).reverse Hi) ⟨⟨_, rfl⟩, .start nf⟩ (fun i σ H1 _ h => by
        obtain ⟨_, xs, s1, _⟩ := h
        exact Same.seqL (cut_same.trans s1) g2) ?_ ?_⟩
    · rintro i x σ Hi H' hi ⟨⟨y5, rfl⟩, xs, si, ei, hx⟩ ⟨rfl, hxi⟩
      obtain ⟨m, hm, rfl⟩ := get_ints hxi
      have lm : i < ms.length := (List.getElem?_eq_some_iff.mp hm).1
      have nx := foldl_take (stepL kd st) [] ms hm
      have lq := logF_len kd st (ms.take i) []
      rw [List.length_take] at lq
      have lx := hx.len
      rw [List.length_map, List.length_reverse] at lx
      generalize (ms.take i).foldl (stepL kd st) [] = qs at hx nx lq lx
      refine s_if1 ⟨.ref f, rfl, Nat.zero_le _, fun ga ng => ?_⟩
      have sg : Same H' (upd H' ga (.lst [])) := same_new ng
      have eg := sg _ _ ei
      have tf : ∀ t, (upd H' ga (.lst [])) t = none → f ≠ t := fun t nt e => by rw [← e, eg] at nt; cases nt
      refine ⟨f, ga, _, rfl, rfl, .inl (.inl eg), .inl (.inl upd_same), _, rfl, ?_⟩
      cases qs with
      | nil =>
        obtain rfl := dqs_nil hx
        refine iteT ?_
        refine ⟨.ref f, rfl, .inl ⟨rfl, _, .inl (.inl eg)⟩, .int m, rfl, .int m, rfl, .int st, rfl, m, st, rfl, rfl, sz2, fun t nt => ?_⟩
        refine ⟨f, [], _, rfl, rfl, by rw [upd_ne (tf t nt)]; exact eg, small1000 (Nat.zero_le _), ⟨_, rfl⟩, ?_⟩
        rw [nx]
        exact GrowAt.put (q := (m, m + st)) nf O si sg eg hx nt
      | cons q r =>
        rw [List.reverse_cons, List.map_append] at hx
        have hx0 := hx
        obtain ⟨zs, v, rfl, hz, hv⟩ := dqs_snoc_inv hx
        obtain ⟨tq, rfl, gq⟩ := dq_pair hv
        have gq' := Same.seqT (cut_same.trans (cut_same.trans sg)) gq
        refine iteF_e (by simp) ?_
        refine ⟨.int m, rfl, .ref f, rfl, 1, rfl, f, _, -1, .ref tq, rfl, rfl, .inl (.inl eg), atI_last _ _, tq, _, 1, .int q.2, rfl, rfl, gq', atI_nat (j := 1) rfl, m, q.2, rfl, rfl, _, rfl, ite2 (fun g => ?_) (fun g => ?_)⟩
        · have g' : q.2 < m := of_decide_eq_true g
          refine ⟨.ref f, rfl, .inl ⟨rfl, _, .inl (.inl eg)⟩, .int m, rfl, .int m, rfl, .int st, rfl, m, st, rfl, rfl, sz2, fun t nt => ?_⟩
          refine ⟨f, _, _, rfl, rfl, by rw [upd_ne (tf t nt)]; exact eg, small1000 (by rw [lx]; simp at lq ⊢; omega), ⟨_, rfl⟩, ?_⟩
          rw [nx]
          simp only [stepL, if_pos g']
          rw [List.reverse_cons, List.reverse_cons]
          exact GrowAt.put (q := (m, m + st)) nf O si sg eg (by rw [List.map_append]; exact hx0) nt
        · have g' : ¬ q.2 < m := fun z => g (decide_eq_true z)
          have put : (kd || decide (m = q.2)) = true → ∀ t, (upd H' ga (.lst [])) t = none → GrowAt K N H f ((ms.take (i + 1)).foldl (stepL kd st) []).reverse (upd (upd (upd H' ga (.lst [])) t (.tup [.int q.1, .int (m + st)])) f (.lst ((zs ++ [V.ref tq]).set zs.length (V.ref t)))) := fun hh t nt => by
            rw [nx]
            simp only [stepL, if_neg g', if_pos hh]
            rw [List.reverse_cons, set_last]
            exact GrowAt.put (q := (q.1, m + st)) nf O si sg eg hz nt
          refine ⟨.str (kindS kd), rfl, rfl, _, rfl, ite_b (fun hk => ?_) (fun hk => ?_)⟩
          · rw [kindS_hold] at hk
            exact ⟨.ref f, rfl, 1, rfl, f, _, -1, .ref tq, rfl, rfl, .inl (.inl eg), atI_last _ _, tq, _, 0, .int q.1, rfl, rfl, gq', atI_nat (j := 0) rfl, .int m, rfl, .int st, rfl, m, st, rfl, rfl, sz2, fun t nt =>
              ⟨.ref f, rfl, 1, rfl, f, _, -1, zs.length, rfl, rfl, by rw [upd_ne (tf t nt)]; exact eg, ixN_last, ⟨_, rfl⟩, put (by rw [hk]; rfl) t nt⟩⟩
          · refine ⟨.int m, rfl, .ref f, rfl, 1, rfl, f, _, -1, .ref tq, rfl, rfl, .inl (.inl eg), atI_last _ _, tq, _, 1, .int q.2, rfl, rfl, gq', atI_nat (j := 1) rfl, rfl, _, rfl, ite2 (fun g2 => ?_) (fun g2 => ?_)⟩
            · have e2 : m = q.2 := V.int.inj (of_decide_eq_true g2)
              exact ⟨.ref f, rfl, 1, rfl, f, _, -1, .ref tq, rfl, rfl, .inl (.inl eg), atI_last _ _, tq, _, 0, .int q.1, rfl, rfl, gq', atI_nat (j := 0) rfl, .int m, rfl, .int st, rfl, m, st, rfl, rfl, sz2, fun t nt =>
              ⟨.ref f, rfl, 1, rfl, f, _, -1, zs.length, rfl, rfl, by rw [upd_ne (tf t nt)]; exact eg, ixN_last, ⟨_, rfl⟩, put (by rw [decide_eq_true e2, Bool.or_true]) t nt⟩⟩
            · have e2 : ¬ m = q.2 := fun z => g2 (decide_eq_true (by rw [z]))
              rw [kindS_hold] at hk
              refine ⟨⟨_, rfl⟩, ?_⟩
              rw [nx]
              simp only [stepL, if_neg g']
              rw [if_neg (by rw [hk, decide_eq_false e2]; exact fun z => nomatch z)]
              exact ⟨_, si.trans sg, eg, by rw [List.reverse_cons, List.map_append]; exact hx0.mono (cut_mono (cut_mono sg))⟩
    · rintro σ Hi ⟨⟨y5, rfl⟩, xs, si, ei, hx⟩
      rw [List.length_map, List.take_length] at hx
      refine ⟨.ref f, rfl, f, xs, rfl, .inl ⟨.inl (.inl ei), fun t nt => ?_⟩⟩
      exact qq _ _ (si.trans (same_new nt)) (GrowAt.tup O si hx nt)
theorem ok_l_logs (T : All K mg) : FnOk P w K mg base CX0 2 T.f_l_logs T.fd_l_logs ["lamps", "minutes"] (sp_l_logs K) := by
  have nd := sc_l_logs.nd
  refine T.D_l_logs.F.ok sc_l_logs (fun vs H Q E h => ?_) (fun cdv A outer s H vs Q E hr h => ?_)
  · obtain ⟨N, x, _, hd, _⟩ := h
    exact hd.len
  · obtain ⟨N, ⟨ls, ms⟩, O, hd, ⟨hl, hm⟩, qq⟩ := h
    obtain ⟨v1, _, rfl, hd1, hd⟩ := dqs_cons hd
    obtain ⟨v2, _, rfl, hd2, hd⟩ := dqs_cons hd
    obtain rfl := dqs_nil hd
    obtain ⟨a1, ys, rfl, g1, hy⟩ := dq_tup hd1
    refine ⟨_, (pss_one (ps_ret (pe_callTy call_tuple_of (by rfl) T.z_tuple (by decide +kernel) (pa_cons (pe_lc (own := [("lamp", 2)]) rfl nd (pi_tup (pv 0)) (blkOk_by (own := [("lamp", 2)]) (N := n_l_logs) (sc := defScope s_l_logs) (by decide +kernel)) (fun _ _ _ _ _ => (pg_name (i := 2) nd rfl (by first | exact Or.inl rfl | exact Or.inr rfl))) (fun _ _ _ _ _ => pts_nil) (fun _ _ _ _ _ => (pe_call (ok_l_log T) (hr.mono (by decide)) (by rfl) T.D_l_log.g T.D_l_log.F.kp T.D_l_log.b .nil pass0 (pa_cons (pv 2) (pa_cons (pv 1) pa_nil))))) pa_nil)))), ?_⟩
    refine ⟨.ref a1, rfl, a1, rfl, ⟨_, Same.seqT cut_same g1⟩, fun D nD => ?_⟩
    refine lc_map (K := K) (D := lampD) (F := fun l => logD (logF l ms)) (walk_tup (K := K) (a := a1) (xs := ys)) (fun H' s => Same.seqT (cut_same.trans s) g1) nD O hy hl ?_ ?_
    · intro G x y Q' _ OG sG _ hx q'
      exact ⟨x, rfl, v2, rfl, NP N D, (y, ms), OG, .cons hx (.cons (hd2.mono sG) .nil), hm, q'⟩
    · intro H' acc s e OH' hacc
      refine ⟨D, acc, rfl, .inl ⟨.inl (.inl e), fun t nt => ?_⟩⟩
      exact qq _ _ (s.trans (same_new nt)) (.tup (.inl (.inl (cut_new (O.keep s) nt))) (hacc.mono (np_le.trans (cut_mono (same_new nt)))))
theorem ok_l_bent (T : All K mg) : FnOk P w K mg base CX0 2 T.f_l_bent T.fd_l_bent ["reel", "log"] (sp_bent K) := by
  have nd := sc_l_bent.nd
  refine T.D_l_bent.F.ok sc_l_bent (fun vs H Q E h => ?_) (fun cdv A outer s H vs Q E hr h => ?_)
  · obtain ⟨Z, r, c, b, x, ps, B, rfl, _⟩ := h
    rfl
  · obtain ⟨Z, r, c, b, x, ps, B, rfl, hP, hx, hok, B0, B1, q⟩ := h
    refine ⟨_, (pss_cons (ps_if (pt_cmpR (op_eqD hr.units) (pv 1) (pe_tup pa_nil) (nomark _))
    (pss_one (ps_ret (pe_tup (pa_cons (pe_tup (pa_cons pe_int (pa_cons (pe_op op_add pe_int (pe_call (ok_l_spin T) (hr.mono (by decide)) (by rfl) T.D_l_spin.g T.D_l_spin.F.kp T.D_l_spin.b .nil pass0 (pa_cons (pv 0) (pa_cons pe_int pa_nil)))) pa_nil))) pa_nil))))
    pss_nil)
  (pss_cons (ps_par (i := 2) (j := 3) (by rfl) nd rfl rfl (by decide) rfl rfl (pa_cons (pe_call (ok_l_spin T) (hr.mono (by decide)) (by rfl) T.D_l_spin.g T.D_l_spin.F.kp T.D_l_spin.b .nil pass0 (pa_cons (pv 0) (pa_cons (pe_callB call_len_seq (by rfl) T.z_len (by decide +kernel) (pa_cons (pv 1) pa_nil)) pa_nil))) (pa_cons (pe_op op_add pe_int (pe_call (ok_l_spin T) (hr.mono (by decide)) (by rfl) T.D_l_spin.g T.D_l_spin.F.kp T.D_l_spin.b .nil pass0 (pa_cons (pv 0) (pa_cons pe_int pa_nil)))) pa_nil)) (by rfl))
  (pss_cons (ps_asg (pe_ix ix_tup (pv 1) (pv 2) (fun _ _ => rfl)) (pg_tup rfl (pgs_cons (pg_name (i := 4) nd rfl (by first | exact Or.inl rfl | exact Or.inr rfl)) (pgs_cons (pg_name (i := 5) nd rfl (by first | exact Or.inl rfl | exact Or.inr rfl)) pgs_nil))))
  (pss_cons (ps_set (i := 6) nd rfl (by first | exact Or.inl rfl | exact Or.inr rfl) (pe_lst (pa_cons (pe_tup (pa_cons (pv 4) (pa_cons (pe_op op_add (pv 5) (pv 3)) pa_nil))) (pa_cons (pe_tup (pa_cons (pv 4) (pa_cons (pe_callB (call_max2 rfl) (by rfl) T.z_max (by decide +kernel) (pa_cons (pe_op op_add (pv 4) pe_int) (pa_cons (pe_op op_sub (pv 5) (pv 3)) pa_nil))) pa_nil))) (pa_cons (pe_tup (pa_cons (pe_op op_add (pv 4) (pv 3)) (pa_cons (pe_op op_add (pv 5) (pv 3)) pa_nil))) (pa_cons (pe_tup (pa_cons (pe_callB (call_max2 rfl) (by rfl) T.z_max (by decide +kernel) (pa_cons pe_int (pa_cons (pe_op op_sub (pv 4) (pv 3)) pa_nil))) (pa_cons (pv 5) pa_nil))) pa_nil))))))
  (pss_cons (ps_set (i := 7) nd rfl (by first | exact Or.inl rfl | exact Or.inr rfl) (pe_call (ok_l_spin T) (hr.mono (by decide)) (by rfl) T.D_l_spin.g T.D_l_spin.F.kp T.D_l_spin.b .nil pass0 (pa_cons (pv 0) (pa_cons pe_int pa_nil))))
  (pss_cons (ps_set (i := 8) nd rfl (by first | exact Or.inl rfl | exact Or.inr rfl) (pe_ifExp (pt_cmpR op_lt (pv 7) pe_int (nomark _)) (pe_lst (pa_cons (pe_ix ix_list (pv 6) (pv 7) (fun _ _ => rfl)) pa_nil)) (pe_lst pa_nil)))
  (pss_cons (ps_if (PW.pt (pw_and (pt_cmpR op_eq (pv 7) pe_int (nomark _)) (pw_and1 (pt_cmpR op_gt (pe_op op_sub (pv 5) (pv 4)) pe_int (nomark _)))))
    (pss_one (ps_set (i := 8) nd rfl (by first | exact Or.inl rfl | exact Or.inr rfl) (pe_lst (pa_cons (pe_tup (pa_cons (pv 4) (pa_cons (pe_op op_add (pv 4) (pe_op op_fdivN (pe_op op_sub (pv 5) (pv 4)) pe_int)) pa_nil))) (pa_cons (pe_tup (pa_cons (pe_op op_add (pe_op op_add (pv 4) (pe_op op_fdivN (pe_op op_sub (pv 5) (pv 4)) pe_int)) pe_int) (pa_cons (pv 5) pa_nil))) pa_nil)))))
    pss_nil)
  (pss_cons (ps_if (pt_cmpR op_eq (pv 7) pe_int (nomark _))
    (pss_one (ps_set (i := 8) nd rfl (by first | exact Or.inl rfl | exact Or.inr rfl) (pe_lst (pa_cons (pe_tup (pa_cons (pv 4) (pa_cons (pv 5) pa_nil))) (pa_cons (pe_tup (pa_cons (pe_op op_add (pv 5) (pv 3)) (pa_cons (pe_op op_add (pv 5) (pe_op op_mul pe_int (pv 3))) pa_nil))) pa_nil)))))
    pss_nil)
  (pss_cons (ps_set (i := 9) nd rfl (by first | exact Or.inl rfl | exact Or.inr rfl) (pe_lst pa_nil))
  (pss_cons (ps_for PassesOwn.never rfl (pi_list (pe_op op_cat (pe_op op_cat (pe_callTy call_list_of (by rfl) T.z_list (by decide +kernel) (pa_cons (pe_slice sl_tupA (pv 1) po_none (po_some (pv 2))) pa_nil)) (pv 8)) (pe_callTy call_list_of (by rfl) T.z_list (by decide +kernel) (pa_cons (pe_slice sl_tupA (pv 1) (po_some (pe_op op_add (pv 2) pe_int)) po_none) pa_nil)))) (pg_tup rfl (pgs_cons (pg_name (i := 10) nd rfl (by first | exact Or.inl rfl | exact Or.inr rfl)) (pgs_cons (pg_name (i := 11) nd rfl (by first | exact Or.inl rfl | exact Or.inr rfl)) pgs_nil)))
    (pss_one (ps_if (PW.pt (pw_or (pt_cmpR (op_eqE hr.units0) (pv 9) (pe_lst pa_nil) (nomark _)) (pw_or1 (pt_cmpR op_gt (pv 10) (pe_ix ix_tup (pe_ix ix_list (pv 9) (pe_un un_neg pe_int) (fun _ _ => rfl)) pe_int (fun _ _ => rfl)) (nomark _)))))
    (pss_one (ps_expr (pe_bm PySem.F.plainAttrs_list PySem.F.slot_list_append PySem.F.type_list_append mt_append (pv 9) (pa_cons (pe_tup (pa_cons (pv 10) (pa_cons (pv 11) pa_nil))) pa_nil))))
    pss_nil)))
  (pss_one (ps_ret (pe_callTy call_tuple_of (by rfl) T.z_tuple (by decide +kernel) (pa_cons (pe_slice sl_list (pv 9) po_none (po_some pe_int)) pa_nil)))))))))))))), ?_⟩
    have hx0 := hx
    obtain ⟨a, xs, rfl, g, hd⟩ := dq_tup hx
    refine s_ifn ⟨.ref a, rfl, Nat.zero_le _, fun t nt => ?_⟩
    obtain ⟨P1, k1, e1⟩ := laid (o := .tup []) hP nt
    refine ⟨logD ps, .tuple [], log_dp (hx0.mono (hid_same.trans (same_new nt))), .tup (.inl (.inl upd_same)) .nil, pD_shaped ps, pD_shaped [], _, rfl, ?_⟩
    rw [show PyData.eqv (logD ps) (.tuple []) = ps.isEmpty from pD_eqv ps]
    have len := hd.len
    rw [List.length_map] at len
    cases ps with
    | nil =>
      refine iteT (s_ret (r_tup (r_cons (r_tup ?_))))
      refine (eva_pair EI_mo IR.mo (ei_c (i := 3)) (ev_add (a := 4) (b := 4) ev_int (ev_spinC (m := 5)))).run P1 (b := 2 + b) (by omega) fun vs H2 P2 k2 r2 => ?_
      obtain ⟨_, _, rfl, rfl, ⟨y, rfl, y0, y1⟩⟩ := r2
      refine ⟨sz2, fun t2 nt2 => ⟨Nat.le_of_lt (small1000 (Nat.le_add_left 1 999)), fun t3 nt3 => ?_⟩⟩
      obtain ⟨P3, k3, e3⟩ := laid (o := .tup [.int 3, .int y]) P2 nt2
      obtain ⟨P4, k4, e4⟩ := laid (o := .tup [.ref t2]) P3 nt3
      refine q _ _ [(3, y)] (P4.less (by omega)) (k1.trans (k2.trans (k3.trans k4))) (.tup (.inl (.inl e4)) (.cons (dq_pairT (q := (3, y)) (.inl (.inl (k4 _ _ e3)))) .nil)) ⟨⟨(show (-1 : Int) < 3 by decide), by show (3 : Int) < y; omega, trivial⟩, (show 1 ≤ 60 by decide), fun q hq => ?_⟩
      rw [List.mem_singleton.mp hq]
      show y ≤ B + 8
      omega
    | cons q0 qs =>
      refine iteF ?_
      have hall := hok.all
      have l60 := hok.len
      generalize hps : q0 :: qs = ps at *
      have l1 : 1 ≤ xs.length := by rw [len, ← hps]; simp
      have l2 : xs.length ≤ 60 := by omega
      have MP : Mo (PR K B) := PR.mo
      have MP8 : Mo (PR K (B + 8)) := PR.mo
      have hI : TpR K xs.length xs.length (PR K B) (.ref a) (hid (reel r c) Z (upd H t (.tup []))) := TpR.mo MP _ _ _ k1 ⟨a, xs, rfl, g, Nat.le_refl _, Nat.le_refl _, Dqs.pr hd hall⟩
      generalize xs.length = L at hI l1 l2
      -- at, by
      refine s_par ?_
      refine (eva_pair IR.mo IR.mo (ev_spin (b := (L : Int)) (by rfl) (by omega) ((ev_len (ev_var (v := .ref a) (by rfl) (TpR.mo MP) hI)).wide (by omega) (by omega))) (ev_add (a := 1) (b := 1) ev_int (ev_spinC (m := 4)))).run P1 (b := 1 + b) (by omega) fun vs H2 P2 k2 r2 => ?_
      obtain ⟨_, _, rfl, ⟨at_, rfl, at0, at1⟩, ⟨by_, rfl, by0, by1⟩⟩ := r2
      refine ⟨_, _, rfl, ?_⟩
      have hI2 := TpR.mo MP _ _ _ k2 hI
      -- on, off
      refine s_asg ?_
      refine (ev_ixT (R := PR K B) (lo := at_) (up := at_) MP (ev_var (v := .ref a) (by rfl) (TpR.mo MP) hI2) (ev_ivar (by rfl) (Int.le_refl _) (Int.le_refl _)) (by omega) (by omega)).run P2 (b := 1 + b) (by omega) fun v H3 P3 k3 r3 => ?_
      obtain ⟨⟨on, off⟩, hq3, hon, hlt, hoff⟩ := r3
      have hon : 0 ≤ on := hon
      have hlt : on < off := hlt
      have hoff : off ≤ B := hoff
      obtain ⟨aq, rfl, gq⟩ := dq_pair hq3
      have hI3 := TpR.mo MP _ _ _ k3 hI2
      refine ⟨aq, _, rfl, Same.seqT hid_same gq, rfl, _, _, rfl, _, _, rfl, rfl, ?_⟩
      generalize hσ : (List.set _ 5 (some (V.int off)) : L2.St) = σ
      have z : σ = [some (.ref r), some (.ref a), some (.int at_), some (.int by_), some (.int on), some (.int off), none, none, none, none, none, none] := by rw [← hσ]; rfl
      subst z
      clear hσ
      have en : ∀ {Hx : Hp} {τ : L2.St}, τ[4]? = some (some (.int on)) → Ev (reel r c) Z 0 Hx τ (tVar 4) (EI on) := fun e => ev_iv e
      have ef : ∀ {Hx : Hp} {τ : L2.St}, τ[5]? = some (some (.int off)) → Ev (reel r c) Z 0 Hx τ (tVar 5) (EI off) := fun e => ev_iv e
      have eb : ∀ {Hx : Hp} {τ : L2.St}, τ[3]? = some (some (.int by_)) → Ev (reel r c) Z 0 Hx τ (tVar 3) (EI by_) := fun e => ev_iv e
      -- some
      refine s_set ?_
      refine (ev_lst (m := 4) (n' := 4) (R := PR K (B + 8)) (by decide) MP8
        (eall_cons MP8 (ev_pr (a := on) (b := off + by_) (by omega) (en (by rfl)) (ei_add (ef (by rfl)) (eb (by rfl))))
        (eall_cons MP8 (ev_pr (a := on) (b := if off - by_ > on + 1 then off - by_ else on + 1) (by repeat (first | omega | split)) (en (by rfl)) (ei_max2 (ei_add (en (by rfl)) ei_c) (ei_sub (ef (by rfl)) (eb (by rfl)))))
        (eall_cons MP8 (ev_pr (a := on + by_) (b := off + by_) (by omega) (ei_add (en (by rfl)) (eb (by rfl))) (ei_add (ef (by rfl)) (eb (by rfl))))
        (eall_cons MP8 (ev_pr (a := if on - by_ > 0 then on - by_ else 0) (b := off) (by repeat (first | omega | split)) (ei_max2 ei_c (ei_sub (en (by rfl)) (eb (by rfl)))) (ef (by rfl))) eall_nil))))).run P3 (b := 1 + b) (by omega) fun v6 H4 P4 k4 r4 => ?_
      have hI4 := TpR.mo MP _ _ _ k4 hI3
      -- way
      refine s_set ?_
      refine (ev_spinC (m := 7)).run P4 (b := b) (by omega) fun v7 H5 P5 k5 r5 => ?_
      obtain ⟨wy, rfl, w0, w1⟩ := r5
      have r4' := LsR.mo MP8 _ _ _ k5 r4
      have hI5 := TpR.mo MP _ _ _ k5 hI4
      -- parts
      refine s_set ?_
      refine (ev_ifLt (R := LsR 0 2 (PR K (B + 8))) (n := 0) (c := wy) (d := 4) (by rfl)
        (fun hw => ev_lsW (ev_lst (m := 1) (n' := 1) (by decide) MP8 (eall_cons MP8 (ev_ixL (K := K) (m := 4) (c := 4) (lo := 0) (up := 3) MP8 (ev_var (v := v6) (by rfl) (LsR.mo MP8) r4') (ev_ivar (by rfl) w0 (by omega))) eall_nil)) (by decide) (by decide) (fun _ _ h => h))
        (ev_lsW (ev_lst (m := 0) (n' := 0) (by decide) MP8 eall_nil) (by decide) (by decide) (fun _ _ h => h))).run P5 (b := b) (by omega) fun v8 H6 P6 k6 r6 => ?_
      have hI6 := TpR.mo MP _ _ _ k6 hI5
      have kall := k1.trans (k2.trans (k3.trans (k4.trans (k5.trans k6))))
      -- the two ifs
      have st : ∀ {σ' : L2.St}, σ' = σ' := rfl
      refine s_ifn' (fun σ' H' => ∃ v, σ' = [some (.ref r), some (.ref a), some (.int at_), some (.int by_), some (.int on), some (.int off), some v6, some (.int wy), some v, none, none, none] ∧ Iv (reel r c) Z b H' ∧ Kp (reel r c) Z H6 H' ∧ LsR 0 2 (PR K (B + 8)) v (hid (reel r c) Z H')) ?rest ?one
      case one =>
        intro X hX
        refine ⟨.int wy, rfl, rfl, _, rfl, ite2 (fun g1 => ?_) (fun g1 => ?_)⟩
        · refine ⟨.int off, rfl, .int on, rfl, off, on, rfl, rfl, _, 2, rfl, rfl, _, rfl, ite2 (fun g2 => ?_) (fun g2 => ?_)⟩
          · have g2' : (2 : Int) < off - on := of_decide_eq_true g2
            have fd : (off - on).fdiv 2 = (off - on) / 2 := Int.fdiv_eq_ediv_of_nonneg _ (by decide)
            refine s_set1 ?_
            refine (ev_lst (m := 2) (n' := 2) (R := PR K (B + 8)) (by decide) MP8
              (eall_cons MP8 (ev_pr (a := on) (b := on + (off - on).fdiv 2) (by rw [fd]; omega) (en (by rfl)) (ei_add (en (by rfl)) (ei_fdivN (by decide) (ei_sub (ef (by rfl)) (en (by rfl))) ei_c)))
              (eall_cons MP8 (ev_pr (a := on + (off - on).fdiv 2 + 1) (b := off) (by rw [fd]; omega) (ei_add (ei_add (en (by rfl)) (ei_fdivN (by decide) (ei_sub (ef (by rfl)) (en (by rfl))) ei_c)) ei_c) (ef (by rfl))) eall_nil))).run P6 (b := b) (by omega) fun v Hk Pk kk rk => ?_
            exact hX _ _ ⟨v, rfl, Pk, kk, ev_lsW_v rk (by decide) (by decide)⟩
          · exact hX _ _ ⟨v8, rfl, P6, Kp.refl, r6⟩
        · exact hX _ _ ⟨v8, rfl, P6, Kp.refl, r6⟩
      rintro _ H7 ⟨v, rfl, P7, k7, r7⟩
      refine s_ifn' (fun σ' H' => ∃ v, σ' = [some (.ref r), some (.ref a), some (.int at_), some (.int by_), some (.int on), some (.int off), some v6, some (.int wy), some v, none, none, none] ∧ Iv (reel r c) Z b H' ∧ Kp (reel r c) Z H7 H' ∧ LsR 0 2 (PR K (B + 8)) v (hid (reel r c) Z H')) ?rest2 ?two
      case two =>
        intro X hX
        refine ⟨.int wy, rfl, rfl, _, rfl, ite2 (fun g1 => ?_) (fun g1 => ?_)⟩
        · refine s_set1 ?_
          refine (ev_lst (m := 2) (n' := 2) (R := PR K (B + 8)) (by decide) MP8
            (eall_cons MP8 (ev_pr (a := on) (b := off) (by omega) (en (by rfl)) (ef (by rfl)))
            (eall_cons MP8 (ev_pr (a := off + by_) (b := off + 2 * by_) (by omega) (ei_add (ef (by rfl)) (eb (by rfl))) (ei_add (ef (by rfl)) (ei_mul (.inl ⟨by decide, by decide⟩) ei_c (eb (by rfl))))) eall_nil))).run P7 (b := b) (by omega) fun v Hk Pk kk rk => ?_
          exact hX _ _ ⟨v, rfl, Pk, kk, ev_lsW_v rk (by decide) (by decide)⟩
        · exact hX _ _ ⟨v, rfl, P7, Kp.refl, r7⟩
      rintro _ H8 ⟨v9, rfl, P8, k8, r8⟩
      have hI8 := TpR.mo MP _ _ _ (Kp.trans k7 k8) hI6
      -- found
      refine s_set ⟨Nat.zero_le _, fun f nf => ?_⟩
      have of := P8.free nf
      have P9 := (P8.new (o := .lst []) nf).hide (o := .lst []) upd_same of.1
      have k9 : Same (hid (reel r c) Z H8) (hid (reel r c) (upd Z f (.lst [])) (upd H8 f (.lst []))) := hid_new2 nf
      have hI9 := TpR.mo MP _ _ _ k9 hI8
      have r9 := LsR.mo MP8 _ _ _ k9 r8
      refine s_lst ?_
      refine (ev_cat (R := PR K (B + 8)) (b := 62) (d := 60) (by decide) MP8 (ev_cat (R := PR K (B + 8)) (b := 60) (d := 2) (by decide) MP8 (ev_lsW (ev_listOf MP (ev_slA MP (ev_var (v := .ref a) (by rfl) (TpR.mo MP) hI9) any_none (any_some (ev_ivar (lo := at_) (hi := at_) (by rfl) (Int.le_refl _) (Int.le_refl _)).isInt))) (Nat.le_refl _) l2 (fun _ _ h => h.wide (by omega))) (ev_var (v := v9) (by rfl) (LsR.mo MP8) r9))
        (ev_lsW (ev_listOf MP (ev_slA MP (ev_var (v := .ref a) (by rfl) (TpR.mo MP) hI9) (any_some (ev_add (ev_ivar (lo := at_) (hi := at_) (by rfl) (Int.le_refl _) (Int.le_refl _)) (ev_int (i := 1))).isInt) any_none)) (Nat.le_refl _) l2 (fun _ _ h => h.wide (by omega)))).run P9 (b := b) (by omega) fun vl H10 P10 k10 r10 => ?_
      obtain ⟨la, xl, rfl, gl, ll1, ll2, hxl⟩ := r10
      have f10 := P10.zz _ _ (upd_same (a := f) (o := .lst []))
      have gl0 : H10 la = some (.lst xl) := hid_same _ _ gl
      have laf : la ≠ f := (off_hide (hid_some gl)).1
      have k10' : Kp (reel r c) Z H8 H10 := (Same.trans k9 k10).trans hid_hide
      have hxl' : ∀ x ∈ xl, PR K (B + 8) x (cut1 f (hid (reel r c) Z H10)) := fun x hx => MP8 _ _ _ hid_cut1 (hxl x hx)
      replace P10 := P10.bare of.2
      refine ⟨la, rfl, ⟨xl, .inl (.inl gl0)⟩, for_it walk_list (fun i σ Hi => ∃ ps, (∃ y10 y11, σ = [some (.ref r), some (.ref a), some (.int at_), some (.int by_), some (.int on), some (.int off), some v6, some (.int wy), some v9, some (.ref f), y10, y11]) ∧ GrowB K (NZ (reel r c) Z) H10 f ps Hi ∧ DownOk (B + 8) ps.reverse ∧ ps.length ≤ i) ⟨[], ⟨_, _, rfl⟩, ⟨[], AB.refl, f10, .nil⟩, trivial, Nat.zero_le _⟩ (fun i σ H1 _ h => by
        obtain ⟨_, _, ⟨_, sb, _, _⟩, _⟩ := h
        exact .inl (.inl (sb.at_ laf gl0))) ?_ ?_⟩
      · rintro i x σ Hi H' hi ⟨ps, ⟨y10, y11, rfl⟩, ⟨xs, sb, ef', hd'⟩, hdn, hlen⟩ ⟨rfl, hxi⟩
        have P' := sb.iv P10 of
        obtain ⟨⟨be, en'⟩, hdx, x0, x1, x2⟩ := hxl' x (List.mem_of_getElem? hxi)
        obtain ⟨ax, rfl, gx⟩ := dq_pair (hdx.mono sb.cut)
        refine ⟨ax, _, rfl, Same.seqT (cut_same.trans cut_same) gx, rfl, _, _, rfl, _, _, rfl, rfl, ?_⟩
        have fin : ∀ G, GrowB K (NZ (reel r c) Z) H10 f ps G → ∃ ps, (∃ y10 y11, ([some (.ref r), some (.ref a), some (.int at_), some (.int by_), some (.int on), some (.int off), some v6, some (.int wy), some v9, some (.ref f), some (.int be), some (.int en')] : L2.St) = [some (.ref r), some (.ref a), some (.int at_), some (.int by_), some (.int on), some (.int off), some v6, some (.int wy), some v9, some (.ref f), y10, y11]) ∧ GrowB K (NZ (reel r c) Z) H10 f ps G ∧ DownOk (B + 8) ps.reverse ∧ ps.length ≤ i + 1 := fun G hG => ⟨ps, ⟨_, _, rfl⟩, hG, hdn, by omega⟩
        have push : ∀ G, (∀ p, ps.getLast? = some p → p.2 < be) → GrowB K (NZ (reel r c) Z) H10 f (ps ++ [(be, en')]) G → ∃ ps, (∃ y10 y11, ([some (.ref r), some (.ref a), some (.int at_), some (.int by_), some (.int on), some (.int off), some v6, some (.int wy), some v9, some (.ref f), some (.int be), some (.int en')] : L2.St) = [some (.ref r), some (.ref a), some (.int at_), some (.int by_), some (.int on), some (.int off), some v6, some (.int wy), some v9, some (.ref f), y10, y11]) ∧ GrowB K (NZ (reel r c) Z) H10 f ps G ∧ DownOk (B + 8) ps.reverse ∧ ps.length ≤ i + 1 := fun G hl hG => ⟨ps ++ [(be, en')], ⟨_, _, rfl⟩, hG, by
            rw [List.reverse_append]
            exact hdn.push x0 x1 x2 fun p hp => hl p (by rw [List.head?_reverse] at hp; exact hp), by rw [List.length_append]; simp; omega⟩
        have lx := hd'.len
        rw [List.length_map] at lx
        refine s_if1 ⟨.ref f, rfl, Nat.zero_le _, fun ga ng => ?_⟩
        have sg : Same H' (upd H' ga (.lst [])) := same_new ng
        have eg := sg _ _ ef'
        have tf : ∀ t, (upd H' ga (.lst [])) t = none → f ≠ t := fun t nt e => by rw [← e, eg] at nt; cases nt
        refine ⟨f, ga, _, rfl, rfl, .inl (.inl eg), .inl (.inl upd_same), _, rfl, ?_⟩
        rcases List.eq_nil_or_concat ps with hps' | ⟨rs, p, hps'⟩
        · subst hps'
          obtain rfl := dqs_nil hd'
          refine iteT ?_
          refine ⟨.ref f, rfl, .inl ⟨rfl, _, .inl (.inl eg)⟩, .int be, rfl, .int en', rfl, sz2, fun t nt => ?_⟩
          refine ⟨f, [], _, rfl, rfl, by rw [upd_ne (tf t nt)]; exact eg, small1000 (Nat.zero_le _), push _ (fun p hp => by simp at hp) ?_⟩
          exact GrowB.put (q := (be, en')) P'.occ sb sg eg hd' nt
        · subst hps'
          rw [List.concat_eq_append, List.map_append] at hd'
          have hx0 := hd'
          obtain ⟨zs, v, rfl, hz, hv⟩ := dqs_snoc_inv hd'
          obtain ⟨tq, rfl, gq'⟩ := dq_pair hv
          have gq2 := Same.seqT (cut_same.trans (cut_same.trans sg)) gq'
          refine iteF_e (by simp) ?_
          refine ⟨.int be, rfl, .ref f, rfl, 1, rfl, f, _, -1, .ref tq, rfl, rfl, .inl (.inl eg), atI_last _ _, tq, _, 1, .int p.2, rfl, rfl, gq2, atI_nat (j := 1) rfl, be, p.2, rfl, rfl, _, rfl, ite2 (fun g3 => ?_) (fun g3 => ?_)⟩
          · have g3' : p.2 < be := of_decide_eq_true g3
            refine ⟨.ref f, rfl, .inl ⟨rfl, _, .inl (.inl eg)⟩, .int be, rfl, .int en', rfl, sz2, fun t nt => ?_⟩
            refine ⟨f, _, _, rfl, rfl, by rw [upd_ne (tf t nt)]; exact eg, small1000 (by rw [lx]; omega), push _ (fun p' hp => ?_) ?_⟩
            · rw [List.concat_eq_append, List.getLast?_concat] at hp
              rw [← Option.some.inj hp]; exact g3'
            · exact GrowB.put (q := (be, en')) P'.occ sb sg eg (by rw [List.concat_eq_append, List.map_append]; exact hx0) nt
          · exact fin _ ⟨_, sb.trans (AB.of sg), eg, by rw [List.concat_eq_append, List.map_append]; exact hx0.mono (cut_mono (cut_mono sg))⟩
      · rintro σ Hi ⟨ps, ⟨y10, y11, rfl⟩, ⟨xs, sb, ef', hd'⟩, hdn, hlen⟩
        have P' := sb.iv P10 of
        have k' := sb.kp nf k10'
        refine ⟨.ref f, rfl, 60, rfl, f, _, rfl, .inl (.inl ef'), fun c2 nc => ⟨c2, _, rfl, .inl ⟨.inl (.inl upd_same), fun t nt => ?_⟩⟩⟩
        obtain ⟨P11, k11, e11⟩ := laid (o := .lst (cutV xs none (some 60))) P' nc
        obtain ⟨P12, k12, e12⟩ := laid (o := .tup (cutV xs none (some 60))) P11 nt
        have up := hdn.rev.1
        rw [List.reverse_reverse] at up
        have e60 : cutV xs none (some 60) = xs.take 60 := cutV_take xs 60
        refine q _ _ (ps.take 60) P12 (kall.trans (k7.trans (k8.trans (k'.trans (k11.trans k12))))) (.tup (.inl (.inl e12)) ?_) ⟨LogUp.take 60 up, by rw [List.length_take]; omega, fun p hp => ((hdn.rev.2 p (List.mem_reverse.mpr (List.mem_of_mem_take hp))).2.2)⟩
        have dd := (Dqs.take 60 hd').mono (cut_same.trans (Kp.trans k11 k12))
        rw [← e60, ← List.map_take] at dd
        exact dd
theorem ok_l_scene (T : All K mg) : FnOk P w K mg base CX0 3 T.f_l_scene T.fd_l_scene ["reel", "many", "top", "motions"] (sp_scene K) := by
  have nd := sc_l_scene.nd
  refine T.D_l_scene.F.ok sc_l_scene (fun vs H Q E h => ?_) (fun cdv A outer s H vs Q E hr h => ?_)
  · obtain ⟨Z, r, c, b, m, tp, n, rfl, _⟩ := h
    rfl
  · obtain ⟨Z, r, c, b, m, tp, n, rfl, hP, m0, m1, t0, t1, n0, n1, q⟩ := h
    refine ⟨_, (pss_cons (ps_set (i := 4) nd rfl (by first | exact Or.inl rfl | exact Or.inr rfl) (pe_call (ok_l_lamps T) (hr.mono (by decide)) (by rfl) T.D_l_lamps.g T.D_l_lamps.F.kp T.D_l_lamps.b .nil pass0 (pa_cons (pv 0) (pa_cons (pv 1) (pa_cons (pv 2) pa_nil)))))
  (pss_cons (ps_set (i := 5) nd rfl (by first | exact Or.inl rfl | exact Or.inr rfl) (pe_callTy call_list_of (by rfl) T.z_list (by decide +kernel) (pa_cons (pe_call (ok_l_logs T) (hr.mono (by decide)) (by rfl) T.D_l_logs.g T.D_l_logs.F.kp T.D_l_logs.b .nil pass0 (pa_cons (pv 4) (pa_cons (pe_call (ok_l_minutes T) (hr.mono (by decide)) (by rfl) T.D_l_minutes.g T.D_l_minutes.F.kp T.D_l_minutes.b .nil pass0 (pa_cons (pv 0) (pa_cons (pv 3) (pa_cons (pe_op op_mul pe_int (pv 2)) pa_nil)))) pa_nil))) pa_nil)))
  (pss_cons (ps_for PassesOwn.never rfl (pi_range1 (by rfl) T.z_range (pa_cons (pe_ix ix_list (pe_lst (pa_cons pe_int (pa_cons pe_int (pa_cons pe_int (pa_cons pe_int pa_nil))))) (pe_call (ok_l_spin T) (hr.mono (by decide)) (by rfl) T.D_l_spin.g T.D_l_spin.F.kp T.D_l_spin.b .nil pass0 (pa_cons (pv 0) (pa_cons pe_int pa_nil))) (fun _ _ => rfl)) pa_nil)) (pg_name (i := 6) nd rfl (by first | exact Or.inl rfl | exact Or.inr rfl))
    (pss_cons (ps_set (i := 7) nd rfl (by first | exact Or.inl rfl | exact Or.inr rfl) (pe_call (ok_l_spin T) (hr.mono (by decide)) (by rfl) T.D_l_spin.g T.D_l_spin.F.kp T.D_l_spin.b .nil pass0 (pa_cons (pv 0) (pa_cons (pe_callB call_len_seq (by rfl) T.z_len (by decide +kernel) (pa_cons (pv 5) pa_nil)) pa_nil))))
  (pss_one (ps_if (pt_cmpR op_eq (pe_call (ok_l_spin T) (hr.mono (by decide)) (by rfl) T.D_l_spin.g T.D_l_spin.F.kp T.D_l_spin.b .nil pass0 (pa_cons (pv 0) (pa_cons pe_int pa_nil))) pe_int (nomark _))
    (pss_one (ps_asg (pe_call (ok_l_log T) (hr.mono (by decide)) (by rfl) T.D_l_log.g T.D_l_log.F.kp T.D_l_log.b .nil pass0 (pa_cons (pe_ix ix_tup (pv 4) (pv 7) (fun _ _ => rfl)) (pa_cons (pe_call (ok_l_minutes T) (hr.mono (by decide)) (by rfl) T.D_l_minutes.g T.D_l_minutes.F.kp T.D_l_minutes.b .nil pass0 (pa_cons (pv 0) (pa_cons (pv 3) (pa_cons (pe_op op_mul pe_int (pv 2)) pa_nil)))) pa_nil))) (pg_sub (pv 5) (pv 7) set_list)))
    (pss_one (ps_asg (pe_call (ok_l_bent T) (hr.mono (by decide)) (by rfl) T.D_l_bent.g T.D_l_bent.F.kp T.D_l_bent.b .nil pass0 (pa_cons (pv 0) (pa_cons (pe_ix ix_list (pv 5) (pv 7) (fun _ _ => rfl)) pa_nil))) (pg_sub (pv 5) (pv 7) set_list)))))))
  (pss_one (ps_ret (pe_lst (pa_cons (pv 4) (pa_cons (pe_callTy call_tuple_of (by rfl) T.z_tuple (by decide +kernel) (pa_cons (pv 5) pa_nil)) pa_nil)))))))), ?_⟩
    -- lamps
    refine s_set ⟨_, rfl, _, rfl, _, rfl, Z, r, c, 620 + b, m, tp, rfl, hP.less (by omega), m0, m1, t0, t1, fun x H1 ls P1 k1 d1 l1 l2 l3 => ?_⟩
    -- logs
    have ll6 : ls.length ≤ 6 := by omega
    refine s_set ⟨x, rfl, _, rfl, _, rfl, _, rfl, 2, tp, rfl, rfl, .inl ⟨by decide, by decide⟩, Z, r, c, 415 + b, n, 2 * tp, rfl, P1.less (by omega), n0, n1, by omega, by omega, fun y H2 ms P2 k2 d2 o2 => ⟨NZ (reel r c) Z, (ls, ms), P2.occ, .cons (d1.mono k2) (.cons d2 .nil), ⟨by show ls.length ≤ 900; omega, by have := o2.2.1; show ms.length ≤ 900; omega⟩, fun g H3 s3 d3 => ?_⟩⟩
    obtain ⟨ag, xs, rfl, gg, dg⟩ := dq_tup d3
    refine ⟨ag, xs, rfl, .inr (Same.seqT hid_same gg), fun L nL => ?_⟩
    have P3 := P2.keep s3
    have k3 : Kp (reel r c) Z H H3 := k1.trans (k2.trans (Kp.of s3))
    have oL := P3.free nL
    have mok : ∀ l ∈ ls, ∀ ns, MinsOk n ns → LgOk 60 10010000 (logF l ns) := fun l hl ns hn => by
      have hl' := l3 l hl
      exact (logF_ok (B := 10010000) (n := 60) hl'.1 hn.1 (fun z hz => by have := hn.2.2 z hz; omega) (by have := hn.2.1; omega))
    have hgs : ∃ gs : List (List Stt), (ls.map fun l => logD (logF l ms)) = gs.map logD ∧ gs.length = ls.length ∧ ∀ g ∈ gs, LgOk 60 10010000 g :=
      ⟨ls.map fun l => logF l ms, by rw [List.map_map]; rfl, by rw [List.length_map], fun g hg => by
        obtain ⟨l, hl, rfl⟩ := List.mem_map.mp hg
        exact mok l hl ms o2⟩
    obtain ⟨gs, eg, lgs, hgs⟩ := hgs
    have dg : Dqs K (hid (reel r c) Z H3) xs (gs.map logD) := by rw [← eg]; exact dg
    have d1' : Dq K (hid (reel r c) Z H3) x (lampsD ls) := d1.mono (Kp.trans k2 (Kp.of s3))
    obtain ⟨al, ys, rfl, ga, da⟩ := dq_tup d1'
    have P4 := (P3.new (o := .lst xs) nL).hide (o := .lst xs) upd_same oL.1
    refine s_rng ?_
    refine (eva_cons IR.mo (ev_ixL (K := K) (m := 4) (c := 4) (lo := 0) (up := 3) (R := IR 0 2) IR.mo (ev_lst (by decide) IR.mo (eall_cons IR.mo (ev_int.wide (by decide) (by decide)) (eall_cons IR.mo (ev_int.wide (by decide) (by decide)) (eall_cons IR.mo (ev_int.wide (by decide) (by decide)) (eall_cons IR.mo (ev_int.wide (by decide) (by decide)) eall_nil))))) (ev_spinC (m := 4))) eva_nil).run P4 (b := 414 + b) (by omega) fun vs H5 P5 k5 r5 => ?_
    obtain ⟨_, _, rfl, ⟨nn, rfl, nn0, nn1⟩, rfl⟩ := r5
    have k35 : Same (hid (reel r c) Z H3) (hid (reel r c) (upd Z L (.lst xs)) H5) := (hid_new2 nL).trans k5
    refine ⟨nn, rfl, by omega, by omega, for_it walk_range (fun i σ Hi => ∃ gs xs y6 y7, σ = [some (.ref r), some (.int m), some (.int tp), some (.int n), some (.ref al), some (.ref L), y6, y7] ∧ Iv (reel r c) (upd Z L (.lst xs)) (207 * (2 - i) + b) Hi ∧ Same (hid (reel r c) Z H3) (hid (reel r c) (upd Z L (.lst xs)) Hi) ∧
      Dqs K (hid (reel r c) (upd Z L (.lst xs)) Hi) xs (gs.map logD) ∧ gs.length = ls.length ∧ ∀ g ∈ gs, LgOk 60 (10010000 + 8 * (i : Int)) g) ⟨gs, xs, _, _, rfl, P5, k35, dg.mono k35, lgs, fun g hg => (hgs g hg).wide (Nat.le_refl _) (by omega)⟩ (fun i σ H1 _ h => trivial) ?_ ?_⟩
    · rintro i _ σ _ Hi hi ⟨gs, xs, y6, y7, rfl, Pi, ki, di, lg, hg⟩ ⟨rfl, rfl⟩
      have lx := di.len
      rw [List.length_map] at lx
      have eL := Pi.zz _ _ (upd_same (a := L) (o := .lst xs))
      refine s_set ⟨_, rfl, .ref L, rfl, L, xs, rfl, .inl (.inl (.inl eL)), upd Z L (.lst xs), r, c, 206 + (207 * (2 - (i + 1)) + b), (xs.length : Int), rfl, Pi.less (by omega), by omega, by omega, fun at_ H6 P6 k6 a0 a1 => ?_⟩
      refine s_if1 ?_
      refine (ev_spinC (m := 4)).run P6 (b := 205 + (207 * (2 - (i + 1)) + b)) (by omega) fun v H7 P7 k7 r7 => ?_
      obtain ⟨w4, rfl, _, _⟩ := r7
      have k67 := Same.trans k6 k7
      have put : ∀ (Hk : Hp) (v : V) (g : List Stt), Iv (reel r c) (upd Z L (.lst xs)) (207 * (2 - (i + 1)) + b) Hk → Kp (reel r c) (upd Z L (.lst xs)) Hi Hk → Dq K (hid (reel r c) (upd Z L (.lst xs)) Hk) v (logD g) → LgOk 60 (10010000 + 8 * ((i + 1 : Nat) : Int)) g →
          ∃ (gs' : List (List Stt)) (xs' : List V) (y6 y7 : Option V), ([some (.ref r), some (.int m), some (.int tp), some (.int n), some (.ref al), some (.ref L), some (.int (0 + (i : Int))), some (.int at_)] : L2.St) = [some (.ref r), some (.int m), some (.int tp), some (.int n), some (.ref al), some (.ref L), y6, y7] ∧ Iv (reel r c) (upd Z L (.lst xs')) (207 * (2 - (i + 1)) + b) (upd Hk L (.lst (xs.set at_.toNat v))) ∧ Same (hid (reel r c) Z H3) (hid (reel r c) (upd Z L (.lst xs')) (upd Hk L (.lst (xs.set at_.toNat v)))) ∧
      Dqs K (hid (reel r c) (upd Z L (.lst xs')) (upd Hk L (.lst (xs.set at_.toNat v)))) xs' (gs'.map logD) ∧ gs'.length = ls.length ∧ ∀ g ∈ gs', LgOk 60 (10010000 + 8 * ((i + 1 : Nat) : Int)) g := fun Hk v g Pk kk dv hv => by
        have sw : Same (hid (reel r c) (upd Z L (.lst xs)) Hk) (hid (reel r c) (upd Z L (.lst (xs.set at_.toNat v))) (upd Hk L (.lst (xs.set at_.toNat v)))) := hid_swap
        refine ⟨gs.set at_.toNat g, xs.set at_.toNat v, _, _, rfl, ((Pk.bare oL.2).upd oL).hide upd_same oL.1, (ki.trans kk).trans sw, ?_, by rw [List.length_set]; exact lg, fun z hz => ?_⟩
        · rw [List.map_set]
          exact dqs_set _ ((di.mono kk).mono sw) (dv.mono sw)
        · rcases List.mem_or_eq_of_mem_set hz with e | e
          · exact (hg z e).wide (Nat.le_refl _) (by omega)
          · rw [e]; exact hv
      have eLk : ∀ {Hk : Hp} {bb : Nat}, Iv (reel r c) (upd Z L (.lst xs)) bb Hk → Hk L = some (.lst xs) := fun Pk => Pk.zz _ _ upd_same
      have k37 := ki.trans k67
      refine ⟨rfl, _, rfl, ite2 (fun _ => ?_) (fun _ => ?_)⟩
      · have hlt : at_.toNat < ys.length := by
          have := da.len
          rw [List.length_map] at this
          omega
        obtain ⟨l, hl, dl⟩ := dqs_get da (List.getElem?_eq_getElem hlt)
        refine ⟨.ref al, rfl, .int at_, rfl, al, ys, at_, ys[at_.toNat], rfl, rfl, Same.seqT (k37.trans hid_same) ga, atI_get a0 (List.getElem?_eq_getElem hlt), _, rfl, _, rfl, _, rfl, 2, tp, rfl, rfl, .inl ⟨by decide, by decide⟩, upd Z L (.lst xs), r, c, 207 * (2 - (i + 1)) + b, n, 2 * tp, rfl, P7.less (by omega), n0, n1, by omega, by omega, fun y H8 ns P8 k8 d8 o8 =>
          ⟨NZ (reel r c) (upd Z L (.lst xs)), (l, ns), P8.occ, .cons (dl.mono (k37.trans k8)) (.cons d8 .nil), by have := o8.2.1; show ns.length ≤ 900; omega, fun g H9 s9 d9 => ?_⟩⟩
        have P9 := P8.keep s9
        refine ⟨.ref L, rfl, .int at_, rfl, L, xs, at_, at_.toNat, rfl, rfl, eLk P9, ixN_in a0 a1, ?_⟩
        exact put H9 g _ P9 (Kp.trans k67 (Kp.trans k8 (Kp.of s9))) d9 ((mok l (List.mem_of_getElem? hl) ns o8).wide (Nat.le_refl _) (by omega))
      · have hlt : at_.toNat < xs.length := by omega
        obtain ⟨g, hgg, dl⟩ := dqs_get di (List.getElem?_eq_getElem hlt)
        refine ⟨_, rfl, .ref L, rfl, .int at_, rfl, L, xs, at_, xs[at_.toNat], rfl, rfl, .inl (.inl (eLk P7)), atI_get a0 (List.getElem?_eq_getElem hlt), upd Z L (.lst xs), r, c, 207 * (2 - (i + 1)) + b, xs[at_.toNat], g, 10010000 + 8 * (i : Int), rfl, P7.less (by omega), dl.mono k67, hg g (List.mem_of_getElem? hgg), by omega, by omega, fun y H8 qs P8 k8 d8 o8 => ?_⟩
        refine ⟨.ref L, rfl, .int at_, rfl, L, xs, at_, at_.toNat, rfl, rfl, eLk P8, ixN_in a0 a1, ?_⟩
        exact put H8 y qs P8 (Kp.trans k67 k8) d8 (o8.wide (Nat.le_refl _) (by omega))
    · rintro σ Hi ⟨gs, xs, y6, y7, rfl, Pi, ki, di, lg, hg⟩
      have eL := Pi.zz _ _ (upd_same (a := L) (o := .lst xs))
      refine ⟨.ref al, rfl, .ref L, rfl, L, xs, rfl, .inl ⟨.inl (.inl eL), fun t nt => ⟨sz2, fun p np => ?_⟩⟩⟩
      have Pb := Pi.bare oL.2
      obtain ⟨P8, k8, e8⟩ := laid (o := .tup xs) Pb nt
      obtain ⟨P9, k9, e9⟩ := laid (o := .lst [.ref al, .ref t]) P8 np
      have kb : Same (hid (reel r c) Z H3) (hid (reel r c) Z Hi) := ki.trans hid_hide
      have k39 := kb.trans (Kp.trans k8 k9)
      have op := P8.free np
      refine q p (.ref al) (.ref t) _ ls gs (P9.less (by omega)) (k3.trans k39) upd_same op.1 op.2 (kp_none P8.occ (k3.trans (kb.trans k8)) np) (.tup (Same.seqT k39 ga) (da.mono k39)) (.tup (.inl (.inl (k9 _ _ e8))) ((di.mono hid_hide).mono (Kp.trans k8 k9))) l1 l2 l3 lg (fun g hg' => (hg g hg').wide (Nat.le_refl _) (by omega))
theorem ok_l_fits (T : All K mg) : FnOk P w K mg base CX0 1 T.f_l_fits T.fd_l_fits ["lamp", "stretch"] (sp_fits K) := by
  have nd := sc_l_fits.nd
  refine T.D_l_fits.F.ok sc_l_fits (fun vs H Q E h => ?_) (fun cdv A outer s H vs Q E hr h => ?_)
  · obtain ⟨N, x, _, hd, _⟩ := h
    exact hd.len
  · obtain ⟨N, ⟨⟨kd, st⟩, ⟨a, b⟩⟩, O, hd, ⟨hs, hab⟩, qq⟩ := h
    have hs : 1 ≤ st := hs
    have hab : a < b := hab
    obtain ⟨v1, _, rfl, hd1, hd⟩ := dqs_cons hd
    obtain ⟨v2, _, rfl, hd2, hd⟩ := dqs_cons hd
    obtain rfl := dqs_nil hd
    obtain ⟨a1, rfl, g1⟩ := dq_lamp hd1
    obtain ⟨a2, rfl, g2⟩ := dq_pair hd2
    have fin : ∀ z : Bool, z = fitB (kd, st) (a, b) → Q (.bl z) H := fun z e => qq _ _ (Same.refl _) (by rw [e]; exact .bl _)
    refine ⟨_, (pss_cons (ps_asg (pv 0) (pg_tup rfl (pgs_cons (pg_name (i := 2) nd rfl (by first | exact Or.inl rfl | exact Or.inr rfl)) (pgs_cons (pg_name (i := 3) nd rfl (by first | exact Or.inl rfl | exact Or.inr rfl)) pgs_nil))))
  (pss_cons (ps_asg (pv 1) (pg_tup rfl (pgs_cons (pg_name (i := 4) nd rfl (by first | exact Or.inl rfl | exact Or.inr rfl)) (pgs_cons (pg_name (i := 5) nd rfl (by first | exact Or.inl rfl | exact Or.inr rfl)) pgs_nil))))
  (pss_cons (ps_if (PW.pt (pw_or (pt_cmpR op_gt (pe_op op_sub (pv 5) (pv 3)) (pe_op op_pow pe_int pe_int) (nomark _)) (pw_or1 (pt_cmpR op_lt (pe_op op_sub (pv 5) (pv 4)) (pv 3) (nomark _)))))
    (pss_one (ps_ret pe_bl))
    pss_nil)
  (pss_one (ps_ret (pe_or (pe_cmpR op_eq (pv 2) pe_str (nomark _)) (pe_one (pe_cmpR op_eq (pe_op op_modN (pe_op op_sub (pv 5) (pv 4)) (pv 3)) pe_int (nomark _))))))))), ?_⟩
    refine ⟨.ref a1, rfl, a1, _, rfl, Same.seqT cut_same g1, rfl, _, _, rfl, _, _, rfl, rfl, .ref a2, rfl, a2, _, rfl, Same.seqT cut_same g2, rfl, _, _, rfl, _, _, rfl, rfl, ?_⟩
    refine ⟨.int b, rfl, .int st, rfl, b, st, rfl, rfl, 10, 9, rfl, rfl, ⟨by decide, by decide, by decide⟩, _, _, rfl, rfl, _, rfl, ite2 (fun h1 => ?_) (fun h1 => ?_)⟩
    · have h1' : (1000000000 : Int) < b - st := of_decide_eq_true h1
      exact fin false (by simp only [fitB]; rw [decide_eq_false (by omega)]; rfl)
    · have h1' : ¬ (1000000000 : Int) < b - st := fun z => h1 (decide_eq_true z)
      refine ⟨.int b, rfl, .int a, rfl, b, a, rfl, rfl, .int st, rfl, _, _, rfl, rfl, _, rfl, ite2 (fun h2 => ?_) (fun h2 => ?_)⟩
      · have h2' : b - a < st := of_decide_eq_true h2
        refine fin false ?_
        simp only [fitB]
        rw [decide_eq_false (show ¬ st ≤ b - a by omega)]
        cases kd with
        | true => simp
        | false =>
          have e : (b - a).fmod st = b - a := Int.fmod_eq_of_lt (by omega) h2'
          rw [e, decide_eq_false (show ¬ b - a = 0 by omega)]
          simp
      · have h2' : ¬ b - a < st := fun z => h2 (decide_eq_true z)
        have e1 : decide (b - st ≤ 1000000000) = true := decide_eq_true (by omega)
        refine ⟨.str (kindS kd), rfl, rfl, _, rfl, ite_b (fun hk => ?_) (fun hk => ?_)⟩
        · rw [kindS_hold] at hk
          exact fin true (by simp only [fitB]; rw [e1, hk, decide_eq_true (show st ≤ b - a by omega)]; rfl)
        · rw [kindS_hold] at hk
          refine ⟨.int b, rfl, .int a, rfl, b, a, rfl, rfl, .int st, rfl, _, _, rfl, rfl, by omega, rfl, fin _ ?_⟩
          simp only [fitB]
          rw [e1, hk]
          simp
theorem ok_l_quiet (T : All K mg) : FnOk P w K mg base CX0 2 T.f_l_quiet T.fd_l_quiet ["lamp", "log"] (sp_lawQuiet K) := by
  have nd := sc_l_quiet.nd
  refine T.D_l_quiet.F.ok sc_l_quiet (fun vs H Q E h => ?_) (fun cdv A outer s H vs Q E hr h => ?_)
  · obtain ⟨N, x, _, hd, _⟩ := h
    exact hd.len
  · obtain ⟨N, ⟨l, g⟩, O, hd, hM, qq⟩ := h
    have hM : One (l, g) := hM
    have qq : ∀ r H', Same H H' → Dq K (Lg.cut N H') r (.list ((quietS l g).map pD)) → Q r H' := qq
    obtain ⟨v1, _, rfl, hd1, hd'⟩ := dqs_cons hd
    obtain ⟨v2, _, rfl, hd2, hd'⟩ := dqs_cons hd'
    obtain rfl := dqs_nil hd'
    have hd1 : Dq K (Lg.cut N H) v1 (lampD l) := hd1
    have hd2 : Dq K (Lg.cut N H) v2 (logD g) := hd2
    obtain ⟨a1, rfl, g1⟩ := dq_lamp hd1
    obtain ⟨a2, ys, rfl, g2, hy⟩ := dq_tup hd2
    have len := hy.len
    rw [List.length_map] at len
    have lg : g.length ≤ 900 := hM.2.len
    have s1 : 1 ≤ sizeLine := Nat.le_of_lt (small1000 (show 1 ≤ 1000 by decide))
    have s2 : 2 ≤ sizeLine := Nat.le_of_lt (small1000 (show 2 ≤ 1000 by decide))
    refine ⟨_, (pss_cons (ps_asg (pv 0) (pg_tup rfl (pgs_cons (pg_name (i := 2) nd rfl (by first | exact Or.inl rfl | exact Or.inr rfl)) (pgs_cons (pg_name (i := 3) nd rfl (by first | exact Or.inl rfl | exact Or.inr rfl)) pgs_nil))))
  (pss_cons (ps_par (i := 4) (j := 5) (by rfl) nd rfl rfl (by decide) rfl rfl (pa_cons (pe_lst pa_nil) (pa_cons pe_int pa_nil)) (by rfl))
  (pss_cons (ps_for PassesOwn.never rfl (pi_tup (pv 1)) (pg_tup rfl (pgs_cons (pg_name (i := 6) nd rfl (by first | exact Or.inl rfl | exact Or.inr rfl)) (pgs_cons (pg_name (i := 7) nd rfl (by first | exact Or.inl rfl | exact Or.inr rfl)) pgs_nil)))
    (pss_cons (ps_set (i := 4) nd rfl (by first | exact Or.inl rfl | exact Or.inr rfl) (pe_op op_cat (pv 4) (pe_op op_rep (pe_lst (pa_cons (pe_tup (pa_cons (pv 5) (pa_cons (pe_op op_sub (pv 6) pe_int) pa_nil))) pa_nil)) (pe_callTy call_int1 (by rfl) T.z_int (by decide +kernel) (pa_cons (pe_cmpR op_lt (pv 5) (pv 6) (nomark _)) pa_nil)))))
  (pss_one (ps_set (i := 5) nd rfl (by first | exact Or.inl rfl | exact Or.inr rfl) (pe_ifExp (pt_cmpR op_eq (pv 2) pe_str (nomark _)) (pe_op op_add (pe_op op_sub (pv 7) (pv 3)) pe_int) (pv 7))))))
  (pss_one (ps_ret (pe_op op_cat (pv 4) (pe_op op_rep (pe_lst (pa_cons (pe_tup (pa_cons (pv 5) (pa_cons (pe_op op_pow pe_int pe_int) pa_nil))) pa_nil)) (pe_callTy call_int1 (by rfl) T.z_int (by decide +kernel) (pa_cons (pe_cmpR op_le (pv 5) (pe_op op_pow pe_int pe_int) (nomark _)) pa_nil))))))))), ?_⟩
    refine ⟨.ref a1, rfl, a1, _, rfl, Same.seqT cut_same g1, rfl, _, _, rfl, _, _, rfl, rfl, ?_⟩
    refine ⟨Nat.zero_le _, fun f nf => ⟨_, _, rfl, ?_⟩⟩
    refine ⟨.ref a2, rfl, a2, rfl, ⟨_, Same.seqT (cut_same.trans (same_new nf)) g2⟩, for_it walk_tup (fun i σ Hi => ∃ fa zs y6 y7, σ = [some (.ref a1), some (.ref a2), some (.str (kindS l.1)), some (.int l.2), some (.ref fa), some (.int (foldQ l (g.take i)).2), y6, y7] ∧ Same H Hi ∧ Hi fa = some (.lst zs) ∧ Dqs K (Lg.cut N Hi) zs (((foldQ l (g.take i)).1.filter okQ).map pD)) ⟨f, [], _, _, rfl, same_new nf, upd_same, .nil⟩ (fun i σ H1 _ h => by
      obtain ⟨_, _, _, _, _, s1, _⟩ := h
      exact Same.seqT (cut_same.trans s1) g2) ?_ ?_⟩
    · rintro i x σ Hi H' hi ⟨fa, zs, y6, y7, rfl, si, ei, hz⟩ ⟨rfl, hxi⟩
      obtain ⟨st, hst, dst⟩ := dqs_get hy hxi
      obtain ⟨ax, rfl, gx⟩ := dq_pair (dst.mono (cut_mono si))
      have nx : foldQ l (g.take (i + 1)) = stepQ (unseen l) (foldQ l (g.take i)) st := foldl_take (stepQ (unseen l)) ([], 0) g hst
      have lz := hz.len
      have lf := List.length_filter_le okQ (foldQ l (g.take i)).1
      rw [foldQ_len, List.length_take] at lf
      rw [List.length_map] at lz
      generalize foldQ l (g.take i) = fo at hz nx lz lf ⊢
      obtain ⟨acc, b⟩ := fo
      obtain ⟨on, off⟩ := st
      have nx : foldQ l (g.take (i + 1)) = (acc ++ [(b, on - 1)], off - unseen l) := nx
      refine ⟨ax, _, rfl, Same.seqT cut_same gx, rfl, _, _, rfl, _, _, rfl, rfl, ?_⟩
      refine s_set ⟨.ref fa, rfl, .int b, rfl, .int on, rfl, on, 1, rfl, rfl, s2, fun t nt => ⟨s1, fun u nu => ?_⟩⟩
      have e1 := same_new (o := .tup [.int b, .int (on - 1)]) nt
      have e2 := same_new (o := .lst [.ref t]) nu
      have e12 := e1.trans e2
      refine ⟨.int b, rfl, .int on, rfl, _, _, rfl, rfl, .inr ⟨_, rfl, cat_rep (e12 _ _ ei) upd_same (by omega) fun w G nw sG eG => ?_⟩⟩
      have sA := si.trans (e12.trans sG)
      have OA := O.keep sA
      have dt : Dq K (Lg.cut N G) (.ref t) (pD (b, on - 1)) := (dq_pairT (q := (b, on - 1)) (.inl (.inl (cut_new (O.keep si) nt)))).mono (cut_mono (e2.trans sG))
      have dz : Dqs K (Lg.cut N G) (if decide (b < on) = true then zs ++ [.ref t] else zs) (((acc ++ [(b, on - 1)]).filter okQ).map pD) := by
        rw [List.filter_append, List.map_append]
        by_cases h : b < on
        · rw [if_pos (decide_eq_true h)]
          have ho : okQ (b, on - 1) = true := decide_eq_true (show b ≤ on - 1 by omega)
          simp only [List.filter_cons, List.filter_nil, ho, if_true]
          exact dqs_snoc (hz.mono (cut_mono (e12.trans sG))) dt
        · rw [if_neg (by simpa using h)]
          have ho : okQ (b, on - 1) = false := decide_eq_false (show ¬ b ≤ on - 1 by omega)
          simp only [List.filter_cons, List.filter_nil, ho]
          simpa using hz.mono (cut_mono (e12.trans sG))
      have done : ∀ b2 : Int, b2 = off - unseen l → ∃ fa zs y6 y7, ([some (.ref a1), some (.ref a2), some (.str (kindS l.1)), some (.int l.2), some (.ref w), some (.int b2), some (.int on), some (.int off)] : L2.St) = [some (.ref a1), some (.ref a2), some (.str (kindS l.1)), some (.int l.2), some (.ref fa), some (.int (foldQ l (g.take (i + 1))).2), y6, y7] ∧ Same H G ∧ G fa = some (.lst zs) ∧ Dqs K (Lg.cut N G) zs (((foldQ l (g.take (i + 1))).1.filter okQ).map pD) := fun b2 e => by
        rw [nx, e]
        exact ⟨w, _, _, _, rfl, sA, eG, dz⟩
      refine ⟨.str (kindS l.1), rfl, rfl, _, rfl, ite_b (fun hk => ?_) (fun hk => ?_)⟩
      · rw [kindS_hold] at hk
        exact ⟨.int off, rfl, .int l.2, rfl, _, _, rfl, rfl, _, 1, rfl, rfl, done _ (by unfold unseen; rw [if_pos hk]; omega)⟩
      · rw [kindS_hold] at hk
        exact ⟨.int off, rfl, done _ (by unfold unseen; rw [if_neg (by rw [hk]; decide)]; omega)⟩
    · rintro σ Hi ⟨fa, zs, y6, y7, rfl, si, ei, hz⟩
      rw [len, List.take_length] at hz
      simp only [len, List.take_length]
      have lz := hz.len
      have lf := List.length_filter_le okQ (foldQ l g).1
      rw [foldQ_len] at lf
      rw [List.length_map] at lz
      have qS : quietS l g = ((foldQ l g).1 ++ [((foldQ l g).2, 1000000000)]).filter okQ := rfl
      generalize foldQ l g = fo at hz qS lz lf ⊢
      obtain ⟨acc, b⟩ := fo
      have qS : quietS l g = (acc ++ [(b, 1000000000)]).filter okQ := qS
      have hz : Dqs K (Lg.cut N Hi) zs ((acc.filter okQ).map pD) := hz
      refine ⟨.ref fa, rfl, .int b, rfl, 10, 9, rfl, rfl, ⟨by decide, by decide, by decide⟩, s2, fun t nt => ⟨s1, fun u nu => ?_⟩⟩
      have e1 := same_new (o := .tup [.int b, .int (10 ^ (9 : Int).toNat)]) nt
      have e2 := same_new (o := .lst [.ref t]) nu
      have e12 := e1.trans e2
      refine ⟨.int b, rfl, 10, 9, rfl, rfl, ⟨by decide, by decide, by decide⟩, _, _, rfl, rfl, .inr ⟨_, rfl, cat_rep (e12 _ _ ei) upd_same (by omega) fun w G nw sG eG => ?_⟩⟩
      have sA := si.trans (e12.trans sG)
      have dt : Dq K (Lg.cut N G) (.ref t) (pD (b, 1000000000)) := (dq_pairT (q := (b, 1000000000)) (.inl (.inl (cut_new (O.keep si) nt)))).mono (cut_mono (e2.trans sG))
      refine qq _ _ sA ?_
      rw [qS]
      refine .lst (xs := if decide (b ≤ 10 ^ (9 : Int).toNat) = true then zs ++ [.ref t] else zs) (.inl (.inl ?_)) ?_
      · rw [cut_at fun z => (O.keep (si.trans e12)) w z nw]
        exact eG
      · rw [List.filter_append, List.map_append]
        by_cases h : b ≤ 1000000000
        · rw [if_pos (decide_eq_true (show b ≤ 10 ^ (9 : Int).toNat from h))]
          have ho : okQ (b, 1000000000) = true := decide_eq_true h
          simp only [List.filter_cons, List.filter_nil, ho, if_true]
          exact dqs_snoc (hz.mono (cut_mono (e12.trans sG))) dt
        · rw [if_neg (by rw [decide_eq_false (show ¬ b ≤ 10 ^ (9 : Int).toNat from h)]; decide)]
          have ho : okQ (b, 1000000000) = false := decide_eq_false h
          simp only [List.filter_cons, List.filter_nil, ho]
          simpa using hz.mono (cut_mono (e12.trans sG))
theorem gives_l_told (T : All K mg) {AA : Around} {stk : List Env} {cdg : Value} {q : Str} : Lb.GivesS P w K mg base AA stk n_l_told "_law_told" (defScope s_l_told) T.f_l_told cdg (defBody s_l_told) "call" q (TTold T.C_Unexplained) := by
  intro f c' s H Q tl act hc h
  have nd := sc_l_told.nd
  refine ⟨_, (pss_cons (ps_set (i := 1) nd rfl (by first | exact Or.inl rfl | exact Or.inr rfl) (pe_lst pa_nil))
  (pss_cons (ps_try_as (i := 2) rfl rfl nd rfl rfl ⟨rfl, by decide, .inl T.g_LampError⟩ takes0 (fun W pn xe tk _ => (pss_one (ps_ret (pe_tup (pa_cons pe_str (pa_cons (act W pn xe _ _ tk) pa_nil)))))) (fun a oe cls d pn hz hf => (pss_cons (ps_if (pt_val (pe_callB (call_isX hz hf) (by rfl) T.z_isinstance (by decide +kernel) (pa_cons (pv 2) (pa_cons (pe_glob (v := .ref T.C_OtherCount) (by rfl) T.g_OtherCount rfl) pa_nil))))
    (pss_one (ps_expr (pe_bmK (K := K) rfl PySem.F.plainAttrs_list PySem.F.slot_list_append PySem.F.type_list_append mt_append (pv 1) (pa_cons (pe_tup (pa_cons pe_str (pa_cons (pe_xf T.X_OtherCount.xf T.X_OtherCount.no hz hf (pv 2)) pa_nil))) pa_nil))))
    pss_nil)
  (pss_cons (ps_if (pt_val (pe_callB (call_isX hz hf) (by rfl) T.z_isinstance (by decide +kernel) (pa_cons (pv 2) (pa_cons (pe_glob (v := .ref T.C_Unexplained) (by rfl) T.g_Unexplained rfl) pa_nil))))
    (pss_one (ps_expr (pe_bmK (K := K) rfl PySem.F.plainAttrs_list PySem.F.slot_list_append PySem.F.type_list_append mt_append (pv 1) (pa_cons (pe_tup (pa_cons pe_str (pa_cons (pe_xf T.X_Unexplained.xf T.X_Unexplained.no hz hf (pv 2)) pa_nil))) pa_nil))))
    pss_nil)
  (pss_cons (ps_if (pt_val (pe_callB (call_isX hz hf) (by rfl) T.z_isinstance (by decide +kernel) (pa_cons (pv 2) (pa_cons (pe_glob (v := .ref T.C_NoMinute) (by rfl) T.g_NoMinute rfl) pa_nil))))
    (pss_one (ps_expr (pe_bmK (K := K) rfl PySem.F.plainAttrs_list PySem.F.slot_list_append PySem.F.type_list_append mt_append (pv 1) (pa_cons (pe_tup (pa_cons pe_str (pa_cons (pe_xf T.X_NoMinute.xf T.X_NoMinute.no hz hf (pv 2)) pa_nil))) pa_nil))))
    pss_nil)
  (pss_cons (ps_if (pt_val (pe_callB (call_isX hz hf) (by rfl) T.z_isinstance (by decide +kernel) (pa_cons (pv 2) (pa_cons (pe_glob (v := .ref T.C_NoIndex) (by rfl) T.g_NoIndex rfl) pa_nil))))
    (pss_one (ps_expr (pe_bmK (K := K) rfl PySem.F.plainAttrs_list PySem.F.slot_list_append PySem.F.type_list_append mt_append (pv 1) (pa_cons (pe_tup (pa_cons pe_str (pa_cons (pe_xf T.X_NoIndex.xf T.X_NoIndex.no hz hf (pv 2)) pa_nil))) pa_nil))))
    pss_nil)
  (pss_one (ps_if (PW.pt (pw_or (pt_not (pt_val (pe_callB (call_isX hz hf) (by rfl) T.z_isinstance (by decide +kernel) (pa_cons (pv 2) (pa_cons (pe_bltn (v := .ty "ValueError") (by rfl) T.z_ValueError (by decide +kernel) rfl) pa_nil))))) (pw_or1 (pt_val (pe_callB (call_isX hz hf) (by rfl) T.z_isinstance (by decide +kernel) (pa_cons (pv 2) (pa_cons (pe_tup (pa_cons (pe_glob (v := .ref T.C_BadLamp) (by rfl) T.g_BadLamp rfl) (pa_cons (pe_glob (v := .ref T.C_BadLog) (by rfl) T.g_BadLog rfl) (pa_cons (pe_glob (v := .ref T.C_TooLarge) (by rfl) T.g_TooLarge rfl) pa_nil)))) pa_nil)))))))
    (pss_one (ps_expr (pe_bmK (K := K) rfl PySem.F.plainAttrs_list PySem.F.slot_list_append PySem.F.type_list_append mt_append (pv 1) (pa_cons (pe_tup (pa_cons pe_str pa_nil)) pa_nil))))
    pss_nil))))))))
  (pss_one (ps_ret (pe_ifExp (pt_cmpR op_eq (pe_callB call_len_seq (by rfl) T.z_len (by decide +kernel) (pa_cons (pv 1) pa_nil)) pe_int (nomark _)) (pe_ix ix_list (pv 1) pe_int (fun _ _ => rfl)) (pe_tup (pa_cons pe_str pa_nil))))))), ?_⟩
  refine s_set ⟨Nat.zero_le _, fun fo nf => ?_⟩
  have ncf : c' ≠ fo := ne_of_none hc nf
  have s2 : 2 ≤ sizeLine := Nat.le_of_lt (small1000 (show 2 ≤ 1000 by decide))
  refine ⟨rfl, by rw [upd_ne ncf]; exact hc, h fo nf _ _ (fun H2 dd v hx hf hfin => ?_) (fun v H2 hfin => ⟨s2, fun t nt => hfin t nt⟩)⟩
  refine ⟨true, T.kit0, fun _ a na => ?_, fun z => Bool.noConfusion z⟩
  refine s_ifn ⟨.ref a, rfl, T.C_Unexplained, _, dd, _, false, rfl, rfl, rfl, hx, T.X_Unexplained.xf, T.X_Unexplained.is, .inl ⟨_, fun u z => z, T.kit1⟩, false, rfl, iteF ?_⟩
  refine s_ifn ⟨.ref a, rfl, T.C_Unexplained, _, dd, _, true, rfl, rfl, rfl, hx, T.X_Unexplained.xf, T.X_Unexplained.is, .inl ⟨_, fun u z => z, T.kit2⟩, true, rfl, iteT ?_⟩
  refine ⟨.ref fo, rfl, .inl ⟨rfl, _, .inl (.inl hf)⟩, .ref a, rfl, rfl, rfl, dd, _, _, rfl, hx, rfl, s2, fun t nt => ?_⟩
  have tf : t ≠ fo := fun z => by rw [z, hf] at nt; cases nt
  have df : dd ≠ fo := fun z => by rw [z, hf] at hx; cases hx
  have dt : dd ≠ t := ne_of_none hx nt
  refine ⟨fo, [], _, rfl, rfl, by rw [upd_ne tf.symm]; exact hf, small1000 (by decide), ?_⟩
  generalize hH3 : upd (upd H2 t (.tup [.str "Unexplained", v])) fo (.lst ([] ++ [.ref t])) = H3
  have hx3 : H3 dd = some (.xd [("reason", v)]) := by rw [← hH3, upd_ne df, upd_ne dt]; exact hx
  have hf3 : H3 fo = some (.lst [.ref t]) := by rw [← hH3, upd_same]; rfl
  have ht3 : H3 t = some (.tup [.str "Unexplained", v]) := by rw [← hH3, upd_ne tf, upd_same]
  have hk3 : ∀ b o, b ≠ fo → H2 b = some o → H3 b = some o := fun b o hb e => by rw [← hH3, upd_ne hb, upd_ne (ne_of_none e nt)]; exact e
  refine ⟨.ref a, rfl, T.C_Unexplained, _, dd, _, false, rfl, rfl, rfl, hx3, T.X_Unexplained.xf, T.X_Unexplained.is, .inl ⟨_, fun u z => z, T.kit3⟩, false, rfl, iteF ?_⟩
  refine ⟨.ref a, rfl, T.C_Unexplained, _, dd, _, false, rfl, rfl, rfl, hx3, T.X_Unexplained.xf, T.X_Unexplained.is, .inl ⟨_, fun u z => z, T.kit4⟩, false, rfl, iteF ?_⟩
  refine ⟨.ref a, rfl, T.C_Unexplained, _, dd, _, true, rfl, rfl, rfl, hx3, T.X_Unexplained.xf, T.X_Unexplained.is, .inl ⟨_, fun u z => z, T.kit5⟩, true, rfl, ?_⟩
  refine iteF ⟨.ref a, rfl, Nat.le_of_lt (small1000 (show 3 ≤ 1000 by decide)), fun tt ntt => ?_⟩
  have s4 := same_new (o := .tup [.ref T.C_BadLamp, .ref T.C_BadLog, .ref T.C_TooLarge]) ntt
  refine ⟨T.C_Unexplained, _, dd, _, false, rfl, rfl, rfl, s4 _ _ hx3, T.X_Unexplained.xf, T.X_Unexplained.is, .inr ⟨tt, [T.C_BadLamp, T.C_BadLog, T.C_TooLarge], rfl, upd_same, T.kit6⟩, false, rfl, iteF ?_⟩
  refine ⟨.ref fo, rfl, fo, _, rfl, .inl (.inl (.inl (s4 _ _ hf3))), rfl, _, rfl, iteT ⟨.ref fo, rfl, fo, _, 0, .ref t, rfl, rfl, .inl (.inl (s4 _ _ hf3)), atI_nat (j := 0) rfl, ?_⟩⟩
  exact hfin t _ nt tf (s4 _ _ ht3) fun b o hb e => s4 _ _ (hk3 b o hb e)
theorem ok_l_due (T : All K mg) : FnOk P w K mg base CX0 3 T.f_l_due T.fd_l_due ["way", "lamp", "log"] (sp_dueQ K) := by
  have nd := sc_l_due.nd
  refine T.D_l_due.F.ok sc_l_due (fun vs H Q E h => ?_) (fun cdv A outer s H vs Q E hr h => ?_)
  · obtain ⟨N, x, _, hd, _⟩ := h
    exact hd.len
  · obtain ⟨N, ⟨way, l, g⟩, O, hd, hM, qq⟩ := h
    have hM : One (l, g) := hM
    have qq : ∀ r H', Same H H' → Dq K (Lg.cut N H') r (dueQ way l g) → Q r H' := qq
    obtain ⟨v0, _, rfl, hd0, hd'⟩ := dqs_cons hd
    obtain ⟨v1, _, rfl, hd1, hd'⟩ := dqs_cons hd'
    obtain ⟨v2, _, rfl, hd2, hd'⟩ := dqs_cons hd'
    obtain rfl := dqs_nil hd'
    obtain rfl := dq_int hd0
    have hd1 : Dq K (Lg.cut N H) v1 (lampD l) := hd1
    have hd2 : Dq K (Lg.cut N H) v2 (logD g) := hd2
    obtain ⟨a1, rfl, g1⟩ := dq_lamp hd1
    obtain ⟨a2, ys, rfl, g2, hy⟩ := dq_tup hd2
    have len := hy.len
    rw [List.length_map] at len
    have lg : g.length ≤ 900 := hM.2.len
    have hs : 1 ≤ l.2 := hM.1.1
    have hs2 : l.2 < 1073741824 := hM.1.2
    have s3 : 3 ≤ sizeLine := Nat.le_of_lt (small1000 (show 3 ≤ 1000 by decide))
    have s2 : 2 ≤ sizeLine := Nat.le_of_lt (small1000 (show 2 ≤ 1000 by decide))
    refine ⟨_, (pss_cons (ps_setLc (i := 4) (own := [("k", 3)]) rfl nd rfl rfl (sw_true rfl rfl rfl (by decide +kernel)) (pi_range1 (by rfl) T.z_range (pa_cons (pe_callB call_len_seq (by rfl) T.z_len (by decide +kernel) (pa_cons (pv 2) pa_nil)) pa_nil)) (blkOk_by (own := [("k", 3)]) (N := n_l_due) (sc := defScope s_l_due) (by decide +kernel)) (fun _ _ _ _ _ => (pg_name (i := 3) nd rfl (by first | exact Or.inl rfl | exact Or.inr rfl))) (fun _ _ _ _ _ => (pts_one (pt_not (pt_val (pe_call (ok_l_fits T) (hr.mono (by decide)) (by rfl) T.D_l_fits.g T.D_l_fits.F.kp T.D_l_fits.b .nil pass0 (pa_cons (pv 1) (pa_cons (pe_ix (ixK (K := K) rfl) (pv 2) (pv 3) (fun _ _ => rfl)) pa_nil))))))) (fun _ _ _ _ _ => (pv 3)))
  (pss_cons (ps_if (pt_cmpR (op_neE hr.units0) (pv 4) (pe_lst pa_nil) (nomark _))
    (pss_one (ps_ret (pe_tup (pa_cons pe_str (pa_cons (pe_tup (pa_cons pe_str (pa_cons pe_int (pa_cons (pe_ix ix_list (pv 4) pe_int (fun _ _ => rfl)) pa_nil)))) pa_nil)))))
    pss_nil)
  (pss_cons (ps_if (pt_cmpR op_eq (pv 0) pe_int (nomark _))
    (pss_one (ps_ret (pe_tup (pa_cons pe_str (pa_cons (pe_callTy call_tuple_of (by rfl) T.z_tuple (by decide +kernel) (pa_cons (pe_call (ok_l_quiet T) (hr.mono (by decide)) (by rfl) T.D_l_quiet.g T.D_l_quiet.F.kp T.D_l_quiet.b .nil pass0 (pa_cons (pv 1) (pa_cons (pv 2) pa_nil))) pa_nil)) pa_nil)))))
    pss_nil)
  (pss_cons (ps_set (i := 5) nd rfl (by first | exact Or.inl rfl | exact Or.inr rfl) (pe_ix ix_tup (pv 1) pe_int (fun _ _ => rfl)))
  (pss_cons (ps_setLc (i := 8) (own := [("on", 6), ("off", 7)]) rfl nd rfl rfl (sw_true rfl rfl rfl (by decide +kernel)) (pi_tup (pv 2)) (blkOk_by (own := [("on", 6), ("off", 7)]) (N := n_l_due) (sc := defScope s_l_due) (by decide +kernel)) (fun _ _ _ _ _ => (pg_tupK (K := K) (n := 2) rfl rfl (pgs_cons (pg_name (i := 6) nd rfl (by first | exact Or.inl rfl | exact Or.inr rfl)) (pgs_cons (pg_name (i := 7) nd rfl (by first | exact Or.inl rfl | exact Or.inr rfl)) pgs_nil)))) (fun _ _ _ _ _ => (pts_one (PW.pt (pw_and (pt_cmpR op_eq (pe_ix (ixK (K := K) rfl) (pv 1) pe_int (fun _ _ => rfl)) pe_str (nomark _)) (pw_and1 (pt_cmpR op_ge (pe_op op_sub (pv 7) (pv 6)) (pe_op op_sub (pe_op op_mul pe_int (pv 5)) pe_int) (nomark _))))))) (fun _ _ _ _ _ => (pe_tup (pa_cons (pv 6) (pa_cons (pe_op op_sub (pv 7) (pv 5)) pa_nil)))))
  (pss_one (ps_ret (pe_tup (pa_cons pe_str (pa_cons (pe_callTy call_tuple_of (by rfl) T.z_tuple (by decide +kernel) (pa_cons (pv 8) pa_nil)) pa_nil)))))))))), ?_⟩
    refine ⟨.ref a2, rfl, a2, ys, rfl, .inr (Same.seqT cut_same g2), _, rfl, by omega, by omega, fun D nD => ?_⟩
    refine lc_range (fun k Hk => Same H Hk ∧ Hk D = some (.lst ((wrongs (fitB l) 0 (g.take k)).map V.int))) ⟨same_new nD, upd_same⟩ ?_ ?_
    · rintro k Hk hk ⟨sk, ek⟩
      have hk' : k < ys.length := by omega
      have e9 := List.getElem?_eq_getElem hk'
      obtain ⟨st, hst9, dst⟩ := dqs_get hy e9
      refine ⟨by first | rfl | simp only [wipe, List.set_set], ?_⟩
      refine ⟨.ref a1, rfl, .ref a2, rfl, _, rfl, a2, ys, 0 + (k : Int), ys[k], rfl, rfl, Same.seqT (cut_same.trans sk) g2, at_of (j := k) (by omega) e9, N, (l, st), O.keep sk, .cons (hd1.mono (cut_mono sk)) (.cons (dst.mono (cut_mono sk)) .nil), ⟨hs, (hM.2.stt st (List.mem_of_getElem? hst9)).2.1⟩, fun rr G sG hr => ?_⟩
      obtain rfl := dq_bool hr
      have eG := sG _ _ ek
      have sa := sk.trans sG
      have ll := wrongs_len (fitB l) 0 (g.take k)
      rw [List.length_take] at ll
      refine ⟨_, rfl, ?_⟩
      have wt := wrongs_take (fitB l) hst9
      cases hf : fitB l st with
      | true =>
        rw [hf] at wt
        refine iteF_e (by simp [hf]) ⟨sa, ?_⟩
        rw [wt]
        simpa using eG
      | false =>
        rw [hf] at wt
        refine iteT_e (by simp [hf]) ⟨_, rfl, _, eG, small1000 (by rw [List.length_map]; omega), same_upd sa nD, ?_⟩
        rw [wt, upd_same]
        simp
    · rintro Hn ⟨sn, en⟩
      have et : g.take ((ys.length : Int).toNat) = g := by rw [Int.toNat_natCast, len, List.take_length]
      rw [et] at en
      dsimp only
      refine s_ifn ⟨.ref D, rfl, Nat.zero_le _, fun e ne => ?_⟩
      have s6 := same_new (o := .lst []) ne
      have e6 := s6 _ _ en
      refine ⟨D, e, _, rfl, rfl, .inl (.inl e6), .inl (.inl upd_same), _, rfl, ?_⟩
      have s7 := sn.trans s6
      cases hw : wrongs (fitB l) 0 g with
      | cons ww wr =>
        rw [hw] at e6
        refine iteT ⟨.ref D, rfl, D, _, 0, .int ww, rfl, rfl, .inl (.inl e6), atI_nat (j := 0) rfl, s3, fun t1 nt1 => ⟨s2, fun t2 nt2 => ?_⟩⟩
        have s8 := same_new (o := .tup [.str "stretch", .int 0, .int ww]) nt1
        have s9 := same_new (o := .tup [.str "Unexplained", .ref t1]) nt2
        refine qq _ _ (s7.trans (s8.trans s9)) ?_
        unfold dueQ dueG
        rw [hw]
        exact .tup (.inl (.inl (cut_new (O.keep (s7.trans s8)) nt2))) (.cons (.str _) (.cons (.tup (.inl (.inl (cut_mono s9 _ _ (cut_new (O.keep s7) nt1)))) (.cons (.str _) (.cons (.int _) (.cons (.int _) .nil)))) .nil))
      | nil =>
        generalize upd Hn e (.lst []) = G0 at s7
        refine iteF ?_
        have fin : ∀ (G : Hp) (t p : Addr) (acc : List V), Same G0 G → G t = none → Dqs K (Lg.cut N G) acc ((if way then quietS l g else callS l g).map pD) → (upd G t (.tup acc)) p = none → Q (.ref p) (upd (upd G t (.tup acc)) p (.tup [.str "result", .ref t])) := fun G t p acc sG nt da np => by
          have sA := s7.trans sG
          have f1 := same_new (o := .tup acc) nt
          have f2 := same_new (o := .tup [.str "result", .ref t]) np
          refine qq _ _ (sA.trans (f1.trans f2)) ?_
          unfold dueQ dueG
          rw [hw]
          exact .tup (.inl (.inl (cut_new (O.keep (sA.trans f1)) np))) (.cons (.str _) (.cons (.tup (.inl (.inl (cut_mono f2 _ _ (cut_new (O.keep sA) nt)))) (da.mono (cut_mono (f1.trans f2)))) .nil))
        refine s_ifn ⟨_, rfl, rfl, _, rfl, ?_⟩
        have d1G := hd1.mono (cut_mono s7)
        have d2G : Dq K (Lg.cut N G0) (.ref a2) (logD g) := hd2.mono (cut_mono s7)
        have g1G := Same.seqT (cut_same.trans s7) g1
        have g2G := Same.seqT (cut_same.trans s7) g2
        cases way with
        | true =>
          refine iteT ⟨.ref a1, rfl, .ref a2, rfl, N, (l, g), O.keep s7, .cons d1G (.cons d2G .nil), hM, fun r G sG hr => ?_⟩
          obtain ⟨f, acc, rfl, gf, hf⟩ := dq_lst hr
          exact ⟨f, acc, rfl, .inl ⟨cut_same.seq gf, fun t nt => ⟨s2, fun p np => fin G t p acc sG nt hf np⟩⟩⟩
        | false =>
          refine iteF ?_
          refine s_set ⟨.ref a1, rfl, a1, _, 1, .int l.2, rfl, rfl, g1G, atI_nat (j := 1) rfl, ?_⟩
          refine s_set ⟨.ref a2, rfl, a2, rfl, ⟨_, g2G⟩, fun D2 nD2 => ?_⟩
          refine lc_pairs (K := K) (N := N) (xs := ys) (fun q => l.1 && decide (2 * l.2 - 1 ≤ q.2 - q.1)) (fun q => (q.1, q.2 - l.2)) (walk_tup (K := K) (a := a2) (xs := ys)) (fun H' s => Same.seqT s g2G) nD2 (O.keep s7) (hy.mono (cut_mono s7)) (by omega) ?_ ?_
          · intro G3 ax y R Rn hyy sG3 gx hT hF
            refine ⟨ax, _, rfl, gx, rfl, _, _, rfl, _, _, rfl, rfl, rfl, ?_⟩
            refine ⟨.ref a1, rfl, a1, _, 0, .str (kindS l.1), rfl, rfl, Same.seqT sG3 g1G, atI_nat (j := 0) rfl, rfl, _, rfl, ?_⟩
            rw [kindS_hold]
            cases hk : l.1 with
            | false => exact iteF (hF (by rw [hk]; rfl))
            | true =>
              refine iteT ⟨.int y.2, rfl, .int y.1, rfl, _, _, rfl, rfl, .int l.2, rfl, 2, l.2, rfl, rfl, .inl ⟨by decide, by decide⟩, _, 1, rfl, rfl, _, _, rfl, rfl, _, rfl, ?_⟩
              by_cases ho : decide (2 * l.2 - 1 ≤ y.2 - y.1) = true
              · rw [show decide (y.2 - y.1 ≥ 2 * l.2 - 1) = true from ho]
                exact iteT ⟨_, rfl, _, rfl, _, rfl, _, _, rfl, rfl, s2, fun t nt => hT (by rw [hk, ho]; rfl) t nt⟩
              · have ho : decide (2 * l.2 - 1 ≤ y.2 - y.1) = false := by simpa using ho
                rw [show decide (y.2 - y.1 ≥ 2 * l.2 - 1) = false from ho]
                exact iteF (hF (by rw [ho, Bool.and_false]))
          · intro H9 acc9 s9 e9 d9
            rw [callS_alt] at d9
            dsimp only
            refine ⟨.ref D2, rfl, D2, acc9, rfl, .inl ⟨.inl (.inl e9), fun t nt => ⟨s2, fun p np => fin H9 t p acc9 s9 nt ?_ np⟩⟩⟩
            exact d9.mono (cut_le fun _ h => .inl h)
theorem ok_law (T : All K mg) {c0 PT : Addr} (hcode : T.fd_law.code = .ref c0) (TB : LamX.TabB base mg c0 PT) : FnG P w K mg base CX0 8 T.f_law T.fd_law ["script"] (sp_lawT K PT) := by
  have nd := sc_law.nd
  obtain ⟨oc_told, od_told, kV_told, dc_told, pm_told, an_told, cd_told, ct_told, osl_told, hfd_told, lk_l_told, cg_l_told⟩ := T.D_l_told.F.ex
  have bd_l_told := T.D_l_told.b
  rw [hfd_told] at bd_l_told lk_l_told
  refine okGC T.D_law.F hcode sc_law (fun vs H Q E h => ?_) (fun A outer s H vs Q E hgd hr h => ?_)
  · obtain ⟨a, ns, rfl, _⟩ := h
    rfl
  · obtain ⟨a, ns, rfl, hS, hl, hPT, q⟩ := h
    generalize hqn : (envOfC "law" (defScope s_law) s.heap.objs.size T.f_law (.ref c0)).qual ++ "<lambda>" = qn
    have hmT : (PT, (envOfC "law" (defScope s_law) s.heap.objs.size T.f_law (.ref c0)).qual ++ "<lambda>") ∈ [(PT, qn)] := by rw [hqn]; exact List.mem_singleton.mpr rfl
    have huT : ∀ p ∈ [(PT, qn)], p.1 = PT → p.2 = (envOfC "law" (defScope s_law) s.heap.objs.size T.f_law (.ref c0)).qual ++ "<lambda>" := fun p hp _ => by rw [hqn, List.mem_singleton.mp hp]
    refine ⟨_, (pss_cons (ps_set (i := 1) nd rfl (by first | exact Or.inl rfl | exact Or.inr rfl) (pe_call (ok_l_reel T) (hr.mono (by decide)) (by rfl) T.D_l_reel.g T.D_l_reel.F.kp T.D_l_reel.b .nil pass0 (pa_cons (pv 0) pa_nil)))
  (pss_cons (ps_for PassesOwn.never rfl (pi_range1 (by rfl) T.z_range (pa_cons pe_int pa_nil)) (pg_name (i := 2) nd rfl (by first | exact Or.inl rfl | exact Or.inr rfl))
    (pss_cons (ps_asg (pe_call (ok_l_scene T) (hr.mono (by decide)) (by rfl) T.D_l_scene.g T.D_l_scene.F.kp T.D_l_scene.b .nil pass0 (pa_cons (pv 1) (pa_cons pe_int (pa_cons (pe_ix ix_list (pe_lst (pa_cons pe_int (pa_cons pe_int (pa_cons (pe_op op_pow pe_int pe_int) pa_nil)))) (pe_op op_modN (pv 2) pe_int) (fun _ _ => rfl)) (pa_cons pe_int pa_nil))))) (pg_lst rfl (pgs_cons (pg_name (i := 3) nd rfl (by first | exact Or.inl rfl | exact Or.inr rfl)) (pgs_cons (pg_name (i := 4) nd rfl (by first | exact Or.inl rfl | exact Or.inr rfl)) pgs_nil))))
  (pss_one (ps_for PassesOwn.never rfl (pi_tup (pv 3)) (pg_name (i := 13) nd rfl (by first | exact Or.inl rfl | exact Or.inr rfl))
    (pss_cons (ps_set (i := 5) nd rfl (by first | exact Or.inl rfl | exact Or.inr rfl) (pe_ix ix_tup (pv 13) pe_int (fun _ _ => rfl)))
  (pss_cons (ps_set (i := 6) nd rfl (by first | exact Or.inl rfl | exact Or.inr rfl) (pe_tup (pa_cons (pe_tup (pa_cons pe_int (pa_cons (pe_op op_mul pe_int (pv 5)) pa_nil))) (pa_cons (pe_tup (pa_cons (pe_op op_sub (pe_op op_pow pe_int pe_int) (pe_op op_mul pe_int (pv 5))) (pa_cons (pe_op op_add (pe_op op_pow pe_int pe_int) (pe_op op_mul (pv 5) (pe_call (ok_l_spin T) (hr.mono (by decide)) (by rfl) T.D_l_spin.g T.D_l_spin.F.kp T.D_l_spin.b .nil pass0 (pa_cons (pv 1) (pa_cons pe_int pa_nil))))) pa_nil))) pa_nil))))
  (pss_cons (ps_set (i := 7) nd rfl (by first | exact Or.inl rfl | exact Or.inr rfl) (pe_tup (pa_cons (pe_tup (pa_cons pe_int (pa_cons (pe_op op_sub (pe_op op_add pe_int (pe_op op_mul pe_int (pv 5))) pe_int) pa_nil))) (pa_cons (pe_tup (pa_cons (pe_op op_pow pe_int pe_int) (pa_cons (pe_op op_add (pe_op op_pow pe_int pe_int) (pe_op op_mul pe_int (pv 5))) pa_nil))) (pa_cons (pe_tup (pa_cons (pe_op op_pow pe_int pe_int) (pa_cons (pe_op op_add (pe_op op_pow pe_int pe_int) (pv 5)) pa_nil))) pa_nil)))))
  (pss_one (ps_for PassesOwn.never rfl (pi_tup (pe_op op_catA (pv 4) (pe_tup (pa_cons (pv 6) (pa_cons (pv 7) (pa_cons (pe_tup pa_nil) pa_nil)))))) (pg_name (i := 14) nd rfl (by first | exact Or.inl rfl | exact Or.inr rfl))
    (pss_cons (ps_par (i := 8) (j := 9) (by rfl) nd rfl rfl (by decide) rfl rfl (pa_cons (pe_callB (call_reprD hgd hr) (by rfl) T.z_repr (by decide +kernel) (pa_cons (pe_lst (pa_cons (pv 13) (pa_cons (pv 14) pa_nil))) pa_nil)) (pa_cons (pe_lst pa_nil) pa_nil)) (by rfl))
  (pss_cons (ps_for PassesOwn.never rfl (pi_range1 (by rfl) T.z_range (pa_cons pe_int pa_nil)) (pg_name (i := 10) nd rfl (by first | exact Or.inl rfl | exact Or.inr rfl))
    (pss_cons (ps_set (i := 11) nd rfl (by first | exact Or.inl rfl | exact Or.inr rfl) (Lb.pe_lamcallS (k := 5) (T := [(PT, qn)]) (by rfl) T.D_l_told.g T.D_l_told.F.kp lk_l_told cg_l_told bd_l_told sc_l_told rfl (.inl rfl) (gives_l_told T) TB rfl hmT huT (hr.mono (by decide)) (LamX.lamS_by (sc := defScope s_law) (by decide +kernel)) rfl (fun _ _ _ _ _ => by rfl) (fun A outer s H E f c' hr => (pe_call (E := E) (ok_quiet_spans T) (hr.mono (by decide)) (by rfl) T.D_quiet_spans.g T.D_quiet_spans.F.kp T.D_quiet_spans.b .nil (passes_call (takes_of rfl rfl rfl rfl) (fun _ _ _ _ h => h)) (pa_cons (pv 13) (pa_cons (pv 14) pa_nil))))))
  (pss_one (ps_expr (pe_bm PySem.F.plainAttrs_list PySem.F.slot_list_append PySem.F.type_list_append mt_append (pv 9) (pa_cons (pe_lst (pa_cons (pv 11) (pa_cons (Lb.pe_lamcallS (k := 5) (T := [(PT, qn)]) (by rfl) T.D_l_told.g T.D_l_told.F.kp lk_l_told cg_l_told bd_l_told sc_l_told rfl (.inl rfl) (gives_l_told T) TB rfl hmT huT (hr.mono (by decide)) (LamX.lamS_by (sc := defScope s_law) (by decide +kernel)) rfl (fun _ _ _ _ _ => by rfl) (fun A outer s H E f c' hr => (pe_call (E := E) (ok_call_spans T) (hr.mono (by decide)) (by rfl) T.D_call_spans.g T.D_call_spans.F.kp T.D_call_spans.b .nil (passes_call (takes_of rfl rfl rfl rfl) (fun _ _ _ _ h => h)) (pa_cons (pv 13) (pa_cons (pv 14) pa_nil))))) pa_nil))) pa_nil))))))
  (pss_cons (ps_set (i := 12) nd rfl (by first | exact Or.inl rfl | exact Or.inr rfl) (pe_lst (pa_cons (pe_call (ok_l_due T) (hr.mono (by decide)) (by rfl) T.D_l_due.g T.D_l_due.F.kp T.D_l_due.b .nil pass0 (pa_cons pe_int (pa_cons (pv 13) (pa_cons (pv 14) pa_nil)))) (pa_cons (pe_call (ok_l_due T) (hr.mono (by decide)) (by rfl) T.D_l_due.g T.D_l_due.F.kp T.D_l_due.b .nil pass0 (pa_cons pe_int (pa_cons (pv 13) (pa_cons (pv 14) pa_nil)))) pa_nil))))
  (pss_one (ps_if (PW.pt (pw_or (pt_cmpR op_ne (pe_callB (call_reprD hgd hr) (by rfl) T.z_repr (by decide +kernel) (pa_cons (pv 9) pa_nil)) (pe_callB (call_reprD hgd hr) (by rfl) T.z_repr (by decide +kernel) (pa_cons (pe_lst (pa_cons (pv 12) (pa_cons (pv 12) pa_nil))) pa_nil)) (nomark _)) (pw_or1 (pt_cmpR op_ne (pe_callB (call_reprD hgd hr) (by rfl) T.z_repr (by decide +kernel) (pa_cons (pe_lst (pa_cons (pv 13) (pa_cons (pv 14) pa_nil))) pa_nil)) (pv 8) (nomark _)))))
    (pss_one (ps_ret pe_bl))
    pss_nil))))))))))))))
  (pss_one (ps_ret (pe_cmpR (op_eqD hr.units) (pe_call (E := E0) (ok_quiet_spans T) (hr.mono (by decide)) (by rfl) T.D_quiet_spans.g T.D_quiet_spans.F.kp T.D_quiet_spans.b .nil (passes_call takes0 (fun _ _ _ _ h => h)) (pa_cons (pe_tup (pa_cons pe_str (pa_cons pe_int pa_nil))) (pa_cons (pe_tup (pa_cons (pe_tup (pa_cons (pe_op op_sub (pe_op op_pow pe_int pe_int) pe_int) (pa_cons (pe_op op_add (pe_op op_pow pe_int pe_int) pe_int) pa_nil))) pa_nil)) pa_nil))) (pe_tup (pa_cons (pe_tup (pa_cons pe_int (pa_cons (pe_op op_sub (pe_op op_pow pe_int pe_int) pe_int) pa_nil))) pa_nil)) (nomark _)))))), ?_⟩
    refine s_set ⟨.ref a, rfl, a, ns, rfl, hS, hl, fun r c H1 P1 s1 => ?_⟩
    have oP : ¬ (reel r c).own PT := fun z => by
      have hp := s1 _ _ hPT
      obtain ⟨t, ms, e1, e2, _⟩ := P1.src
      rcases z with rfl | rfl
      · rw [e1] at hp; cases hp
      · rw [e2] at hp; cases hp
    generalize hZ : (fun _ => none : Hp) = Z at P1
    have L0 : LT (reel r c) Z PT qn 1000000000000 H1 := lt_start P1 (s1 _ _ hPT) oP
    refine s_rng ⟨8, rfl, by omega, by omega, for_it walk_range (fun i σ Hi => ∃ y2 y3 y4 y5 y6 y7 y8 y9 y10 y11 y12 y13 y14, σ = [some (.ref a), some (.ref r), y2, y3, y4, y5, y6, y7, y8, y9, y10, y11, y12, y13, y14] ∧ LT (reel r c) Z PT qn (706 * (8 - i)) Hi) ⟨_, _, _, _, _, _, _, _, _, _, _, _, _, rfl, L0.less (by omega)⟩ (fun _ _ _ _ _ => trivial) ?_ ?_⟩
    · rintro i _ σ _ Hi hi ⟨y2, y3, y4, y5, y6, y7, y8, y9, y10, y11, y12, y13, y14, rfl, Li⟩ ⟨rfl, rfl⟩
      obtain ⟨ps, hPi, Pi⟩ := Li.iv
      -- lamps, logs
      refine s_asg ?_
      refine (eva_cons (R := fun v _ => v = .ref r) (fun _ _ _ _ h => h) (ev_var (by rfl) (fun _ _ _ _ h => h) rfl) (eva_cons EI_mo ei_c (eva_cons IR.mo (ev_ixL (K := K) (m := 3) (c := 3) (lo := 0) (up := 2) (R := IR 3 10000) IR.mo (ev_lst (by decide) IR.mo (eall_cons IR.mo (ev_int.wide (by decide) (by decide)) (eall_cons IR.mo (ev_int.wide (by decide) (by decide)) (eall_cons IR.mo ((ev_pow (by decide)).wide (by decide) (by decide)) eall_nil))))
        (ev_modC (m := 3) (by decide) (ev_ivar (lo := 0 + (i : Int)) (hi := 0 + (i : Int)) (by rfl) (Int.le_refl _) (Int.le_refl _)))) (eva_cons EI_mo ei_c eva_nil)))).run Pi (b := 706 + 706 * (8 - (i + 1))) (by omega) fun vs H2 P2 k2 r2 => ?_
      obtain ⟨_, _, rfl, rfl, _, _, rfl, rfl, _, _, rfl, ⟨tp, rfl, t0, t1⟩, _, _, rfl, rfl, rfl⟩ := r2
      refine ⟨upd Z PT (.tbl ps), r, c, 6 + 706 * (8 - (i + 1)), 3, tp, 30, rfl, P2.less (by omega), by decide, by decide, by omega, by omega, by decide, by decide, fun p x y H3 ls gs P3 k3 ep nop zp hp dx dy l1 l2 l3 lg hg => ?_⟩
      refine ⟨p, _, rfl, .inl (.inl ep), rfl, _, _, rfl, _, _, rfl, rfl, ?_⟩
      have L3 := Li.step hPi P3 (k2.trans k3)
      rw [vis_eq] at dx dy
      clear P2 P3 k2 k3 ep nop zp hp Pi hPi Li
      have MP : Mo (PR K 10000000000) := PR.mo
      have ML : Mo (LgR K 60 10000000000) := LgR.mo
      obtain ⟨al, ys, rfl, ga, da⟩ := dq_tup dx
      obtain ⟨ag, zs, rfl, gg, dg⟩ := dq_tup dy
      have lys := da.len
      rw [List.length_map] at lys
      have lzs := dg.len
      rw [List.length_map] at lzs
      have visH : ∀ {G : Hp}, Same (vis (reel r c) Z PT G) G := hid_same
      refine ⟨.ref al, rfl, al, rfl, ⟨_, Same.seqT visH ga⟩, for_it (walk_tup (K := K) (a := al) (xs := ys)) (fun j σ Hj => ∃ y5 y6 y7 y8 y9 y10 y11 y12 y13 y14, σ = [some (.ref a), some (.ref r), some (.int (0 + (i : Int))), some (.ref al), some (.ref ag), y5, y6, y7, y8, y9, y10, y11, y12, y13, y14] ∧ LT (reel r c) Z PT qn (2 * (3 - j) + 706 * (8 - (i + 1))) Hj ∧ Same (vis (reel r c) Z PT H3) (vis (reel r c) Z PT Hj)) ⟨_, _, _, _, _, _, _, _, _, _, rfl, L3.less (by omega), Same.refl _⟩ (fun j σ Hj _ h => by
        obtain ⟨_, _, _, _, _, _, _, _, _, _, _, _, k⟩ := h
        exact Same.seqT (k.trans visH) ga) ?_ ?_⟩
      · rintro j x12 σ _ Hj hj ⟨y5, y6, y7, y8, y9, y10, y11, y12, y13, y14, rfl, Lj, kj⟩ ⟨rfl, hx12⟩
        obtain ⟨l, hl12, d12⟩ := dqs_get da hx12
        have hs := l3 l (List.mem_of_getElem? hl12)
        have hj3 : j < 3 := by omega
        obtain ⟨ps, hPj, Pj⟩ := Lj.iv
        have d12j : Dq K (hid (reel r c) (upd Z PT (.tbl ps)) Hj) x12 (lampD l) := by rw [vis_eq]; exact d12.mono kj
        have eb : 2 * (3 - j) + 706 * (8 - (i + 1)) = 2 + (2 * (3 - (j + 1)) + 706 * (8 - (i + 1))) := by omega
        rw [eb] at Pj
        -- stay
        refine s_set ?_
        refine (ei_stay (by rfl) d12j).run Pj (b := 2 + (2 * (3 - (j + 1)) + 706 * (8 - (i + 1)))) (by omega) fun v5 H4 P4 k4 r4 => ?_
        obtain rfl := r4
        -- far
        refine s_set ?_
        refine (ev_lg (K := K) (B := 10000000000) (m := 2) (n1 := 2) (by decide)
          (eall_cons MP (ev_pr (a := 0) (b := 2 * l.2) (by omega) ei_c (ei_mul (.inl ⟨by decide, by decide⟩) ei_c (ev_iv (by rfl))))
          (eall_cons MP (ev_prR (a := 10 ^ (9 : Int).toNat - 3 * l.2) (lo := 10 ^ (9 : Int).toNat + l.2 * 0) (hi := 10 ^ (9 : Int).toNat + l.2 * (2 - 1)) (by show (0 : Int) ≤ 1000000000 - 3 * l.2; omega) (by show (1000000000 : Int) - 3 * l.2 < 1000000000 + l.2 * 0; omega) (by show (1000000000 : Int) + l.2 * (2 - 1) ≤ 10000000000; omega)
          (ei_sub (ei_pow (by decide)) (ei_mul (.inl ⟨by decide, by decide⟩) ei_c (ev_iv (by rfl)))) (ev_add (ei_ir (ei_pow (by decide)) (Int.le_refl _) (Int.le_refl _)) (ev_mul (by omega) (by omega) (by omega) (ei_ir (ev_iv (g := l.2) (by rfl)) (Int.le_refl _) (Int.le_refl _)) (ev_spinC (m := 2))))) eall_nil))).run P4 (b := 1 + (2 * (3 - (j + 1)) + 706 * (8 - (i + 1)))) (by omega) fun v6 H5 P5 k5 r5 => ?_
        -- wide
        refine s_set ?_
        refine (ev_lg (K := K) (B := 10000000000) (m := 3) (n1 := 3) (by decide)
          (eall_cons MP (ev_pr (a := 3) (b := 3 + 2 * l.2 - 1) (by omega) ei_c (ei_sub (ei_add ei_c (ei_mul (.inl ⟨by decide, by decide⟩) ei_c (ev_iv (by rfl)))) ei_c))
          (eall_cons MP (ev_pr (a := 10 ^ (6 : Int).toNat) (b := 10 ^ (6 : Int).toNat + 2 * l.2) (by show (0 : Int) ≤ 1000000 ∧ (1000000 : Int) < 1000000 + 2 * l.2 ∧ (1000000 : Int) + 2 * l.2 ≤ 10000000000; omega) (ei_pow (by decide)) (ei_add (ei_pow (by decide)) (ei_mul (.inl ⟨by decide, by decide⟩) ei_c (ev_iv (by rfl)))))
          (eall_cons MP (ev_pr (a := 10 ^ (7 : Int).toNat) (b := 10 ^ (7 : Int).toNat + l.2) (by show (0 : Int) ≤ 10000000 ∧ (10000000 : Int) < 10000000 + l.2 ∧ (10000000 : Int) + l.2 ≤ 10000000000; omega) (ei_pow (by decide)) (ei_add (ei_pow (by decide)) (ev_iv (by rfl)))) eall_nil)))).run P5 (b := 2 * (3 - (j + 1)) + 706 * (8 - (i + 1))) (by omega) fun v7 H6 P6 k6 r6 => ?_
        have r5' := LgR.mo _ _ _ k6 r5
        have k46 : Kp (reel r c) (upd Z PT (.tbl ps)) Hj H6 := k4.trans (k5.trans k6)
        have d12k : Dq K (hid (reel r c) (upd Z PT (.tbl ps)) H6) x12 (lampD l) := d12j.mono k46
        have hS : l.2 < 1073741824 := by omega
        refine (ev_catA (K := K) (R := LgR K 60 10000000000) (a := zs.length) (b := 6) (c := 3) (d := 3) (by decide) ML (ev_var (v := .ref ag) (by rfl) (TpR.mo ML) (TpR.mo ML _ _ _ k46 ⟨ag, zs, rfl, Same.seqT (by rw [vis_eq]; exact kj) gg, Nat.le_refl _, by omega, fun z hz => let ⟨qs, d, o⟩ := dqs_lg dg hg z hz; ⟨qs, d.mono (by rw [vis_eq]; exact kj), o.wide (Nat.le_refl _) (by decide)⟩⟩))
          (ev_tupR (by decide) ML (eall_cons ML ((ev_var (v := v6) (by rfl) LgR.mo r5').imp fun v G ⟨qs, d, o⟩ => ⟨qs, d, o.wide (by decide) (by decide)⟩)
            (eall_cons ML ((ev_var (v := v7) (by rfl) LgR.mo r6).imp fun v G ⟨qs, d, o⟩ => ⟨qs, d, o.wide (by decide) (by decide)⟩)
            (eall_cons ML ((ev_lg (K := K) (B := 10000000000) (m := 0) (n1 := 0) (by decide) eall_nil).imp fun v G ⟨qs, d, o⟩ => ⟨qs, d, o.wide (by decide) (by decide)⟩) eall_nil))))).run P6 (b := 2 * (3 - (j + 1)) + 706 * (8 - (i + 1))) (by omega) fun vL H7 P7 k7 r7 => ?_
        obtain ⟨B, xs, rfl, eB, _, _, hx⟩ := r7
        have L7 := Lj.step hPj P7 (k46.trans k7)
        have d17 : Dq K (vis (reel r c) Z PT H7) x12 (lampD l) := by rw [← vis_eq (ps := ps)]; exact d12k.mono k7
        have kj7 : Same (vis (reel r c) Z PT H3) (vis (reel r c) Z PT H7) := kj.trans (by rw [← vis_eq (ps := ps), ← vis_eq (ps := ps)]; exact k46.trans k7)
        have eB7 : SqT K (vis (reel r c) Z PT H7) B xs := by rw [← vis_eq (ps := ps)]; exact eB
        have hx7 : ∀ x ∈ xs, LgR K 60 10000000000 x (vis (reel r c) Z PT H7) := fun x hm => by rw [← vis_eq (ps := ps)]; exact hx x hm
        clear r5 r5' r6 P4 P5 P6 P7 k4 k5 k6 k7 k46 eB hx d12j d12k Pj hPj
        refine ⟨B, rfl, ⟨xs, Same.seqT visH eB7⟩, for_it (walk_tup (K := K) (a := B) (xs := xs)) (fun m σ Hm => ∃ y8 y9 y10 y11 y12 y13, σ = [some (.ref a), some (.ref r), some (.int (0 + (i : Int))), some (.ref al), some (.ref ag), some (.int l.2), some v6, some v7, y8, y9, y10, y11, y12, some x12, y13] ∧ LT (reel r c) Z PT qn (2 * (3 - (j + 1)) + 706 * (8 - (i + 1))) Hm ∧ Same (vis (reel r c) Z PT H7) (vis (reel r c) Z PT Hm)) ⟨_, _, _, _, _, _, rfl, L7, Same.refl _⟩ (fun m σ Hm _ h => by
          obtain ⟨_, _, _, _, _, _, _, _, k⟩ := h
          exact Same.seqT (k.trans visH) eB7) ?_ ?_⟩
        · rintro m x13 σ _ Hm hm ⟨y8, y9, y10, y11, y12, y13, rfl, Lm', km⟩ ⟨rfl, hx13⟩
          obtain ⟨g, d13, o13⟩ := LgR.mo _ _ _ km (hx7 x13 (List.mem_of_getElem? hx13))
          have d12m := d17.mono km
          have hOne : One (l, g) := ⟨⟨hs.1, hS⟩, ⟨Nat.le_trans o13.1 (by decide), fun q hq => o13.2 q hq⟩⟩
          have fine : Fine (.list [lampD l, logD g]) := (two_sm' ((lamp_sm (by omega) (by omega)).wide (n' := 2103) (k' := 2) (by decide) (by decide)) (log_sm o13 (by decide))).fine (by decide) (by decide)
          have sW1 := dueQ_sm true hOne o13.1
          have sW2 := dueQ_sm false hOne o13.1
          have sW := two_sm' sW1 sW2
          have fineW : Fine (.list [.list [dueQ true l g, dueQ false l g], .list [dueQ true l g, dueQ false l g]]) := (two_sm' sW sW).fine (by decide) (by decide)
          have Om := Lm'.occ
          -- shown, told
          refine s_par ⟨x12, rfl, x13, rfl, sz2, fun t0 nt0 => ?_⟩
          have s0 : Same Hm (upd Hm t0 (.lst [x12, x13])) := same_new nt0
          refine ⟨.ref t0, .list [lampD l, logD g], rfl, .lst (.inl (.inl upd_same)) (.cons ((d12m.mono visH).mono s0) (.cons ((d13.mono visH).mono s0) .nil)), fine, ?_⟩
          generalize upd Hm t0 (.lst [x12, x13]) = G at s0
          refine ⟨Nat.zero_le _, fun tl ntl => ⟨_, _, rfl, ?_⟩⟩
          have st := same_new (o := .lst []) ntl
          have LG := Lm'.keep s0
          have of := LG.free ntl
          have Lh := LG.keep st
          have toCv : Same (vis (reel r c) Z PT G) (cv (reel r c) Z PT tl (upd G tl (.lst []))) := fun b o e => by
            have n1 : b ≠ tl := ne_of_none (hid_same _ _ e) ntl
            show cut1 tl (vis (reel r c) Z PT _) b = some o
            rw [cut1_at n1]
            exact cut_mono st _ _ e
          have dl0 : Dq K (cv (reel r c) Z PT tl (upd G tl (.lst []))) x12 (lampD l) := (d12m.mono (cut_mono s0)).mono toCv
          have dg0 : Dq K (cv (reel r c) Z PT tl (upd G tl (.lst []))) x13 (logD g) := (d13.mono (cut_mono s0)).mono toCv
          have et0 : (upd G tl (.lst [])) tl = some (.lst []) := upd_same
          have kv0 : Same (vis (reel r c) Z PT Hm) (cv (reel r c) Z PT tl (upd G tl (.lst []))) := Same.trans (cut_mono s0) toCv
          generalize upd G tl (.lst []) = Hb at Lh dl0 dg0 et0 kv0 ⊢
          refine s_rng ⟨2, rfl, by omega, by omega, for_it walk_range (fun k σ Hk => ∃ y10 y11 zs', σ = [some (.ref a), some (.ref r), some (.int (0 + (i : Int))), some (.ref al), some (.ref ag), some (.int l.2), some v6, some v7, some (.str (PyData.shown (.list [lampD l, logD g]))), some (.ref tl), y10, y11, y12, some x12, some x13] ∧ LT (reel r c) Z PT qn (2 * (3 - (j + 1)) + 706 * (8 - (i + 1))) Hk ∧ Same (cv (reel r c) Z PT tl Hb) (cv (reel r c) Z PT tl Hk) ∧ Hk tl = some (.lst zs') ∧ Dqs K (cv (reel r c) Z PT tl Hk) zs' (List.replicate k (.list [dueQ true l g, dueQ false l g]))) ⟨_, _, _, rfl, Lh, Same.refl _, et0, .nil⟩ (fun _ _ _ _ _ => trivial) ?_ ?_⟩
          · rintro k _ σ _ Hk hk ⟨y10, y11, zs', rfl, Lk, sk, ek, dk⟩ ⟨rfl, rfl⟩
            have hk : k < 2 := hk
            refine s_set ?_
            show Lb.tLamS PT ((envOfC "law" (defScope s_law) s.heap.objs.size T.f_law (.ref c0)).qual ++ "<lambda>") _ _ _ _ _ _
            rw [hqn]
            refine told_lam (vs := [x12, x13]) (x := (l, g)) Lk of ek (.cons (dl0.mono sk) (.cons (dg0.mono sk) .nil)) hOne (fun _ _ _ h => oneErr_is h) (fun E H' Q' h => ⟨x12, rfl, x13, rfl, h⟩) (fun w1 G1 LG1 sG1 eG1 dv1 => ?_)
            rw [dueG_told] at dv1
            have sk1 := sk.trans sG1
            refine ⟨.ref tl, rfl, .inl ⟨rfl, _, .inl (.inl eG1)⟩, w1, rfl, ?_⟩
            show Lb.tLamS PT ((envOfC "law" (defScope s_law) s.heap.objs.size T.f_law (.ref c0)).qual ++ "<lambda>") _ _ _ _ _ _
            rw [hqn]
            refine told_lam (vs := [x12, x13]) (x := (l, g)) LG1 of eG1 (.cons (dl0.mono sk1) (.cons (dg0.mono sk1) .nil)) hOne (fun _ _ _ h => oneErr_is h) (fun E H' Q' h => ⟨x12, rfl, x13, rfl, h⟩) (fun w2 G2 LG2 sG2 eG2 dv2 => ⟨sz2, fun u nu => ?_⟩)
            rw [dueG_told] at dv2
            have su := same_new (o := .lst [w1, w2]) nu
            have sU : Same (cv (reel r c) Z PT tl G2) (cv (reel r c) Z PT tl (upd G2 u (.lst [w1, w2]))) := cut_mono (cut_mono su)
            have ut : u ≠ tl := (ne_of_none eG2 nu).symm
            have du : Dq K (cv (reel r c) Z PT tl (upd G2 u (.lst [w1, w2]))) (.ref u) (.list [dueQ true l g, dueQ false l g]) := by
              refine .lst (.inl (.inl ?_)) (.cons ((dv1.mono sG2).mono sU) (.cons (dv2.mono sU) .nil))
              show cut1 tl (vis (reel r c) Z PT _) u = _
              rw [cut1_at ut]
              exact cut_new LG2.occ nu
            have lz := dk.len
            rw [List.length_replicate] at lz
            refine ⟨tl, zs', _, rfl, rfl, su _ _ eG2, small1000 (by omega), _, _, _, rfl, (LG2.keep su).upd of (su _ _ eG2) (lst_code _ _), ?_, upd_same, ?_⟩
            · rw [told_add]; exact sk1.trans (sG2.trans sU)
            · rw [told_add, List.replicate_succ']
              exact dqs_snoc ((dk.mono sG1).mono (sG2.trans sU)) du
          · rintro σ Hk ⟨y10, y11, zs', rfl, Lk, sk, ek, dk⟩
            have cvH : ∀ {G : Hp}, Same (cv (reel r c) Z PT tl G) G := cut_same.trans hid_same
            have toV : Same (cv (reel r c) Z PT tl Hk) (vis (reel r c) Z PT Hk) := cut_same
            dsimp only
            have Ok := Lk.occ
            have dlk := (dl0.mono sk).mono toV
            have dgk := (dg0.mono sk).mono toV
            have due : ∀ (way : Bool) {Hx : Hp} {Q' : VK}, Same Hk Hx → (∀ v Hy, Same Hx Hy → Dq K (vis (reel r c) Z PT Hy) v (dueQ way l g) → Q' v Hy) → sp_dueQ K [.int (if way then 0 else 1), x12, x13] Hx Q' E0 := fun way Hx Q' sx q' =>
              ⟨NZ (reel r c) (upd Z PT (.tbl #[])), (way, l, g), Ok.keep sx, .cons (.int _) (.cons (dlk.mono (cut_mono sx)) (.cons (dgk.mono (cut_mono sx)) .nil)), hOne, fun v Hy sy dv => q' v Hy sy dv⟩
            refine s_set ⟨x12, rfl, x13, rfl, due true (Same.refl _) fun w1 G1 sG1 dw1 => ⟨x12, rfl, x13, rfl, due false sG1 fun w2 G2 sG2 dw2 => ⟨sz2, fun u nu => ?_⟩⟩⟩
            have su := same_new (o := .lst [w1, w2]) nu
            have s2 := (sG1.trans sG2).trans su
            have dT : Dqs K (upd G2 u (.lst [w1, w2])) zs' [.list [dueQ true l g, dueQ false l g], .list [dueQ true l g, dueQ false l g]] := (dk.mono cvH).mono s2
            have du : Dq K (upd G2 u (.lst [w1, w2])) (.ref u) (.list [dueQ true l g, dueQ false l g]) := .lst (.inl (.inl upd_same)) (.cons (((dw1.mono visH).mono sG2).mono su) (.cons ((dw2.mono visH).mono su) .nil))
            generalize upd G2 u (.lst [w1, w2]) = G3 at s2 dT du ⊢
            refine s_if1 ⟨.ref tl, rfl, .ref tl, .list [.list [dueQ true l g, dueQ false l g], .list [dueQ true l g, dueQ false l g]], rfl, .lst (.inl (.inl (s2 _ _ ek))) dT, fineW, ?_⟩
            refine ⟨.ref u, rfl, .ref u, rfl, sz2, fun t3 nt3 => ?_⟩
            have s3 := same_new (o := .lst [.ref u, .ref u]) nt3
            refine ⟨.ref t3, .list [.list [dueQ true l g, dueQ false l g], .list [dueQ true l g, dueQ false l g]], rfl, .lst (.inl (.inl upd_same)) (.cons (du.mono s3) (.cons (du.mono s3) .nil)), fineW, ?_⟩
            refine ⟨rfl, false, ne_self, iteF ?_⟩
            refine ⟨x12, rfl, x13, rfl, sz2, fun t4 nt4 => ?_⟩
            have s4 := (s2.trans s3).trans (same_new (o := .lst [x12, x13]) nt4)
            refine ⟨.ref t4, .list [lampD l, logD g], rfl, .lst (.inl (.inl upd_same)) (.cons ((dlk.mono visH).mono s4) (.cons ((dgk.mono visH).mono s4) .nil)), fine, ?_⟩
            refine ⟨_, rfl, rfl, false, ne_self, iteF ?_⟩
            exact ⟨_, _, _, _, _, _, rfl, Lk.keep s4, km.trans ((kv0.trans sk).trans (cut_same.trans (cut_mono s4)))⟩
        · rintro σ Hm ⟨y8, y9, y10, y11, y12, y13, rfl, Lm', km⟩
          exact ⟨_, _, _, _, _, _, _, _, _, _, rfl, Lm', kj7.trans km⟩
      · rintro σ Hj ⟨y5, y6, y7, y8, y9, y10, y11, y12, y13, y14, rfl, Lj, kj⟩
        exact ⟨_, _, _, _, _, _, _, _, _, _, _, _, _, rfl, Lj.less (by omega)⟩
    · rintro σ Hi ⟨y2, y3, y4, y5, y6, y7, y8, y9, y10, y11, y12, y13, y14, rfl, Li⟩
      have c1 : 1 ≤ sizeLine := Nat.le_of_lt (small1000 (show 1 ≤ 1000 by decide))
      have hOne : One ((false, 5), [((999999997 : Int), (1000000002 : Int))]) := ⟨⟨by decide, by decide⟩, ⟨by decide, fun q hq => by rw [List.mem_singleton.mp hq]; exact ⟨by decide, by decide, by decide⟩⟩⟩
      have hE : oneErr T.C_Unexplained ((false, 5), [((999999997 : Int), (1000000002 : Int))]) = none := oneErr_none rfl
      have pw : (10 : Int) ^ (9 : Int).toNat = 1000000000 := by decide
      have hp : CPow 10 9 := ⟨by decide, by decide, by decide⟩
      refine ⟨sz2, fun t1 n1 => ⟨10, 9, rfl, rfl, hp, _, 3, rfl, rfl, 10, 9, rfl, rfl, hp, _, 2, rfl, rfl, sz2, fun t2 n2 => ⟨c1, fun t3 n3 => ?_⟩⟩⟩
      have e1 := same_new (o := .tup [.str "pulse", .int 5]) n1
      have e2 := same_new (o := .tup [.int (10 ^ (9 : Int).toNat - 3), .int (10 ^ (9 : Int).toNat + 2)]) n2
      have e3 := same_new (o := .tup [.ref t2]) n3
      refine ⟨fun _ => False, ((false, 5), [((999999997 : Int), (1000000002 : Int))]), occ_none, .cons (.tup (.inl (.inl (by rw [cut_none]; exact e3 _ _ (e2 _ _ upd_same)))) (.cons (.str _) (.cons (.int _) .nil))) (.cons (.tup (.inl (.inl (by rw [cut_none]; exact upd_same))) (.cons (.tup (.inl (.inl (by rw [cut_none]; exact e3 _ _ upd_same))) (.cons (.int _) (.cons (.int _) .nil))) .nil)) .nil), hOne, fun _ r4 G sG hr4 => ?_, fun C' f d hb => by rw [hE] at hb; cases hb⟩
      refine ⟨10, 9, rfl, rfl, hp, _, 4, rfl, rfl, sz2, fun t5 n5 => ⟨c1, fun t6 n6 => ?_⟩⟩
      have e5 := same_new (o := .tup [.int 0, .int (10 ^ (9 : Int).toNat - 4)]) n5
      have e6 := same_new (o := .tup [.ref t5]) n6
      rw [cut_none] at hr4
      have dR : Dq K (upd (upd G t5 (.tup [.int 0, .int (10 ^ (9 : Int).toNat - 4)])) t6 (.tup [.ref t5])) (.ref t6) (spansD [(0, 999999996)]) := .tup (.inl (.inl upd_same)) (.cons (.tup (.inl (.inl (e6 _ _ upd_same))) (.cons (.int _) (.cons (.int _) .nil))) .nil)
      have dL : Dq K (upd (upd G t5 (.tup [.int 0, .int (10 ^ (9 : Int).toNat - 4)])) t6 (.tup [.ref t5])) r4 (spansD [(0, 999999996)]) := (hr4.mono e5).mono e6
      refine ⟨spansD [(0, 999999996)], spansD [(0, 999999996)], dq_dp _ (by decide) dL, dq_dp _ (by decide) dR, by decide +kernel, by decide +kernel, ?_⟩
      rw [show PyData.eqv (spansD [(0, 999999996)]) (spansD [(0, 999999996)]) = true by decide +kernel]
      exact q _
end
theorem all_mk {K : PySem.W.Frag} {h : Heap} {mg : Str → Option Value} (X : K.In h) (G : h.Ns mainGlobals mg)
  {f0 : Addr} {od0 an0 : Option Addr} {sl0 : Array (Option Value)} {oc0 kV0 dc0 pm0 cd0 ct0 : Value}
  (a0 : PySem.W.nsIn K mainGlobals "stretch_fits" = some (some (.ref f0))) (l0 : K.lookup f0 = some ⟨oc0, od0, .func (PySem.W.fnOf "stretch_fits" "stretch_fits" (defArgs s_stretch_fits) (defBody s_stretch_fits) (defScope s_stretch_fits) .none kV0 dc0 pm0 an0 cd0 ct0), sl0⟩) (c0 : PySem.W.codeIn K cd0 "stretch_fits" = true) (k0 : PySem.W.keepIn K (.ref f0) = true)
  {f1 : Addr} {od1 an1 : Option Addr} {sl1 : Array (Option Value)} {oc1 kV1 dc1 pm1 cd1 ct1 : Value}
  (a1 : PySem.W.nsIn K mainGlobals "wrong_stretches" = some (some (.ref f1))) (l1 : K.lookup f1 = some ⟨oc1, od1, .func (PySem.W.fnOf "wrong_stretches" "wrong_stretches" (defArgs s_wrong_stretches) (defBody s_wrong_stretches) (defScope s_wrong_stretches) .none kV1 dc1 pm1 an1 cd1 ct1), sl1⟩) (c1 : PySem.W.codeIn K cd1 "wrong_stretches" = true) (k1 : PySem.W.keepIn K (.ref f1) = true)
  {f2 : Addr} {od2 an2 : Option Addr} {sl2 : Array (Option Value)} {oc2 kV2 dc2 pm2 cd2 ct2 : Value}
  (a2 : PySem.W.nsIn K mainGlobals "misfit" = some (some (.ref f2))) (l2 : K.lookup f2 = some ⟨oc2, od2, .func (PySem.W.fnOf "misfit" "misfit" (defArgs s_misfit) (defBody s_misfit) (defScope s_misfit) .none kV2 dc2 pm2 an2 cd2 ct2), sl2⟩) (c2 : PySem.W.codeIn K cd2 "misfit" = true) (k2 : PySem.W.keepIn K (.ref f2) = true)
  {f3 : Addr} {od3 an3 : Option Addr} {sl3 : Array (Option Value)} {oc3 kV3 dc3 pm3 cd3 ct3 : Value}
  (a3 : PySem.W.nsIn K mainGlobals "check_fits" = some (some (.ref f3))) (l3 : K.lookup f3 = some ⟨oc3, od3, .func (PySem.W.fnOf "check_fits" "check_fits" (defArgs s_check_fits) (defBody s_check_fits) (defScope s_check_fits) .none kV3 dc3 pm3 an3 cd3 ct3), sl3⟩) (c3 : PySem.W.codeIn K cd3 "check_fits" = true) (k3 : PySem.W.keepIn K (.ref f3) = true)
  {f4 : Addr} {od4 an4 : Option Addr} {sl4 : Array (Option Value)} {oc4 kV4 dc4 pm4 cd4 ct4 : Value}
  (a4 : PySem.W.nsIn K mainGlobals "quiet_spans" = some (some (.ref f4))) (l4 : K.lookup f4 = some ⟨oc4, od4, .func (PySem.W.fnOf "quiet_spans" "quiet_spans" (defArgs s_quiet_spans) (defBody s_quiet_spans) (defScope s_quiet_spans) .none kV4 dc4 pm4 an4 cd4 ct4), sl4⟩) (c4 : PySem.W.codeIn K cd4 "quiet_spans" = true) (k4 : PySem.W.keepIn K (.ref f4) = true)
  {f5 : Addr} {od5 an5 : Option Addr} {sl5 : Array (Option Value)} {oc5 kV5 dc5 pm5 cd5 ct5 : Value}
  (a5 : PySem.W.nsIn K mainGlobals "call_spans" = some (some (.ref f5))) (l5 : K.lookup f5 = some ⟨oc5, od5, .func (PySem.W.fnOf "call_spans" "call_spans" (defArgs s_call_spans) (defBody s_call_spans) (defScope s_call_spans) .none kV5 dc5 pm5 an5 cd5 ct5), sl5⟩) (c5 : PySem.W.codeIn K cd5 "call_spans" = true) (k5 : PySem.W.keepIn K (.ref f5) = true)
  {f6 : Addr} {od6 an6 : Option Addr} {sl6 : Array (Option Value)} {oc6 kV6 dc6 pm6 cd6 ct6 : Value}
  (a6 : PySem.W.nsIn K mainGlobals "_law_reel" = some (some (.ref f6))) (l6 : K.lookup f6 = some ⟨oc6, od6, .func (PySem.W.fnOf "_law_reel" "_law_reel" (defArgs s_l_reel) (defBody s_l_reel) (defScope s_l_reel) .none kV6 dc6 pm6 an6 cd6 ct6), sl6⟩) (c6 : PySem.W.codeIn K cd6 "_law_reel" = true) (k6 : PySem.W.keepIn K (.ref f6) = true)
  {f7 : Addr} {od7 an7 : Option Addr} {sl7 : Array (Option Value)} {oc7 kV7 dc7 pm7 cd7 ct7 : Value}
  (a7 : PySem.W.nsIn K mainGlobals "_law_spin" = some (some (.ref f7))) (l7 : K.lookup f7 = some ⟨oc7, od7, .func (PySem.W.fnOf "_law_spin" "_law_spin" (defArgs s_l_spin) (defBody s_l_spin) (defScope s_l_spin) .none kV7 dc7 pm7 an7 cd7 ct7), sl7⟩) (c7 : PySem.W.codeIn K cd7 "_law_spin" = true) (k7 : PySem.W.keepIn K (.ref f7) = true)
  {f8 : Addr} {od8 an8 : Option Addr} {sl8 : Array (Option Value)} {oc8 kV8 dc8 pm8 cd8 ct8 : Value}
  (a8 : PySem.W.nsIn K mainGlobals "_law_lamps" = some (some (.ref f8))) (l8 : K.lookup f8 = some ⟨oc8, od8, .func (PySem.W.fnOf "_law_lamps" "_law_lamps" (defArgs s_l_lamps) (defBody s_l_lamps) (defScope s_l_lamps) .none kV8 dc8 pm8 an8 cd8 ct8), sl8⟩) (c8 : PySem.W.codeIn K cd8 "_law_lamps" = true) (k8 : PySem.W.keepIn K (.ref f8) = true)
  {f9 : Addr} {od9 an9 : Option Addr} {sl9 : Array (Option Value)} {oc9 kV9 dc9 pm9 cd9 ct9 : Value}
  (a9 : PySem.W.nsIn K mainGlobals "_law_minutes" = some (some (.ref f9))) (l9 : K.lookup f9 = some ⟨oc9, od9, .func (PySem.W.fnOf "_law_minutes" "_law_minutes" (defArgs s_l_minutes) (defBody s_l_minutes) (defScope s_l_minutes) .none kV9 dc9 pm9 an9 cd9 ct9), sl9⟩) (c9 : PySem.W.codeIn K cd9 "_law_minutes" = true) (k9 : PySem.W.keepIn K (.ref f9) = true)
  {f10 : Addr} {od10 an10 : Option Addr} {sl10 : Array (Option Value)} {oc10 kV10 dc10 pm10 cd10 ct10 : Value}
  (a10 : PySem.W.nsIn K mainGlobals "_law_log" = some (some (.ref f10))) (l10 : K.lookup f10 = some ⟨oc10, od10, .func (PySem.W.fnOf "_law_log" "_law_log" (defArgs s_l_log) (defBody s_l_log) (defScope s_l_log) .none kV10 dc10 pm10 an10 cd10 ct10), sl10⟩) (c10 : PySem.W.codeIn K cd10 "_law_log" = true) (k10 : PySem.W.keepIn K (.ref f10) = true)
  {f11 : Addr} {od11 an11 : Option Addr} {sl11 : Array (Option Value)} {oc11 kV11 dc11 pm11 cd11 ct11 : Value}
  (a11 : PySem.W.nsIn K mainGlobals "_law_logs" = some (some (.ref f11))) (l11 : K.lookup f11 = some ⟨oc11, od11, .func (PySem.W.fnOf "_law_logs" "_law_logs" (defArgs s_l_logs) (defBody s_l_logs) (defScope s_l_logs) .none kV11 dc11 pm11 an11 cd11 ct11), sl11⟩) (c11 : PySem.W.codeIn K cd11 "_law_logs" = true) (k11 : PySem.W.keepIn K (.ref f11) = true)
  {f12 : Addr} {od12 an12 : Option Addr} {sl12 : Array (Option Value)} {oc12 kV12 dc12 pm12 cd12 ct12 : Value}
  (a12 : PySem.W.nsIn K mainGlobals "_law_bent" = some (some (.ref f12))) (l12 : K.lookup f12 = some ⟨oc12, od12, .func (PySem.W.fnOf "_law_bent" "_law_bent" (defArgs s_l_bent) (defBody s_l_bent) (defScope s_l_bent) .none kV12 dc12 pm12 an12 cd12 ct12), sl12⟩) (c12 : PySem.W.codeIn K cd12 "_law_bent" = true) (k12 : PySem.W.keepIn K (.ref f12) = true)
  {f13 : Addr} {od13 an13 : Option Addr} {sl13 : Array (Option Value)} {oc13 kV13 dc13 pm13 cd13 ct13 : Value}
  (a13 : PySem.W.nsIn K mainGlobals "_law_scene" = some (some (.ref f13))) (l13 : K.lookup f13 = some ⟨oc13, od13, .func (PySem.W.fnOf "_law_scene" "_law_scene" (defArgs s_l_scene) (defBody s_l_scene) (defScope s_l_scene) .none kV13 dc13 pm13 an13 cd13 ct13), sl13⟩) (c13 : PySem.W.codeIn K cd13 "_law_scene" = true) (k13 : PySem.W.keepIn K (.ref f13) = true)
  {f14 : Addr} {od14 an14 : Option Addr} {sl14 : Array (Option Value)} {oc14 kV14 dc14 pm14 cd14 ct14 : Value}
  (a14 : PySem.W.nsIn K mainGlobals "_law_fits" = some (some (.ref f14))) (l14 : K.lookup f14 = some ⟨oc14, od14, .func (PySem.W.fnOf "_law_fits" "_law_fits" (defArgs s_l_fits) (defBody s_l_fits) (defScope s_l_fits) .none kV14 dc14 pm14 an14 cd14 ct14), sl14⟩) (c14 : PySem.W.codeIn K cd14 "_law_fits" = true) (k14 : PySem.W.keepIn K (.ref f14) = true)
  {f15 : Addr} {od15 an15 : Option Addr} {sl15 : Array (Option Value)} {oc15 kV15 dc15 pm15 cd15 ct15 : Value}
  (a15 : PySem.W.nsIn K mainGlobals "_law_quiet" = some (some (.ref f15))) (l15 : K.lookup f15 = some ⟨oc15, od15, .func (PySem.W.fnOf "_law_quiet" "_law_quiet" (defArgs s_l_quiet) (defBody s_l_quiet) (defScope s_l_quiet) .none kV15 dc15 pm15 an15 cd15 ct15), sl15⟩) (c15 : PySem.W.codeIn K cd15 "_law_quiet" = true) (k15 : PySem.W.keepIn K (.ref f15) = true)
  {f16 : Addr} {od16 an16 : Option Addr} {sl16 : Array (Option Value)} {oc16 kV16 dc16 pm16 cd16 ct16 : Value}
  (a16 : PySem.W.nsIn K mainGlobals "_law_told" = some (some (.ref f16))) (l16 : K.lookup f16 = some ⟨oc16, od16, .func (PySem.W.fnOf "_law_told" "_law_told" (defArgs s_l_told) (defBody s_l_told) (defScope s_l_told) .none kV16 dc16 pm16 an16 cd16 ct16), sl16⟩) (c16 : PySem.W.codeIn K cd16 "_law_told" = true) (k16 : PySem.W.keepIn K (.ref f16) = true)
  {f17 : Addr} {od17 an17 : Option Addr} {sl17 : Array (Option Value)} {oc17 kV17 dc17 pm17 cd17 ct17 : Value}
  (a17 : PySem.W.nsIn K mainGlobals "_law_due" = some (some (.ref f17))) (l17 : K.lookup f17 = some ⟨oc17, od17, .func (PySem.W.fnOf "_law_due" "_law_due" (defArgs s_l_due) (defBody s_l_due) (defScope s_l_due) .none kV17 dc17 pm17 an17 cd17 ct17), sl17⟩) (c17 : PySem.W.codeIn K cd17 "_law_due" = true) (k17 : PySem.W.keepIn K (.ref f17) = true)
  {f18 : Addr} {od18 an18 : Option Addr} {sl18 : Array (Option Value)} {oc18 kV18 dc18 pm18 cd18 ct18 : Value}
  (a18 : PySem.W.nsIn K mainGlobals "law" = some (some (.ref f18))) (l18 : K.lookup f18 = some ⟨oc18, od18, .func (PySem.W.fnOf "law" "law" (defArgs s_law) (defBody s_law) (defScope s_law) .none kV18 dc18 pm18 an18 cd18 ct18), sl18⟩) (c18 : PySem.W.codeIn K cd18 "law" = true) (k18 : PySem.W.keepIn K (.ref f18) = true)
  {C_LampError : Addr} (gc_LampError : PySem.W.nsIn K mainGlobals "LampError" = some (some (.ref C_LampError)))
  {C_BadLamp : Addr} (gc_BadLamp : PySem.W.nsIn K mainGlobals "BadLamp" = some (some (.ref C_BadLamp)))
  {fI_BadLamp : Addr} {nm_BadLamp q_BadLamp : Str} {N_BadLamp : Addr} {bs_BadLamp : List Value} {sn_BadLamp : List Str} {sub_BadLamp : List Value} {ab_BadLamp : Bool} {col_BadLamp : Option Bool} {dd_BadLamp : Option Addr} {m0_BadLamp m1_BadLamp m2_BadLamp m3_BadLamp m5_BadLamp : Option Value} {od_BadLamp an_BadLamp : Option Addr} {sl_BadLamp : Array (Option Value)} {oc_BadLamp kV_BadLamp dc_BadLamp pm_BadLamp cd_BadLamp ct_BadLamp : Value}
  (xL_BadLamp : K.lookup C_BadLamp = some (PySem.excClassObj nm_BadLamp q_BadLamp C_BadLamp N_BadLamp bs_BadLamp [.ref C_LampError, .type "ValueError", .type "Exception", .type "BaseException", .type "object"] true sn_BadLamp sub_BadLamp ab_BadLamp col_BadLamp dd_BadLamp m0_BadLamp m1_BadLamp m2_BadLamp m3_BadLamp m5_BadLamp "ValueError.__new__"))
  (sa_BadLamp : PySem.W.findIn K (.ref C_BadLamp) "__setattr__" = some (some (.builtin "object.__setattr__")))
  (eC_BadLamp : PySem.W.subIn K (.ref C_BadLamp) (.type "BaseException") = some true)
  (tC_BadLamp : PySem.W.typeIn K (.ref C_BadLamp) = some (.type "type"))
  (kC_BadLamp : PySem.W.keepIn K (.ref C_BadLamp) = true)
  (iC_BadLamp : PySem.W.findIn K (.ref C_BadLamp) "__init__" = some (some (.ref fI_BadLamp)))
  (tI_BadLamp : PySem.W.typeIn K (.ref fI_BadLamp) = some (.type "function"))
  (no_BadLamp : PySem.W.findIn K (.ref C_BadLamp) "value" = some none)
  (ga_BadLamp : PySem.W.findIn K (.ref C_BadLamp) "__getattribute__" = some (some (.builtin "BaseException.__getattribute__")))
  (gg_BadLamp : PySem.W.findIn K (.ref C_BadLamp) "__getattr__" = some none)
  (hd_BadLamp : PySem.W.hasDictIn K C_BadLamp = true)
  (ha_BadLamp : PySem.W.findIn K (.ref C_BadLamp) "__class__" = some (some (.builtin "object.__class__")))
  (hn_BadLamp : PySem.W.specialIn K (.builtin "object.__class__") "__get__" = some (some (.builtin "getset_descriptor.__get__")))
  (ht_BadLamp : PySem.W.takesIn K (.builtin "object.__class__") = some true)
  (hm_BadLamp : PySem.W.mroIn K C_BadLamp (.type "object") = some true)
  (lI_BadLamp : K.lookup fI_BadLamp = some ⟨oc_BadLamp, od_BadLamp, .func (PySem.W.fnOf "__init__" "BadLamp.__init__" (defArgs s_X_BadLamp) (defBody s_X_BadLamp) (defScope s_X_BadLamp) .none kV_BadLamp dc_BadLamp pm_BadLamp an_BadLamp cd_BadLamp ct_BadLamp), sl_BadLamp⟩)
  (cI_BadLamp : PySem.W.codeIn K cd_BadLamp "BadLamp.__init__" = true)
  (kI_BadLamp : PySem.W.keepIn K (.ref fI_BadLamp) = true)
  {C_BadLog : Addr} (gc_BadLog : PySem.W.nsIn K mainGlobals "BadLog" = some (some (.ref C_BadLog)))
  {fI_BadLog : Addr} {nm_BadLog q_BadLog : Str} {N_BadLog : Addr} {bs_BadLog : List Value} {sn_BadLog : List Str} {sub_BadLog : List Value} {ab_BadLog : Bool} {col_BadLog : Option Bool} {dd_BadLog : Option Addr} {m0_BadLog m1_BadLog m2_BadLog m3_BadLog m5_BadLog : Option Value} {od_BadLog an_BadLog : Option Addr} {sl_BadLog : Array (Option Value)} {oc_BadLog kV_BadLog dc_BadLog pm_BadLog cd_BadLog ct_BadLog : Value}
  (xL_BadLog : K.lookup C_BadLog = some (PySem.excClassObj nm_BadLog q_BadLog C_BadLog N_BadLog bs_BadLog [.ref C_LampError, .type "ValueError", .type "Exception", .type "BaseException", .type "object"] true sn_BadLog sub_BadLog ab_BadLog col_BadLog dd_BadLog m0_BadLog m1_BadLog m2_BadLog m3_BadLog m5_BadLog "ValueError.__new__"))
  (sa_BadLog : PySem.W.findIn K (.ref C_BadLog) "__setattr__" = some (some (.builtin "object.__setattr__")))
  (eC_BadLog : PySem.W.subIn K (.ref C_BadLog) (.type "BaseException") = some true)
  (tC_BadLog : PySem.W.typeIn K (.ref C_BadLog) = some (.type "type"))
  (kC_BadLog : PySem.W.keepIn K (.ref C_BadLog) = true)
  (iC_BadLog : PySem.W.findIn K (.ref C_BadLog) "__init__" = some (some (.ref fI_BadLog)))
  (tI_BadLog : PySem.W.typeIn K (.ref fI_BadLog) = some (.type "function"))
  (no_BadLog : PySem.W.findIn K (.ref C_BadLog) "error" = some none)
  (ga_BadLog : PySem.W.findIn K (.ref C_BadLog) "__getattribute__" = some (some (.builtin "BaseException.__getattribute__")))
  (gg_BadLog : PySem.W.findIn K (.ref C_BadLog) "__getattr__" = some none)
  (hd_BadLog : PySem.W.hasDictIn K C_BadLog = true)
  (ha_BadLog : PySem.W.findIn K (.ref C_BadLog) "__class__" = some (some (.builtin "object.__class__")))
  (hn_BadLog : PySem.W.specialIn K (.builtin "object.__class__") "__get__" = some (some (.builtin "getset_descriptor.__get__")))
  (ht_BadLog : PySem.W.takesIn K (.builtin "object.__class__") = some true)
  (hm_BadLog : PySem.W.mroIn K C_BadLog (.type "object") = some true)
  (lI_BadLog : K.lookup fI_BadLog = some ⟨oc_BadLog, od_BadLog, .func (PySem.W.fnOf "__init__" "BadLog.__init__" (defArgs s_X_BadLog) (defBody s_X_BadLog) (defScope s_X_BadLog) .none kV_BadLog dc_BadLog pm_BadLog an_BadLog cd_BadLog ct_BadLog), sl_BadLog⟩)
  (cI_BadLog : PySem.W.codeIn K cd_BadLog "BadLog.__init__" = true)
  (kI_BadLog : PySem.W.keepIn K (.ref fI_BadLog) = true)
  {C_NoIndex : Addr} (gc_NoIndex : PySem.W.nsIn K mainGlobals "NoIndex" = some (some (.ref C_NoIndex)))
  {fI_NoIndex : Addr} {nm_NoIndex q_NoIndex : Str} {N_NoIndex : Addr} {bs_NoIndex : List Value} {sn_NoIndex : List Str} {sub_NoIndex : List Value} {ab_NoIndex : Bool} {col_NoIndex : Option Bool} {dd_NoIndex : Option Addr} {m0_NoIndex m1_NoIndex m2_NoIndex m3_NoIndex m5_NoIndex : Option Value} {od_NoIndex an_NoIndex : Option Addr} {sl_NoIndex : Array (Option Value)} {oc_NoIndex kV_NoIndex dc_NoIndex pm_NoIndex cd_NoIndex ct_NoIndex : Value}
  (xL_NoIndex : K.lookup C_NoIndex = some (PySem.excClassObj nm_NoIndex q_NoIndex C_NoIndex N_NoIndex bs_NoIndex [.ref C_LampError, .type "ValueError", .type "Exception", .type "BaseException", .type "object"] true sn_NoIndex sub_NoIndex ab_NoIndex col_NoIndex dd_NoIndex m0_NoIndex m1_NoIndex m2_NoIndex m3_NoIndex m5_NoIndex "ValueError.__new__"))
  (sa_NoIndex : PySem.W.findIn K (.ref C_NoIndex) "__setattr__" = some (some (.builtin "object.__setattr__")))
  (eC_NoIndex : PySem.W.subIn K (.ref C_NoIndex) (.type "BaseException") = some true)
  (tC_NoIndex : PySem.W.typeIn K (.ref C_NoIndex) = some (.type "type"))
  (kC_NoIndex : PySem.W.keepIn K (.ref C_NoIndex) = true)
  (iC_NoIndex : PySem.W.findIn K (.ref C_NoIndex) "__init__" = some (some (.ref fI_NoIndex)))
  (tI_NoIndex : PySem.W.typeIn K (.ref fI_NoIndex) = some (.type "function"))
  (no_NoIndex : PySem.W.findIn K (.ref C_NoIndex) "index" = some none)
  (ga_NoIndex : PySem.W.findIn K (.ref C_NoIndex) "__getattribute__" = some (some (.builtin "BaseException.__getattribute__")))
  (gg_NoIndex : PySem.W.findIn K (.ref C_NoIndex) "__getattr__" = some none)
  (hd_NoIndex : PySem.W.hasDictIn K C_NoIndex = true)
  (ha_NoIndex : PySem.W.findIn K (.ref C_NoIndex) "__class__" = some (some (.builtin "object.__class__")))
  (hn_NoIndex : PySem.W.specialIn K (.builtin "object.__class__") "__get__" = some (some (.builtin "getset_descriptor.__get__")))
  (ht_NoIndex : PySem.W.takesIn K (.builtin "object.__class__") = some true)
  (hm_NoIndex : PySem.W.mroIn K C_NoIndex (.type "object") = some true)
  (lI_NoIndex : K.lookup fI_NoIndex = some ⟨oc_NoIndex, od_NoIndex, .func (PySem.W.fnOf "__init__" "NoIndex.__init__" (defArgs s_X_NoIndex) (defBody s_X_NoIndex) (defScope s_X_NoIndex) .none kV_NoIndex dc_NoIndex pm_NoIndex an_NoIndex cd_NoIndex ct_NoIndex), sl_NoIndex⟩)
  (cI_NoIndex : PySem.W.codeIn K cd_NoIndex "NoIndex.__init__" = true)
  (kI_NoIndex : PySem.W.keepIn K (.ref fI_NoIndex) = true)
  {C_NoMinute : Addr} (gc_NoMinute : PySem.W.nsIn K mainGlobals "NoMinute" = some (some (.ref C_NoMinute)))
  {fI_NoMinute : Addr} {nm_NoMinute q_NoMinute : Str} {N_NoMinute : Addr} {bs_NoMinute : List Value} {sn_NoMinute : List Str} {sub_NoMinute : List Value} {ab_NoMinute : Bool} {col_NoMinute : Option Bool} {dd_NoMinute : Option Addr} {m0_NoMinute m1_NoMinute m2_NoMinute m3_NoMinute m5_NoMinute : Option Value} {od_NoMinute an_NoMinute : Option Addr} {sl_NoMinute : Array (Option Value)} {oc_NoMinute kV_NoMinute dc_NoMinute pm_NoMinute cd_NoMinute ct_NoMinute : Value}
  (xL_NoMinute : K.lookup C_NoMinute = some (PySem.excClassObj nm_NoMinute q_NoMinute C_NoMinute N_NoMinute bs_NoMinute [.ref C_LampError, .type "ValueError", .type "Exception", .type "BaseException", .type "object"] true sn_NoMinute sub_NoMinute ab_NoMinute col_NoMinute dd_NoMinute m0_NoMinute m1_NoMinute m2_NoMinute m3_NoMinute m5_NoMinute "ValueError.__new__"))
  (sa_NoMinute : PySem.W.findIn K (.ref C_NoMinute) "__setattr__" = some (some (.builtin "object.__setattr__")))
  (eC_NoMinute : PySem.W.subIn K (.ref C_NoMinute) (.type "BaseException") = some true)
  (tC_NoMinute : PySem.W.typeIn K (.ref C_NoMinute) = some (.type "type"))
  (kC_NoMinute : PySem.W.keepIn K (.ref C_NoMinute) = true)
  (iC_NoMinute : PySem.W.findIn K (.ref C_NoMinute) "__init__" = some (some (.ref fI_NoMinute)))
  (tI_NoMinute : PySem.W.typeIn K (.ref fI_NoMinute) = some (.type "function"))
  (no_NoMinute : PySem.W.findIn K (.ref C_NoMinute) "value" = some none)
  (ga_NoMinute : PySem.W.findIn K (.ref C_NoMinute) "__getattribute__" = some (some (.builtin "BaseException.__getattribute__")))
  (gg_NoMinute : PySem.W.findIn K (.ref C_NoMinute) "__getattr__" = some none)
  (hd_NoMinute : PySem.W.hasDictIn K C_NoMinute = true)
  (ha_NoMinute : PySem.W.findIn K (.ref C_NoMinute) "__class__" = some (some (.builtin "object.__class__")))
  (hn_NoMinute : PySem.W.specialIn K (.builtin "object.__class__") "__get__" = some (some (.builtin "getset_descriptor.__get__")))
  (ht_NoMinute : PySem.W.takesIn K (.builtin "object.__class__") = some true)
  (hm_NoMinute : PySem.W.mroIn K C_NoMinute (.type "object") = some true)
  (lI_NoMinute : K.lookup fI_NoMinute = some ⟨oc_NoMinute, od_NoMinute, .func (PySem.W.fnOf "__init__" "NoMinute.__init__" (defArgs s_X_NoMinute) (defBody s_X_NoMinute) (defScope s_X_NoMinute) .none kV_NoMinute dc_NoMinute pm_NoMinute an_NoMinute cd_NoMinute ct_NoMinute), sl_NoMinute⟩)
  (cI_NoMinute : PySem.W.codeIn K cd_NoMinute "NoMinute.__init__" = true)
  (kI_NoMinute : PySem.W.keepIn K (.ref fI_NoMinute) = true)
  {C_OtherCount : Addr} (gc_OtherCount : PySem.W.nsIn K mainGlobals "OtherCount" = some (some (.ref C_OtherCount)))
  {fI_OtherCount : Addr} {nm_OtherCount q_OtherCount : Str} {N_OtherCount : Addr} {bs_OtherCount : List Value} {sn_OtherCount : List Str} {sub_OtherCount : List Value} {ab_OtherCount : Bool} {col_OtherCount : Option Bool} {dd_OtherCount : Option Addr} {m0_OtherCount m1_OtherCount m2_OtherCount m3_OtherCount m5_OtherCount : Option Value} {od_OtherCount an_OtherCount : Option Addr} {sl_OtherCount : Array (Option Value)} {oc_OtherCount kV_OtherCount dc_OtherCount pm_OtherCount cd_OtherCount ct_OtherCount : Value}
  (xL_OtherCount : K.lookup C_OtherCount = some (PySem.excClassObj nm_OtherCount q_OtherCount C_OtherCount N_OtherCount bs_OtherCount [.ref C_LampError, .type "ValueError", .type "Exception", .type "BaseException", .type "object"] true sn_OtherCount sub_OtherCount ab_OtherCount col_OtherCount dd_OtherCount m0_OtherCount m1_OtherCount m2_OtherCount m3_OtherCount m5_OtherCount "ValueError.__new__"))
  (sa_OtherCount : PySem.W.findIn K (.ref C_OtherCount) "__setattr__" = some (some (.builtin "object.__setattr__")))
  (eC_OtherCount : PySem.W.subIn K (.ref C_OtherCount) (.type "BaseException") = some true)
  (tC_OtherCount : PySem.W.typeIn K (.ref C_OtherCount) = some (.type "type"))
  (kC_OtherCount : PySem.W.keepIn K (.ref C_OtherCount) = true)
  (iC_OtherCount : PySem.W.findIn K (.ref C_OtherCount) "__init__" = some (some (.ref fI_OtherCount)))
  (tI_OtherCount : PySem.W.typeIn K (.ref fI_OtherCount) = some (.type "function"))
  (no_OtherCount : PySem.W.findIn K (.ref C_OtherCount) "count" = some none)
  (ga_OtherCount : PySem.W.findIn K (.ref C_OtherCount) "__getattribute__" = some (some (.builtin "BaseException.__getattribute__")))
  (gg_OtherCount : PySem.W.findIn K (.ref C_OtherCount) "__getattr__" = some none)
  (hd_OtherCount : PySem.W.hasDictIn K C_OtherCount = true)
  (ha_OtherCount : PySem.W.findIn K (.ref C_OtherCount) "__class__" = some (some (.builtin "object.__class__")))
  (hn_OtherCount : PySem.W.specialIn K (.builtin "object.__class__") "__get__" = some (some (.builtin "getset_descriptor.__get__")))
  (ht_OtherCount : PySem.W.takesIn K (.builtin "object.__class__") = some true)
  (hm_OtherCount : PySem.W.mroIn K C_OtherCount (.type "object") = some true)
  (lI_OtherCount : K.lookup fI_OtherCount = some ⟨oc_OtherCount, od_OtherCount, .func (PySem.W.fnOf "__init__" "OtherCount.__init__" (defArgs s_X_OtherCount) (defBody s_X_OtherCount) (defScope s_X_OtherCount) .none kV_OtherCount dc_OtherCount pm_OtherCount an_OtherCount cd_OtherCount ct_OtherCount), sl_OtherCount⟩)
  (cI_OtherCount : PySem.W.codeIn K cd_OtherCount "OtherCount.__init__" = true)
  (kI_OtherCount : PySem.W.keepIn K (.ref fI_OtherCount) = true)
  {C_TooLarge : Addr} (gc_TooLarge : PySem.W.nsIn K mainGlobals "TooLarge" = some (some (.ref C_TooLarge)))
  {fI_TooLarge : Addr} {nm_TooLarge q_TooLarge : Str} {N_TooLarge : Addr} {bs_TooLarge : List Value} {sn_TooLarge : List Str} {sub_TooLarge : List Value} {ab_TooLarge : Bool} {col_TooLarge : Option Bool} {dd_TooLarge : Option Addr} {m0_TooLarge m1_TooLarge m2_TooLarge m3_TooLarge m5_TooLarge : Option Value} {od_TooLarge an_TooLarge : Option Addr} {sl_TooLarge : Array (Option Value)} {oc_TooLarge kV_TooLarge dc_TooLarge pm_TooLarge cd_TooLarge ct_TooLarge : Value}
  (xL_TooLarge : K.lookup C_TooLarge = some (PySem.excClassObj nm_TooLarge q_TooLarge C_TooLarge N_TooLarge bs_TooLarge [.ref C_LampError, .type "ValueError", .type "Exception", .type "BaseException", .type "object"] true sn_TooLarge sub_TooLarge ab_TooLarge col_TooLarge dd_TooLarge m0_TooLarge m1_TooLarge m2_TooLarge m3_TooLarge m5_TooLarge "ValueError.__new__"))
  (sa_TooLarge : PySem.W.findIn K (.ref C_TooLarge) "__setattr__" = some (some (.builtin "object.__setattr__")))
  (eC_TooLarge : PySem.W.subIn K (.ref C_TooLarge) (.type "BaseException") = some true)
  (tC_TooLarge : PySem.W.typeIn K (.ref C_TooLarge) = some (.type "type"))
  (kC_TooLarge : PySem.W.keepIn K (.ref C_TooLarge) = true)
  (iC_TooLarge : PySem.W.findIn K (.ref C_TooLarge) "__init__" = some (some (.ref fI_TooLarge)))
  (tI_TooLarge : PySem.W.typeIn K (.ref fI_TooLarge) = some (.type "function"))
  (no_TooLarge : PySem.W.findIn K (.ref C_TooLarge) "limit" = some none)
  (ga_TooLarge : PySem.W.findIn K (.ref C_TooLarge) "__getattribute__" = some (some (.builtin "BaseException.__getattribute__")))
  (gg_TooLarge : PySem.W.findIn K (.ref C_TooLarge) "__getattr__" = some none)
  (hd_TooLarge : PySem.W.hasDictIn K C_TooLarge = true)
  (ha_TooLarge : PySem.W.findIn K (.ref C_TooLarge) "__class__" = some (some (.builtin "object.__class__")))
  (hn_TooLarge : PySem.W.specialIn K (.builtin "object.__class__") "__get__" = some (some (.builtin "getset_descriptor.__get__")))
  (ht_TooLarge : PySem.W.takesIn K (.builtin "object.__class__") = some true)
  (hm_TooLarge : PySem.W.mroIn K C_TooLarge (.type "object") = some true)
  (lI_TooLarge : K.lookup fI_TooLarge = some ⟨oc_TooLarge, od_TooLarge, .func (PySem.W.fnOf "__init__" "TooLarge.__init__" (defArgs s_X_TooLarge) (defBody s_X_TooLarge) (defScope s_X_TooLarge) .none kV_TooLarge dc_TooLarge pm_TooLarge an_TooLarge cd_TooLarge ct_TooLarge), sl_TooLarge⟩)
  (cI_TooLarge : PySem.W.codeIn K cd_TooLarge "TooLarge.__init__" = true)
  (kI_TooLarge : PySem.W.keepIn K (.ref fI_TooLarge) = true)
  {C_Unexplained : Addr} (gc_Unexplained : PySem.W.nsIn K mainGlobals "Unexplained" = some (some (.ref C_Unexplained)))
  {fI_Unexplained : Addr} {nm_Unexplained q_Unexplained : Str} {N_Unexplained : Addr} {bs_Unexplained : List Value} {sn_Unexplained : List Str} {sub_Unexplained : List Value} {ab_Unexplained : Bool} {col_Unexplained : Option Bool} {dd_Unexplained : Option Addr} {m0_Unexplained m1_Unexplained m2_Unexplained m3_Unexplained m5_Unexplained : Option Value} {od_Unexplained an_Unexplained : Option Addr} {sl_Unexplained : Array (Option Value)} {oc_Unexplained kV_Unexplained dc_Unexplained pm_Unexplained cd_Unexplained ct_Unexplained : Value}
  (xL_Unexplained : K.lookup C_Unexplained = some (PySem.excClassObj nm_Unexplained q_Unexplained C_Unexplained N_Unexplained bs_Unexplained [.ref C_LampError, .type "ValueError", .type "Exception", .type "BaseException", .type "object"] true sn_Unexplained sub_Unexplained ab_Unexplained col_Unexplained dd_Unexplained m0_Unexplained m1_Unexplained m2_Unexplained m3_Unexplained m5_Unexplained "ValueError.__new__"))
  (sa_Unexplained : PySem.W.findIn K (.ref C_Unexplained) "__setattr__" = some (some (.builtin "object.__setattr__")))
  (eC_Unexplained : PySem.W.subIn K (.ref C_Unexplained) (.type "BaseException") = some true)
  (tC_Unexplained : PySem.W.typeIn K (.ref C_Unexplained) = some (.type "type"))
  (kC_Unexplained : PySem.W.keepIn K (.ref C_Unexplained) = true)
  (iC_Unexplained : PySem.W.findIn K (.ref C_Unexplained) "__init__" = some (some (.ref fI_Unexplained)))
  (tI_Unexplained : PySem.W.typeIn K (.ref fI_Unexplained) = some (.type "function"))
  (no_Unexplained : PySem.W.findIn K (.ref C_Unexplained) "reason" = some none)
  (ga_Unexplained : PySem.W.findIn K (.ref C_Unexplained) "__getattribute__" = some (some (.builtin "BaseException.__getattribute__")))
  (gg_Unexplained : PySem.W.findIn K (.ref C_Unexplained) "__getattr__" = some none)
  (hd_Unexplained : PySem.W.hasDictIn K C_Unexplained = true)
  (ha_Unexplained : PySem.W.findIn K (.ref C_Unexplained) "__class__" = some (some (.builtin "object.__class__")))
  (hn_Unexplained : PySem.W.specialIn K (.builtin "object.__class__") "__get__" = some (some (.builtin "getset_descriptor.__get__")))
  (ht_Unexplained : PySem.W.takesIn K (.builtin "object.__class__") = some true)
  (hm_Unexplained : PySem.W.mroIn K C_Unexplained (.type "object") = some true)
  (lI_Unexplained : K.lookup fI_Unexplained = some ⟨oc_Unexplained, od_Unexplained, .func (PySem.W.fnOf "__init__" "Unexplained.__init__" (defArgs s_X_Unexplained) (defBody s_X_Unexplained) (defScope s_X_Unexplained) .none kV_Unexplained dc_Unexplained pm_Unexplained an_Unexplained cd_Unexplained ct_Unexplained), sl_Unexplained⟩)
  (cI_Unexplained : PySem.W.codeIn K cd_Unexplained "Unexplained.__init__" = true)
  (kI_Unexplained : PySem.W.keepIn K (.ref fI_Unexplained) = true)
  (kit0 : PySem.W.exmOne K (.ref C_Unexplained) (.ref C_LampError) = some true)
  (kit1 : PySem.W.kitOne K (.ref C_Unexplained) (.ref C_OtherCount) = some false)
  (kit2 : PySem.W.kitOne K (.ref C_Unexplained) (.ref C_Unexplained) = some true)
  (kit3 : PySem.W.kitOne K (.ref C_Unexplained) (.ref C_NoMinute) = some false)
  (kit4 : PySem.W.kitOne K (.ref C_Unexplained) (.ref C_NoIndex) = some false)
  (kit5 : PySem.W.kitOne K (.ref C_Unexplained) (.type "ValueError") = some true)
  (kit6 : PySem.W.kitAny K (.ref C_Unexplained) ([C_BadLamp, C_BadLog, C_TooLarge].map Value.ref) = some false)
  (z_ValueError : PySem.W.nsIn K mainGlobals "ValueError" = some none)
  (z_abs : PySem.W.nsIn K mainGlobals "abs" = some none)
  (z_enumerate : PySem.W.nsIn K mainGlobals "enumerate" = some none)
  (z_int : PySem.W.nsIn K mainGlobals "int" = some none)
  (z_isinstance : PySem.W.nsIn K mainGlobals "isinstance" = some none)
  (z_len : PySem.W.nsIn K mainGlobals "len" = some none)
  (z_list : PySem.W.nsIn K mainGlobals "list" = some none)
  (z_max : PySem.W.nsIn K mainGlobals "max" = some none)
  (z_min : PySem.W.nsIn K mainGlobals "min" = some none)
  (z_range : PySem.W.nsIn K mainGlobals "range" = some none)
  (z_repr : PySem.W.nsIn K mainGlobals "repr" = some none)
  (z_tuple : PySem.W.nsIn K mainGlobals "tuple" = some none)
  (z_zip : PySem.W.nsIn K mainGlobals "zip" = some none)
  {t_MAX_MINUTE : Tok} (c_MAX_MINUTE : PySem.W.nsIn K mainGlobals "MAX_MINUTE" = some (some (.int 1000000000 t_MAX_MINUTE)))
  {c_tab P_tab : Addr} {e_tab : Value} {d_tab : Option Addr} {us_tab : Array Value} {sl_tab : Array (Option Value)} (tabC : cd18 = .ref c_tab) (tabL : K.lookup c_tab = some ⟨e_tab, d_tab, .fields us_tab, sl_tab⟩) (tabE : us_tab[11]? = some (.ref P_tab)) (tabN : K.lookup P_tab = none)
  : ∃ (T : All K mg) (kV dc pm : Value) (an : Option Addr) (ct : Value) (c_ P_ : Addr), T.fd_law = PySem.W.fnOf "law" "law" (defArgs s_law) (defBody s_law) (defScope s_law) .none kV dc pm an (.ref c_) ct ∧ PySem.W.tabIn K "law" = some (c_, P_) ∧ K.lookup P_ = none := by
  subst tabC
  exact
  ⟨{ f_stretch_fits := f0, fd_stretch_fits := _, D_stretch_fits := ⟨fun_mk (st := s_stretch_fits) l0 c0 k0, PySem.W.mg_of X G a0, (fun_mk (st := s_stretch_fits) l0 c0 k0).binds (ps := ["lamp", "stretch"]) fun _ _ _ _ _ _ us hl => match us, hl with | [_, _], _ => rfl⟩,
     f_wrong_stretches := f1, fd_wrong_stretches := _, D_wrong_stretches := ⟨fun_mk (st := s_wrong_stretches) l1 c1 k1, PySem.W.mg_of X G a1, (fun_mk (st := s_wrong_stretches) l1 c1 k1).binds (ps := ["lamp", "log"]) fun _ _ _ _ _ _ us hl => match us, hl with | [_, _], _ => rfl⟩,
     f_misfit := f2, fd_misfit := _, D_misfit := ⟨fun_mk (st := s_misfit) l2 c2 k2, PySem.W.mg_of X G a2, (fun_mk (st := s_misfit) l2 c2 k2).binds (ps := ["lamps", "logs"]) fun _ _ _ _ _ _ us hl => match us, hl with | [_, _], _ => rfl⟩,
     f_check_fits := f3, fd_check_fits := _, D_check_fits := ⟨fun_mk (st := s_check_fits) l3 c3 k3, PySem.W.mg_of X G a3, (fun_mk (st := s_check_fits) l3 c3 k3).binds (ps := ["lamps", "logs"]) fun _ _ _ _ _ _ us hl => match us, hl with | [_, _], _ => rfl⟩,
     f_quiet_spans := f4, fd_quiet_spans := _, D_quiet_spans := ⟨fun_mk (st := s_quiet_spans) l4 c4 k4, PySem.W.mg_of X G a4, (fun_mk (st := s_quiet_spans) l4 c4 k4).binds (ps := ["lamp", "log"]) fun _ _ _ _ _ _ us hl => match us, hl with | [_, _], _ => rfl⟩,
     f_call_spans := f5, fd_call_spans := _, D_call_spans := ⟨fun_mk (st := s_call_spans) l5 c5 k5, PySem.W.mg_of X G a5, (fun_mk (st := s_call_spans) l5 c5 k5).binds (ps := ["lamp", "log"]) fun _ _ _ _ _ _ us hl => match us, hl with | [_, _], _ => rfl⟩,
     f_l_reel := f6, fd_l_reel := _, D_l_reel := ⟨fun_mk (st := s_l_reel) l6 c6 k6, PySem.W.mg_of X G a6, (fun_mk (st := s_l_reel) l6 c6 k6).binds (ps := ["script"]) fun _ _ _ _ _ _ us hl => match us, hl with | [_], _ => rfl⟩,
     f_l_spin := f7, fd_l_spin := _, D_l_spin := ⟨fun_mk (st := s_l_spin) l7 c7 k7, PySem.W.mg_of X G a7, (fun_mk (st := s_l_spin) l7 c7 k7).binds (ps := ["reel", "many"]) fun _ _ _ _ _ _ us hl => match us, hl with | [_, _], _ => rfl⟩,
     f_l_lamps := f8, fd_l_lamps := _, D_l_lamps := ⟨fun_mk (st := s_l_lamps) l8 c8 k8, PySem.W.mg_of X G a8, (fun_mk (st := s_l_lamps) l8 c8 k8).binds (ps := ["reel", "many", "top"]) fun _ _ _ _ _ _ us hl => match us, hl with | [_, _, _], _ => rfl⟩,
     f_l_minutes := f9, fd_l_minutes := _, D_l_minutes := ⟨fun_mk (st := s_l_minutes) l9 c9 k9, PySem.W.mg_of X G a9, (fun_mk (st := s_l_minutes) l9 c9 k9).binds (ps := ["reel", "many", "gap"]) fun _ _ _ _ _ _ us hl => match us, hl with | [_, _, _], _ => rfl⟩,
     f_l_log := f10, fd_l_log := _, D_l_log := ⟨fun_mk (st := s_l_log) l10 c10 k10, PySem.W.mg_of X G a10, (fun_mk (st := s_l_log) l10 c10 k10).binds (ps := ["lamp", "minutes"]) fun _ _ _ _ _ _ us hl => match us, hl with | [_, _], _ => rfl⟩,
     f_l_logs := f11, fd_l_logs := _, D_l_logs := ⟨fun_mk (st := s_l_logs) l11 c11 k11, PySem.W.mg_of X G a11, (fun_mk (st := s_l_logs) l11 c11 k11).binds (ps := ["lamps", "minutes"]) fun _ _ _ _ _ _ us hl => match us, hl with | [_, _], _ => rfl⟩,
     f_l_bent := f12, fd_l_bent := _, D_l_bent := ⟨fun_mk (st := s_l_bent) l12 c12 k12, PySem.W.mg_of X G a12, (fun_mk (st := s_l_bent) l12 c12 k12).binds (ps := ["reel", "log"]) fun _ _ _ _ _ _ us hl => match us, hl with | [_, _], _ => rfl⟩,
     f_l_scene := f13, fd_l_scene := _, D_l_scene := ⟨fun_mk (st := s_l_scene) l13 c13 k13, PySem.W.mg_of X G a13, (fun_mk (st := s_l_scene) l13 c13 k13).binds (ps := ["reel", "many", "top", "motions"]) fun _ _ _ _ _ _ us hl => match us, hl with | [_, _, _, _], _ => rfl⟩,
     f_l_fits := f14, fd_l_fits := _, D_l_fits := ⟨fun_mk (st := s_l_fits) l14 c14 k14, PySem.W.mg_of X G a14, (fun_mk (st := s_l_fits) l14 c14 k14).binds (ps := ["lamp", "stretch"]) fun _ _ _ _ _ _ us hl => match us, hl with | [_, _], _ => rfl⟩,
     f_l_quiet := f15, fd_l_quiet := _, D_l_quiet := ⟨fun_mk (st := s_l_quiet) l15 c15 k15, PySem.W.mg_of X G a15, (fun_mk (st := s_l_quiet) l15 c15 k15).binds (ps := ["lamp", "log"]) fun _ _ _ _ _ _ us hl => match us, hl with | [_, _], _ => rfl⟩,
     f_l_told := f16, fd_l_told := _, D_l_told := ⟨fun_mk (st := s_l_told) l16 c16 k16, PySem.W.mg_of X G a16, (fun_mk (st := s_l_told) l16 c16 k16).binds (ps := ["call"]) fun _ _ _ _ _ _ us hl => match us, hl with | [_], _ => rfl⟩,
     f_l_due := f17, fd_l_due := _, D_l_due := ⟨fun_mk (st := s_l_due) l17 c17 k17, PySem.W.mg_of X G a17, (fun_mk (st := s_l_due) l17 c17 k17).binds (ps := ["way", "lamp", "log"]) fun _ _ _ _ _ _ us hl => match us, hl with | [_, _, _], _ => rfl⟩,
     f_law := f18, fd_law := _, D_law := ⟨fun_mk (st := s_law) l18 c18 k18, PySem.W.mg_of X G a18, (fun_mk (st := s_law) l18 c18 k18).binds (ps := ["script"]) fun _ _ _ _ _ _ us hl => match us, hl with | [_], _ => rfl⟩,
     C_LampError := C_LampError, g_LampError := PySem.W.mg_of X G gc_LampError,
     C_BadLamp := C_BadLamp, g_BadLamp := PySem.W.mg_of X G gc_BadLamp,
     fI_BadLamp := fI_BadLamp, fdI_BadLamp := _, X_BadLamp := ⟨PySem.W.mg_of X G gc_BadLamp, ⟨⟨_, _, _, _, _, _, _, _, _, _, _, _, _, _, _, xL_BadLamp, by rfl⟩, sa_BadLamp, eC_BadLamp, tC_BadLamp, kC_BadLamp⟩, iC_BadLamp, tI_BadLamp, no_BadLamp, ⟨ga_BadLamp, gg_BadLamp, eC_BadLamp, hd_BadLamp⟩, ⟨ha_BadLamp, hn_BadLamp, ht_BadLamp, hm_BadLamp⟩, fun_mk (st := s_X_BadLamp) lI_BadLamp cI_BadLamp kI_BadLamp, (fun_mk (st := s_X_BadLamp) lI_BadLamp cI_BadLamp kI_BadLamp).binds (ps := ["self", "value"]) fun _ _ _ _ _ _ us hl => match us, hl with | [_, _], _ => rfl⟩,
     C_BadLog := C_BadLog, g_BadLog := PySem.W.mg_of X G gc_BadLog,
     fI_BadLog := fI_BadLog, fdI_BadLog := _, X_BadLog := ⟨PySem.W.mg_of X G gc_BadLog, ⟨⟨_, _, _, _, _, _, _, _, _, _, _, _, _, _, _, xL_BadLog, by rfl⟩, sa_BadLog, eC_BadLog, tC_BadLog, kC_BadLog⟩, iC_BadLog, tI_BadLog, no_BadLog, ⟨ga_BadLog, gg_BadLog, eC_BadLog, hd_BadLog⟩, ⟨ha_BadLog, hn_BadLog, ht_BadLog, hm_BadLog⟩, fun_mk (st := s_X_BadLog) lI_BadLog cI_BadLog kI_BadLog, (fun_mk (st := s_X_BadLog) lI_BadLog cI_BadLog kI_BadLog).binds (ps := ["self", "error"]) fun _ _ _ _ _ _ us hl => match us, hl with | [_, _], _ => rfl⟩,
     C_NoIndex := C_NoIndex, g_NoIndex := PySem.W.mg_of X G gc_NoIndex,
     fI_NoIndex := fI_NoIndex, fdI_NoIndex := _, X_NoIndex := ⟨PySem.W.mg_of X G gc_NoIndex, ⟨⟨_, _, _, _, _, _, _, _, _, _, _, _, _, _, _, xL_NoIndex, by rfl⟩, sa_NoIndex, eC_NoIndex, tC_NoIndex, kC_NoIndex⟩, iC_NoIndex, tI_NoIndex, no_NoIndex, ⟨ga_NoIndex, gg_NoIndex, eC_NoIndex, hd_NoIndex⟩, ⟨ha_NoIndex, hn_NoIndex, ht_NoIndex, hm_NoIndex⟩, fun_mk (st := s_X_NoIndex) lI_NoIndex cI_NoIndex kI_NoIndex, (fun_mk (st := s_X_NoIndex) lI_NoIndex cI_NoIndex kI_NoIndex).binds (ps := ["self", "index"]) fun _ _ _ _ _ _ us hl => match us, hl with | [_, _], _ => rfl⟩,
     C_NoMinute := C_NoMinute, g_NoMinute := PySem.W.mg_of X G gc_NoMinute,
     fI_NoMinute := fI_NoMinute, fdI_NoMinute := _, X_NoMinute := ⟨PySem.W.mg_of X G gc_NoMinute, ⟨⟨_, _, _, _, _, _, _, _, _, _, _, _, _, _, _, xL_NoMinute, by rfl⟩, sa_NoMinute, eC_NoMinute, tC_NoMinute, kC_NoMinute⟩, iC_NoMinute, tI_NoMinute, no_NoMinute, ⟨ga_NoMinute, gg_NoMinute, eC_NoMinute, hd_NoMinute⟩, ⟨ha_NoMinute, hn_NoMinute, ht_NoMinute, hm_NoMinute⟩, fun_mk (st := s_X_NoMinute) lI_NoMinute cI_NoMinute kI_NoMinute, (fun_mk (st := s_X_NoMinute) lI_NoMinute cI_NoMinute kI_NoMinute).binds (ps := ["self", "value"]) fun _ _ _ _ _ _ us hl => match us, hl with | [_, _], _ => rfl⟩,
     C_OtherCount := C_OtherCount, g_OtherCount := PySem.W.mg_of X G gc_OtherCount,
     fI_OtherCount := fI_OtherCount, fdI_OtherCount := _, X_OtherCount := ⟨PySem.W.mg_of X G gc_OtherCount, ⟨⟨_, _, _, _, _, _, _, _, _, _, _, _, _, _, _, xL_OtherCount, by rfl⟩, sa_OtherCount, eC_OtherCount, tC_OtherCount, kC_OtherCount⟩, iC_OtherCount, tI_OtherCount, no_OtherCount, ⟨ga_OtherCount, gg_OtherCount, eC_OtherCount, hd_OtherCount⟩, ⟨ha_OtherCount, hn_OtherCount, ht_OtherCount, hm_OtherCount⟩, fun_mk (st := s_X_OtherCount) lI_OtherCount cI_OtherCount kI_OtherCount, (fun_mk (st := s_X_OtherCount) lI_OtherCount cI_OtherCount kI_OtherCount).binds (ps := ["self", "count"]) fun _ _ _ _ _ _ us hl => match us, hl with | [_, _], _ => rfl⟩,
     C_TooLarge := C_TooLarge, g_TooLarge := PySem.W.mg_of X G gc_TooLarge,
     fI_TooLarge := fI_TooLarge, fdI_TooLarge := _, X_TooLarge := ⟨PySem.W.mg_of X G gc_TooLarge, ⟨⟨_, _, _, _, _, _, _, _, _, _, _, _, _, _, _, xL_TooLarge, by rfl⟩, sa_TooLarge, eC_TooLarge, tC_TooLarge, kC_TooLarge⟩, iC_TooLarge, tI_TooLarge, no_TooLarge, ⟨ga_TooLarge, gg_TooLarge, eC_TooLarge, hd_TooLarge⟩, ⟨ha_TooLarge, hn_TooLarge, ht_TooLarge, hm_TooLarge⟩, fun_mk (st := s_X_TooLarge) lI_TooLarge cI_TooLarge kI_TooLarge, (fun_mk (st := s_X_TooLarge) lI_TooLarge cI_TooLarge kI_TooLarge).binds (ps := ["self", "limit"]) fun _ _ _ _ _ _ us hl => match us, hl with | [_, _], _ => rfl⟩,
     C_Unexplained := C_Unexplained, g_Unexplained := PySem.W.mg_of X G gc_Unexplained,
     fI_Unexplained := fI_Unexplained, fdI_Unexplained := _, X_Unexplained := ⟨PySem.W.mg_of X G gc_Unexplained, ⟨⟨_, _, _, _, _, _, _, _, _, _, _, _, _, _, _, xL_Unexplained, by rfl⟩, sa_Unexplained, eC_Unexplained, tC_Unexplained, kC_Unexplained⟩, iC_Unexplained, tI_Unexplained, no_Unexplained, ⟨ga_Unexplained, gg_Unexplained, eC_Unexplained, hd_Unexplained⟩, ⟨ha_Unexplained, hn_Unexplained, ht_Unexplained, hm_Unexplained⟩, fun_mk (st := s_X_Unexplained) lI_Unexplained cI_Unexplained kI_Unexplained, (fun_mk (st := s_X_Unexplained) lI_Unexplained cI_Unexplained kI_Unexplained).binds (ps := ["self", "reason"]) fun _ _ _ _ _ _ us hl => match us, hl with | [_, _], _ => rfl⟩,
     kit0 := kit0,
     kit1 := kit1,
     kit2 := kit2,
     kit3 := kit3,
     kit4 := kit4,
     kit5 := kit5,
     kit6 := kit6,
     z_ValueError := PySem.W.mg_none_of X G z_ValueError,
     z_abs := PySem.W.mg_none_of X G z_abs,
     z_enumerate := PySem.W.mg_none_of X G z_enumerate,
     z_int := PySem.W.mg_none_of X G z_int,
     z_isinstance := PySem.W.mg_none_of X G z_isinstance,
     z_len := PySem.W.mg_none_of X G z_len,
     z_list := PySem.W.mg_none_of X G z_list,
     z_max := PySem.W.mg_none_of X G z_max,
     z_min := PySem.W.mg_none_of X G z_min,
     z_range := PySem.W.mg_none_of X G z_range,
     z_repr := PySem.W.mg_none_of X G z_repr,
     z_tuple := PySem.W.mg_none_of X G z_tuple,
     z_zip := PySem.W.mg_none_of X G z_zip,
     t_MAX_MINUTE := t_MAX_MINUTE, c_MAX_MINUTE := PySem.W.mg_of X G c_MAX_MINUTE }, _, _, _, _, _, _, _, rfl, Lg.tab_in a18 l18 rfl tabL tabE, tabN⟩
theorem law_end {l : PySem.W.OpenLaw} {q : Program} {w : World} {K : PySem.W.Frag} {mg : Str → Option Value} {fa : Addr} (hrec : ((recsOf q).find? fun e => e.name == ("law" : Str)).isSome = true) (hmg : mg "law" = some (.ref fa))
    (M : ∃ (T : All K mg) (kV dc pm : Value) (an : Option Addr) (ct : Value) (c_ P_ : Addr), T.fd_law = PySem.W.fnOf "law" "law" (defArgs s_law) (defBody s_law) (defScope s_law) .none kV dc pm an (.ref c_) ct ∧ PySem.W.tabIn K "law" = some (c_, P_) ∧ K.lookup P_ = none) :
    ∃ (fd : FuncData) (cs : List (Addr × Addr)) (sp : Sp), (∀ p ∈ cs, ∃ y, PySem.W.tabIn K y = some p ∧ ((recsOf q).find? fun e => e.name == y).isSome = true) ∧ (∀ p ∈ cs, K.lookup p.2 = none) ∧ (∀ (s : Shared) (u : Value), BindsTo s fd ⟨[u], []⟩ [("script", u)]) ∧
      (∀ (H : Hp) (a : Addr) (ns : List Int), ns.length ≤ 63 → (∀ p ∈ cs, H p.2 = some (.tbl #[])) → SqL K H a (ns.map V.int) → sp [.ref a] H (fun v _ => v = .bl true) fun _ _ _ => False) ∧
      ∀ base : Heap, K.In base → base.Ns mainGlobals mg → (∀ p ∈ cs, LamX.TabB base mg p.1 p.2) → FnG l.prog w K mg base CX0 8 fa fd ["script"] sp := by
  obtain ⟨T, kV, dc, pm, an, ct, c_, P_, hfd, ht, hn⟩ := M
  have e : T.f_law = fa := by
    have h := T.D_law.g
    rw [hmg] at h
    exact (Value.ref.inj (Option.some.inj h)).symm
  refine ⟨T.fd_law, [(c_, P_)], sp_lawT K P_, fun p hp => ?_, fun p hp => ?_, fun s u => ?_, fun H a ns hl hH hS => ?_, fun base _ _ TB => ?_⟩
  · rw [List.mem_singleton.mp hp]
    exact ⟨"law", ht, hrec⟩
  · rw [List.mem_singleton.mp hp]
    exact hn
  · rw [hfd]
    exact BindsTo.of_eq rfl
  · exact ⟨a, ns, rfl, hS, hl, hH _ List.mem_cons_self, fun _ => rfl⟩
  · rw [← e]
    exact ok_law T (by rw [hfd]) (TB _ List.mem_cons_self)
end Lg
open PySem PySem.W PyProof.Rows
set_option maxRecDepth 100000 in
set_option maxHeartbeats 0 in
theorem PySem.Challenge.cw_lampstays_k13_quiet_minutes_and_calls_holds : PySem.Challenge.rw_lampstays_k13_quiet_minutes_and_calls.Holds := by
  w_on; o_law; k_head; (case hw => w_witness2)
  k_fill
  refine Lb.walkGT (l := PySem.Challenge.rw_lampstays_k13_quiet_minutes_and_calls) (n := 63) (k := 8) (x := "script") rfl (by decide) rfl ⟨rfl, by decide, by decide⟩ (fun w h Y => PySem.W.km_in_of Y) ?F
  case F =>
    intro w mg fa h KX G hmg
    refine Lg.law_end (l := PySem.Challenge.rw_lampstays_k13_quiet_minutes_and_calls) rfl hmg ?lmT
    case lmT =>
      refine' Lg.all_mk KX G ?a0 ?l0 ?c0 ?k0 ?a1 ?l1 ?c1 ?k1 ?a2 ?l2 ?c2 ?k2 ?a3 ?l3 ?c3 ?k3 ?a4 ?l4 ?c4 ?k4 ?a5 ?l5 ?c5 ?k5 ?a6 ?l6 ?c6 ?k6 ?a7 ?l7 ?c7 ?k7 ?a8 ?l8 ?c8 ?k8 ?a9 ?l9 ?c9 ?k9 ?a10 ?l10 ?c10 ?k10 ?a11 ?l11 ?c11 ?k11 ?a12 ?l12 ?c12 ?k12 ?a13 ?l13 ?c13 ?k13 ?a14 ?l14 ?c14 ?k14 ?a15 ?l15 ?c15 ?k15 ?a16 ?l16 ?c16 ?k16 ?a17 ?l17 ?c17 ?k17 ?a18 ?l18 ?c18 ?k18 ?gc_LampError ?gc_BadLamp ?xL_BadLamp ?sa_BadLamp ?eC_BadLamp ?tC_BadLamp ?kC_BadLamp ?iC_BadLamp ?tI_BadLamp ?no_BadLamp ?ga_BadLamp ?gg_BadLamp ?hd_BadLamp ?ha_BadLamp ?hn_BadLamp ?ht_BadLamp ?hm_BadLamp ?lI_BadLamp ?cI_BadLamp ?kI_BadLamp ?gc_BadLog ?xL_BadLog ?sa_BadLog ?eC_BadLog ?tC_BadLog ?kC_BadLog ?iC_BadLog ?tI_BadLog ?no_BadLog ?ga_BadLog ?gg_BadLog ?hd_BadLog ?ha_BadLog ?hn_BadLog ?ht_BadLog ?hm_BadLog ?lI_BadLog ?cI_BadLog ?kI_BadLog ?gc_NoIndex ?xL_NoIndex ?sa_NoIndex ?eC_NoIndex ?tC_NoIndex ?kC_NoIndex ?iC_NoIndex ?tI_NoIndex ?no_NoIndex ?ga_NoIndex ?gg_NoIndex ?hd_NoIndex ?ha_NoIndex ?hn_NoIndex ?ht_NoIndex ?hm_NoIndex ?lI_NoIndex ?cI_NoIndex ?kI_NoIndex ?gc_NoMinute ?xL_NoMinute ?sa_NoMinute ?eC_NoMinute ?tC_NoMinute ?kC_NoMinute ?iC_NoMinute ?tI_NoMinute ?no_NoMinute ?ga_NoMinute ?gg_NoMinute ?hd_NoMinute ?ha_NoMinute ?hn_NoMinute ?ht_NoMinute ?hm_NoMinute ?lI_NoMinute ?cI_NoMinute ?kI_NoMinute ?gc_OtherCount ?xL_OtherCount ?sa_OtherCount ?eC_OtherCount ?tC_OtherCount ?kC_OtherCount ?iC_OtherCount ?tI_OtherCount ?no_OtherCount ?ga_OtherCount ?gg_OtherCount ?hd_OtherCount ?ha_OtherCount ?hn_OtherCount ?ht_OtherCount ?hm_OtherCount ?lI_OtherCount ?cI_OtherCount ?kI_OtherCount ?gc_TooLarge ?xL_TooLarge ?sa_TooLarge ?eC_TooLarge ?tC_TooLarge ?kC_TooLarge ?iC_TooLarge ?tI_TooLarge ?no_TooLarge ?ga_TooLarge ?gg_TooLarge ?hd_TooLarge ?ha_TooLarge ?hn_TooLarge ?ht_TooLarge ?hm_TooLarge ?lI_TooLarge ?cI_TooLarge ?kI_TooLarge ?gc_Unexplained ?xL_Unexplained ?sa_Unexplained ?eC_Unexplained ?tC_Unexplained ?kC_Unexplained ?iC_Unexplained ?tI_Unexplained ?no_Unexplained ?ga_Unexplained ?gg_Unexplained ?hd_Unexplained ?ha_Unexplained ?hn_Unexplained ?ht_Unexplained ?hm_Unexplained ?lI_Unexplained ?cI_Unexplained ?kI_Unexplained ?kit0 ?kit1 ?kit2 ?kit3 ?kit4 ?kit5 ?kit6 ?z_ValueError ?z_abs ?z_enumerate ?z_int ?z_isinstance ?z_len ?z_list ?z_max ?z_min ?z_range ?z_repr ?z_tuple ?z_zip ?c_MAX_MINUTE ?tabC ?tabL ?tabE ?tabN
      (case a0 => k_is)
      (case l0 => k_is)
      (case c0 => k_is)
      (case k0 => k_is)
      (case a1 => k_is)
      (case l1 => k_is)
      (case c1 => k_is)
      (case k1 => k_is)
      (case a2 => k_is)
      (case l2 => k_is)
      (case c2 => k_is)
      (case k2 => k_is)
      (case a3 => k_is)
      (case l3 => k_is)
      (case c3 => k_is)
      (case k3 => k_is)
      (case a4 => k_is)
      (case l4 => k_is)
      (case c4 => k_is)
      (case k4 => k_is)
      (case a5 => k_is)
      (case l5 => k_is)
      (case c5 => k_is)
      (case k5 => k_is)
      (case a6 => k_is)
      (case l6 => k_is)
      (case c6 => k_is)
      (case k6 => k_is)
      (case a7 => k_is)
      (case l7 => k_is)
      (case c7 => k_is)
      (case k7 => k_is)
      (case a8 => k_is)
      (case l8 => k_is)
      (case c8 => k_is)
      (case k8 => k_is)
      (case a9 => k_is)
      (case l9 => k_is)
      (case c9 => k_is)
      (case k9 => k_is)
      (case a10 => k_is)
      (case l10 => k_is)
      (case c10 => k_is)
      (case k10 => k_is)
      (case a11 => k_is)
      (case l11 => k_is)
      (case c11 => k_is)
      (case k11 => k_is)
      (case a12 => k_is)
      (case l12 => k_is)
      (case c12 => k_is)
      (case k12 => k_is)
      (case a13 => k_is)
      (case l13 => k_is)
      (case c13 => k_is)
      (case k13 => k_is)
      (case a14 => k_is)
      (case l14 => k_is)
      (case c14 => k_is)
      (case k14 => k_is)
      (case a15 => k_is)
      (case l15 => k_is)
      (case c15 => k_is)
      (case k15 => k_is)
      (case a16 => k_is)
      (case l16 => k_is)
      (case c16 => k_is)
      (case k16 => k_is)
      (case a17 => k_is)
      (case l17 => k_is)
      (case c17 => k_is)
      (case k17 => k_is)
      (case a18 => k_is)
      (case l18 => k_is)
      (case c18 => k_is)
      (case k18 => k_is)
      (case gc_LampError => k_is)
      (case gc_BadLamp => k_is)
      (case xL_BadLamp => k_is)
      (case sa_BadLamp => k_is)
      (case eC_BadLamp => k_is)
      (case tC_BadLamp => k_is)
      (case kC_BadLamp => k_is)
      (case iC_BadLamp => k_is)
      (case tI_BadLamp => k_is)
      (case no_BadLamp => k_is)
      (case ga_BadLamp => k_is)
      (case gg_BadLamp => k_is)
      (case hd_BadLamp => k_is)
      (case ha_BadLamp => k_is)
      (case hn_BadLamp => k_is)
      (case ht_BadLamp => k_is)
      (case hm_BadLamp => k_is)
      (case lI_BadLamp => k_is)
      (case cI_BadLamp => k_is)
      (case kI_BadLamp => k_is)
      (case gc_BadLog => k_is)
      (case xL_BadLog => k_is)
      (case sa_BadLog => k_is)
      (case eC_BadLog => k_is)
      (case tC_BadLog => k_is)
      (case kC_BadLog => k_is)
      (case iC_BadLog => k_is)
      (case tI_BadLog => k_is)
      (case no_BadLog => k_is)
      (case ga_BadLog => k_is)
      (case gg_BadLog => k_is)
      (case hd_BadLog => k_is)
      (case ha_BadLog => k_is)
      (case hn_BadLog => k_is)
      (case ht_BadLog => k_is)
      (case hm_BadLog => k_is)
      (case lI_BadLog => k_is)
      (case cI_BadLog => k_is)
      (case kI_BadLog => k_is)
      (case gc_NoIndex => k_is)
      (case xL_NoIndex => k_is)
      (case sa_NoIndex => k_is)
      (case eC_NoIndex => k_is)
      (case tC_NoIndex => k_is)
      (case kC_NoIndex => k_is)
      (case iC_NoIndex => k_is)
      (case tI_NoIndex => k_is)
      (case no_NoIndex => k_is)
      (case ga_NoIndex => k_is)
      (case gg_NoIndex => k_is)
      (case hd_NoIndex => k_is)
      (case ha_NoIndex => k_is)
      (case hn_NoIndex => k_is)
      (case ht_NoIndex => k_is)
      (case hm_NoIndex => k_is)
      (case lI_NoIndex => k_is)
      (case cI_NoIndex => k_is)
      (case kI_NoIndex => k_is)
      (case gc_NoMinute => k_is)
      (case xL_NoMinute => k_is)
      (case sa_NoMinute => k_is)
      (case eC_NoMinute => k_is)
      (case tC_NoMinute => k_is)
      (case kC_NoMinute => k_is)
      (case iC_NoMinute => k_is)
      (case tI_NoMinute => k_is)
      (case no_NoMinute => k_is)
      (case ga_NoMinute => k_is)
      (case gg_NoMinute => k_is)
      (case hd_NoMinute => k_is)
      (case ha_NoMinute => k_is)
      (case hn_NoMinute => k_is)
      (case ht_NoMinute => k_is)
      (case hm_NoMinute => k_is)
      (case lI_NoMinute => k_is)
      (case cI_NoMinute => k_is)
      (case kI_NoMinute => k_is)
      (case gc_OtherCount => k_is)
      (case xL_OtherCount => k_is)
      (case sa_OtherCount => k_is)
      (case eC_OtherCount => k_is)
      (case tC_OtherCount => k_is)
      (case kC_OtherCount => k_is)
      (case iC_OtherCount => k_is)
      (case tI_OtherCount => k_is)
      (case no_OtherCount => k_is)
      (case ga_OtherCount => k_is)
      (case gg_OtherCount => k_is)
      (case hd_OtherCount => k_is)
      (case ha_OtherCount => k_is)
      (case hn_OtherCount => k_is)
      (case ht_OtherCount => k_is)
      (case hm_OtherCount => k_is)
      (case lI_OtherCount => k_is)
      (case cI_OtherCount => k_is)
      (case kI_OtherCount => k_is)
      (case gc_TooLarge => k_is)
      (case xL_TooLarge => k_is)
      (case sa_TooLarge => k_is)
      (case eC_TooLarge => k_is)
      (case tC_TooLarge => k_is)
      (case kC_TooLarge => k_is)
      (case iC_TooLarge => k_is)
      (case tI_TooLarge => k_is)
      (case no_TooLarge => k_is)
      (case ga_TooLarge => k_is)
      (case gg_TooLarge => k_is)
      (case hd_TooLarge => k_is)
      (case ha_TooLarge => k_is)
      (case hn_TooLarge => k_is)
      (case ht_TooLarge => k_is)
      (case hm_TooLarge => k_is)
      (case lI_TooLarge => k_is)
      (case cI_TooLarge => k_is)
      (case kI_TooLarge => k_is)
      (case gc_Unexplained => k_is)
      (case xL_Unexplained => k_is)
      (case sa_Unexplained => k_is)
      (case eC_Unexplained => k_is)
      (case tC_Unexplained => k_is)
      (case kC_Unexplained => k_is)
      (case iC_Unexplained => k_is)
      (case tI_Unexplained => k_is)
      (case no_Unexplained => k_is)
      (case ga_Unexplained => k_is)
      (case gg_Unexplained => k_is)
      (case hd_Unexplained => k_is)
      (case ha_Unexplained => k_is)
      (case hn_Unexplained => k_is)
      (case ht_Unexplained => k_is)
      (case hm_Unexplained => k_is)
      (case lI_Unexplained => k_is)
      (case cI_Unexplained => k_is)
      (case kI_Unexplained => k_is)
      (case kit0 => first | kit_is | kts_exm)
      (case kit1 => first | kit_is | kts_exm)
      (case kit2 => first | kit_is | kts_exm)
      (case kit3 => first | kit_is | kts_exm)
      (case kit4 => first | kit_is | kts_exm)
      (case kit5 => first | kit_is | kts_exm)
      (case kit6 => first | kit_is | kts_exm)
      (case z_ValueError => k_is)
      (case z_abs => k_is)
      (case z_enumerate => k_is)
      (case z_int => k_is)
      (case z_isinstance => k_is)
      (case z_len => k_is)
      (case z_list => k_is)
      (case z_max => k_is)
      (case z_min => k_is)
      (case z_range => k_is)
      (case z_repr => k_is)
      (case z_tuple => k_is)
      (case z_zip => k_is)
      (case c_MAX_MINUTE => k_is)
      (case tabC => rfl)
      (case tabL => k_is)
      (case tabE => rfl)
      (case tabN => kernel_rfl)
