import PyProof.Rows.All
import Wide.All
import OpenK.AllK
import Wide.FinOn
import HandS.ForMost
import HandS.IsInst
import HandS.TupAny
import HandS.More
import HandS.Flow
import HandS.Style
import KE.GoesMore
import HandS.Walk
import PyProof.EqKinds
import KE.KEqDict
import HandS.Wide
import HandS.TryOnly
import KE.KExcIs
import HandS.ExcInit
import HandS.ExcIs
import HandS.ExcField
import HandS.ExcOwn
import HandS.WordsExc
import HandS.TupMul
import HandS.SetFor
import HandS.Strs
import HandS.Zip
import HandS.Text
import HandS.StrMore
import HandS.FStr
import HandS.Codes
import HandS.RaiseMore
import HandS.Conv
import PySem.Challenge.RW_lampstays_k72_other_texts_refused
set_option Elab.async false
set_option linter.all false
set_option maxRecDepth 100000
set_option maxHeartbeats 4000000
namespace Lm
open PySem PySem.Spec PyProof.Rows L2
/-! ### data at values: None, bools, ints, texts, lists, tuples, dicts -/
def kD : L2.Key → PyData
  | .inl i => .int i
  | .inr x => .str x
mutual
inductive Dq (K : PySem.W.Frag) (H : Hp) : V → PyData → Prop
  | non : Dq K H .non .none
  | bl (b : Bool) : Dq K H (.bl b) (.bool b)
  | int (i : Int) : Dq K H (.int i) (.int i)
  | str (x : Str) : Dq K H (.str x) (.str x)
  | lst {a : Addr} {xs : List V} {ds : List PyData} : SqL K H a xs → Dqs K H xs ds → Dq K H (.ref a) (.list ds)
  | tup {a : Addr} {xs : List V} {ds : List PyData} : SqT K H a xs → Dqs K H xs ds → Dq K H (.ref a) (.tuple ds)
  | dct {a : Addr} {kvs : List (L2.Key × V)} {ds : List PyData} : H a = some (.dK kvs) → Dqs K H (kvs.map (·.2)) ds → Dq K H (.ref a) (.dict ((kvs.map fun kv => kD kv.1).zip ds))
inductive Dqs (K : PySem.W.Frag) (H : Hp) : List V → List PyData → Prop
  | nil : Dqs K H [] []
  | cons {v : V} {vs : List V} {d : PyData} {ds : List PyData} : Dq K H v d → Dqs K H vs ds → Dqs K H (v :: vs) (d :: ds)
end
theorem Dqs.len {K : PySem.W.Frag} {H : Hp} : ∀ {vs : List V} {ds : List PyData}, Dqs K H vs ds → vs.length = ds.length
  | _, _, .nil => rfl
  | _, _, .cons _ t => congrArg Nat.succ (Dqs.len t)
theorem Dqs.get {K : PySem.W.Frag} {H : Hp} : ∀ {vs : List V} {ds : List PyData} {i : Nat} {v : V}, Dqs K H vs ds → vs[i]? = some v → ∃ d, ds[i]? = some d ∧ Dq K H v d
  | _, _, _, _, .nil, e => by simp at e
  | _, _, 0, _, .cons r _, e => by simp at e; subst e; exact ⟨_, rfl, r⟩
  | _, _, i + 1, v, .cons _ t, e => by
    obtain ⟨u, h1, h2⟩ := Dqs.get (i := i) (v := v) t (by simpa using e)
    exact ⟨u, by simpa using h1, h2⟩
theorem Dqs.app {K : PySem.W.Frag} {H : Hp} : ∀ {xs ys : List V} {ds es : List PyData}, Dqs K H xs ds → Dqs K H ys es → Dqs K H (xs ++ ys) (ds ++ es)
  | _, _, _, _, .nil, s => s
  | _, _, _, _, .cons r t, s => .cons r (Dqs.app t s)
theorem Dqs.take {K : PySem.W.Frag} {H : Hp} : ∀ {xs : List V} {ds : List PyData} (n : Nat), Dqs K H xs ds → Dqs K H (xs.take n) (ds.take n)
  | _, _, 0, _ => .nil
  | _, _, _ + 1, .nil => .nil
  | _, _, n + 1, .cons r t => .cons r (Dqs.take n t)
theorem Dqs.drop {K : PySem.W.Frag} {H : Hp} : ∀ {xs : List V} {ds : List PyData} (n : Nat), Dqs K H xs ds → Dqs K H (xs.drop n) (ds.drop n)
  | _, _, 0, r => r
  | _, _, _ + 1, .nil => .nil
  | _, _, n + 1, .cons _ t => Dqs.drop n t
theorem Dqs.rev {K : PySem.W.Frag} {H : Hp} : ∀ {xs : List V} {ds : List PyData}, Dqs K H xs ds → Dqs K H xs.reverse ds.reverse
  | _, _, .nil => .nil
  | _, _, .cons r t => by
    rw [List.reverse_cons, List.reverse_cons]
    exact Dqs.app (Dqs.rev t) (.cons r .nil)
theorem Same.seqT {K : PySem.W.Frag} {H H' : Hp} {a : Addr} {xs : List V} (e : Same H H') (h : SqT K H a xs) : SqT K H' a xs := by
  rcases h with (h | ⟨o, h⟩) | h
  · exact .inl (.inl (e a _ h))
  · exact .inl (.inr ⟨o, e a _ h⟩)
  · exact .inr h
mutual
theorem Dq.mono {K : PySem.W.Frag} {H H' : Hp} (s : Same H H') : ∀ {v : V} {d : PyData}, Dq K H v d → Dq K H' v d
  | _, _, .non => .non
  | _, _, .bl b => .bl b
  | _, _, .int i => .int i
  | _, _, .str x => .str x
  | _, _, .lst h t => .lst (s.seq h) (Dqs.mono s t)
  | _, _, .tup h t => .tup (Same.seqT s h) (Dqs.mono s t)
  | _, _, .dct h t => .dct (s _ _ h) (Dqs.mono s t)
theorem Dqs.mono {K : PySem.W.Frag} {H H' : Hp} (s : Same H H') : ∀ {vs : List V} {ds : List PyData}, Dqs K H vs ds → Dqs K H' vs ds
  | _, _, .nil => .nil
  | _, _, .cons h t => .cons (Dq.mono s h) (Dqs.mono s t)
end
/-! ### what such a value is in the heap -/
theorem dk_reads {h : Heap} {P : Program} {w : World} : ∀ {xs : List (L2.Key × V)} {vs : List (L2.Key × Value)} {es : List DictEntry}, KV xs vs → Pairs (mixKind P w) es vs →
    ReadsAll h (es.map (·.key)) (xs.map fun kv => kD kv.1) [] ∧ Vals (xs.map (·.2)) (es.map (·.val))
  | _, _, _, .nil, .nil => ⟨.nil, .nil⟩
  | p :: xs, kv :: vs, en :: es, .cons r t, .cons q e u => by
    obtain ⟨h1, h2⟩ := dk_reads (h := h) t u
    obtain ⟨r1, r2⟩ := r
    refine ⟨?_, .cons (by show L2.RelV p.2 en.val; rw [e]; exact r2) h2⟩
    have q' : keyIs kv.1 en.key = true := q
    rw [← r1] at q'
    show ReadsAll h (en.key :: _) (kD p.1 :: _) []
    rcases keyIs_shape q' with ⟨i, t, e1, e2⟩ | ⟨x, t, e1, e2⟩
    · rw [e1, e2]
      exact ReadsAll.cons (as := []) (bs := []) (.int i t) h1
    · rw [e1, e2]
      exact ReadsAll.cons (as := []) (bs := []) (.str x t) h1
section
variable {X : Cx} {pins : List (Addr × Obj)} {σ : L2.St} {H : Hp} {s : Shared}
mutual
theorem Dq.reads (I : Inv X pins σ H s) : ∀ {v : V} {d : PyData} (u : Value), Dq X.K H v d → L2.RelV v u → ∃ as, Reads s.heap u d as
  | _, _, u, .non, r => by cases r; exact ⟨_, .none⟩
  | _, _, u, .bl b, r => by cases r; exact ⟨_, .bool b⟩
  | _, _, u, .int i, r => by obtain ⟨t, rfl⟩ := r; exact ⟨_, .int i t⟩
  | _, _, u, .str x, r => by obtain ⟨t, rfl⟩ := r; exact ⟨_, .str x t⟩
  | _, _, u, .lst hs ha, r => by
    cases r
    obtain ⟨its, rv, ⟨o, n, ho, hc, _, hd⟩, _⟩ := I.list hs
    obtain ⟨as, hr⟩ := Dqs.reads I its ha rv
    exact ⟨_, .list ho hc hd hr⟩
  | _, _, u, .tup hs ha, r => by
    cases r
    obtain ⟨its, rv, ⟨o, ho, hc, n, hd⟩, _⟩ := I.tuple hs
    obtain ⟨as, hr⟩ := Dqs.reads I its ha rv
    exact ⟨_, .tuple ho hc hd hr⟩
  | _, _, u, .dct (kvs := kvs) (ds := ds) hs ha, r => by
    cases r
    obtain ⟨_, hne, vs, kv, o, es, ep, ho, ex, hd, _, pr, _⟩ := I.hok _ _ hs
    obtain ⟨h1, h2⟩ := dk_reads (h := s.heap) kv pr
    obtain ⟨bs, hr⟩ := Dqs.reads I _ ha h2
    have hl := ha.len
    rw [List.length_map] at hl
    refine ⟨_, Reads.dict (as := []) (bs := bs) ho ex.1 hd ?_ ?_⟩
    · rw [List.map_fst_zip (by rw [List.length_map]; omega)]
      exact h1
    · rw [List.map_snd_zip (by rw [List.length_map]; omega)]
      exact hr
theorem Dqs.reads (I : Inv X pins σ H s) : ∀ {vs : List V} {ds : List PyData} (us : List Value), Dqs X.K H vs ds → Vals vs us → ∃ as, ReadsAll s.heap us ds as
  | _, _, us, .nil, r => by cases r; exact ⟨_, .nil⟩
  | _, _, us, .cons h1 h2, r => by
    cases r with
    | cons r1 r2 =>
      obtain ⟨as, q1⟩ := Dq.reads I _ h1 r1
      obtain ⟨bs, q2⟩ := Dqs.reads I _ h2 r2
      exact ⟨_, .cons q1 q2⟩
end
/-- keys of a dict have their text at any level -/
theorem keys_reprK {h : Heap} {P : Program} {w : World} : ∀ (xs : List (L2.Key × V)) {vs : List (L2.Key × Value)} {es : List DictEntry} {bs : List Addr} {n : Nat}, KV xs vs → Pairs (mixKind P w) es vs →
    PyData.showableAll (xs.map fun kv => kD kv.1) = true → (∀ t ∈ PyData.shownAll (xs.map fun kv => kD kv.1), t.length ≤ sizeLine) →
    ReprAllK P w bs h n (es.map (·.key)) (PyData.shownAll (xs.map fun kv => kD kv.1))
  | [], _, _, _, _, .nil, .nil, _, _ => .nil
  | p :: xs, kv :: vs, en :: es, bs, n, .cons r t, .cons q e u, hs, hz => by
    have hs' : (kD p.1).showable = true ∧ PyData.showableAll (xs.map fun kv => kD kv.1) = true := by simpa [PyData.showableAll] using hs
    have q' : keyIs kv.1 en.key = true := q
    rw [← r.1] at q'
    have z1 := hz (kD p.1).shown (by simp [PyData.shownAll])
    refine .cons (show ReprK P w bs h n en.key (kD p.1).shown from ?_) (keys_reprK xs t u hs'.2 fun t ht => hz t (by simp only [List.map_cons, PyData.shownAll]; exact List.mem_cons_of_mem _ ht))
    rcases keyIs_shape q' with ⟨i, t, e1, e2⟩ | ⟨x, t, e1, e2⟩
    · rw [e2]
      have y := hs'.1
      rw [e1] at y ⊢
      exact ReprK.of_is (ReprIs.int t (by simpa [PyData.showable, kD] using y)) _ _ _
    · rw [e2]
      rw [e1] at z1 ⊢
      exact ReprK.of_is (ReprIs.str x t (by simpa only [PyData.shown, kD] using z1)) _ _ _
mutual
theorem Dq.textK (I : Inv X pins σ H s) : ∀ {v : V} {d : PyData} (u : Value), Dq X.K H v d → L2.RelV v u → d.showable = true → d.shown.length ≤ sizeLine →
    ∃ bs, ReadAtMost s.heap d.depth bs ∧ ReprK X.prog X.w bs s.heap d.depth u d.shown
  | _, _, u, .non, r, _, _ => by
    cases r
    exact ⟨[], fun _ h => (nomatch h), by simp only [PyData.shown]; exact .of_is ReprIs.none _ _ _⟩
  | _, _, u, .bl b, r, _, _ => by
    cases r
    exact ⟨[], fun _ h => (nomatch h), by simp only [PyData.shown]; exact .of_is (ReprIs.bool b) _ _ _⟩
  | _, _, u, .int i, r, hs, _ => by
    obtain ⟨t, rfl⟩ := r
    exact ⟨[], fun _ h => (nomatch h), by simp only [PyData.shown]; exact .of_is (ReprIs.int t (by simpa [PyData.showable] using hs)) _ _ _⟩
  | _, _, u, .str x, r, _, hz => by
    obtain ⟨t, rfl⟩ := r
    exact ⟨[], fun _ h => (nomatch h), by simp only [PyData.shown]; exact .of_is (ReprIs.str x t (by simpa only [PyData.shown] using hz)) _ _ _⟩
  | _, _, u, .lst (ds := ds) hq ha, r, hs, hz => by
    obtain ⟨as, rd⟩ := Dq.reads I u (.lst hq ha) r
    cases r
    obtain ⟨its, rv, ⟨o, n, ho, hc, _, hd⟩, _⟩ := I.list hq
    have z : (listText (PyData.shownAll ds)).length ≤ sizeLine := by simpa only [PyData.shown] using hz
    obtain ⟨bs, hb, hk⟩ := Dqs.textK I its ha rv (by simpa [PyData.showable] using hs) fun t ht => Nat.le_trans (listText_mem_le ht) z
    have hn := not_mem_of_deeper rd (by simp only [PyData.depth]; omega) hb
    refine ⟨_, ReadAtMost.cons rd (by simp only [PyData.depth]; omega) hb, ?_⟩
    simp only [PyData.depth, PyData.shown]
    cases its with
    | nil =>
      cases rv
      cases ha
      simp only [PyData.shownAll, listText_nil]
      exact ReprK.listEmpty ho hc hd
    | cons x l => exact ReprK.list ho hc hd hn (by simpa using hk.length_eq) fun i y e => hk.item i y (by simpa using e)
  | _, _, u, .tup (ds := ds) hq ha, r, hs, hz => by
    obtain ⟨as, rd⟩ := Dq.reads I u (.tup hq ha) r
    cases r
    obtain ⟨its, rv, ⟨o, ho, hc, n, hd⟩, _⟩ := I.tuple hq
    have z : (tupleText (PyData.shownAll ds)).length ≤ sizeLine := by simpa only [PyData.shown] using hz
    obtain ⟨bs, hb, hk⟩ := Dqs.textK I its ha rv (by simpa [PyData.showable] using hs) fun t ht => Nat.le_trans (tupleText_mem_le ht) z
    have hn := not_mem_of_deeper rd (by simp only [PyData.depth]; omega) hb
    refine ⟨_, ReadAtMost.cons rd (by simp only [PyData.depth]; omega) hb, ?_⟩
    simp only [PyData.depth, PyData.shown]
    exact ReprK.tuple ho hc hd hn hk
  | _, _, u, .dct (kvs := kvs) (ds := ds) hq ha, r, hs, hz => by
    obtain ⟨as, rd⟩ := Dq.reads I u (.dct hq ha) r
    cases r
    obtain ⟨_, hne, vs, kv, o, es, ep, ho, ex, hd, _, pr, _⟩ := I.hok _ _ hq
    have hl := ha.len
    rw [List.length_map] at hl
    have f1 : ((kvs.map fun kv => kD kv.1).zip ds).map (·.1) = kvs.map fun kv => kD kv.1 := List.map_fst_zip (by rw [List.length_map]; omega)
    have f2 : ((kvs.map fun kv => kD kv.1).zip ds).map (·.2) = ds := List.map_snd_zip (by rw [List.length_map]; omega)
    have z : (dictText (PyData.shownKv ((kvs.map fun kv => kD kv.1).zip ds))).length ≤ sizeLine := by simpa only [PyData.shown] using hz
    obtain ⟨s1, s2⟩ := PyData.showableKv_split _ (show PyData.showableKv ((kvs.map fun kv => kD kv.1).zip ds) = true by simpa [PyData.showable] using hs)
    have zk := fun t ht => (let ⟨p, hp, l⟩ := PyData.shownKv_key_le ((kvs.map fun kv => kD kv.1).zip ds) t ht; Nat.le_trans l (Nat.le_trans (dictText_mem_le hp) z))
    have zv := fun t ht => (let ⟨p, hp, l⟩ := PyData.shownKv_val_le ((kvs.map fun kv => kD kv.1).zip ds) t ht; Nat.le_trans l (Nat.le_trans (dictText_mem_le hp) z))
    have dv := PyData.depthAll_vals_le ((kvs.map fun kv => kD kv.1).zip ds)
    rw [f1] at s1 zk
    rw [f2] at s2 zv dv
    obtain ⟨bs, hb, hk⟩ := Dqs.textK I _ ha (dk_reads (h := s.heap) kv pr).2 s2 zv
    have hb' : ReadAtMost s.heap (PyData.depthKv ((kvs.map fun kv => kD kv.1).zip ds)) bs := hb.mono dv
    have hn := not_mem_of_deeper rd (by simp only [PyData.depth]; omega) hb'
    refine ⟨_, ReadAtMost.cons rd (by simp only [PyData.depth]; omega) hb', ?_⟩
    simp only [PyData.depth, PyData.shown, PyData.shownKv_eq, f1, f2]
    exact ReprK.dict ho ex.1 hd hne hn (ReprEntriesK.of_two es.toList _ _ (keys_reprK kvs kv pr s1 zk) (hk.more_le (fun b hb => hb) dv))
theorem Dqs.textK (I : Inv X pins σ H s) : ∀ {vs : List V} {ds : List PyData} (us : List Value), Dqs X.K H vs ds → Vals vs us → PyData.showableAll ds = true → (∀ t ∈ PyData.shownAll ds, t.length ≤ sizeLine) →
    ∃ bs, ReadAtMost s.heap (PyData.depthAll ds) bs ∧ ReprAllK X.prog X.w bs s.heap (PyData.depthAll ds) us (PyData.shownAll ds)
  | _, _, us, .nil, r, _, _ => by
    cases r
    exact ⟨[], fun _ h => (nomatch h), by simp only [PyData.shownAll]; exact .nil⟩
  | _, _, us, .cons (d := d) (ds := ds) h1 h2, r, hs, hz => by
    cases r with
    | cons r1 r2 =>
      have hs' : d.showable = true ∧ PyData.showableAll ds = true := by simpa [PyData.showableAll] using hs
      obtain ⟨b1, p1, k1⟩ := Dq.textK I _ h1 r1 hs'.1 (hz _ (by simp only [PyData.shownAll]; exact List.mem_cons_self ..))
      obtain ⟨b2, p2, k2⟩ := Dqs.textK I _ h2 r2 hs'.2 fun t ht => hz t (by simp only [PyData.shownAll]; exact List.mem_cons_of_mem _ ht)
      refine ⟨b1 ++ b2, ?_, ?_⟩
      · simp only [PyData.depthAll]
        exact (p1.mono (Nat.le_max_left _ _)).append (p2.mono (Nat.le_max_right _ _))
      · simp only [PyData.depthAll, PyData.shownAll]
        exact .cons ((k1.more fun b hb => List.mem_append_left _ hb).level_le (Nat.le_max_left _ _)) (k2.more_le (fun b hb => List.mem_append_right _ hb) (Nat.le_max_right _ _))
end
end
/-! ### repr of data -/
/-- what repr takes: numbers that have a text, few levels, a text that fits -/
structure Fine (d : PyData) : Prop where
  sh : d.showable = true
  dp : d.depth ≤ 100
  sz : d.shown.length ≤ sizeLine
def rRepr (K : PySem.W.Frag) : List V → Hp → VK → Prop := fun xs H Q => ∃ v d, xs = [v] ∧ Dq K H v d ∧ Fine d ∧ Q (.str d.shown) H
theorem call_reprD {X : Cx} {k : Nat} (hg : X.A.guards = some []) (hr : Room k X.A) : CallR X (.builtin "repr") (rRepr X.K) := by
  intro pins s σ H xs us Q I r h
  obtain ⟨v, d, rfl, hd, F, q⟩ := h
  obtain ⟨u, rfl, ru⟩ := vals1 r
  have hun := hr.un
  have hdp := F.dp
  have hsz := F.sz
  have hsh := F.sh
  have fin : ∀ (h' : Heap) (t : Tok) (tk : Nat), (∀ b o, s.heap.get? b = some o → h'.get? b = some o) → EP X pins σ Q (.str d.shown t) { s with heap := h', toks := tk } :=
    fun h' t tk hk => ⟨.str _, H, I.kept (t' := tk) hk, ⟨_, rfl⟩, q⟩
  cases hd with
  | non => cases ru; exact PySem.P.repr_of_none (by simpa [PyData.shown] using fin s.heap s.toks _ fun _ _ e => e)
  | bl b => cases ru; exact PySem.P.repr_of_bool (by simpa [PyData.shown] using fin s.heap s.toks _ fun _ _ e => e)
  | int i =>
    obtain ⟨t, rfl⟩ := ru
    exact PySem.P.repr_of_int (by simpa [PyData.showable] using hsh) (by simpa [PyData.shown] using fin s.heap s.toks _ fun _ _ e => e)
  | str x =>
    obtain ⟨t, rfl⟩ := ru
    exact PySem.P.repr_of_str (by simpa [PyData.shown] using fin s.heap s.toks _ fun _ _ e => e) (by simpa [PyData.shown] using hsz)
  | @lst a vs ds hq ha =>
    obtain ⟨as, rd⟩ := Dq.reads I u (.lst hq ha) ru
    cases ru
    obtain ⟨its, rv, ⟨o, n, ho, hc, _, hdt⟩, _⟩ := I.list hq
    have z : (listText (PyData.shownAll ds)).length ≤ sizeLine := by simpa only [PyData.shown] using hsz
    obtain ⟨bs, hb, hk⟩ := Dqs.textK I its ha rv (by simpa [PyData.showable] using hsh) fun t ht => Nat.le_trans (listText_mem_le ht) z
    have hn := not_mem_of_deeper rd (by simp only [PyData.depth]; omega) hb
    simp only [PyData.depth] at hdp
    simp only [PyData.shown] at fin
    refine call_repr_slot (by omega) ⟨o, ho, hc⟩ PySem.F.slot_list_repr.toG ?_
    cases its with
    | nil =>
      cases rv
      cases ha
      simp only [PyData.shownAll, listText_nil] at fin
      exact call_list_repr_empty ⟨o, ho, hc⟩ ho hdt ⟨_, _, rfl, fin s.heap _ _ fun _ _ e => e⟩
    | cons x l =>
      exact call_list_reprK ho hc hdt hn (by simpa using hk.length_eq) (fun i y e => hk.item i y (by simpa using e)) hg (fun b _ => Clear.nil b) (by show X.A.units + 1 + (PyData.depthAll ds + 1) < cLine; omega) (fun _ _ e => e)
        (fun h' u tk e => ⟨_, _, rfl, fin h' u tk e⟩) z
  | @tup a vs ds hq ha =>
    obtain ⟨as, rd⟩ := Dq.reads I u (.tup hq ha) ru
    cases ru
    obtain ⟨its, rv, ⟨o, ho, hc, n, hdt⟩, _⟩ := I.tuple hq
    have z : (tupleText (PyData.shownAll ds)).length ≤ sizeLine := by simpa only [PyData.shown] using hsz
    obtain ⟨bs, hb, hk⟩ := Dqs.textK I its ha rv (by simpa [PyData.showable] using hsh) fun t ht => Nat.le_trans (tupleText_mem_le ht) z
    have hn := not_mem_of_deeper rd (by simp only [PyData.depth]; omega) hb
    simp only [PyData.depth] at hdp
    simp only [PyData.shown] at fin
    refine call_repr_slot (by omega) ⟨o, ho, hc⟩ PySem.F.slot_tuple_repr ?_
    exact call_tuple_reprK ho hc hdt hn hk hg (fun b _ => Clear.nil b) (by show X.A.units + 1 + (PyData.depthAll ds + 1) < cLine; omega) (fun _ _ e => e) (fun h' u tk e => ⟨_, _, rfl, fin h' u tk e⟩) z
  | @dct a kvs ds hq ha =>
    obtain ⟨as, rd⟩ := Dq.reads I u (.dct hq ha) ru
    cases ru
    obtain ⟨_, hne, vs, kv, o, es, ep, ho, ex, hdt, _, pr, _⟩ := I.hok _ _ hq
    have hl := ha.len
    rw [List.length_map] at hl
    have f1 : ((kvs.map fun kv => kD kv.1).zip ds).map (·.1) = kvs.map fun kv => kD kv.1 := List.map_fst_zip (by rw [List.length_map]; omega)
    have f2 : ((kvs.map fun kv => kD kv.1).zip ds).map (·.2) = ds := List.map_snd_zip (by rw [List.length_map]; omega)
    have z : (dictText (PyData.shownKv ((kvs.map fun kv => kD kv.1).zip ds))).length ≤ sizeLine := by simpa only [PyData.shown] using hsz
    obtain ⟨s1, s2⟩ := PyData.showableKv_split _ (show PyData.showableKv ((kvs.map fun kv => kD kv.1).zip ds) = true by simpa [PyData.showable] using hsh)
    have zk := fun t ht => (let ⟨p, hp, l⟩ := PyData.shownKv_key_le ((kvs.map fun kv => kD kv.1).zip ds) t ht; Nat.le_trans l (Nat.le_trans (dictText_mem_le hp) z))
    have zv := fun t ht => (let ⟨p, hp, l⟩ := PyData.shownKv_val_le ((kvs.map fun kv => kD kv.1).zip ds) t ht; Nat.le_trans l (Nat.le_trans (dictText_mem_le hp) z))
    have dv := PyData.depthAll_vals_le ((kvs.map fun kv => kD kv.1).zip ds)
    rw [f1] at s1 zk
    rw [f2] at s2 zv dv
    obtain ⟨bs, hb, hk⟩ := Dqs.textK I _ ha (dk_reads (h := s.heap) kv pr).2 s2 zv
    have hb' : ReadAtMost s.heap (PyData.depthKv ((kvs.map fun kv => kD kv.1).zip ds)) bs := hb.mono dv
    have hn := not_mem_of_deeper rd (by simp only [PyData.depth]; omega) hb'
    simp only [PyData.depth] at hdp
    simp only [PyData.shown, PyData.shownKv_eq, f1, f2] at fin
    rw [PyData.shownKv_eq, f1, f2] at z
    refine call_repr_slot (by omega) ⟨o, ho, ex.1⟩ PySem.F.slot_dict_repr ?_
    exact call_dict_reprK ho ex.1 hdt hne hn (ReprEntriesK.of_two es.toList _ _ (keys_reprK kvs kv pr s1 zk) (hk.more_le (fun b hb => hb) dv)) hg (fun b _ => Clear.nil b)
      (by show X.A.units + 1 + (PyData.depthKv ((kvs.map fun kv => kD kv.1).zip ds) + 1) < cLine; omega) (fun _ _ e => e) (fun h' u tk e => ⟨_, _, rfl, fin h' u tk e⟩) z
end Lm

namespace Lm
open PySem PySem.Spec PyProof.Rows L2
/-! ### a def's promise where no repr runs around -/
structure FnG (P : Program) (w : World) (K : PySem.W.Frag) (mg : Str → Option Value) (base : Heap) (CX : CXT) (k : Nat) (f : Addr) (fd : FuncData) (ps : List Str) (sp : Sp) : Prop where
  len : ∀ vs H Q E, sp vs H Q E → vs.length = ps.length
  go : ∀ (A : Around) (outer : List Env) (s : Shared) (H : Hp) (args : Args) (us : List Value) (vs : List V) (Q : VK) (E : XK), A.guards = some [] → Room k A →
    Env0 P w K mg base A outer s H → BindsTo s fd args (ps.zip us) → Vals vs us → sp vs H Q E → codeAny (model P w) A (.call (.ref f) args) (CR CX outer P w H s Q E) s
section
variable {P : Program} {w : World} {K : PySem.W.Frag} {mg : Str → Option Value} {base : Heap}
theorem FnG.mono {CX : CXT} {j k : Nat} {f : Addr} {fd : FuncData} {ps : List Str} {sp : Sp} (F : FnG P w K mg base CX j f fd ps sp) (h : j ≤ k) : FnG P w K mg base CX k f fd ps sp :=
  ⟨F.len, fun A o s H as us vs Q E g r => F.go A o s H as us vs Q E g (r.mono h)⟩
theorem Fun.okG {x qual : Str} {st : Stmt} {f : Addr} {fd : FuncData} {N ps : List Str} {k : Nat} {sp : Sp} (F : Fun K x qual st f fd) (S : FnScope N ps (defScope st)) (hlen : ∀ vs H Q E, sp vs H Q E → vs.length = ps.length)
    (hb : ∀ (cdv : Value) (A : Around) (outer : List Env) (s : Shared) (H : Hp) (vs : List V) (Q : VK) (E : XK), A.guards = some [] → Room k (A.deeper (envOfC qual (defScope st) s.heap.objs.size f cdv)) → sp vs H Q E →
      ∃ t, PSs (cxOf CX0 P w K mg base N qual (defScope st) f cdv A outer s H E).nox (defBody st) t ∧ t { nx := fun _ H' => Q .non H', rt := Q } (start N vs) H) : FnG P w K mg base CX0 (k + 1) f fd ps sp := by
  obtain ⟨oc, od, kV, doc, pm, an, cdv, ct, osl, rfl, lk, hcd⟩ := F.ex
  refine ⟨hlen, fun A outer s H args us vs Q E g hr e0 bd r hs => ?_⟩
  have hl := hlen _ _ _ _ hs
  have KX : K.In s.heap := e0.mod.kin.keeps fun b o e => (e0.bs b o e).1
  have nl : s.heap.NoLimit := e0.mod.nolimit.keeps fun b o e => (e0.bs b o e).1
  have kinds : ∀ y ∈ ps.zip us, (defScope st).names.lookup y.1 = some .local ∨ ((defScope st).names.lookup y.1 = some .cell ∧ ((cellsFrom (s.heap.objs.size + 1) (defScope st).names []).lookup y.1).isSome = true) := by
    rintro ⟨nm, v⟩ hy
    have hm := (List.of_mem_zip hy).1
    cases S.par nm hm with
    | inl q => exact .inl q
    | inr q => exact .inr ⟨q, PySem.W.cellsFrom_some _ _ _ (.inl q)⟩
  refine codeAny_call_function (hr.depth) (KX _ _ lk) rfl S.co S.gen rfl (PySem.W.codeRec_of KX hcd) (bd _ _ _ _ ?_)
  refine wpAny_newFunctionEnv_cells S.kind kinds ?_
  intro env he s1 x
  subst he
  refine ⟨nl.keeps x.toInCall.keep, codeAny_func ?_⟩
  obtain ⟨t, ht, hq⟩ := hb cdv A outer s H vs Q E g (hr.deeper _) hs
  have J := inv_start (CX := CX0) (E := E) S hr.hd e0 hl r x
  refine wpAny_mono (ht.nox.run [] s1 (start N vs) H _ J hq) ?_ (fun e s' z => z)
  intro fl s' z
  cases fl with
  | ret u => obtain ⟨v, σ2, H2, J2, rv, q⟩ := z; exact ⟨v, H2, J2.os, J2.bare, J2.base, J2.hok, rv, q⟩
  | next => obtain ⟨σ2, H2, J2, q⟩ := z; exact ⟨V.non, H2, J2.os, J2.bare, J2.base, J2.hok, rfl, q⟩
  | brk => obtain ⟨_, _, _, q⟩ := z; exact q.elim
  | cont => obtain ⟨_, _, _, q⟩ := z; exact q.elim
end
/-! ### the law's own call -/
theorem lawCallG {P : Program} {w : World} {K : PySem.W.Frag} {mg mb : Str → Option Value} {k : Nat} {fa a : Addr} {fd : FuncData} {x : Str} {sp : Sp} {s₁ : Shared} {vs : List Value} {ns : List Int}
    (KX : K.In s₁.heap) (hns : s₁.heap.Ns mainGlobals mg) (hb : s₁.heap.Ns builtinsNs mb) (hbb : ∀ x : Str, x ≠ "__name__" → mb x = bootBuiltins x) (hlim : s₁.heap.NoLimit) (hg : s₁.gens = #[])
    (ha : s₁.heap.get? a = some { cls := .type "list", data := .seq vs.toArray }) (hi : IntsAre vs ns) (hl : ns.length ≤ sizeLine) (hr : Room k callerA)
    (F : ∀ base : Heap, K.In base → base.Ns mainGlobals mg → FnG P w K mg base CX0 k fa fd [x] sp) (hbind : ∀ (s : Shared) (u : Value), BindsTo s fd ⟨[u], []⟩ [(x, u)])
    (hsp : ∀ H : Hp, Only H → SqL K H a (ns.map V.int) → sp [.ref a] H (fun v _ => v = .bl true) fun _ _ _ => False) :
    codeAny (model P w) callerA (.call (.ref fa) ⟨[.ref a], []⟩) (fun r s' => r = .ok (.ret (.bool true)) ∧ OldK s₁.heap s'.heap ∧ s'.os = s₁.os ∧ AllBare s'.gens) s₁ := by
  have rv := vals_ints hi
  have ln := hi.length
  have main : ∀ H : Hp, Only H → SqL K H a (ns.map V.int) → HOk P w H s₁.heap → (∀ b, H b ≠ none → b = a) → (H a ≠ none → K.lookup a = none) →
      codeAny (model P w) callerA (.call (.ref fa) ⟨[.ref a], []⟩) (fun r s' => r = .ok (.ret (.bool true)) ∧ OldK s₁.heap s'.heap ∧ s'.os = s₁.os ∧ AllBare s'.gens) s₁ := by
    intro H hO hS ok hA hK
    have nsd : ∀ {b : Addr} {m : Str → Option Value}, s₁.heap.Ns b m → (hidT s₁.heap H).Ns b m := by
      rintro b m ⟨o, es, ep, e, d, r⟩
      refine ⟨o, es, ep, hidT_get e ?_, d, r⟩
      cases q : H b with
      | none => rfl
      | some u =>
        have eb := hA b (by rw [q]; exact fun z => nomatch z)
        rw [eb, ha] at e
        cases e
        cases d
    have hKb : K.In (hidT s₁.heap H) := by
      intro b o e
      refine hidT_get (KX b o e) ?_
      cases q : H b with
      | none => rfl
      | some u =>
        have eb := hA b (by rw [q]; exact fun z => nomatch z)
        rw [eb, hK (by rw [← eb, q]; exact fun z => nomatch z)] at e
        cases e
    obtain ⟨mc, n1, n2⟩ := hlim
    have env : Env0 P w K mg (hidT s₁.heap H) callerA [] s₁ H :=
      { frames := rfl, mod := ⟨hKb, nsd hns, ⟨mb, nsd hb, hbb⟩, ⟨mc, nsd n1, n2⟩⟩, bs := fun b o e => of_hidT e, bsz := Nat.le_of_eq (hidT_size _ _), funs := trivial, frf := (fun b hb => absurd hb (by simp [frs])), hok := ok, bare := .of_eq hg }
    have run := (F _ hKb (nsd hns)).go callerA [] s₁ H ⟨[.ref a], []⟩ [.ref a] [.ref a] _ _ rfl hr env (hbind s₁ (.ref a)) (.cons rfl .nil) (hsp H hO hS)
    refine codeAny_mono run ?_
    intro r s' h
    match r, h with
    | .error e, h => exact False.elim h
    | .ok .next, h => exact False.elim h
    | .ok .brk, h => exact False.elim h
    | .ok .cont, h => exact False.elim h
    | .ok (.ret u), h =>
      obtain ⟨v, H', os, bare, un, ok', r', q⟩ := h
      have q' : v = .bl true := q
      subst q'
      cases (show u = Value.bool true from r')
      refine ⟨rfl, OldK.of_keep (fun b o e => ?_), os, bare⟩
      cases q : H b with
      | none => exact un.keep b o e q (by simp [frs]) (by simp)
      | some u =>
        cases hO b with
        | inl z => rw [q] at z; cases z
        | inr z =>
          obtain ⟨ob, xs, z⟩ := z
          have e1 := (ok b _ z).1
          have e2 := (ok' b _ (un.frzs b ob _ z)).1
          rw [e] at e1
          rw [e2, ← e1]
  cases hk : K.lookup a with
  | some o =>
    have e := KX a o hk
    rw [ha] at e
    cases e
    exact main (fun _ => none) (fun _ => .inl rfl) (.inr ⟨_, vs.toArray, _, hk, rfl, rfl, rfl, by rw [List.size_toArray, ln]; exact hl, by simpa using rv⟩) (fun b u z => nomatch z) (fun b z => absurd rfl z) fun z => absurd rfl z
  | none =>
    have self : ∀ {b : Addr}, (if b = a then some (HO.frz { cls := .type "list", data := .seq vs.toArray } (.lst (ns.map V.int))) else none) ≠ none → b = a := fun {b} z => by
      by_cases e : b = a
      · exact e
      · rw [if_neg e] at z
        exact absurd rfl z
    refine main (fun b => if b = a then some (.frz { cls := .type "list", data := .seq vs.toArray } (.lst (ns.map V.int))) else none) ?_ (.inl (.inr ⟨_, if_pos rfl⟩)) ?_ (fun b z => self z) fun _ => hk
    · intro b
      by_cases e : b = a
      · exact .inr ⟨_, _, if_pos e⟩
      · exact .inl (if_neg e)
    · intro b u z
      dsimp only at z
      have eb := self (b := b) (by rw [z]; exact fun q => nomatch q)
      rw [if_pos eb] at z
      cases z
      rw [eb]
      exact ⟨ha, by rw [List.length_map]; exact hl, vs, _, rv, ha⟩
/-- a law row's end -/
theorem walkG {l : PySem.W.OpenLaw} {n k : Nat} {q : Program} {loose : List Str} {XP : (Str → Option Value) → Heap → Prop} {YP : World → Heap → Prop} {d : DefRec} {K : Params → PySem.W.Frag} {sp : PySem.W.Frag → Sp} {x : Str}
    (hn : l.most = some n) (hn2 : n ≤ sizeLine) (hdf : d.params.defaults = []) (hr : Room k callerA) (hY : ∀ (w : World) (h : Heap), YP w h → (K w.params).In h)
    (F : ∀ (w : World) (mg : Str → Option Value) (fa : Addr) (h : Heap), (K w.params).In h → h.Ns mainGlobals mg → mg d.name = some (.ref fa) →
      ∃ fd : FuncData, (∀ (s : Shared) (u : Value), BindsTo s fd ⟨[u], []⟩ [(x, u)]) ∧
        ∀ base : Heap, (K w.params).In base → base.Ns mainGlobals mg → FnG l.prog w (K w.params) mg base CX0 k fa fd [x] (sp (K w.params)))
    (hsp : ∀ (K : PySem.W.Frag) (H : Hp) (a : Addr) (ns : List Int), ns.length ≤ n → Only H → SqL K H a (ns.map V.int) → sp K [.ref a] H (fun v _ => v = .bl true) fun _ _ _ => False) :
    PySem.W.WalkO q loose XP YP l.row.toRowW d [] (fun f vs => PySem.call f vs) := by
  refine Att.attach_call hn hdf ?_
  intro w s₀ s₁ mg mb fa o pm cd doc a vs ns G Y ho hd hcd hmg hobj hints hlen hg
  obtain ⟨fd, b, f⟩ := F w mg fa _ (hY w _ Y) G.T.g hmg
  exact lawCallG (hY w _ Y) G.T.g G.T.b G.T.builtins G.T.nolimit hg hobj hints (Nat.le_trans hlen hn2) hr f b (fun H hO hS => hsp _ H a ns hlen hO hS)
/-! ### a call of such a def -/
section
variable {X : Cx}
theorem pe_callG {k : Nat} {f : Addr} {fd : FuncData} {ps : List Str} {sp : Sp} {E : XK} {x : Str} {e : Expr} {es : List Expr} {t : TA} {p pos : Pos} (F : FnG X.prog X.w X.K X.mg X.base CX0 k f fd ps sp) (hgd : X.A.guards = some []) (hr : Room k X.A) (hg : Gl X x)
    (hm : X.mg x = some (.ref f)) (hk : PySem.W.keepIn X.K (.ref f) = true) (hb : Binds X.K fd ps []) (ha : PA X (e :: es) t) (hdb : (x == ("__debug__" : Str)) = false := by decide)
    (he : starEach (e :: es) X.env = (false, eval e X.env) :: starEach es X.env := by rfl) (hpl : (backTo pos (starEach es X.env)).any (·.1) = false := by rfl) :
    PE X (.Call (.Name x p) (e :: es) [] pos) (tCall sp [] E0 t) := by
  refine ⟨fun pins s σ H Q I h => ?_⟩
  refine wpAny_Call_Name_kw (ld_glob I hg hm ?_ hdb)
  refine PySem.W.callWith_K (h₀ := X.base) I.ok.mod.kin hk (thn (ha.run pos pins s σ H _ I h) ?_) he hpl
  rintro us s1 ⟨vs, H1, I1, r, q⟩
  refine ⟨I1.kIn, ?_⟩
  have q' : sp vs H1 Q E0 := by simpa using q
  have hl : us.length = ps.length := r.length.symm.trans (F.len _ _ _ _ q')
  have bd := hb s1 us I1.kIn (by simpa using hl)
  simp only [List.append_nil] at bd
  refine wpAny_call (codeAny_mono (F.go X.A X.stack s1 H1 ⟨us, []⟩ us vs Q E0 hgd hr I1.env0 bd r q') ?_)
  intro r s' hq
  match r, hq with
  | .ok (.ret u), hq => exact I1.after hq
  | .ok .next, hq => exact False.elim hq
  | .ok .brk, hq => exact False.elim hq
  | .ok .cont, hq => exact False.elim hq
  | .error e, hq => exact False.elim hq
end
end Lm

namespace Lm
open PySem PySem.Spec PyProof.Rows L2
section
variable {X : Cx} {a b c d : Expr} {ta tb tc td : TE} {pos : Pos}
/-! ### a op1 b op2 c op3 d -/
def tChain3 (r1 r2 r3 : R2) (ta tb tc td : TE) : TE := fun σ H Q => ta σ H fun x H1 => tb σ H1 fun y H2 => r1 x y H2 fun z H3 => ∃ k, z = .bl k ∧
  (if k = true then tc σ H3 fun w H4 => r2 y w H4 fun z2 H5 => ∃ k2, z2 = .bl k2 ∧ (if k2 = true then td σ H5 fun w2 H6 => r3 w w2 H6 Q else Q (.bl false) H5) else Q (.bl false) H3)
theorem pe_chain3 {o1 o2 o3 : CmpOp} {r1 r2 r3 : R2} (h1 : OpR X (compareOp o1) r1) (h2 : OpR X (compareOp o2) r2) (h3 : OpR X (compareOp o3) r3) (ha : PE X a ta) (hb : PE X b tb) (hc : PE X c tc) (hd : PE X d td)
    (hm : lastMarks [o1, o2, o3] [b, c, d] = false := by with_unfolding_all rfl) : PE X (.Compare a [o1, o2, o3] [b, c, d] pos) (tChain3 r1 r2 r3 ta tb tc td) := by
  constructor
  intro pins s σ H Q I h
  refine Compare_chain (thn (ha.run pins s σ H _ I h) ?_) hm
  rintro v s1 ⟨x, H1, I1, e1, q1⟩
  refine chain_link (thn (hb.run pins s1 σ H1 _ I1 q1) ?_)
  rintro u s2 ⟨y, H2, I2, e2, q2⟩
  refine thn (h1 pins s2 σ H2 x y v u _ I2 e1 e2 q2) ?_
  rintro w1 s3 ⟨z, H3, I3, e3, k, rfl, q3⟩
  cases e3
  refine wpAny_truthy_bool ?_
  cases k with
  | false => exact ite_ff ⟨.bl false, H3, I3, rfl, q3⟩
  | true =>
    refine ite_tt (chain_link (thn (hc.run pins s3 σ H3 _ I3 q3) ?_))
    rintro w2 s4 ⟨y4, H4, I4, e4, q4⟩
    refine thn (h2 pins s4 σ H4 y y4 u w2 _ I4 e2 e4 q4) ?_
    rintro w3 s5 ⟨z5, H5, I5, e5, k5, rfl, q5⟩
    cases e5
    refine wpAny_truthy_bool ?_
    cases k5 with
    | false => exact ite_ff ⟨.bl false, H5, I5, rfl, q5⟩
    | true =>
      refine ite_tt (chain_last (thn (hd.run pins s5 σ H5 _ I5 q5) ?_))
      rintro w6 s6 ⟨y6, H6, I6, e6, q6⟩
      exact h3 pins s6 σ H6 y4 y6 w2 w6 Q I6 e4 e6 q6
end
/-! ### t[::-1] of a tuple -/
section
variable {prog : Program} {w : World} {A : Around} {E : Value → Shared → Prop} {s : Shared}
theorem getItem_tuple_back {t sl : Addr} {items : Array Value} {vl vu vs : Value} {Q : Value → Shared → Prop} (ht : IsTup s.heap t items) (hs : s.heap.IsSliceOf sl vl vu vs) (pl : IsPart vl none) (pu : IsPart vu none) (ps : IsPart vs (some (-1)))
    (h : Q (.ref s.heap.objs.size) { s with heap := s.heap.push { cls := .type "tuple", data := .seq items.toList.reverse.toArray } }) (hsz : items.size ≤ sizeLine) : wpAny (model prog w) A (getItem (.ref t) (.ref sl)) Q E s := by
  have ok : sizeOk (.seq items.toList.reverse.toArray) := by
    show items.toList.reverse.toArray.size ≤ sizeLine
    simpa using hsz
  obtain ⟨os, hos, hcs, hds⟩ := id hs
  have isSl : s.TypeIs (.ref sl) "slice" := ⟨os, hos, hcs⟩
  unfold getItem
  try with_reducible refine wpAny_holding ?_
  first | refine wpAny_bind (wpAny_pure ?_) | skip
  refine wpAny_bind (wpAny_sequenceKey ht.typeIs (by decide) ?_)
  refine wpAny_bind (wpAny_callSpecial?_slot (name := Str.ofString "__getitem__") ht.typeIs PyProof.Rows.slot_tuple_getitem (wpAny_call_entry PyProof.Rows.slot_tuple_getitem ht.typeIs entry_tuple_getitem ?_ (args_tuple_getitem _ _)))
  show wpAny _ _ (Builtin.Tuple.tupleItemsOf (.ref t) >>= _) _ _ s
  refine wpAny_bind (tupleItemsOf_ ht ?_)
  refine wpAny_bind (wpAny_typeOf isSl ?_)
  rw [if_pos (by decide)]
  refine wpAny_bind ?_
  unfold Builtin.Slice.sliceApplied Builtin.Slice.sliceFields
  refine wpAny_bind (wpAny_bind (wpAny_field hos hds (x := vl) rfl (wpAny_bind (wpAny_field hos hds (x := vu) rfl (wpAny_bind (wpAny_field hos hds (x := vs) rfl (wpAny_pure ?_)))))))
  refine wpAny_bind (HT.slicePart_ ps ?_)
  show wpAny _ _ (if ((-1 : Int) == 0) = true then _ else _) _ _ s
  rw [if_neg (by decide)]
  refine wpAny_bind (HT.slicePart_ pl (wpAny_bind (HT.slicePart_ pu (wpAny_bind (wpAny_pure ?_)))))
  have e1 : Builtin.Slice.sliceAdjust none none (-1) (items.size : Int) = ((items.size : Int) - 1, -1) := rfl
  have e2 : Builtin.Slice.slicePlaces ((items.size : Int) - 1) (-1) (-1) = items.size := by
    unfold Builtin.Slice.slicePlaces
    simp only [show ¬ ((-1 : Int) > 0) by decide, if_false, show (- -1 : Int) = 1 by decide, Int.ediv_one]
    split <;> omega
  show wpAny _ _ (match Builtin.Slice.sliceAdjust none none (-1) (items.size : Int) with | (lo, hi) => pure (lo, (-1 : Int), Builtin.Slice.slicePlaces lo hi (-1))) _ _ s
  rw [e1]
  show wpAny _ _ (pure ((items.size : Int) - 1, (-1 : Int), Builtin.Slice.slicePlaces ((items.size : Int) - 1) (-1) (-1))) _ _ s
  rw [e2]
  refine wpAny_pure ?_
  have no : ¬ ((((items.size : Int) - 1) == 0 && (-1 : Int) == 1 && items.size == items.size) = true) := by simp
  show wpAny _ _ (if (((items.size : Int) - 1) == 0 && (-1 : Int) == 1 && items.size == items.size) = true then _ else _) _ _ s
  rw [if_neg no]
  have pick : ((List.range items.size).filterMap fun (k : Nat) => items[(((items.size : Int) - 1) + (k : Int) * -1).toNat]?).toArray = items.toList.reverse.toArray := by
    rw [← PySem.W.krv_all items, ← List.filterMap_reverse, ← PySem.W.krv_range, List.filterMap_map]
    have cg : ∀ (l : List Nat), (∀ k ∈ l, k < items.size) → (l.filterMap fun (k : Nat) => items[(((items.size : Int) - 1) + (k : Int) * -1).toNat]?) = l.filterMap ((fun k => items[k]?) ∘ fun k => items.size - 1 - k) := by
      intro l
      induction l with
      | nil => intro _; rfl
      | cons k l ih =>
        intro hl
        have e : (((items.size : Int) - 1) + (k : Int) * -1).toNat = items.size - 1 - k := by
          have := hl k List.mem_cons_self
          omega
        rw [List.filterMap_cons, List.filterMap_cons, ih fun j hj => hl j (List.mem_cons_of_mem _ hj), e]
        rfl
    rw [cg _ fun k hk => List.mem_range.mp hk]
  rw [pick]
  first
    | exact wpAny_bind (m := Builtin.Tuple.tupleExact _) (wpAny_newObj_type (wpAny_pure ⟨_, rfl, wpAny_pure h⟩) ok)
    | exact wpAny_bind (m := Builtin.Tuple.tupleExact _) (wpAny_newObj_type (wpAny_bind (wpAny_pure (wpAny_pure ⟨_, rfl, wpAny_pure h⟩))) ok)
    | exact wpAny_bind (wpAny_bind (m := Builtin.Tuple.tupleExact _) (wpAny_newObj_type (wpAny_pure (wpAny_pure ⟨_, rfl, wpAny_pure h⟩)) ok))
    | exact wpAny_bind (wpAny_bind (m := Builtin.Tuple.tupleExact _) (wpAny_newObj_type (wpAny_pure ⟨_, rfl, wpAny_pure h⟩) ok))
end
section
variable {X : Cx}
def tRevT (K : PySem.W.Frag) (te : TE) : TE := fun σ H Q => te σ H fun x H1 => ∃ a xs, x = .ref a ∧ SqT K H1 a xs ∧ ∀ p, H1 p = none → Q (.ref p) (upd H1 p (.tup xs.reverse))
theorem pe_revT {e : Expr} {te : TE} {k : Nat} {p1 p2 p3 pos : Pos} (he : PE X e te) : PE X (.Subscript e (.Slice none none (some (.UnaryOp .USub (.Constant (.int 1) k p1) p2)) p3) pos) (tRevT X.K te) := by
  constructor
  intro pins s σ H Q I h
  refine Subscript_ (thn (he.run pins s σ H _ I h) ?_)
  rintro v s1 ⟨x, H1, I1, r1, a, xs, rfl, hx, q⟩
  cases r1
  have step : PO X (some (.UnaryOp .USub (.Constant (.int 1) k p1) p2)) (tPart (tUn (rU fun i => .int (-i)) (tC (.int 1)))) := po_some (pe_un un_neg pe_int)
  refine wpAny_Slice (thn (po_none.run pins s1 σ H1 (fun o H2 => o = none ∧ H2 = H1) I1 ⟨rfl, rfl⟩) ?_)
  rintro vl s2 ⟨l, H2, I2, pl, rfl, rfl⟩
  refine thn (po_none.run pins s2 σ H2 (fun o H3 => o = none ∧ H3 = H2) I2 ⟨rfl, rfl⟩) ?_
  rintro vu s3 ⟨u, H3, I3, pu, rfl, rfl⟩
  refine thn (step.run pins s3 σ H3 (fun o H4 => o = some (-1) ∧ H4 = H3) I3 ⟨1, rfl, -1, rfl, rfl, rfl⟩) ?_
  rintro vs s4 ⟨o, H4, I4, ps, rfl, rfl⟩
  have I5 : Inv X pins σ H4 { s4 with heap := s4.heap.push { cls := .type "slice", data := .fields #[vl, vu, vs] } } := I4.kept (t' := s4.toks) fun b ob q => Heap.get?_push_of_some _ q
  obtain ⟨its, r, ht, hz⟩ := I5.tuple hx
  have hlen := r.length
  show wpAny (model X.prog X.w) X.A (subscriptTail e (.Slice none none (some (.UnaryOp .USub (.Constant (.int 1) k p1) p2)) p3) (.ref a) (.ref s4.heap.objs.size)) _ _ _
  refine tail_any (ops := [.ref a, .ref s4.heap.objs.size]) ht.typeIs PyProof.Rows.slot_tuple_getitem.lookup ?_ (by with_unfolding_all rfl)
  refine getItem_tuple_back ht (Heap.IsSliceOf.new _ vl vu vs) pl pu ps ?_ (by rw [List.size_toArray]; omega)
  refine ⟨.ref _, _, I5.laid (t' := s4.toks) (o := .tup xs.reverse) (fun b ob q => Heap.get?_push_of_some _ q) (Nat.le_refl _) ?_, rfl, q _ (I5.hok.fresh (Nat.le_refl _))⟩
  exact ⟨by rw [List.length_reverse]; exact hz, its.reverse, r.reverse, IsTup.new _ _⟩
end
/-! ### enumerate of a tuple -/
section
set_option maxHeartbeats 1000000 in
theorem meets_enum_tup (t : Addr) (o : Obj) (items : Array Value) (n : Nat) (dd : Option Addr) (sl : Array (Option Value)) :
    Meets (Builtin.«enumerate.__new__» ⟨[.type "enumerate", .ref t], []⟩) (fun _ R s => s.heap.get? t = some { cls := .type "tuple", dict := dd, data := .seq items n, slots := sl } ∧
      R (.ok (.ret (.ref (s.heap.push { cls := .type "tuple_iterator", data := .fields #[.ref t, .int 0 0] }).objs.size)))
        { s with heap := (s.heap.push { cls := .type "tuple_iterator", data := .fields #[.ref t, .int 0 0] }).push { cls := .type "enumerate", data := .fields #[.none, .bool false, .ref s.heap.objs.size, rawInt 0, .none, .none] } }) :=
  .of_wp fun prog w A R s h => by
    obtain ⟨hp, g, d, tk, os⟩ := s
    obtain ⟨hl, h⟩ := h
    have hsub := sub_enumerate
    have hT : Heap.IsTuple (Shared.heap ⟨hp, g, d, tk, os⟩) t items := ⟨_, hl, rfl, n, rfl⟩
    have q1 : ∀ {A' : Around} {E : Value → Shared → Prop} {Q : Value → Shared → Prop}, Q (.ref hp.objs.size) ⟨hp.push { cls := .type "tuple_iterator", data := .fields #[.ref t, .int 0 0] }, g, d, tk, os⟩ → wpAny (model prog w) A' (pyIter (.ref t)) Q E ⟨hp, g, d, tk, os⟩ :=
      fun q => wpAny_pyIter_tuple hT q
    wp_walk using q1
    refine wpAny_stack_any fun st => wpAny_pure ?_
    split
    · rename_i c _ _ _ _ _
      cases (c == Value.type "enumerate") <;> (wp_walk using q1; exact ⟨_, rfl, h⟩)
    · wp_walk using q1
      exact ⟨_, rfl, h⟩
variable {prog : Program} {w : World} {A : Around} {E : Value → Shared → Prop} {s : Shared}
theorem call_enum_tup {t : Addr} {items : Array Value} {Q : Value → Shared → Prop} (hT : s.heap.IsTuple t items)
    (h : ∀ h', IsEnum h' (s.heap.objs.size + 1) s.heap.objs.size 0 .none → h'.IsTupleIter s.heap.objs.size t 0 → (∀ b o, s.heap.get? b = some o → h'.get? b = some o) → Q (.ref (s.heap.objs.size + 1)) { s with heap := h' }) :
    wpAny (model prog w) A (call (.type "enumerate") [.ref t]) Q E s := by
  obtain ⟨⟨c, dd, dt, sl⟩, hl, hc, n, hd⟩ := hT
  have hc' : c = .type "tuple" := hc
  have hd' : dt = .seq items n := hd
  subst hc' hd'
  refine callType_new F.called_enumerate (by decide) (F.typeCall_enumerate_1 _) (F.newCall_enumerate_1 _) (fun obj => F.args_object_init_2 obj _) F.entry_enumerate_new (meets_enum_tup t default items n dd sl) ⟨hl, ?_⟩
  have hz : (s.heap.push { cls := .type "tuple_iterator", data := .fields #[.ref t, .int 0 0] }).objs.size = s.heap.objs.size + 1 := Heap.size_push ..
  show _ ∧ _
  rw [hz]
  have he : IsEnum ((s.heap.push { cls := .type "tuple_iterator", data := .fields #[.ref t, .int 0 0] }).push { cls := .type "enumerate", data := .fields #[.none, .bool false, .ref s.heap.objs.size, rawInt 0, .none, .none] }) (s.heap.objs.size + 1) s.heap.objs.size 0 .none := by
    have q := Heap.get?_push_size (s.heap.push { cls := .type "tuple_iterator", data := .fields #[.ref t, .int 0 0] }) (o := { cls := .type "enumerate", data := .fields #[.none, .bool false, .ref s.heap.objs.size, rawInt 0, .none, .none] }) rfl
    rw [hz] at q
    exact q
  exact ⟨⟨_, he, rfl⟩, h _ he ⟨_, Heap.get?_push_of_some _ (Heap.get?_push_size _ rfl), rfl, rfl⟩ fun b o x => Heap.get?_push_of_some _ (Heap.get?_push_of_some _ x)⟩
end
/-- the tuple at a, each item in a new pair with its number -/
def Iet (K : PySem.W.Frag) (a : Addr) : It :=
  ⟨fun i H => ∃ (xs : List V) (x : V), SqT K H a xs ∧ xs[i]? = some x, fun i H v H' => ∃ T x, v = .ref T ∧ H T = none ∧ H' = upd H T (.tup [.int (i : Nat), x]) ∧ ∀ xs, SqT K H a xs → xs[i]? = some x, fun i H => ∃ xs : List V, SqT K H a xs ∧ xs.length ≤ i⟩
theorem turn_enumT {P : Program} {w : World} {K : PySem.W.Frag} {elts : List Expr} {kk : Nat} {tpos : Pos} (a e it : Addr) :
    Turn P w K (.Tuple elts kk tpos) (Iet K a) [e, it] e (fun i h => (∃ old, IsEnum h e it ((i : Nat) : Int) old) ∧ h.IsTupleIter it a i ∧ e ≠ it) where
  mem := by simp
  obj := by
    rintro i h ⟨⟨old, he⟩, ⟨o, ho, hc, hd⟩, _⟩ b hb
    have e' : b = e ∨ b = it := by simpa using hb
    cases e' with
    | inl z => rw [z]; exact ⟨_, he, fun v q => nomatch q⟩
    | inr z => rw [z]; exact ⟨o, ho, fun v q => by rw [hd] at q; cases q⟩
  keep := by
    rintro i h h' ⟨⟨old, he⟩, hi, hne⟩ k
    exact ⟨⟨old, k e (by simp) _ he⟩, hi.at fun o q => k it (by simp) o q, hne⟩
  item := by
    intro X hP hw hK hc i pins s σ H E I hf st hg
    subst hP hw hK
    obtain ⟨⟨old, he⟩, hit, hne⟩ := st
    obtain ⟨xs, x, hq, hx⟩ := hg
    obtain ⟨its, rv, p, hz⟩ := I.tuple hq
    obtain ⟨u, hu, ru⟩ := rv.get hx
    have hel : e < s.heap.objs.size := Heap.lt_size he
    have hil : it < s.heap.objs.size := by obtain ⟨_, q, _⟩ := hit; exact Heap.lt_size q
    have hai : a ≠ it := by
      rintro rfl
      obtain ⟨o1, g1, c1, _⟩ := hit
      obtain ⟨o2, g2, c2, _⟩ := p
      rw [g1] at g2
      cases g2
      rw [c1] at c2
      exact absurd c2 (by simp)
    have hae : a ≠ e := by
      rintro rfl
      obtain ⟨o2, g2, c2, _⟩ := p
      have g1 : s.heap.get? a = some _ := he
      rw [g1] at g2
      cases g2
      exact absurd c2 (by simp)
    have hu' : its.toArray[i]? = some u := by simpa using hu
    have hlt : i < its.toArray.size := (Array.getElem?_eq_some_iff.mp hu').1
    refine wpAny_pyNext_enum_itemD (Draws.tuple (A := X.A.in1) (prog := X.prog) (w := X.w) (I.ok.hd hc) it a hai its.toArray) he ⟨hit, p⟩ hlt hne (by simp [hne, hae.symm]) ?_
    intro y h' tk hy ho st' hT hsz hk
    have ey : y = u := Option.some.inj ((show its.toArray[i]? = some y from hy).symm.trans hu')
    subst ey
    refine ⟨_, rfl, wpAny_letOwnedTupleGo_enum (s := { s with heap := h', toks := tk + 1 }) ho ?_⟩
    intro h'' he' sb
    have hT2 : h''.get? s.heap.objs.size = some { cls := .type "tuple", data := .seq #[.int i tk, y] } := (sb.2 _ (Nat.ne_of_gt hel)).trans hT
    have new : ObjOk X.prog X.w (upd H s.heap.objs.size (.tup [.int (i : Nat), x])) h'' s.heap.objs.size (.tup [.int (i : Nat), x]) := ⟨by show 2 ≤ sizeLine; decide, [.int i tk, y], .cons ⟨_, rfl⟩ (.cons ru .nil), ⟨_, hT2, rfl, _, rfl⟩⟩
    have old2 : ∀ b ob, b ∉ [e, it] → s.heap.get? b = some ob → h''.get? b = some ob := fun b ob hb q => (sb.2 b (fun z => hb (by simp [z]))).trans (hk b ob (fun z => hb (by simp [z])) (fun z => hb (by simp [z])) q)
    have I1 : Inv X pins σ (upd H s.heap.objs.size (.tup [.int (i : Nat), x])) { s with heap := h'', toks := tk + 1 } := I.turnedNew (ch := [e, it]) old2 hf (Nat.le_refl _) new
    refine ⟨.ref s.heap.objs.size, _, I1, rfl, ⟨_, x, rfl, I.hok.fresh (Nat.le_refl _), rfl, fun ys hy => by rw [I.tuple_inj hy hq]; exact hx⟩, ⟨⟨y, ?_⟩, st'.1.at fun o q => (sb.2 it (Ne.symm hne)).trans q, hne⟩, ?_⟩
    · have e1 : ((i + 1 : Nat) : Int) = (i : Int) + 1 := by omega
      rw [e1]
      exact he'
    · intro b hb
      have hb' : b < s.heap.objs.size := by
        have e' : b = e ∨ b = it := by simpa using hb
        cases e' with
        | inl z => rw [z]; exact hel
        | inr z => rw [z]; exact hil
      rw [upd_ne (Nat.ne_of_lt hb')]
      exact (hf b hb).1
  done := by
    intro X hP hw hK hc i pins s σ H E I hf st hg
    subst hP hw hK
    obtain ⟨⟨old, he⟩, hit, hne⟩ := st
    obtain ⟨xs, hq, hx⟩ := hg
    obtain ⟨its, rv, p, hz⟩ := I.tuple hq
    obtain ⟨f0, f1, f2, f3, f4, f5⟩ := hf it (by simp)
    have hl := rv.length
    have isE : s.TypeIs (.ref e) "enumerate" := ⟨_, he, rfl⟩
    unfold pyNext
    refine wpAny_bind (wpAny_attempt (wpAny_callSpecial?_slot (name := Str.ofString "__next__") isE F.slot_enumerate_next (wpAny_call_entry F.slot_enumerate_next isE F.entry_enumerate_next ?_ (F.args_enumerate_next_1 _))))
    show wpAny _ _ (field (.ref e) 2 >>= _) _ _ _
    refine wpAny_bind (wpAny_field he rfl (x := .ref it) rfl ?_)
    refine wpAny_bind (wpAny_nextOf_tuple_end (I.ok.hd hc) hit p (by simp; omega) ?_)
    rintro h' x eb ⟨o, ho, hcl⟩
    refine wpAny_bind (wpAny_isInstance (T := "StopIteration") (b := true) ⟨o, ho, hcl⟩ isSubtype_stop ?_)
    exact wpAny_pure ⟨rfl, I.turned (t' := s.toks) (fun b o hb q => eb b o hb q) f0 f1 f3 f4 f5⟩
  self := by
    rintro A i s Q E ⟨⟨_, he⟩, _⟩ h
    exact wpAny_pyIter_enum he h
def iEnumT (K : PySem.W.Frag) (ta : TA) : TI := fun σ H R => ta σ H fun vs H1 => ∃ a xs, vs = [.ref a] ∧ SqT K H1 a xs ∧ R (Iet K a) H1
theorem pi_enumT {X : Cx} {e : Expr} {ta : TA} {p pos tpos : Pos} {elts : List Expr} {kk : Nat} (hg : Gl X "enumerate") (hm : X.mg "enumerate" = none) (ha : PA X [e] ta) (hs : starEach [e] X.env = [(false, eval e X.env)] := by rfl) :
    PI X (.Tuple elts kk tpos) (.Call (.Name "enumerate" p) [e] [] pos) (iEnumT X.K ta) := by
  constructor
  intro pins s σ H R I h
  refine Call_ (ld_blt I hg hm boot_enumerate (PyProof.Rows.callWith_type1 (thn (ha.run pos pins s σ H _ I h) ?_) hs rfl))
  rintro us s1 ⟨vs, H1, I1, r1, a, xs, rfl, hq, q⟩
  obtain ⟨u, rfl, ru⟩ := vals1 r1
  cases ru
  obtain ⟨its, rv, p', hz⟩ := I1.tuple hq
  refine call_enum_tup p' ?_
  intro h' he hit hk
  refine wpAny_pyIter_enum he ?_
  have I2 : Inv X pins σ H1 { s1 with heap := h' } := I1.kept (t' := s1.toks) hk
  refine ⟨s1.heap.objs.size + 1, [s1.heap.objs.size + 1, s1.heap.objs.size], _, _, H1, rfl, I2, turn_enumT a (s1.heap.objs.size + 1) s1.heap.objs.size, ⟨⟨.none, he⟩, hit, Nat.succ_ne_self _⟩, ?_, q⟩
  intro b hb
  have hb' : b = s1.heap.objs.size + 1 ∨ b = s1.heap.objs.size := by simpa using hb
  have hle : s1.heap.objs.size ≤ b := hb'.elim (fun z => by rw [z]; exact Nat.le_succ _) (fun z => by rw [z]; exact Nat.le_refl _)
  exact I1.fpOk hle (I1.hok.fresh hle)
/-- its walk: a new pair each turn -/
def YNum (xs : List V) : Nat → Hp → V → Hp → Prop := fun i H v H' => ∃ T x, v = .ref T ∧ H T = none ∧ H' = upd H T (.tup [.int (i : Nat), x]) ∧ xs[i]? = some x
theorem walk_enumT {K : PySem.W.Frag} {a : Addr} {xs : List V} : Walk (Iet K a) xs.length (fun H => SqT K H a xs) (YNum xs) :=
  ⟨fun i H hi h => ⟨xs, xs[i], h, by simp [hi]⟩, fun H h => ⟨xs, h, Nat.le_refl _⟩, fun i H x H' _ h y => by obtain ⟨T, z, e1, e2, e3, e4⟩ := y; exact ⟨T, z, e1, e2, e3, e4 xs h⟩⟩
theorem walk_enumL {K : PySem.W.Frag} {a : Addr} {xs : List V} : Walk (Ite K a) xs.length (fun H => SqL K H a xs) (YNum xs) :=
  ⟨fun i H hi h => ⟨xs, xs[i], h, by simp [hi]⟩, fun H h => ⟨xs, h, Nat.le_refl _⟩, fun i H x H' _ h y => by obtain ⟨T, z, e1, e2, e3, e4⟩ := y; exact ⟨T, z, e1, e2, e3, e4 xs h⟩⟩
end Lm

namespace Lm
open PySem PySem.Spec PyProof.Rows L2
/-! ### a def of the text, at hand -/
structure Def (K : PySem.W.Frag) (mg : Str → Option Value) (x : Str) (st : Stmt) (ps : List Str) (f : Addr) (fd : FuncData) : Prop where
  F : Fun K x x st f fd
  g : mg x = some (.ref f)
  b : Binds K fd ps []
/-! ### the pot -/

open Classical in
noncomputable def hid (Z : Hp) (p dl : Addr) (H : Hp) : Hp := fun b => if b = p ∨ b = dl ∨ Z b ≠ none then none else H b
theorem hid_at {Z : Hp} {p dl b : Addr} {H : Hp} (h1 : b ≠ p) (h2 : b ≠ dl ∧ Z b = none) : hid Z p dl H b = H b := if_neg (fun z => z.elim h1 (fun z => z.elim h2.1 (fun q => q h2.2)))
theorem hid_same {Z : Hp} (p dl : Addr) (H : Hp) : Same (hid Z p dl H) H := by
  intro b o e
  unfold hid at e
  split at e
  · cases e
  · exact e
theorem hid_some {Z : Hp} {p dl b : Addr} {H : Hp} {o : HO} (e : hid Z p dl H b = some o) : b ≠ p ∧ (b ≠ dl ∧ Z b = none) := by
  unfold hid at e
  split at e
  · cases e
  · rename_i z
    exact ⟨fun q => z (.inl q), fun q => z (.inr (.inl q)), Classical.byContradiction fun q => z (.inr (.inr q))⟩
/-- all but the pot's own two is as it was -/
def Kp (Z : Hp) (p dl : Addr) (H H' : Hp) : Prop := Same (hid Z p dl H) (hid Z p dl H')
theorem Kp.refl {Z : Hp} (p dl : Addr) (H : Hp) : Kp Z p dl H H := Same.refl _
theorem Kp.trans {Z : Hp} {p dl : Addr} {H H1 H2 : Hp} (a : Kp Z p dl H H1) (b : Kp Z p dl H1 H2) : Kp Z p dl H H2 := Same.trans a b
theorem Kp.of {Z : Hp} {p dl : Addr} {H H' : Hp} (s : Same H H') : Kp Z p dl H H' := by
  intro b o e
  have n := hid_some e
  rw [hid_at n.1 n.2] at e ⊢
  exact s b o e
theorem same_new {H : Hp} {q : Addr} {o : HO} (h : H q = none) : Same H (upd H q o) := fun b x e => by
  rw [upd_ne (ne_of_none e h)]
  exact e
theorem Kp.new {Z : Hp} {p dl q : Addr} {H : Hp} {o : HO} (h : H q = none) : Kp Z p dl H (upd H q o) := Kp.of (same_new h)
/-- the pot stands at p -/
structure PotAt (Z : Hp) (H : Hp) (p dl al : Addr) : Prop where
  ob : ∃ t : Int, H p = some (.dK [(.inr "deep", .ref dl), (.inr "all", .ref al), (.inr "times", .int t)])
  de : ∃ ns : List Int, H dl = some (.lst (ns.map V.int)) ∧ ns.length ≤ 64
  li : ∃ ns : List Int, H al = some (.lst (ns.map V.int)) ∧ ns ≠ [] ∧ ns.length ≤ 64
  ne : al ≠ dl
  zz : Same Z H
  zp : Z p = none
  zd : Z dl = none
theorem PotAt.pd {H : Hp} {Z : Hp} {p dl al : Addr} (h : PotAt Z H p dl al) : p ≠ dl := by
  obtain ⟨t, e⟩ := h.ob
  obtain ⟨ns, e2, _⟩ := h.de
  exact ne_of e e2 (fun z => nomatch z)
theorem PotAt.pa {H : Hp} {Z : Hp} {p dl al : Addr} (h : PotAt Z H p dl al) : al ≠ p := by
  obtain ⟨t, e⟩ := h.ob
  obtain ⟨ns, e2, _⟩ := h.li
  exact ne_of e2 e (fun z => nomatch z)
theorem PotAt.keep {H H' : Hp} {Z : Hp} {p dl al : Addr} (h : PotAt Z H p dl al) (s : Same H H') : PotAt Z H' p dl al :=
  ⟨let ⟨t, e⟩ := h.ob; ⟨t, s _ _ e⟩, let ⟨ns, e, l⟩ := h.de; ⟨ns, s _ _ e, l⟩, let ⟨ns, e, l⟩ := h.li; ⟨ns, s _ _ e, l⟩, h.ne, h.zz.trans s, h.zp, h.zd⟩
theorem PotAt.new {H : Hp} {Z : Hp} {p dl al q : Addr} {o : HO} (h : PotAt Z H p dl al) (n : H q = none) : PotAt Z (upd H q o) p dl al := h.keep (same_new n)
theorem PotAt.free {H : Hp} {Z : Hp} {p dl al q : Addr} (h : PotAt Z H p dl al) (n : H q = none) : q ≠ p ∧ (q ≠ dl ∧ Z q = none) := by
  obtain ⟨t, e⟩ := h.ob
  obtain ⟨ns, e2, _⟩ := h.de
  exact ⟨(ne_of_none e n).symm, (ne_of_none e2 n).symm, by
    cases e3 : Z q with
    | none => rfl
    | some o => rw [h.zz _ _ e3] at n; cases n⟩
theorem zz_upd {Z : Hp} {H : Hp} {f : Addr} {o : HO} (h : Same Z H) (n : Z f = none) : Same Z (upd H f o) := fun b x e => by
  rw [upd_ne (ne_of_none e n)]
  exact h b x e
def sp_draw : Sp := fun vs H Q _ => ∃ (Z : Hp) (p dl al : Addr) (n : Int), vs = [.ref p, .int n] ∧ PotAt Z H p dl al ∧ 0 < n ∧ n < 1073741824 ∧
  ∀ (r : Int) (H' : Hp), PotAt Z H' p dl al → Kp Z p dl H H' → 0 ≤ r → r < n → Q (.int r) H'
/-! ### xs == [], xs != [] -/
def rEqE (K : PySem.W.Frag) : R2 := fun x y H Q => ∃ a b xs, x = .ref a ∧ y = .ref b ∧ SqL K H a xs ∧ SqL K H b [] ∧ Q (.bl xs.isEmpty) H
def rNeE (K : PySem.W.Frag) : R2 := fun x y H Q => ∃ a b xs, x = .ref a ∧ y = .ref b ∧ SqL K H a xs ∧ SqL K H b [] ∧ Q (.bl (!xs.isEmpty)) H
section
variable {X : Cx}
theorem op_eqE (hu : X.A.units < cLine) : OpR X (compareOp .Eq) (rEqE X.K) := by
  rintro pins s σ H x y v u Q I rx ry ⟨a, b, xs, rfl, rfl, ha, hb, q⟩
  cases rx
  cases ry
  obtain ⟨i1, r1, p1, _⟩ := I.list ha
  obtain ⟨i2, r2, p2, _⟩ := I.list hb
  cases r2
  cases i1 with
  | nil =>
    cases r1
    exact SeqAt.RcAt.lists (e := fun _ => true) p1.isList p2.isList rfl hu (fun j h1 _ => absurd h1 (by simp)) _ _ _ _ ⟨.bl true, H, I, rfl, q⟩
  | cons z zs =>
    cases r1
    exact SeqAt.RcAt.lists_lengths p1.isList p2.isList (by simp) hu _ _ _ _ ⟨.bl false, H, I, rfl, q⟩
theorem op_neE (hu : X.A.units < cLine) : OpR X (compareOp .NotEq) (rNeE X.K) := by
  rintro pins s σ H x y v u Q I rx ry ⟨a, b, xs, rfl, rfl, ha, hb, q⟩
  cases rx
  cases ry
  obtain ⟨i1, r1, p1, _⟩ := I.list ha
  obtain ⟨i2, r2, p2, _⟩ := I.list hb
  cases r2
  cases i1 with
  | nil =>
    cases r1
    exact SeqAt.RcNeAt.lists (e := fun _ => true) p1.isList p2.isList rfl hu (fun j h1 _ => absurd h1 (by simp)) _ _ _ _ ⟨.bl false, H, I, rfl, q⟩
  | cons z zs =>
    cases r1
    exact SeqAt.RcNeAt.lists_lengths p1.isList p2.isList (by simp) hu _ _ _ _ ⟨.bl true, H, I, rfl, q⟩
end
theorem fmodB {a b : Int} (h : 0 < b) : 0 ≤ a.fmod b ∧ a.fmod b < b := ⟨Int.fmod_nonneg_of_pos a h, Int.fmod_lt_of_pos a h⟩
theorem seq0 {n : Nat} (h : 0 < n) : seqIndex? 0 n = some 0 := by
  unfold seqIndex?
  first
    | (simp [h]; done)
    | (simp; omega)
end Lm

namespace Lm
open PySem PySem.Spec PyProof.Rows L2
/-! ### what an expression gives while the pot stands: R of its value and of the heap without the pot -/
abbrev VR := V → Hp → Prop
abbrev LR := List V → Hp → Prop
def Mo (R : VR) : Prop := ∀ v G G', Same G G' → R v G → R v G'
def MoL (R : LR) : Prop := ∀ v G G', Same G G' → R v G → R v G'
def Ev (Z : Hp) (p dl al : Addr) (H0 : Hp) (σ : L2.St) (te : TE) (R : VR) : Prop :=
  ∀ (H : Hp) (Q : VK), PotAt Z H p dl al → Kp Z p dl H0 H → (∀ v H', PotAt Z H' p dl al → Kp Z p dl H H' → R v (hid Z p dl H') → Q v H') → te σ H Q
def EvA (Z : Hp) (p dl al : Addr) (H0 : Hp) (σ : L2.St) (ta : TA) (R : LR) : Prop :=
  ∀ (H : Hp) (Q : List V → Hp → Prop), PotAt Z H p dl al → Kp Z p dl H0 H → (∀ v H', PotAt Z H' p dl al → Kp Z p dl H H' → R v (hid Z p dl H') → Q v H') → ta σ H Q
section
variable {K : PySem.W.Frag} {Z : Hp} {p dl al : Addr} {H0 : Hp} {σ : L2.St} {te ta tb : TE} {tl : TA} {R R' R1 R2 : VR} {Rs Rt : LR}
theorem Ev.imp (h : Ev Z p dl al H0 σ te R) (i : ∀ v G, R v G → R' v G) : Ev Z p dl al H0 σ te R' := fun H Q P k q => h H Q P k fun v H' P' k' r => q v H' P' k' (i _ _ r)
theorem EvA.imp (h : EvA Z p dl al H0 σ tl Rs) (i : ∀ v G, Rs v G → Rt v G) : EvA Z p dl al H0 σ tl Rt := fun H Q P k q => h H Q P k fun v H' P' k' r => q v H' P' k' (i _ _ r)
theorem ev_c {v : V} : Ev Z p dl al H0 σ (tC v) (fun u _ => u = v) := fun H Q P k q => q v H P (Kp.refl _ _ _) rfl
theorem ev_var {i : Nat} {v : V} (e : σ[i]? = some (some v)) (m : Mo R) (h : R v (hid Z p dl H0)) : Ev Z p dl al H0 σ (tVar i) R := fun H Q P k q => ⟨v, e, q v H P (Kp.refl _ _ _) (m _ _ _ k h)⟩
theorem eva_nil : EvA Z p dl al H0 σ tNil (fun vs _ => vs = []) := fun H Q P k q => q [] H P (Kp.refl _ _ _) rfl
theorem eva_cons (m : Mo R) (h1 : Ev Z p dl al H0 σ te R) (h2 : EvA Z p dl al H0 σ tl Rs) : EvA Z p dl al H0 σ (tCons te tl) (fun vs G => ∃ v r, vs = v :: r ∧ R v G ∧ Rs r G) :=
  fun H Q P k q => h1 H _ P k fun v H1 P1 k1 r1 => h2 H1 _ P1 (k.trans k1) fun vs H2 P2 k2 r2 => q _ H2 P2 (k1.trans k2) ⟨v, vs, rfl, m _ _ _ k2 r1, r2⟩
/-! ### lists of alternatives, all of which have R -/
def AllR (m n : Nat) (R : VR) : LR := fun vs G => m ≤ vs.length ∧ vs.length ≤ n ∧ ∀ v ∈ vs, R v G
theorem eall_nil : EvA Z p dl al H0 σ tNil (AllR 0 0 R) := fun H Q P k q => q [] H P (Kp.refl _ _ _) ⟨Nat.le_refl _, Nat.le_refl _, fun v h => nomatch h⟩
theorem eall_cons {a b : Nat} (m : Mo R) (h1 : Ev Z p dl al H0 σ te R) (h2 : EvA Z p dl al H0 σ tl (AllR a b R)) : EvA Z p dl al H0 σ (tCons te tl) (AllR (a + 1) (b + 1) R) :=
  (eva_cons m h1 h2).imp fun vs G h => by
    obtain ⟨v, r, rfl, hv, h1, h2, h3⟩ := h
    refine ⟨Nat.succ_le_succ h1, Nat.succ_le_succ h2, fun x hx => ?_⟩
    rcases List.mem_cons.mp hx with e | e
    · rw [e]; exact hv
    · exact h3 x e
theorem AllR.mo {m n : Nat} (h : Mo R) : MoL (AllR m n R) := fun vs G G' s ⟨h1, h2, h3⟩ => ⟨h1, h2, fun v hv => h v _ _ s (h3 v hv)⟩
/-- a list, a tuple of things that have R -/
def LsR (m n : Nat) (R : VR) : VR := fun v G => ∃ a xs, v = .ref a ∧ G a = some (.lst xs) ∧ AllR m n R xs G
def TpR (K : PySem.W.Frag) (m n : Nat) (R : VR) : VR := fun v G => ∃ a xs, v = .ref a ∧ SqT K G a xs ∧ AllR m n R xs G
theorem LsR.mo {m n : Nat} (h : Mo R) : Mo (LsR m n R) := fun v G G' s ⟨a, xs, e, g, r⟩ => ⟨a, xs, e, s _ _ g, AllR.mo h _ _ _ s r⟩
theorem TpR.mo {m n : Nat} (h : Mo R) : Mo (TpR K m n R) := fun v G G' s ⟨a, xs, e, g, r⟩ => ⟨a, xs, e, Same.seqT s g, AllR.mo h _ _ _ s r⟩
theorem hid_new {H : Hp} {q : Addr} {o : HO} (P : PotAt Z H p dl al) (n : H q = none) : hid Z p dl (upd H q o) q = some o := by
  have f := P.free n
  rw [hid_at f.1 f.2, upd_same]
theorem hid_upd {H : Hp} {q : Addr} {o : HO} (h1 : q ≠ p) (h2 : q ≠ dl ∧ Z q = none) : hid Z p dl (upd H q o) q = some o := by rw [hid_at h1 h2, upd_same]
/-- a new thing that is not the pot's -/
theorem laid {H : Hp} {q : Addr} {o : HO} (P : PotAt Z H p dl al) (n : H q = none) : PotAt Z (upd H q o) p dl al ∧ Kp Z p dl H (upd H q o) ∧ hid Z p dl (upd H q o) q = some o := ⟨P.new n, Kp.new n, hid_new P n⟩
theorem ev_tup (h : EvA Z p dl al H0 σ tl Rs) (hl : ∀ vs G, Rs vs G → vs.length ≤ sizeLine) (m : MoL Rs) : Ev Z p dl al H0 σ (tTup tl) (fun v G => ∃ a xs, v = .ref a ∧ G a = some (.tup xs) ∧ Rs xs G) :=
  fun H Q P k q => h H _ P k fun vs H1 P1 k1 r1 => ⟨hl _ _ r1, fun t nt => by
    obtain ⟨P2, k2, e2⟩ := laid (o := .tup vs) P1 nt
    exact q _ _ P2 (k1.trans k2) ⟨t, vs, rfl, e2, m _ _ _ k2 r1⟩⟩
theorem ev_lst {m n : Nat} (hn : n ≤ 1000) (hm : Mo R) (h : EvA Z p dl al H0 σ tl (AllR m n R)) : Ev Z p dl al H0 σ (tLst tl) (LsR m n R) :=
  fun H Q P k q => h H _ P k fun vs H1 P1 k1 r1 => ⟨Nat.le_of_lt (small1000 (Nat.le_trans r1.2.1 hn)), fun t nt => by
    obtain ⟨P2, k2, e2⟩ := laid (o := .lst vs) P1 nt
    exact q _ _ P2 (k1.trans k2) ⟨t, vs, rfl, e2, AllR.mo hm _ _ _ k2 r1⟩⟩
theorem ev_tupR {m n : Nat} (hn : n ≤ 1000) (hm : Mo R) (h : EvA Z p dl al H0 σ tl (AllR m n R)) : Ev Z p dl al H0 σ (tTup tl) (TpR K m n R) :=
  (ev_tup h (fun vs G r => Nat.le_of_lt (small1000 (Nat.le_trans r.2.1 hn))) (AllR.mo hm)).imp fun v G ⟨a, xs, e, g, r⟩ => ⟨a, xs, e, .inl (.inl g), r⟩
theorem ev_cat {a b c d : Nat} (hn : b + d ≤ 1000) (hm : Mo R) (h1 : Ev Z p dl al H0 σ ta (LsR a b R)) (h2 : Ev Z p dl al H0 σ tb (LsR c d R)) : Ev Z p dl al H0 σ (tOp rCat ta tb) (LsR (a + c) (b + d) R) :=
  fun H Q P k q => h1 H _ P k fun x H1 P1 k1 r1 => h2 H1 _ P1 (k.trans k1) fun y H2 P2 k2 r2 => by
    obtain ⟨l, xs, rfl, g1, a1, a2, a3⟩ := LsR.mo hm _ _ _ k2 r1
    obtain ⟨l2, ys, rfl, g2, b1, b2, b3⟩ := r2
    refine ⟨l, l2, xs, ys, rfl, rfl, hid_same _ _ _ _ _ g1, hid_same _ _ _ _ _ g2, Nat.le_of_lt (small1000 (by omega)), fun t nt => ?_⟩
    obtain ⟨P3, k3, e3⟩ := laid (o := .lst (xs ++ ys)) P2 nt
    refine q _ _ P3 ((k1.trans k2).trans k3) ⟨t, _, rfl, e3, by rw [List.length_append]; omega, by rw [List.length_append]; omega, fun v hv => ?_⟩
    rcases List.mem_append.mp hv with e | e
    · exact hm _ _ _ k3 (a3 v e)
    · exact hm _ _ _ k3 (b3 v e)
theorem ev_catA {a b c d : Nat} (hn : b + d ≤ 1000) (hm : Mo R) (h1 : Ev Z p dl al H0 σ ta (TpR K a b R)) (h2 : Ev Z p dl al H0 σ tb (TpR K c d R)) : Ev Z p dl al H0 σ (tOp (rCatA K) ta tb) (TpR K (a + c) (b + d) R) :=
  fun H Q P k q => h1 H _ P k fun x H1 P1 k1 r1 => h2 H1 _ P1 (k.trans k1) fun y H2 P2 k2 r2 => by
    have r1' := TpR.mo hm _ _ _ k2 r1
    obtain ⟨l, xs, rfl, g1, a1, a2, a3⟩ := r1'
    obtain ⟨l2, ys, rfl, g2, b1, b2, b3⟩ := id r2
    refine ⟨l, l2, xs, ys, rfl, rfl, Same.seqT (hid_same _ _ _) g1, Same.seqT (hid_same _ _ _) g2, Nat.le_of_lt (small1000 (by omega)), fun z => ?_, fun z1 z2 => ?_, fun z1 z2 t nt => ?_⟩
    · subst z
      refine q _ _ P2 (k1.trans k2) ⟨l2, ys, rfl, g2, ?_, by omega, b3⟩
      simp only [List.length_nil] at a1; omega
    · subst z2
      refine q _ _ P2 (k1.trans k2) ⟨l, xs, rfl, g1, ?_, by omega, a3⟩
      simp only [List.length_nil] at b1; omega
    · obtain ⟨P3, k3, e3⟩ := laid (o := .tup (xs ++ ys)) P2 nt
      refine q _ _ P3 ((k1.trans k2).trans k3) ⟨t, _, rfl, .inl (.inl e3), by rw [List.length_append]; omega, by rw [List.length_append]; omega, fun v hv => ?_⟩
      rcases List.mem_append.mp hv with e | e
      · exact hm _ _ _ k3 (a3 v e)
      · exact hm _ _ _ k3 (b3 v e)
theorem mem_cutV {xs : List V} {lo hi : Option Int} {v : V} (h : v ∈ cutV xs lo hi) : v ∈ xs := List.mem_of_mem_drop (List.mem_of_mem_take h)
/-- any cut of a tuple -/
def AnyO (Z : Hp) (p dl al : Addr) (H0 : Hp) (σ : L2.St) (to : TO) : Prop := ∀ (H : Hp) (Q : Option Int → Hp → Prop), PotAt Z H p dl al → Kp Z p dl H0 H → (∀ o H', PotAt Z H' p dl al → Kp Z p dl H H' → Q o H') → to σ H Q
theorem any_none : AnyO Z p dl al H0 σ tNoPart := fun H Q P k q => q none H P (Kp.refl _ _ _)
theorem any_some {t : TE} (h : Ev Z p dl al H0 σ t (fun v _ => ∃ i, v = .int i)) : AnyO Z p dl al H0 σ (tPart t) := fun H Q P k q => h H _ P k fun v H1 P1 k1 ⟨i, e⟩ => ⟨i, e, q _ _ P1 k1⟩
theorem ev_slA {a b : Nat} {t1 t2 : TO} (hm : Mo R) (h : Ev Z p dl al H0 σ te (TpR K a b R)) (h1 : AnyO Z p dl al H0 σ t1) (h2 : AnyO Z p dl al H0 σ t2) : Ev Z p dl al H0 σ (tSl (rSlA K) te t1 t2) (TpR K 0 b R) :=
  fun H Q P k q => h H _ P k fun x H1 P1 k1 r1 => h1 H1 _ P1 (k.trans k1) fun lo H2 P2 k2 => h2 H2 _ P2 ((k.trans k1).trans k2) fun hi H3 P3 k3 => by
    obtain ⟨l, xs, rfl, g, a1, a2, a3⟩ := TpR.mo hm _ _ _ (Kp.trans k2 k3) r1
    refine ⟨l, xs, rfl, Same.seqT (hid_same _ _ _) g, fun _ => ?_, fun _ t nt => ?_⟩
    · exact q _ _ P3 (k1.trans (k2.trans k3)) ⟨l, xs, rfl, g, Nat.zero_le _, a2, a3⟩
    · obtain ⟨P4, k4, e4⟩ := laid (o := .tup (cutV xs lo hi)) P3 nt
      exact q _ _ P4 (k1.trans ((k2.trans k3).trans k4)) ⟨t, _, rfl, .inl (.inl e4), Nat.zero_le _, Nat.le_trans (cutV_length _ _ _) a2, fun v hv => hm _ _ _ k4 (a3 v (mem_cutV hv))⟩
theorem ev_revT {a b : Nat} (hm : Mo R) (h : Ev Z p dl al H0 σ te (TpR K a b R)) : Ev Z p dl al H0 σ (tRevT K te) (TpR K a b R) :=
  fun H Q P k q => h H _ P k fun x H1 P1 k1 r1 => by
    obtain ⟨l, xs, rfl, g, a1, a2, a3⟩ := r1
    refine ⟨l, xs, rfl, Same.seqT (hid_same _ _ _) g, fun t nt => ?_⟩
    obtain ⟨P4, k4, e4⟩ := laid (o := .tup xs.reverse) P1 nt
    exact q _ _ P4 (k1.trans k4) ⟨t, _, rfl, .inl (.inl e4), by rw [List.length_reverse]; exact a1, by rw [List.length_reverse]; exact a2, fun v hv => hm _ _ _ k4 (a3 v (List.mem_reverse.mp hv))⟩
/-! ### numbers -/
def IR (lo hi : Int) : VR := fun v _ => ∃ i, v = .int i ∧ lo ≤ i ∧ i ≤ hi
theorem IR.mo {lo hi : Int} : Mo (IR lo hi) := fun v G G' s h => h
theorem ev_int {i : Int} : Ev Z p dl al H0 σ (tC (.int i)) (IR i i) := ev_c.imp fun v G e => ⟨i, e, Int.le_refl _, Int.le_refl _⟩
theorem ev_neg {i j : Int} (h : Ev Z p dl al H0 σ te (IR i j)) : Ev Z p dl al H0 σ (tUn (rU fun i => .int (-i)) te) (IR (-j) (-i)) :=
  fun H Q P k q => h H _ P k fun v H1 P1 k1 ⟨x, e, h1, h2⟩ => ⟨x, e, q _ _ P1 k1 ⟨-x, rfl, by omega, by omega⟩⟩
theorem ev_add {a b c d : Int} (h1 : Ev Z p dl al H0 σ ta (IR a b)) (h2 : Ev Z p dl al H0 σ tb (IR c d)) : Ev Z p dl al H0 σ (tOp (rI0 fun i j => .int (i + j)) ta tb) (IR (a + c) (b + d)) :=
  fun H Q P k q => h1 H _ P k fun x H1 P1 k1 ⟨i, e1, i1, i2⟩ => h2 H1 _ P1 (k.trans k1) fun y H2 P2 k2 ⟨j, e2, j1, j2⟩ => ⟨i, j, e1, e2, q _ _ P2 (k1.trans k2) ⟨i + j, rfl, by omega, by omega⟩⟩
theorem ev_sub {a b c d : Int} (h1 : Ev Z p dl al H0 σ ta (IR a b)) (h2 : Ev Z p dl al H0 σ tb (IR c d)) : Ev Z p dl al H0 σ (tOp (rI0 fun i j => .int (i - j)) ta tb) (IR (a - d) (b - c)) :=
  fun H Q P k q => h1 H _ P k fun x H1 P1 k1 ⟨i, e1, i1, i2⟩ => h2 H1 _ P1 (k.trans k1) fun y H2 P2 k2 ⟨j, e2, j1, j2⟩ => ⟨i, j, e1, e2, q _ _ P2 (k1.trans k2) ⟨i - j, rfl, by omega, by omega⟩⟩
theorem ev_mul {a b c d : Int} (ha : 0 ≤ a) (hb : b < 2 ^ 64) (hc : 0 ≤ c) (h1 : Ev Z p dl al H0 σ ta (IR a b)) (h2 : Ev Z p dl al H0 σ tb (IR c d)) : Ev Z p dl al H0 σ (tOp (rI CMul fun i j => .int (i * j)) ta tb) (IR (a * c) (b * d)) :=
  fun H Q P k q => h1 H _ P k fun x H1 P1 k1 ⟨i, e1, i1, i2⟩ => h2 H1 _ P1 (k.trans k1) fun y H2 P2 k2 ⟨j, e2, j1, j2⟩ => by
    refine ⟨i, j, e1, e2, .inl ⟨by omega, by omega⟩, q _ _ P2 (k1.trans k2) ⟨i * j, rfl, ?_, ?_⟩⟩
    · exact Int.mul_le_mul i1 j1 hc (Int.le_trans ha i1)
    · exact Int.mul_le_mul i2 j2 (Int.le_trans hc j1) (Int.le_trans ha (Int.le_trans i1 i2))
theorem ev_pow {i j : Int} (h : CPow i j) : Ev Z p dl al H0 σ (tOp (rI CPow fun i j => .int (i ^ j.toNat)) (tC (.int i)) (tC (.int j))) (IR (i ^ j.toNat) (i ^ j.toNat)) :=
  fun H Q P k q => ⟨i, j, rfl, rfl, h, q _ _ P (Kp.refl _ _ _) ⟨_, rfl, Int.le_refl _, Int.le_refl _⟩⟩
theorem Ev.wide {a b c d : Int} (h : Ev Z p dl al H0 σ te (IR a b)) (h1 : c ≤ a) (h2 : b ≤ d) : Ev Z p dl al H0 σ te (IR c d) := h.imp fun v G ⟨i, e, i1, i2⟩ => ⟨i, e, by omega, by omega⟩
theorem Ev.isInt {a b : Int} (h : Ev Z p dl al H0 σ te (IR a b)) : Ev Z p dl al H0 σ te (fun v _ => ∃ i, v = .int i) := h.imp fun v G ⟨i, e, _⟩ => ⟨i, e⟩
/-! ### draws -/
def sp_one : Sp := fun vs H Q _ => ∃ (Z : Hp) (p dl al l : Addr) (xs : List V), vs = [.ref p, .ref l] ∧ PotAt Z H p dl al ∧ hid Z p dl H l = some (.lst xs) ∧ xs ≠ [] ∧ xs.length ≤ 1000 ∧
  ∀ (x : V) (H' : Hp), x ∈ xs → PotAt Z H' p dl al → Kp Z p dl H H' → Q x H'
theorem ev_draw {i : Nat} {b : Int} (e : σ[i]? = some (some (.ref p))) (hb : b < 1073741824) (h : Ev Z p dl al H0 σ te (IR 1 b)) : Ev Z p dl al H0 σ (tCall sp_draw [] E0 (tCons (tVar i) (tCons te tNil))) (IR 0 (b - 1)) :=
  fun H Q P k q => ⟨_, e, h H _ P k fun v H1 P1 k1 ⟨n, en, n1, n2⟩ => ⟨Z, p, dl, al, n, by rw [en]; rfl, P1, by omega, by omega, fun r H2 P2 k2 r1 r2 => q _ _ P2 (k1.trans k2) ⟨r, rfl, r1, by omega⟩⟩⟩
theorem ev_one {i m n : Nat} (e : σ[i]? = some (some (.ref p))) (hn : n ≤ 1000) (hm : Mo R) (h : Ev Z p dl al H0 σ te (LsR (m + 1) n R)) : Ev Z p dl al H0 σ (tCall sp_one [] E0 (tCons (tVar i) (tCons te tNil))) R :=
  fun H Q P k q => ⟨_, e, h H _ P k fun v H1 P1 k1 ⟨l, xs, el, g, l1, l2, l3⟩ => ⟨Z, p, dl, al, l, xs, by rw [el]; rfl, P1, g, (fun z => by subst z; simp at l1), by omega, fun x H2 hx P2 k2 => q _ _ P2 (k1.trans k2) (hm _ _ _ k2 (l3 x hx))⟩⟩
end
/-! ### data -/
def DR (K : PySem.W.Frag) (φ : PyData → Prop) : VR := fun v G => ∃ d, Dq K G v d ∧ φ d
theorem DR.mo {K : PySem.W.Frag} {φ : PyData → Prop} : Mo (DR K φ) := fun v G G' s ⟨d, h, x⟩ => ⟨d, h.mono s, x⟩
theorem all_data {K : PySem.W.Frag} {φ : PyData → Prop} {G : Hp} : ∀ {xs : List V}, (∀ x ∈ xs, DR K φ x G) → ∃ ds, Dqs K G xs ds ∧ ∀ d ∈ ds, φ d
  | [], _ => ⟨[], .nil, fun d h => nomatch h⟩
  | x :: r, h => by
    obtain ⟨d, hd, pd⟩ := h x List.mem_cons_self
    obtain ⟨ds, hs, ps⟩ := all_data (xs := r) fun y hy => h y (List.mem_cons_of_mem _ hy)
    refine ⟨d :: ds, .cons hd hs, fun e he => ?_⟩
    rcases List.mem_cons.mp he with z | z
    · rw [z]; exact pd
    · exact ps e z
/-- data whose text has at most n signs, with at most k levels -/
structure Sm (n k : Nat) (d : PyData) : Prop where
  sh : d.showable = true
  dp : d.depth ≤ k
  sz : d.shown.length ≤ n
theorem Sm.wide {n k n' k' : Nat} {d : PyData} (h : Sm n k d) (h1 : n ≤ n') (h2 : k ≤ k') : Sm n' k' d := ⟨h.sh, Nat.le_trans h.dp h2, Nat.le_trans h.sz h1⟩
theorem Sm.fine {n k : Nat} {d : PyData} (h : Sm n k d) (h1 : n ≤ 16777216) (h2 : k ≤ 100) : Fine d := ⟨h.sh, Nat.le_trans h.dp h2, Nat.le_trans h.sz (by rw [PySem.sizeLine_eq]; exact h1)⟩
end Lm

namespace Lm
open PySem PySem.Spec PyProof.Rows L2
/-! ### how long a text of data is -/
theorem all_showable : ∀ {ds : List PyData}, (∀ d ∈ ds, d.showable = true) → PyData.showableAll ds = true
  | [], _ => rfl
  | d :: r, h => by
    simp only [PyData.showableAll, h d List.mem_cons_self, Bool.true_and]
    exact all_showable fun e he => h e (List.mem_cons_of_mem _ he)
theorem all_depth {k : Nat} : ∀ {ds : List PyData}, (∀ d ∈ ds, d.depth ≤ k) → PyData.depthAll ds ≤ k
  | [], _ => Nat.zero_le _
  | d :: r, h => by
    simp only [PyData.depthAll]
    exact Nat.max_le.mpr ⟨h d List.mem_cons_self, all_depth fun e he => h e (List.mem_cons_of_mem _ he)⟩
theorem all_shown {n : Nat} : ∀ {ds : List PyData}, (∀ d ∈ ds, d.shown.length ≤ n) → ((PyData.shownAll ds).map (·.length)).sum ≤ ds.length * n ∧ (PyData.shownAll ds).length = ds.length
  | [], _ => by simp [PyData.shownAll]
  | d :: r, h => by
    obtain ⟨h1, h2⟩ := all_shown (ds := r) fun e he => h e (List.mem_cons_of_mem _ he)
    have h3 := h d List.mem_cons_self
    simp only [PyData.shownAll, List.map_cons, List.sum_cons, List.length_cons, h2, and_true]
    rw [Nat.succ_mul]
    omega
theorem seq_size {c n len sum : Nat} (h1 : sum ≤ len * n) (h2 : len ≤ c) : sum + 2 * len + 3 ≤ c * (n + 2) + 3 := by
  have h3 : len * n ≤ c * n := Nat.mul_le_mul_right n h2
  rw [Nat.mul_add]
  omega
theorem Sm.tuple {c n k : Nat} {ds : List PyData} (h : ∀ d ∈ ds, Sm n k d) (hc : ds.length ≤ c) : Sm (c * (n + 2) + 3) (k + 1) (.tuple ds) := by
  obtain ⟨h1, h2⟩ := all_shown fun d hd => (h d hd).sz
  refine ⟨?_, ?_, ?_⟩
  · simp only [PyData.showable]
    exact all_showable fun d hd => (h d hd).sh
  · simp only [PyData.depth]
    exact Nat.succ_le_succ (all_depth fun d hd => (h d hd).dp)
  · simp only [PyData.shown]
    refine Nat.le_trans (tupleText_len_le _) ?_
    rw [h2]
    exact seq_size h1 hc
theorem Sm.list {c n k : Nat} {ds : List PyData} (h : ∀ d ∈ ds, Sm n k d) (hc : ds.length ≤ c) : Sm (c * (n + 2) + 3) (k + 1) (.list ds) := by
  obtain ⟨h1, h2⟩ := all_shown fun d hd => (h d hd).sz
  refine ⟨?_, ?_, ?_⟩
  · simp only [PyData.showable]
    exact all_showable fun d hd => (h d hd).sh
  · simp only [PyData.depth]
    exact Nat.succ_le_succ (all_depth fun d hd => (h d hd).dp)
  · simp only [PyData.shown]
    refine Nat.le_trans (listText_len_le _) ?_
    rw [h2]
    exact seq_size h1 hc
theorem log2_lt {n : Nat} (h : n < 10 ^ 12) : n.log2 < 1920 := by
  by_cases z : n = 0
  · subst z; decide
  · exact (Nat.log2_lt z).mpr (Nat.lt_trans h (Nat.lt_of_lt_of_le (by decide : 10 ^ 12 < 2 ^ 40) (Nat.pow_le_pow_right (by decide) (by decide))))
theorem Sm.int {i : Int} (h : i.natAbs < 10 ^ 12) : Sm 13 0 (.int i) := by
  refine ⟨?_, Nat.le_refl _, PyData.shown_int_le h⟩
  simp only [PyData.showable, decide_eq_true_eq]
  exact log2_lt h
theorem Sm.bool (b : Bool) : Sm 5 0 (.bool b) := by cases b <;> exact ⟨rfl, Nat.le_refl _, by decide +kernel⟩
section
variable {K : PySem.W.Frag} {Z : Hp} {p dl al : Addr} {H0 : Hp} {σ : L2.St} {te ta tb : TE} {tl : TA} {R R' : VR} {n k : Nat}
theorem TpR.data {m c : Nat} {G : Hp} {v : V} (h : TpR K m c R v G) (i : ∀ x, R x G → DR K (Sm n k) x G) : DR K (Sm (c * (n + 2) + 3) (k + 1)) v G := by
  obtain ⟨a, xs, rfl, g, h1, h2, h3⟩ := h
  obtain ⟨ds, hd, hp⟩ := all_data fun x hx => i x (h3 x hx)
  exact ⟨_, .tup g hd, Sm.tuple hp (by rw [← hd.len]; exact h2)⟩
theorem LsR.data {m c : Nat} {G : Hp} {v : V} (h : LsR m c R v G) (i : ∀ x, R x G → DR K (Sm n k) x G) : DR K (Sm (c * (n + 2) + 3) (k + 1)) v G := by
  obtain ⟨a, xs, rfl, g, h1, h2, h3⟩ := h
  obtain ⟨ds, hd, hp⟩ := all_data fun x hx => i x (h3 x hx)
  exact ⟨_, .lst (.inl (.inl g)) hd, Sm.list hp (by rw [← hd.len]; exact h2)⟩
theorem DR.wide {n' k' : Nat} {G : Hp} {v : V} (h : DR K (Sm n k) v G) (h1 : n ≤ n') (h2 : k ≤ k') : DR K (Sm n' k') v G := let ⟨d, a, b⟩ := h; ⟨d, a, b.wide h1 h2⟩
theorem ev_wide {n' k' : Nat} (h : Ev Z p dl al H0 σ te (DR K (Sm n k))) (h1 : n ≤ n') (h2 : k ≤ k') : Ev Z p dl al H0 σ te (DR K (Sm n' k')) := h.imp fun v G r => r.wide h1 h2
theorem ev_d {v : V} {d : PyData} (h : ∀ G, Dq K G v d) (s : Sm n k d) : Ev Z p dl al H0 σ (tC v) (DR K (Sm n k)) := ev_c.imp fun u G e => by rw [e]; exact ⟨d, h G, s⟩
theorem ir_data {lo hi : Int} {v : V} {G : Hp} (h : IR lo hi v G) (h1 : -999999999999 ≤ lo) (h2 : hi ≤ 999999999999) : DR K (Sm 13 0) v G := by
  obtain ⟨i, rfl, i1, i2⟩ := h
  exact ⟨_, .int i, Sm.int (by omega)⟩
theorem ev_ir {lo hi : Int} (h : Ev Z p dl al H0 σ te (IR lo hi)) (h1 : -999999999999 ≤ lo) (h2 : hi ≤ 999999999999) : Ev Z p dl al H0 σ te (DR K (Sm 13 0)) := h.imp fun v G r => ir_data r h1 h2
theorem ev_tupD {m c : Nat} (hc : c ≤ 1000) (h : EvA Z p dl al H0 σ tl (AllR m c (DR K (Sm n k)))) : Ev Z p dl al H0 σ (tTup tl) (DR K (Sm (c * (n + 2) + 3) (k + 1))) :=
  (ev_tupR hc DR.mo h).imp fun v G r => r.data fun x z => z
theorem ev_lstD {m c : Nat} (hc : c ≤ 1000) (h : EvA Z p dl al H0 σ tl (AllR m c (DR K (Sm n k)))) : Ev Z p dl al H0 σ (tLst tl) (DR K (Sm (c * (n + 2) + 3) (k + 1))) :=
  (ev_lst hc DR.mo h).imp fun v G r => r.data fun x z => z
theorem ev_dnew : Ev Z p dl al H0 σ tDNewK (DR K (Sm 2 1)) := fun H Q P k q t nt => by
  obtain ⟨P4, k4, e4⟩ := laid (o := .dK []) P nt
  exact q _ _ P4 k4 ⟨_, .dct e4 .nil, ⟨rfl, by decide, by decide +kernel⟩⟩
theorem ev_disp1 {x : Str} {i : Int} {d : PyData} (hd : d = .dict [(.str x, .int i)]) (s : Sm n k d) : Ev Z p dl al H0 σ (tDisp [(tC (.str x), tC (.int i))]) (DR K (Sm n k)) := fun H Q P k q t nt => by
  subst hd
  have e : (upd (upd H t (.dK [])) t (.dK (mergeK [] [((Sum.inr x : L2.Key), V.int i)]))) = upd H t (.dK [(Sum.inr x, V.int i)]) := by rw [upd_upd]; rfl
  refine ⟨upd_same, [(Sum.inr x, V.int i)], rfl, Nat.le_add_left 1 14, ?_⟩
  rw [e]
  obtain ⟨P4, k4, e4⟩ := laid (o := .dK [(Sum.inr x, V.int i)]) P nt
  exact q _ _ P4 k4 ⟨_, .dct (ds := [.int i]) e4 (.cons (.int i) .nil), s⟩
/-- an odd value -/
def sp_odd (K : PySem.W.Frag) : Sp := fun vs H Q _ => ∃ (Z : Hp) (p dl al : Addr), vs = [.ref p] ∧ PotAt Z H p dl al ∧ ∀ (x : V) (H' : Hp), PotAt Z H' p dl al → Kp Z p dl H H' → DR K (Sm 60 3) x (hid Z p dl H') → Q x H'
theorem ev_odd {i : Nat} (e : σ[i]? = some (some (.ref p))) : Ev Z p dl al H0 σ (tCall (sp_odd K) [] E0 (tCons (tVar i) tNil)) (DR K (Sm 60 3)) := fun H Q P k q => ⟨_, e, Z, p, dl, al, rfl, P, fun x H' P' k' r => q x H' P' k' r⟩
def sp_opened (K : PySem.W.Frag) : Sp := fun vs H Q _ => ∃ (a : Addr) (ns : List Int), vs = [.ref a] ∧ SqL K H a (ns.map V.int) ∧ ns.length ≤ 63 ∧ ∀ (p dl al : Addr) (H' : Hp), PotAt (fun _ => none) H' p dl al → Same H H' → Q (.ref p) H'
end
theorem cut_all {xs : List V} (h : xs.length ≤ 64) : cutV xs none (some 64) = xs := by
  unfold cutV
  rw [HT.sIx_none, show HT.sIx xs.length xs.length (some 64) = min 64 xs.length from HT.sIx_nat xs.length xs.length 64, Nat.min_eq_right h, List.drop_zero, Nat.sub_zero, List.take_length]
theorem same_upd2 {H H' : Hp} {q : Addr} {o : HO} (s : Same H H') (n : H q = none) : Same H (upd H' q o) := fun b x e => by
  rw [upd_ne (ne_of_none e n)]
  exact s b x e
theorem yes_if {σ : L2.St} {H : Hp} {A B : Hp → Prop} (h : A H) : tYes σ H (fun b H3 => if b = true then A H3 else B H3) := by
  show if true = true then A H else B H
  rw [if_pos rfl]
  exact h
/-! ### one written number -/
def EI (i : Int) : VR := fun v _ => v = .int i
section
variable {K : PySem.W.Frag} {Z : Hp} {p dl al : Addr} {H0 : Hp} {σ : L2.St} {te ta tb : TE} {tl : TA} {n k : Nat} {a b : Int}
theorem ei_c {i : Int} : Ev Z p dl al H0 σ (tC (.int i)) (EI i) := ev_c
theorem ei_neg (h : Ev Z p dl al H0 σ te (EI a)) : Ev Z p dl al H0 σ (tUn (rU fun i => .int (-i)) te) (EI (-a)) := fun H Q P k q => h H _ P k fun v H1 P1 k1 e => ⟨a, e, q _ _ P1 k1 rfl⟩
theorem ei_add (h1 : Ev Z p dl al H0 σ ta (EI a)) (h2 : Ev Z p dl al H0 σ tb (EI b)) : Ev Z p dl al H0 σ (tOp (rI0 fun i j => .int (i + j)) ta tb) (EI (a + b)) :=
  fun H Q P k q => h1 H _ P k fun x H1 P1 k1 e1 => h2 H1 _ P1 (k.trans k1) fun y H2 P2 k2 e2 => ⟨a, b, e1, e2, q _ _ P2 (k1.trans k2) rfl⟩
theorem ei_mul (hc : CMul a b) (h1 : Ev Z p dl al H0 σ ta (EI a)) (h2 : Ev Z p dl al H0 σ tb (EI b)) : Ev Z p dl al H0 σ (tOp (rI CMul fun i j => .int (i * j)) ta tb) (EI (a * b)) :=
  fun H Q P k q => h1 H _ P k fun x H1 P1 k1 e1 => h2 H1 _ P1 (k.trans k1) fun y H2 P2 k2 e2 => ⟨a, b, e1, e2, hc, q _ _ P2 (k1.trans k2) rfl⟩
theorem ei_pow {i j : Int} (h : CPow i j) : Ev Z p dl al H0 σ (tOp (rI CPow fun i j => .int (i ^ j.toNat)) (tC (.int i)) (tC (.int j))) (EI (i ^ j.toNat)) := fun H Q P k q => ⟨i, j, rfl, rfl, h, q _ _ P (Kp.refl _ _ _) rfl⟩
theorem ei_d (h : Ev Z p dl al H0 σ te (EI a)) (s : Sm n k (.int a)) : Ev Z p dl al H0 σ te (DR K (Sm n k)) := h.imp fun v G e => by rw [e]; exact ⟨_, .int a, s⟩
theorem ei_ir (h : Ev Z p dl al H0 σ te (EI a)) : Ev Z p dl al H0 σ te (IR a a) := h.imp fun v G e => ⟨a, e, Int.le_refl _, Int.le_refl _⟩
end
instance {i j : Int} : Decidable (CPow i j) := by unfold CPow; infer_instance
instance {i j : Int} : Decidable (CMul i j) := by unfold CMul; infer_instance
theorem sm_chk {n k : Nat} {d : PyData} (h : (d.showable && decide (d.depth ≤ k) && decide (d.shown.length ≤ n)) = true) : Sm n k d := by
  simp only [Bool.and_eq_true, decide_eq_true_eq] at h
  exact ⟨h.1.1, h.1.2, h.2⟩
/-! ### a statement and what follows it -/
section
variable {D : Ends} {σ : L2.St} {H : Hp} {te : TE} {ta : TA} {t u v : TS} {c : TT} {i j : Nat}
theorem s_set (h : te σ H fun x H1 => u D (σ.set i (some x)) H1) : tSeq (tAsg te (gName i)) u D σ H := h
theorem s_set1 (h : te σ H fun x H1 => D.nx (σ.set i (some x)) H1) : tAsg te (gName i) D σ H := h
theorem s_par (h : ta σ H fun vs H1 => ∃ v w, vs = [v, w] ∧ u D ((σ.set i (some v)).set j (some w)) H1) : tSeq (tPar i j ta) u D σ H := h
theorem s_expr (h : te σ H fun _ H1 => u D σ H1) : tSeq (tDrop te) u D σ H := h
theorem s_expr1 (h : te σ H fun _ H1 => D.nx σ H1) : tDrop te D σ H := h
theorem s_if (h : c σ H fun b H1 => if b = true then t { D with nx := u D } σ H1 else v { D with nx := u D } σ H1) : tSeq (tIfS c t v) u D σ H := h
theorem s_if1 (h : c σ H fun b H1 => if b = true then t D σ H1 else v D σ H1) : tIfS c t v D σ H := h
theorem s_ret (h : te σ H D.rt) : tRet te D σ H := h
theorem s_next (h : D.nx σ H) : tNext D σ H := h
end
section
variable {K : PySem.W.Frag} {Z : Hp} {p dl al : Addr} {H0 : Hp} {σ : L2.St} {te ta tb : TE} {tl : TA} {R R' R1 R2 : VR} {n k : Nat}
theorem ev_tpD {m c N : Nat} (h : Ev Z p dl al H0 σ te (TpR K m c (DR K (Sm n k)))) (hN : c * (n + 2) + 3 ≤ N) : Ev Z p dl al H0 σ te (DR K (Sm N (k + 1))) := h.imp fun v G r => (r.data fun x z => z).wide hN (Nat.le_refl _)
theorem ev_lsD {m c N : Nat} (h : Ev Z p dl al H0 σ te (LsR m c (DR K (Sm n k)))) (hN : c * (n + 2) + 3 ≤ N) : Ev Z p dl al H0 σ te (DR K (Sm N (k + 1))) := h.imp fun v G r => (r.data fun x z => z).wide hN (Nat.le_refl _)
theorem ev_len {m c : Nat} (h : Ev Z p dl al H0 σ te (TpR K m c R)) : Ev Z p dl al H0 σ (tCB (fun xs H Q => ∃ p ys, xs = [.ref p] ∧ (SqL K H p ys ∨ SqT K H p ys) ∧ Q (.int ys.length) H) (tCons te tNil)) (IR m c) :=
  fun H Q P k q => h H _ P k fun v H1 P1 k1 ⟨a, xs, e, g, h1, h2, _⟩ => ⟨a, xs, by rw [e], .inr (Same.seqT (hid_same _ _ _) g), q _ _ P1 k1 ⟨_, rfl, by omega, by omega⟩⟩
theorem ev_lenL {m c : Nat} (h : Ev Z p dl al H0 σ te (LsR m c R)) : Ev Z p dl al H0 σ (tCB (fun xs H Q => ∃ p ys, xs = [.ref p] ∧ (SqL K H p ys ∨ SqT K H p ys) ∧ Q (.int ys.length) H) (tCons te tNil)) (IR m c) :=
  fun H Q P k q => h H _ P k fun v H1 P1 k1 ⟨a, xs, e, g, h1, h2, _⟩ => ⟨a, xs, by rw [e], .inl (.inl (.inl (hid_same _ _ _ _ _ g))), q _ _ P1 k1 ⟨_, rfl, by omega, by omega⟩⟩
theorem ev_listOf {m c : Nat} (hm : Mo R) (h : Ev Z p dl al H0 σ te (TpR K m c R)) : Ev Z p dl al H0 σ (tCB (fun xs H Q => ∃ p ys, xs = [.ref p] ∧ (SqL K H p ys ∨ SqT K H p ys) ∧ ∀ l, H l = none → Q (.ref l) (upd H l (.lst ys))) (tCons te tNil)) (LsR m c R) :=
  fun H Q P k q => h H _ P k fun v H1 P1 k1 ⟨a, xs, e, g, h1, h2, h3⟩ => ⟨a, xs, by rw [e], .inr (Same.seqT (hid_same _ _ _) g), fun t nt => by
    obtain ⟨P4, k4, e4⟩ := laid (o := .lst xs) P1 nt
    exact q _ _ P4 (k1.trans k4) ⟨t, xs, rfl, e4, h1, h2, fun x hx => hm _ _ _ k4 (h3 x hx)⟩⟩
theorem ev_tupleOf {m c : Nat} (hm : Mo R) (h : Ev Z p dl al H0 σ te (LsR m c R)) : Ev Z p dl al H0 σ (tCB (fun xs H Q => ∃ p ys, xs = [.ref p] ∧ ((SqL K H p ys ∧ ∀ l, H l = none → Q (.ref l) (upd H l (.tup ys))) ∨ (SqT K H p ys ∧ Q (.ref p) H))) (tCons te tNil)) (TpR K m c R) :=
  fun H Q P k q => h H _ P k fun v H1 P1 k1 ⟨a, xs, e, g, h1, h2, h3⟩ => ⟨a, xs, by rw [e], .inl ⟨.inl (.inl (hid_same _ _ _ _ _ g)), fun t nt => by
    obtain ⟨P4, k4, e4⟩ := laid (o := .tup xs) P1 nt
    exact q _ _ P4 (k1.trans k4) ⟨t, xs, rfl, .inl (.inl e4), h1, h2, fun x hx => hm _ _ _ k4 (h3 x hx)⟩⟩⟩
theorem ev_pair (m1 : Mo R1) (m2 : Mo R2) (h1 : Ev Z p dl al H0 σ ta R1) (h2 : Ev Z p dl al H0 σ tb R2) : EvA Z p dl al H0 σ (tCons ta (tCons tb tNil)) (fun vs G => ∃ v w, vs = [v, w] ∧ R1 v G ∧ R2 w G) :=
  (eva_cons m1 h1 (eva_cons m2 h2 eva_nil)).imp fun vs G ⟨v, r, e, r1, w, r', e', r2, e2⟩ => ⟨v, w, by rw [e, e', e2], r1, r2⟩
theorem ev_i1 {v : V} {i : Nat} {lo hi : Int} (e : σ[i]? = some (some v)) (h : IR lo hi v (hid Z p dl H0)) : Ev Z p dl al H0 σ (tVar i) (IR lo hi) := ev_var e IR.mo h
/-- a bent tuple -/
def sp_bent (K : PySem.W.Frag) (c n k N : Nat) : Sp := fun vs H Q _ => ∃ (Z : Hp) (p dl al : Addr) (v : V), vs = [.ref p, v] ∧ PotAt Z H p dl al ∧ TpR K 0 c (DR K (Sm n k)) v (hid Z p dl H) ∧
  ∀ (x : V) (H' : Hp), PotAt Z H' p dl al → Kp Z p dl H H' → DR K (Sm N (k + 1)) x (hid Z p dl H') → Q x H'
theorem ev_bent {i c N : Nat} (e : σ[i]? = some (some (.ref p))) (h : Ev Z p dl al H0 σ te (TpR K 0 c (DR K (Sm n k)))) : Ev Z p dl al H0 σ (tCall (sp_bent K c n k N) [] E0 (tCons (tVar i) (tCons te tNil))) (DR K (Sm N (k + 1))) :=
  fun H Q P k q => ⟨_, e, h H _ P k fun v H1 P1 k1 r1 => ⟨Z, p, dl, al, v, rfl, P1, r1, fun x H' P' k' r => q x H' P' (k1.trans k') r⟩⟩
end
/-! ### isinstance of data -/
def tyN : PyData → String
  | .none => "NoneType"
  | .bool _ => "bool"
  | .int _ => "int"
  | .str _ => "str"
  | .list _ => "list"
  | .tuple _ => "tuple"
  | .dict _ => "dict"
theorem Dq.ty {K : PySem.W.Frag} {H : Hp} {v : V} {d : PyData} (h : Dq K H v d) : TyX K H v (.type (tyN d)) := by
  cases h with
  | non => exact .base .non
  | bl b => exact .base (.bl b)
  | int i => exact .base (.int i)
  | str x => exact .base (.str x)
  | lst hs _ =>
    rcases hs with (h | ⟨o, h⟩) | ⟨o, its, n, hk, hc, _⟩
    · exact .base (.lst h)
    · exact .base (.frz h)
    · exact .kList hk hc
  | tup hs _ =>
    rcases hs with (h | ⟨o, h⟩) | ⟨o, its, n, hk, hc, _⟩
    · exact .base (.tup h)
    · exact .fTuple h
    · exact .kTuple hk hc
  | dct hs _ => exact .base (.dK hs)
def isI : PyData → Bool | .int _ => true | .bool _ => true | _ => false
def isB : PyData → Bool | .bool _ => true | _ => false
def isT : PyData → Bool | .tuple _ => true | _ => false
def isS : PyData → Bool | .str _ => true | _ => false
theorem kit_i (d : PyData) : kitB (tyN d) "int" = some (isI d) := by cases d <;> simp only [tyN, isI] <;> decide +kernel
theorem kit_b (d : PyData) : kitB (tyN d) "bool" = some (isB d) := by cases d <;> simp only [tyN, isB] <;> decide +kernel
theorem kit_t (d : PyData) : kitB (tyN d) "tuple" = some (isT d) := by cases d <;> simp only [tyN, isT] <;> decide +kernel
theorem kit_s (d : PyData) : kitB (tyN d) "str" = some (isS d) := by cases d <;> simp only [tyN, isS] <;> decide +kernel
theorem isi_d {K : PySem.W.Frag} {H : Hp} {v : V} {d : PyData} {Tn : String} {b : Bool} {Q : VK} (h : Dq K H v d) (hb : kitB (tyN d) Tn = some b) (q : Q (.bl b) H) : rIsi K [v, .ty Tn] H Q :=
  ⟨v, .ty Tn, _, _, b, rfl, .ty Tn, h.ty, kit_ty hb, q⟩
/-- an integer that is no bool -/
def wh : PyData → Bool | .int _ => true | _ => false
theorem wh_eq (d : PyData) : wh d = (isI d && !isB d) := by cases d <;> rfl
def sp_is_whole (K : PySem.W.Frag) : Sp := fun vs H Q _ => ∃ v d, vs = [v] ∧ Dq K H v d ∧ Q (.bl (wh d)) H
/-- so many integers -/
def wt (d : PyData) (m : Int) : Bool := match d with | .tuple ds => decide ((ds.length : Int) = m) && ds.all wh | _ => false
def sp_is_whole_tuple (K : PySem.W.Frag) : Sp := fun vs H Q _ => ∃ v d m, vs = [v, .int m] ∧ Dq K H v d ∧ m ≤ 1000 ∧ ∀ H', Same H H' → Q (.bl (wt d m)) H'
def inW (lo hi : Int) : PyData → Bool | .int i => decide (lo ≤ i) && decide (i ≤ hi) | _ => false
def sp_whole (K : PySem.W.Frag) : Sp := fun vs H Q _ => ∃ v d lo hi, vs = [v, .int lo, .int hi] ∧ Dq K H v d ∧ Q (.bl (inW lo hi d)) H
end Lm

namespace Lm
open PySem PySem.Spec PyProof.Rows L2
/-! ### stretches and logs, as functions of data -/
/-- a stretch that a log may have -/
def stOf : PyData → Option (Int × Int)
  | .tuple [.int a, .int b] => if 0 ≤ a ∧ a < b ∧ b ≤ 2000000000 then some (a, b) else none
  | _ => none
def two (d e : PyData) : PyData := .tuple [d, e]
def logGo : List PyData → Nat → Int → PyData
  | [], _, _ => .none
  | d :: r, i, b => match stOf d with
    | none => two (.int i) (.str "stretch")
    | some (on, off) => if on ≤ b then two (.int i) (.str "order") else logGo r (i + 1) off
def logErr : PyData → PyData
  | .tuple ds => if 60 < ds.length then two .none (.str "log") else logGo ds 0 (-1)
  | _ => two .none (.str "log")
theorem logGo_cons {ds : List PyData} {i : Nat} {b : Int} {d : PyData} (h : ds[i]? = some d) : logGo (ds.drop i) i b = logGo (d :: ds.drop (i + 1)) i b := by
  obtain ⟨hi, e⟩ := List.getElem?_eq_some_iff.mp h
  rw [List.drop_eq_getElem_cons hi, e]
theorem stOf_wt {d : PyData} : (stOf d).isSome = true → ∃ a b, d = .tuple [.int a, .int b] ∧ stOf d = some (a, b) ∧ 0 ≤ a ∧ a < b ∧ b ≤ 2000000000 := by
  unfold stOf
  split
  · rename_i a b
    split
    · rename_i h
      exact fun _ => ⟨a, b, rfl, rfl, h.1, h.2.1, h.2.2⟩
    · intro h; cases h
  · intro h; cases h
theorem sz2 {x y : V} : [x, y].length ≤ sizeLine := Nat.le_of_lt (small1000 (Nat.le_add_left 2 998))
def isN : PyData → Bool | .none => true | _ => false
/-- None, or a new pair of flat things -/
def Flat (K : PySem.W.Frag) (H H' : Hp) (r : V) (e : PyData) : Prop := (r = .non ∧ e = .none) ∨ ∃ t x y dx dy, r = .ref t ∧ H t = none ∧ H' t = some (.tup [x, y]) ∧ e = two dx dy ∧ (∀ G, Dq K G x dx) ∧ (∀ G, Dq K G y dy)
theorem Flat.dq {K : PySem.W.Frag} {H H' : Hp} {r : V} {e : PyData} {Z : Hp} {p dl al : Addr} (h : Flat K H H' r e) (P : PotAt Z H p dl al) : Dq K (hid Z p dl H') r e := by
  rcases h with ⟨rfl, rfl⟩ | ⟨t, x, y, dx, dy, rfl, n, g, rfl, hx, hy⟩
  · exact .non
  · have f := P.free n
    exact .tup (.inl (.inl (by rw [hid_at f.1 f.2]; exact g))) (.cons (hx _) (.cons (hy _) .nil))
def sp_err (K : PySem.W.Frag) (F : PyData → PyData) : Sp := fun vs H Q _ => ∃ v d, vs = [v] ∧ Dq K H v d ∧ ∀ r H', Same H H' → Flat K H H' r (F d) → Q r H'
def sp_is_stretch (K : PySem.W.Frag) : Sp := fun vs H Q _ => ∃ v d, vs = [v] ∧ Dq K H v d ∧ ∀ H', Same H H' → Q (.bl (stOf d).isSome) H'
def sp_bool (K : PySem.W.Frag) (F : PyData → Bool) : Sp := fun vs H Q _ => ∃ v d, vs = [v] ∧ Dq K H v d ∧ ∀ H', Same H H' → Q (.bl (F d)) H'
theorem wt2 {d : PyData} (h : wt d 2 = true) : ∃ a b, d = .tuple [.int a, .int b] := by
  unfold wt at h
  split at h
  · rename_i ds
    simp only [Bool.and_eq_true, decide_eq_true_eq] at h
    obtain ⟨h1, h2⟩ := h
    match ds, h1, h2 with
    | [x, y], _, h2 =>
      simp only [List.all_cons, List.all_nil, Bool.and_true, Bool.and_eq_true] at h2
      cases x <;> cases y <;> first | exact ⟨_, _, rfl⟩ | (simp [wh] at h2)
    | [], h1, _ => exact absurd h1 (by simp)
    | [_], h1, _ => exact absurd h1 (by simp)
    | _ :: _ :: _ :: _, h1, _ => exact absurd h1 (by simp only [List.length_cons]; omega)
  · cases h
theorem wt2_no {d : PyData} (h : wt d 2 = false) : stOf d = none := by
  unfold stOf
  split
  · simp [wt, wh] at h
  · rfl
theorem inW_int {lo hi : Int} {d : PyData} (h : inW lo hi d = true) : ∃ a, d = .int a ∧ lo ≤ a ∧ a ≤ hi := by
  unfold inW at h
  split at h
  · simp only [Bool.and_eq_true, decide_eq_true_eq] at h
    exact ⟨_, rfl, h.1, h.2⟩
  · cases h
theorem stOf_len {ds : List PyData} (h : (ds.length : Int) ≠ 2) : stOf (.tuple ds) = none := by
  unfold stOf
  split
  · rename_i e
    cases e
    exact absurd rfl h
  · rfl
theorem stOf_out {ds : List PyData} (h : ds.all (inW 0 2000000000) = false) : stOf (.tuple ds) = none := by
  cases e : stOf (.tuple ds) with
  | none => rfl
  | some ab =>
    obtain ⟨a, b, e1, _, h1, h2, h3⟩ := stOf_wt (d := .tuple ds) (by rw [e]; rfl)
    cases e1
    have g : (List.all [PyData.int a, PyData.int b] (inW 0 2000000000)) = true := by
      simp only [List.all_cons, List.all_nil, Bool.and_true, inW, Bool.and_eq_true, decide_eq_true_eq]
      omega
    rw [g] at h
    cases h
theorem stOf_in {a b : Int} (h1 : 0 ≤ a) (h2 : b ≤ 2000000000) : (stOf (.tuple [.int a, .int b])).isSome = decide (a < b) := by
  show (if 0 ≤ a ∧ a < b ∧ b ≤ 2000000000 then some (a, b) else none).isSome = _
  by_cases h : a < b
  · rw [if_pos ⟨h1, h, h2⟩, decide_eq_true h]
    rfl
  · rw [if_neg fun z => h z.2.1, decide_eq_false h]
    rfl
/-! ### pairs of numbers; a log that grows -/
def PrAt (G : Hp) : V → Int × Int → Prop := fun v q => ∃ t, v = .ref t ∧ G t = some (.tup [.int q.1, .int q.2])
abbrev Prs (G : Hp) : List V → List (Int × Int) → Prop := PySem.Paired (PrAt G)
def TupKeep (G G' : Hp) : Prop := ∀ t ys, G t = some (.tup ys) → G' t = some (.tup ys)
theorem TupKeep.of {G G' : Hp} (s : Same G G') : TupKeep G G' := fun t ys e => s _ _ e
theorem Prs.keep {G G' : Hp} (s : TupKeep G G') {xs : List V} {ps : List (Int × Int)} (h : Prs G xs ps) : Prs G' xs ps := Paired.mapP h fun a b ⟨t, e, g⟩ => ⟨t, e, s _ _ g⟩
theorem Prs.app {G : Hp} : ∀ {xs ys : List V} {ps qs : List (Int × Int)}, Prs G xs ps → Prs G ys qs → Prs G (xs ++ ys) (ps ++ qs)
  | _, _, _, _, .nil, s => s
  | _, _, _, _, .cons r t, s => .cons r (Prs.app t s)
theorem Prs.get {G : Hp} : ∀ {xs : List V} {ps : List (Int × Int)} {i : Nat} {v : V}, Prs G xs ps → xs[i]? = some v → ∃ q, ps[i]? = some q ∧ PrAt G v q
  | _, _, _, _, .nil, e => by simp at e
  | _, _, 0, _, .cons r _, e => by simp at e; subst e; exact ⟨_, rfl, r⟩
  | _, _, i + 1, v, .cons _ t, e => by
    obtain ⟨u, h1, h2⟩ := Prs.get (i := i) (v := v) t (by simpa using e)
    exact ⟨u, by simpa using h1, h2⟩
/-- it grows from b on -/
def LogUp (b : Int) : List (Int × Int) → Prop
  | [] => True
  | q :: r => b < q.1 ∧ q.1 < q.2 ∧ LogUp q.2 r
def fin (b : Int) : List (Int × Int) → Int
  | [] => b
  | q :: r => fin q.2 r
def LogOk (b : Int) (ps : List (Int × Int)) : Prop := LogUp b ps ∧ ∀ q ∈ ps, q.2 ≤ 2000000000
theorem LogUp.app : ∀ {b : Int} {ps : List (Int × Int)} {q : Int × Int}, LogUp b ps → fin b ps < q.1 → q.1 < q.2 → LogUp b (ps ++ [q]) ∧ fin b (ps ++ [q]) = q.2
  | b, [], q, _, h1, h2 => ⟨⟨h1, h2, trivial⟩, rfl⟩
  | b, x :: r, q, h, h1, h2 => by
    obtain ⟨a1, a2, a3⟩ := h
    obtain ⟨c1, c2⟩ := LogUp.app (q := q) a3 h1 h2
    exact ⟨⟨a1, a2, c1⟩, c2⟩
theorem LogUp.less : ∀ {b c : Int} {ps : List (Int × Int)}, c ≤ b → LogUp b ps → LogUp c ps
  | _, _, [], _, _ => trivial
  | b, c, q :: r, h, ⟨a1, a2, a3⟩ => ⟨by omega, a2, a3⟩
theorem LogUp.filt : ∀ {b : Int} {ps : List (Int × Int)}, LogUp b ps → LogUp b (ps.filter fun q => decide (q.2 ≤ 2000000000))
  | _, [], _ => trivial
  | b, q :: r, ⟨a1, a2, a3⟩ => by
    have ih := LogUp.filt a3
    rw [List.filter_cons]
    split
    · exact ⟨a1, a2, ih⟩
    · exact LogUp.less (by omega) ih
theorem LogUp.bound : ∀ {b : Int} {ps : List (Int × Int)}, LogUp b ps → ∀ q ∈ ps, b < q.1 ∧ q.1 < q.2
  | _, [], _, q, h => nomatch h
  | b, x :: r, ⟨a1, a2, a3⟩, q, h => by
    rcases List.mem_cons.mp h with e | e
    · rw [e]; exact ⟨a1, a2⟩
    · have := LogUp.bound a3 q e
      exact ⟨by omega, this.2⟩
/-- a tuple of such pairs -/
def PairsR (K : PySem.W.Frag) (ps : List (Int × Int)) : VR := fun v G => ∃ a xs, v = .ref a ∧ G a = some (.tup xs) ∧ Prs G xs ps
theorem PairsR.mo {K : PySem.W.Frag} {ps : List (Int × Int)} : Mo (PairsR K ps) := fun v G G' s ⟨a, xs, e, g, r⟩ => ⟨a, xs, e, s _ _ g, r.keep (.of s)⟩
def LogR (K : PySem.W.Frag) (n : Nat) : VR := fun v G => ∃ ps, PairsR K ps v G ∧ ps.length ≤ n ∧ LogOk (-1) ps
theorem LogR.mo {K : PySem.W.Frag} {n : Nat} : Mo (LogR K n) := fun v G G' s ⟨ps, h, r⟩ => ⟨ps, PairsR.mo _ _ _ s h, r⟩
def pD (q : Int × Int) : PyData := two (.int q.1) (.int q.2)
theorem Prs.dqs {K : PySem.W.Frag} {G : Hp} : ∀ {xs : List V} {ps : List (Int × Int)}, Prs G xs ps → Dqs K G xs (ps.map pD)
  | _, _, .nil => .nil
  | _, _, .cons ⟨t, e, g⟩ r => by
    subst e
    exact .cons (.tup (.inl (.inl g)) (.cons (.int _) (.cons (.int _) .nil))) (Prs.dqs r)
theorem Prs.dp {K : PySem.W.Frag} {G : Hp} : ∀ {xs : List V} {ps : List (Int × Int)}, Prs G xs ps → DpAll K G xs (ps.map pD)
  | _, _, .nil => .nil
  | _, _, .cons ⟨t, e, g⟩ r => by
    subst e
    exact .cons (.tup (.inl (.inl g)) (.cons (.int _) (.cons (.int _) .nil))) (Prs.dp r)
theorem Prs.len {G : Hp} {xs : List V} {ps : List (Int × Int)} (h : Prs G xs ps) : xs.length = ps.length := Paired.length h
theorem pD_sm {q : Int × Int} (h1 : q.1.natAbs < 10 ^ 12) (h2 : q.2.natAbs < 10 ^ 12) : Sm 33 1 (pD q) := Sm.tuple (c := 2) (n := 13) (k := 0) (ds := [.int q.1, .int q.2]) (fun d hd => by
    rcases List.mem_cons.mp hd with e | e
    · rw [e]; exact Sm.int h1
    · rw [List.mem_singleton.mp e]; exact Sm.int h2) (Nat.le_refl 2)
theorem LogR.tp {K : PySem.W.Frag} {n : Nat} {v : V} {G : Hp} (h : LogR K n v G) : TpR K 0 n (TpR K 0 2 (DR K (Sm 13 0))) v G := by
  obtain ⟨ps, ⟨a, xs, rfl, g, pr⟩, hl, hu, hb⟩ := h
  refine ⟨a, xs, rfl, .inl (.inl g), Nat.zero_le _, by rw [pr.len]; exact hl, fun x hx => ?_⟩
  obtain ⟨i, hi⟩ := List.getElem?_of_mem hx
  obtain ⟨q, hq, t, rfl, gt⟩ := pr.get hi
  have hm := List.mem_of_getElem? hq
  have b1 := hu.bound q hm
  have b2 := hb q hm
  refine ⟨t, _, rfl, .inl (.inl gt), Nat.zero_le _, Nat.le_refl 2, fun y hy => ?_⟩
  rcases List.mem_cons.mp hy with e | e
  · rw [e]; exact ⟨_, .int _, Sm.int (by omega)⟩
  · rw [List.mem_singleton.mp e]; exact ⟨_, .int _, Sm.int (by omega)⟩
theorem LogR.tpD {K : PySem.W.Frag} {n : Nat} {v : V} {G : Hp} (h : LogR K n v G) : TpR K 0 n (DR K (Sm 60 3)) v G := by
  obtain ⟨a, xs, e, g, h1, h2, h3⟩ := h.tp
  exact ⟨a, xs, e, g, h1, h2, fun x hx => ((h3 x hx).data fun y hy => hy).wide (by decide) (by decide)⟩
def sp_log (K : PySem.W.Frag) : Sp := fun vs H Q _ => ∃ (Z : Hp) (p dl al : Addr) (u g : Int), vs = [.ref p, .int u, .int g] ∧ PotAt Z H p dl al ∧ 0 ≤ u ∧ u ≤ 60 ∧ 1 ≤ g ∧ g ≤ 10000000 ∧
  ∀ (x : V) (H' : Hp), PotAt Z H' p dl al → Kp Z p dl H H' → LogR K u.toNat x (hid Z p dl H') → Q x H'
theorem Kp.upd_new {Z : Hp} {p dl f : Addr} {H H1 : Hp} {o : HO} (P : ∀ b, H b ≠ none → b ≠ f) (k : Kp Z p dl H H1) : Kp Z p dl H (upd H1 f o) := fun b u e => by
  have n := hid_some e
  have e1 := k b u e
  rw [hid_at n.1 n.2] at e1 ⊢
  rw [upd_ne]
  · exact e1
  · refine P b ?_
    rw [hid_at n.1 n.2] at e
    rw [e]
    exact fun z => nomatch z
theorem ne_of_new {H : Hp} {f : Addr} (n : H f = none) : ∀ b, H b ≠ none → b ≠ f := fun b h e => h (by rw [e]; exact n)
theorem hid_get {Z : Hp} {p dl b : Addr} {H : Hp} {o : HO} (h1 : b ≠ p) (h2 : b ≠ dl ∧ Z b = none) (h : H b = some o) : hid Z p dl H b = some o := by rw [hid_at h1 h2]; exact h
theorem PotAt.upd {H : Hp} {Z : Hp} {p dl al f : Addr} {o : HO} (h : PotAt Z H p dl al) (h1 : f ≠ p) (h2 : f ≠ dl) (h3 : f ≠ al) (h4 : Z f = none) : PotAt Z (upd H f o) p dl al :=
  ⟨let ⟨t, e⟩ := h.ob; ⟨t, by rw [upd_ne h1.symm]; exact e⟩, let ⟨ns, e, l⟩ := h.de; ⟨ns, by rw [upd_ne h2.symm]; exact e, l⟩, let ⟨ns, e, l⟩ := h.li; ⟨ns, by rw [upd_ne h3.symm]; exact e, l⟩, h.ne, zz_upd h.zz h4, h.zp, h.zd⟩
theorem PotAt.freeA {H : Hp} {Z : Hp} {p dl al q : Addr} (h : PotAt Z H p dl al) (n : H q = none) : q ≠ al := by
  obtain ⟨ns, e2, _⟩ := h.li
  exact (ne_of_none e2 n).symm
end Lm

namespace Lm
open PySem PySem.Spec PyProof.Rows L2
section
variable {K : PySem.W.Frag} {Z : Hp} {p dl al : Addr} {H0 : Hp} {σ : L2.St} {g : Int}
theorem ev_gvar {i : Nat} (e : σ[i]? = some (some (.int g))) (h0 : 1 ≤ g) (h1 : g ≤ 10000000) : Ev Z p dl al H0 σ (tVar i) (IR 1 10000000) := ev_var e IR.mo ⟨g, rfl, h0, h1⟩
theorem ev_size (e0 : σ[0]? = some (some (.ref p))) (e2 : σ[2]? = some (some (.int g))) (h0 : 1 ≤ g) (h1 : g ≤ 10000000) :
    Ev Z p dl al H0 σ (tCall sp_one [] E0 (tCons (tVar 0) (tCons (tLst (tCons (tC (.int 1)) (tCons (tC (.int 2)) (tCons (tOp (rI0 fun i j => .int (i + j)) (tC (.int 1)) (tCall sp_draw [] E0 (tCons (tVar 0) (tCons (tC (.int 20)) tNil))))
      (tCons (tOp (rI0 fun i j => .int (i + j)) (tC (.int 1)) (tCall sp_draw [] E0 (tCons (tVar 0) (tCons (tVar 2) tNil)))) tNil))))) tNil))) (IR 1 10000000) :=
  ev_one (m := 3) (n := 4) e0 (by decide) IR.mo (ev_lst (by decide) IR.mo (eall_cons IR.mo (ev_int.wide (by decide) (by decide)) (eall_cons IR.mo (ev_int.wide (by decide) (by decide))
    (eall_cons IR.mo ((ev_add ev_int (ev_draw (b := 20) e0 (by decide) (ev_int.wide (by decide) (by decide)))).wide (by decide) (by decide))
      (eall_cons IR.mo ((ev_add ev_int (ev_draw (b := 10000000) e0 (by decide) (ev_gvar e2 h0 h1))).wide (by decide) (by decide)) eall_nil)))))
theorem ev_upto {u : Int} (e0 : σ[0]? = some (some (.ref p))) (e1 : σ[1]? = some (some (.int u))) (h0 : 0 ≤ u) (h1 : u ≤ 60) :
    Ev Z p dl al H0 σ (tCall sp_draw [] E0 (tCons (tVar 0) (tCons (tOp (rI0 fun i j => .int (i + j)) (tVar 1) (tC (.int 1))) tNil))) (IR 0 u) :=
  (ev_draw (b := u + 1) e0 (by omega) ((ev_add (ev_var (R := IR 0 u) e1 IR.mo ⟨u, rfl, h0, Int.le_refl _⟩) ev_int).wide (by omega) (by omega))).wide (by omega) (by omega)
theorem ev_start (e0 : σ[0]? = some (some (.ref p))) (e2 : σ[2]? = some (some (.int g))) (h0 : 1 ≤ g) (h1 : g ≤ 10000000) :
    Ev Z p dl al H0 σ (tCall sp_one [] E0 (tCons (tVar 0) (tCons (tLst (tCons (tC (.int 0)) (tCons (tC (.int 1)) (tCons (tCall sp_draw [] E0 (tCons (tVar 0) (tCons (tVar 2) tNil))) tNil)))) tNil))) (IR 0 10000000) :=
  ev_one (m := 2) (n := 3) e0 (by decide) IR.mo (ev_lst (by decide) IR.mo (eall_cons IR.mo (ev_int.wide (by decide) (by decide)) (eall_cons IR.mo (ev_int.wide (by decide) (by decide))
    (eall_cons IR.mo ((ev_draw (b := 10000000) e0 (by decide) (ev_gvar e2 h0 h1)).wide (by decide) (by decide)) eall_nil))))
end
theorem s_ifn {D : Ends} {σ : L2.St} {H : Hp} {c : TT} {t u : TS} (h : c σ H fun b H1 => if b = true then t { D with nx := u D } σ H1 else u D σ H1) : tSeq (tIfS c t tNext) u D σ H := h
theorem s_asg {D : Ends} {σ : L2.St} {H : Hp} {te : TE} {g : TG} {u : TS} (h : te σ H fun x H1 => g x σ H1 (u D)) : tSeq (tAsg te g) u D σ H := h
theorem two_of {xs : List V} (h1 : 2 ≤ xs.length) (h2 : xs.length ≤ 2) : ∃ x y, xs = [x, y] := by
  match xs, h1, h2 with
  | [x, y], _, _ => exact ⟨x, y, rfl⟩
theorem dI {K : PySem.W.Frag} {Z : Hp} {p dl al : Addr} {H0 : Hp} {σ : L2.St} {te : TE} {lo hi : Int} (h : Ev Z p dl al H0 σ te (IR lo hi)) (h1 : -999999999999 ≤ lo) (h2 : hi ≤ 999999999999) : Ev Z p dl al H0 σ te (DR K (Sm 30 1)) :=
  ev_wide (ev_ir h h1 h2) (by decide) (by decide)
theorem ixK {X : Cx} {K : PySem.W.Frag} (h : X.K = K) : IxR X (rIxT K) := h ▸ ix_tup
/-- what a for over range(..) asks -/
def RngGo (g : TG) (tb : TS) (D : Ends) (σ : L2.St) : List V → Hp → Prop := fun vs H1 => ∃ j : Int, vs = [.int j] ∧ -(2 ^ 62) ≤ j ∧ j < 2 ^ 62 ∧ ∃ W : Nat → Nat → L2.St → Hp → Prop, (∃ m, W 0 m σ H1) ∧ ∀ i m σ H, W i m σ H →
  ((Itr 0 j.toNat).stop i H ∧ D.nx σ H) ∨ ((Itr 0 j.toNat).go i H ∧ ∃ N : L2.St → Hp → Prop, (∀ σ' H', N σ' H' → ∃ m', m' < m ∧ W (i + 1) m' σ' H') ∧ ∀ x H', (Itr 0 j.toNat).yld i H x H' → g x σ H' fun σ2 H2 => tb { D with nx := N, ct := N, bk := D.nx } σ2 H2)
theorem s_rng {D : Ends} {σ : L2.St} {H : Hp} {ta : TA} {g : TG} {tb u : TS} (h : ta σ H (RngGo g tb { D with nx := u D } σ)) : tSeq (tFor (iRng1 ta) g tb) u D σ H := h
theorem s_rng1 {D : Ends} {σ : L2.St} {H : Hp} {ta : TA} {g : TG} {tb : TS} (h : ta σ H (RngGo g tb D σ)) : tFor (iRng1 ta) g tb D σ H := h
/-- one more pair at the end of a list that stands apart -/
theorem app_pair {Z : Hp} {p dl al f t : Addr} {H H3 : Hp} {xs : List V} {ps : List (Int × Int)} {a b : Int} (P : PotAt Z H p dl al) (nf : H f = none) (P3 : PotAt Z H3 p dl al) (k3 : Kp Z p dl H H3)
    (hf : H3 f = some (.lst xs)) (hp : Prs (hid Z p dl H3) xs ps) (nt : H3 t = none) :
    let H4 := upd (upd H3 t (.tup [.int a, .int b])) f (.lst (xs ++ [.ref t]))
    PotAt Z H4 p dl al ∧ Kp Z p dl H H4 ∧ H4 f = some (.lst (xs ++ [.ref t])) ∧ Prs (hid Z p dl H4) (xs ++ [.ref t]) (ps ++ [(a, b)]) := by
  intro H4
  have f1 := P.free nf
  have f2 := P.freeA nf
  have t1 := P3.free nt
  have tf : t ≠ f := fun e => by rw [← e, nt] at hf; cases hf
  refine ⟨(P3.new nt).upd f1.1 f1.2.1 f2 f1.2.2, Kp.upd_new (ne_of_new nf) (k3.trans (Kp.new nt)), upd_same, ?_⟩
  have tk : TupKeep (hid Z p dl H3) (hid Z p dl H4) := fun c ys e => by
    have n := hid_some e
    rw [hid_at n.1 n.2] at e ⊢
    have cf : c ≠ f := fun z => by rw [z, hf] at e; cases e
    have ct : c ≠ t := fun z => by rw [z, nt] at e; cases e
    show upd (upd H3 t _) f _ c = _
    rw [upd_ne cf, upd_ne ct]
    exact e
  refine Prs.app (hp.keep tk) (.cons ⟨t, rfl, ?_⟩ .nil)
  rw [hid_at t1.1 t1.2]
  show upd (upd H3 t _) f _ t = _
  rw [upd_ne tf, upd_same]
theorem atI_in {α : Type} {xs : List α} {i : Int} (h1 : -(xs.length : Int) ≤ i) (h2 : i < xs.length) : ∃ v, v ∈ xs ∧ atI xs i = some v := by
  unfold atI ixN
  by_cases h0 : 0 ≤ i
  · rw [if_pos h0, if_pos h2]
    have lt : i.toNat < xs.length := by omega
    exact ⟨xs[i.toNat], List.getElem_mem lt, List.getElem?_eq_getElem lt⟩
  · rw [if_neg h0, if_pos h1]
    have lt : (i + xs.length).toNat < xs.length := by omega
    exact ⟨xs[(i + xs.length).toNat], List.getElem_mem lt, List.getElem?_eq_getElem lt⟩
section
variable {K : PySem.W.Frag} {Z : Hp} {p dl al : Addr} {H0 : Hp} {σ : L2.St} {te ti : TE} {R : VR}
theorem ev_ixT {m c : Nat} {lo up : Int} (hm : Mo R) (h : Ev Z p dl al H0 σ te (TpR K m c R)) (hi : Ev Z p dl al H0 σ ti (IR lo up)) (h1 : -(m : Int) ≤ lo) (h2 : up < (m : Int)) : Ev Z p dl al H0 σ (tOp (rIxT K) te ti) R :=
  fun H Q P k q => h H _ P k fun x H1 P1 k1 r1 => hi H1 _ P1 (k.trans k1) fun y H2 P2 k2 ⟨i, e, i1, i2⟩ => by
    obtain ⟨a, xs, rfl, g, l1, l2, l3⟩ := TpR.mo hm _ _ _ k2 r1
    obtain ⟨v, hv, ev⟩ := atI_in (xs := xs) (i := i) (by omega) (by omega)
    exact ⟨a, xs, i, v, rfl, e, Same.seqT (hid_same _ _ _) g, ev, q _ _ P2 (k1.trans k2) (l3 v hv)⟩
end
theorem PairsR.tpI {K : PySem.W.Frag} {ps : List (Int × Int)} {v : V} {G : Hp} (h : PairsR K ps v G) (o : LogOk (-1) ps) : TpR K ps.length ps.length (TpR K 2 2 (IR 0 2000000000)) v G := by
  obtain ⟨a, xs, rfl, g, pr⟩ := h
  obtain ⟨hu, hb⟩ := o
  refine ⟨a, xs, rfl, .inl (.inl g), by rw [pr.len]; exact Nat.le_refl _, by rw [pr.len]; exact Nat.le_refl _, fun x hx => ?_⟩
  obtain ⟨i, hi⟩ := List.getElem?_of_mem hx
  obtain ⟨q, hq, t, rfl, gt⟩ := pr.get hi
  have hm := List.mem_of_getElem? hq
  have b1 := hu.bound q hm
  have b2 := hb q hm
  refine ⟨t, _, rfl, .inl (.inl gt), Nat.le_refl 2, Nat.le_refl 2, fun y hy => ?_⟩
  rcases List.mem_cons.mp hy with e | e
  · exact ⟨_, e, by omega, by omega⟩
  · exact ⟨_, List.mem_singleton.mp e, by omega, by omega⟩
theorem LogR.tpI {K : PySem.W.Frag} {n : Nat} {v : V} {G : Hp} (h : LogR K n v G) : ∃ L : Nat, L ≤ n ∧ TpR K L L (TpR K 2 2 (IR 0 2000000000)) v G :=
  let ⟨ps, hp, hl, ho⟩ := h
  ⟨ps.length, hl, hp.tpI ho⟩
theorem pair_data {K : PySem.W.Frag} {v : V} {G : Hp} (h : TpR K 2 2 (IR 0 2000000000) v G) : DR K (Sm 33 1) v G := h.data (n := 13) (k := 0) fun x hx => ir_data hx (by decide) (by decide)
theorem TpR.weak {K : PySem.W.Frag} {m c m' c' : Nat} {R R' : VR} {v : V} {G : Hp} (h : TpR K m c R v G) (h1 : m' ≤ m) (h2 : c ≤ c') (i : ∀ x, R x G → R' x G) : TpR K m' c' R' v G := by
  obtain ⟨a, xs, e, g, l1, l2, l3⟩ := h
  exact ⟨a, xs, e, g, Nat.le_trans h1 l1, Nat.le_trans l2 h2, fun x hx => i x (l3 x hx)⟩
theorem pD_lay : ∀ ps : List (Int × Int), PyData.canLayAll0 (ps.map pD) = true
  | [] => by simp [PyData.canLayAll0]
  | q :: r => by
    simp only [List.map_cons, PyData.canLayAll0, pD_lay r, Bool.and_true]
    simp [pD, two, PyData.canLay0, PyData.canLayAll0]
theorem pD_depth : ∀ ps : List (Int × Int), PyData.depthAll (ps.map pD) ≤ 1
  | [] => by simp [PyData.depthAll]
  | q :: r => by
    simp only [List.map_cons, PyData.depthAll]
    refine Nat.max_le.mpr ⟨?_, pD_depth r⟩
    simp [pD, two, PyData.depth, PyData.depthAll]
theorem pD_shaped (ps : List (Int × Int)) : SeqAt.shaped (.tuple (ps.map pD)) = true := by
  unfold SeqAt.shaped
  simp only [PyData.canLay0, pD_lay, PyData.depth, Bool.true_and]
  exact decide_eq_true (Nat.le_trans (Nat.succ_le_succ (pD_depth ps)) (show 2 ≤ 64 by decide))
theorem pD_eqv (ps : List (Int × Int)) : PyData.eqv (.tuple (ps.map pD)) (.tuple []) = ps.isEmpty := by
  cases ps <;> simp [PyData.eqv, PyData.eqvAll]
def sp_spoilt (K : PySem.W.Frag) : Sp := fun vs H Q _ => ∃ (Z : Hp) (p dl al : Addr) (v : V), vs = [.ref p, v] ∧ PotAt Z H p dl al ∧ LogR K 60 v (hid Z p dl H) ∧
  ∀ (x : V) (H' : Hp), PotAt Z H' p dl al → Kp Z p dl H H' → DR K (Sm 53122 5) x (hid Z p dl H') → Q x H'
end Lm

namespace Lm
open PySem PySem.Spec PyProof.Rows L2
/-! ### a list that grows while the pot is used -/
section
variable {Z H H' : Hp} {p dl al D : Addr} {o o' o2 : HO}
theorem PotAt.hide (P : PotAt Z H p dl al) (e : H D = some o) (h1 : D ≠ p) (h2 : D ≠ dl) : PotAt (L2.upd Z D o) H p dl al :=
  ⟨P.ob, P.de, P.li, P.ne, fun b x z => by
    by_cases q : b = D
    · rw [q, upd_same] at z
      rw [q, e]; exact z
    · rw [upd_ne q] at z
      exact P.zz b x z, by rw [upd_ne h1.symm]; exact P.zp, by rw [upd_ne h2.symm]; exact P.zd⟩
theorem PotAt.bare (P : PotAt (L2.upd Z D o) H p dl al) (n : Z D = none) : PotAt Z H p dl al := by
  have hp : D ≠ p := fun e => by have := P.zp; rw [← e, upd_same] at this; cases this
  have hd : D ≠ dl := fun e => by have := P.zd; rw [← e, upd_same] at this; cases this
  refine ⟨P.ob, P.de, P.li, P.ne, fun b x z => ?_, ?_, ?_⟩
  · have q : b ≠ D := ne_of_none z n
    exact P.zz b x (by rw [upd_ne q]; exact z)
  · have := P.zp; rw [upd_ne hp.symm] at this; exact this
  · have := P.zd; rw [upd_ne hd.symm] at this; exact this
theorem hid_hide : Same (hid (upd Z D o) p dl H) (hid Z p dl H) := fun b x e => by
  have n := hid_some e
  rw [hid_at n.1 n.2] at e
  have q : b ≠ D := fun q => by have := n.2.2; rw [q, upd_same] at this; cases this
  have z := n.2.2
  rw [upd_ne q] at z
  rw [hid_at n.1 ⟨n.2.1, z⟩]
  exact e
theorem hid_swap : Same (hid (upd Z D o) p dl H) (hid (upd Z D o') p dl (upd H D o2)) := fun b x e => by
  have n := hid_some e
  rw [hid_at n.1 n.2] at e
  have q : b ≠ D := fun q => by have := n.2.2; rw [q, upd_same] at this; cases this
  have z := n.2.2
  rw [upd_ne q] at z
  rw [hid_at n.1 ⟨n.2.1, by rw [upd_ne q]; exact z⟩, upd_ne q]
  exact e
theorem hid_new2 (n : H D = none) : Same (hid Z p dl H) (hid (upd Z D o) p dl (upd H D o2)) := fun b x e => by
  have m := hid_some e
  rw [hid_at m.1 m.2] at e
  have q : b ≠ D := ne_of_none e n
  rw [hid_at m.1 ⟨m.2.1, by rw [upd_ne q]; exact m.2.2⟩, upd_ne q]
  exact e
end
theorem ev_lcR {Z : Hp} {p dl al : Addr} {H0 : Hp} {σ : L2.St} {te : TE} {R : VR} {v : Nat} {j : Int} (j0 : 0 ≤ j) (j1 : j ≤ 1000) (hm : Mo R)
    (hT : ∀ (Z' H1 : Hp) (x : V), PotAt Z' H1 p dl al → Same (hid Z p dl H0) (hid Z' p dl H1) → Ev Z' p dl al H1 ((wipe σ [v]).set v (some x)) te R) :
    Ev Z p dl al H0 σ (tLc (iRng1 (tCons (tC (.int j)) tNil)) (gName v) tYes te [v]) (LsR j.toNat j.toNat R) := fun H Q P k q => by
  refine ⟨j, rfl, by omega, by omega, fun D nD => ?_⟩
  have f := P.free nD
  have fa := P.freeA nD
  refine lc_range (fun i Hj => ∃ acc, PotAt (upd Z D (.lst acc)) Hj p dl al ∧ acc.length = i ∧ (∀ x ∈ acc, R x (hid (upd Z D (.lst acc)) p dl Hj)) ∧ Same (hid Z p dl H) (hid (upd Z D (.lst acc)) p dl Hj)) ⟨[], (P.new nD).hide upd_same f.1 f.2.1, rfl, (fun x hx => nomatch hx), hid_new2 nD⟩ ?_ ?_
  · rintro i Hj hi ⟨acc, Pj, la, ra, sj⟩
    refine ⟨?_, yes_if ?_⟩
    · simp only [wipe, List.set_set]
    · refine hT _ Hj _ Pj (Same.trans k sj) Hj _ Pj (Kp.refl _ _ _) fun y H4 P4 k4 r4 => ⟨acc, P4.zz _ _ upd_same, small1000 (by omega), acc ++ [y], ?_, by rw [List.length_append, la]; rfl, fun x hx => ?_, (Same.trans sj k4).trans hid_swap⟩
      · exact ((P4.bare f.2.2).upd f.1 f.2.1 fa f.2.2).hide upd_same f.1 f.2.1
      · rcases List.mem_append.mp hx with e | e
        · exact hm _ _ _ (Same.trans k4 hid_swap) (ra x e)
        · rw [List.mem_singleton.mp e]
          exact hm _ _ _ hid_swap r4
  · rintro Hn ⟨acc, Pn, la, ra, sn⟩
    have e := Pn.zz _ _ upd_same
    refine q _ Hn (Pn.bare f.2.2) (sn.trans hid_hide) ⟨D, acc, rfl, by rw [hid_at f.1 f.2]; exact e, by omega, by omega, fun x hx => hm _ _ _ hid_hide (ra x hx)⟩
section
variable {K : PySem.W.Frag} {Z : Hp} {p dl al : Addr} {H0 : Hp} {σ : L2.St} {te : TE}
theorem ev_spoilt {i j : Nat} {v : V} (e : σ[i]? = some (some (.ref p))) (ej : σ[j]? = some (some v)) (hv : LogR K 60 v (hid Z p dl H0)) : Ev Z p dl al H0 σ (tCall (sp_spoilt K) [] E0 (tCons (tVar i) (tCons (tVar j) tNil))) (DR K (Sm 53122 5)) :=
  fun H Q P k q => ⟨_, e, _, ej, Z, p, dl, al, v, rfl, P, LogR.mo _ _ _ k hv, fun x H' P' k' r => q x H' P' k' r⟩
theorem ev_log {i : Nat} {u : Int} (e : σ[i]? = some (some (.ref p))) (h0 : 0 ≤ u) (h1 : u ≤ 60) (h : Ev Z p dl al H0 σ te (IR 1 10000000)) : Ev Z p dl al H0 σ (tCall (sp_log K) [] E0 (tCons (tVar i) (tCons (tC (.int u)) (tCons te tNil)))) (LogR K u.toNat) :=
  fun H Q P k q => ⟨_, e, h H _ P k fun v H1 P1 k1 ⟨g, eg, g0, g1⟩ => ⟨Z, p, dl, al, u, g, by rw [eg]; rfl, P1, h0, h1, g0, g1, fun x H' P' k' r => q x H' P' (k1.trans k') r⟩⟩
end
theorem LogR.tpD1 {K : PySem.W.Frag} {n : Nat} {v : V} {G : Hp} (h : LogR K n v G) : TpR K 0 n (DR K (Sm 33 1)) v G :=
  let ⟨L, hL, t⟩ := h.tpI
  t.weak (Nat.zero_le _) hL fun x hx => pair_data hx
theorem Prs.tpD1 {K : PySem.W.Frag} {n : Nat} {a : Addr} {xs : List V} {ps : List (Int × Int)} {G : Hp} (g : G a = some (.tup xs)) (h : Prs G xs ps) (hl : ps.length ≤ n) (hb : ∀ q ∈ ps, q.1.natAbs < 10 ^ 12 ∧ q.2.natAbs < 10 ^ 12) : TpR K 0 n (DR K (Sm 33 1)) (.ref a) G := by
  refine ⟨a, xs, rfl, .inl (.inl g), Nat.zero_le _, by rw [h.len]; exact hl, fun x hx => ?_⟩
  obtain ⟨i, hi⟩ := List.getElem?_of_mem hx
  obtain ⟨q, hq, t, rfl, gt⟩ := h.get hi
  have b := hb q (List.mem_of_getElem? hq)
  exact ⟨_, .tup (.inl (.inl gt)) (.cons (.int _) (.cons (.int _) .nil)), pD_sm b.1 b.2⟩
/-! ### how long a fault's text is -/
theorem two_sm {i : Nat} (h : i < 1000) (x : Str) (hx : Sm 20 0 (.str x)) : Sm 60 1 (two (.int i) (.str x)) :=
  (Sm.tuple (c := 2) (n := 20) (k := 0) (ds := [.int i, .str x]) (fun d hd => by
    rcases List.mem_cons.mp hd with e | e
    · rw [e]; exact (Sm.int (by omega)).wide (by decide) (by decide)
    · rw [List.mem_singleton.mp e]; exact hx) (Nat.le_refl 2)).wide (by decide) (by decide)
theorem logGo_sm : ∀ (ds : List PyData) (i : Nat) (b : Int), i + ds.length ≤ 60 → Sm 60 1 (logGo ds i b)
  | [], _, _, _ => show Sm 60 1 .none from sm_chk (by decide +kernel)
  | d :: r, i, b, h => by
    simp only [List.length_cons] at h
    simp only [logGo]
    split
    · exact two_sm (by omega) _ (sm_chk (by decide +kernel))
    · split
      · exact two_sm (by omega) _ (sm_chk (by decide +kernel))
      · exact logGo_sm r (i + 1) _ (by omega)
theorem logErr_sm (d : PyData) : Sm 60 1 (logErr d) := by
  have e0 : Sm 60 1 (two .none (.str "log")) := sm_chk (by decide +kernel)
  unfold logErr
  split
  · split
    · exact e0
    · exact logGo_sm _ _ _ (by omega)
  · exact e0
theorem pair_fine {d : PyData} (h : Sm 60 1 d) (b : Bool) : Fine (.list [d, .bool b]) :=
  (Sm.list (c := 2) (n := 60) (k := 1) (ds := [d, .bool b]) (fun e he => by
    rcases List.mem_cons.mp he with z | z
    · rw [z]; exact h
    · rw [List.mem_singleton.mp z]; cases b <;> exact sm_chk (by decide +kernel)) (Nat.le_refl 2)).fine (by decide) (by decide)
theorem Flat.dq0 {K : PySem.W.Frag} {H H' : Hp} {r : V} {e : PyData} (h : Flat K H H' r e) : Dq K H' r e := by
  rcases h with ⟨rfl, rfl⟩ | ⟨t, x, y, dx, dy, rfl, n, g, rfl, hx, hy⟩
  · exact .non
  · exact .tup (.inl (.inl g)) (.cons (hx _) (.cons (hy _) .nil))
theorem Flat.isN {K : PySem.W.Frag} {H H' : Hp} {r : V} {e : PyData} (h : Flat K H H' r e) : decide (r = .non) = Lm.isN e := by
  rcases h with ⟨rfl, rfl⟩ | ⟨t, x, y, dx, dy, rfl, _, _, rfl, _, _⟩ <;> rfl
def sp_law (K : PySem.W.Frag) : Sp := fun vs H Q _ => ∃ (a : Addr) (ns : List Int), vs = [.ref a] ∧ SqL K H a (ns.map V.int) ∧ ns.length ≤ 63 ∧ ∀ H', Q (.bl true) H'
theorem sp_law_ok (K : PySem.W.Frag) (H : Hp) (a : Addr) (ns : List Int) (hl : ns.length ≤ 63) (_ : Only H) (hS : SqL K H a (ns.map V.int)) : sp_law K [.ref a] H (fun v _ => v = .bl true) fun _ _ _ => False :=
  ⟨a, ns, rfl, hS, hl, fun _ => rfl⟩
/-- what a for over a list asks -/
def LstGo (K : PySem.W.Frag) (g : TG) (tb : TS) (D : Ends) (σ : L2.St) : VK := fun x H1 => ∃ a, x = .ref a ∧ (∃ xs, SqL K H1 a xs) ∧ ∃ W : Nat → Nat → L2.St → Hp → Prop, (∃ m, W 0 m σ H1) ∧ ∀ i m σ H, W i m σ H →
  ((Itl K a).stop i H ∧ D.nx σ H) ∨ ((Itl K a).go i H ∧ ∃ N : L2.St → Hp → Prop, (∀ σ' H', N σ' H' → ∃ m', m' < m ∧ W (i + 1) m' σ' H') ∧ ∀ x H', (Itl K a).yld i H x H' → g x σ H' fun σ2 H2 => tb { D with nx := N, ct := N, bk := D.nx } σ2 H2)
theorem s_lst1 {K : PySem.W.Frag} {D : Ends} {σ : L2.St} {H : Hp} {te : TE} {g : TG} {tb : TS} (h : te σ H (LstGo K g tb D σ)) : tFor (iList K te) g tb D σ H := h
end Lm

namespace Lm
open PySem PySem.Spec PyProof.Rows L2
theorem ev_lg {K : PySem.W.Frag} {Z : Hp} {p dl al : Addr} {H0 : Hp} {σ : L2.St} (e1 : σ[1]? = some (some (.ref p))) :
    Ev Z p dl al H0 σ (tCall (sp_log K) [] E0 (tCons (tVar 1) (tCons (tC (.int 60)) (tCons (tCall sp_one [] E0 (tCons (tVar 1) (tCons (tLst (tCons (tC (.int 4)) (tCons (tC (.int 100)) (tCons (tOp (rI CPow fun i j => .int (i ^ j.toNat)) (tC (.int 10)) (tC (.int 7))) tNil)))) tNil))) tNil)))) (LogR K 60) :=
  ev_log (u := 60) e1 (by decide) (by decide) (ev_one (m := 2) (n := 3) e1 (by decide) IR.mo (ev_lst (by decide) IR.mo (eall_cons IR.mo (ev_int.wide (by decide) (by decide)) (eall_cons IR.mo (ev_int.wide (by decide) (by decide)) (eall_cons IR.mo ((ev_pow (by decide)).wide (by decide) (by decide)) eall_nil)))))
theorem s_setL {D : Ends} {σ : L2.St} {H : Hp} {ta : TA} {u : TS} {i : Nat} (h : ta σ H fun vs H1 => vs.length ≤ sizeLine ∧ ∀ t, H1 t = none → u D (σ.set i (some (.ref t))) (upd H1 t (.lst vs))) : tSeq (tAsg (tLst ta) (gName i)) u D σ H := h
theorem app_zero {K : PySem.W.Frag} {φ : PyData → Prop} {Z : Hp} {p dl al L w u : Addr} {H : Hp} {vs : List V} (P : PotAt Z H p dl al) (nL : H L = none) (nw : (upd H L (.lst vs)) w = none) (nu : (upd (upd H L (.lst vs)) w (.tup [.int 0, .int 0])) u = none)
    (hv : ∀ x ∈ vs, DR K φ x (hid Z p dl H)) (h0 : φ (.tuple [.tuple [.int 0, .int 0]])) :
    let H4 := upd (upd (upd (upd H L (.lst vs)) w (.tup [.int 0, .int 0])) u (.tup [.ref w])) L (.lst (vs ++ [.ref u]))
    PotAt Z H4 p dl al ∧ Kp Z p dl H H4 ∧ hid Z p dl H4 L = some (.lst (vs ++ [.ref u])) ∧ ∀ x ∈ vs ++ [.ref u], DR K φ x (hid Z p dl H4) := by
  intro H4
  have P1 := P.new (o := .lst vs) nL
  have P2 := P1.new (o := .tup [.int 0, .int 0]) nw
  have P3 := P2.new (o := .tup [.ref w]) nu
  have fL := P.free nL
  have fA := P.freeA nL
  have fw := P1.free nw
  have fu := P2.free nu
  have wL : w ≠ L := fun e => by rw [e, upd_same] at nw; cases nw
  have uw : u ≠ w := fun e => by rw [e, upd_same] at nu; cases nu
  have uL : u ≠ L := fun e => by rw [e, upd_ne wL.symm, upd_same] at nu; cases nu
  have k4 : Kp Z p dl H H4 := Kp.upd_new (ne_of_new nL) ((Kp.new nL).trans ((Kp.new nw).trans (Kp.new nu)))
  refine ⟨P3.upd fL.1 fL.2.1 fA fL.2.2, k4, hid_upd fL.1 fL.2, fun x hx => ?_⟩
  rcases List.mem_append.mp hx with e | e
  · exact DR.mo _ _ _ k4 (hv x e)
  · rw [List.mem_singleton.mp e]
    have e1 : hid Z p dl H4 u = some (.tup [.ref w]) := by
      rw [hid_at fu.1 fu.2]
      show upd (upd (upd (upd H L _) w _) u _) L _ u = _
      rw [upd_ne uL, upd_same]
    have e2 : hid Z p dl H4 w = some (.tup [.int 0, .int 0]) := by
      rw [hid_at fw.1 fw.2]
      show upd (upd (upd (upd H L _) w _) u _) L _ w = _
      rw [upd_ne wL, upd_ne uw.symm, upd_same]
    exact ⟨_, .tup (.inl (.inl e1)) (.cons (.tup (.inl (.inl e2)) (.cons (.int 0) (.cons (.int 0) .nil))) .nil), h0⟩
end Lm

namespace Lm
open PySem PySem.Spec PyProof.Rows L2 PySem.SeqAt PySem.MeetsSeq
open PySem.AutoSeq1 (wpAny_loadPart')
theorem str_declines_dict (b : Str) (u : Tok) (l : Addr) (c : Value) (es : Array DictEntry) (n : Nat) (dd : Option Addr) (sl : Array (Option Value)) :
    Meets (Builtin.«str.__eq__» ⟨[.str b u, .ref l], []⟩) (fun _ R s => s.heap.get? l = some { cls := c, dict := dd, data := .dict es n, slots := sl } ∧ R (.ok (.ret .notImplemented)) s) :=
  .of_wp fun prog w A R s h => by obtain ⟨hp, g, d, tk, os⟩ := s; obtain ⟨hl, h⟩ := h; wp_walk using wpAny_loadPart' hl, wpAny_load hl; exact ⟨_, rfl, h⟩
section
variable {A : Around} {s : Shared}
theorem rc_str_dict {l : Addr} {dd : Option Addr} {sl : Array (Option Value)} {es : Array DictEntry} {n : Nat} (b : Str) (u : Tok) (ho : s.heap.get? l = some { cls := .type "dict", dict := dd, data := .dict es n, slots := sl }) (hu : A.units < cLine) : RcAt A s (.str b u) (.ref l) false := fun prog w E Q h => by
  have ty : s.TypeIs (.ref l) "dict" := ⟨_, ho, rfl⟩
  refine rc_eq_decline_or (k := false) (typeIs_str s b u) ty (by decide) F.sub_dict_str F.slot_str_eq F.slot_dict_eq_refl
    (fun _ hq => call_meets F.slot_str_eq (typeIs_str s b u) F.entry_str_eq (F.args_str_eq_2 _ _) (str_declines_dict b u l (.type "dict") es n dd sl) ⟨ho, hq⟩)
    (fun _ hq => ?_)
    (fun _ hq => wpAny_of_eq (rfl : isSame (.str b u) (.ref l) = pure false) hq) (.inr hu) h
  refine PySem.wpAny_call_entry PySem.F.slot_dict_eq_refl ty PySem.F.entry_dict_eq ?_ (PySem.F.args_dict_eq_2 _ _)
  show wpAny _ _ (Builtin.Dict.dictSlotArgs "__eq__" ⟨[.ref l, .str b u], []⟩ >>= _) _ _ s
  refine wpAny_bind ?_
  unfold Builtin.Dict.dictSlotArgs
  refine wpAny_bind (wpAny_notOrdered_dict ty ?_)
  show wpAny _ _ (pure (Value.ref l, Value.str b u)) _ _ s
  refine wpAny_pure ?_
  refine wpAny_bind (wpAny_isInstance (T := "str") (typeIs_str s b u) PySem.F.sub_str_dict ?_)
  simp only [Bool.not_false, if_true]
  exact wpAny_bind (wpAny_rule (wpAny_pure ⟨_, rfl, hq⟩))
theorem eq_str_dict {l : Addr} {dd : Option Addr} {sl : Array (Option Value)} {es : Array DictEntry} {n : Nat} (b : Str) (u : Tok) (ho : s.heap.get? l = some { cls := .type "dict", dict := dd, data := .dict es n, slots := sl }) (hu : A.units < cLine) : EqAt A s (.str b u) (.ref l) false := fun prog w E Q h => by
  unfold eqBool
  refine wpAny_holding ?_
  refine wpAny_ite_split (fun hab => absurd (eq_of_beq hab) nofun) (fun _ => ?_)
  exact wpAny_bind (rc_str_dict b u ho hu prog w E _ (wpAny_truthy_bool h))
end
theorem in1_units {A : Around} (h : A.units + 64 < cLine) : A.in1.units < cLine := by
  have : A.in1.units = A.units + 1 := rfl
  omega
def strIs (d : PyData) (z : Str) : Bool := match d with | .str x => z == x | _ => false
def rInStr (K : PySem.W.Frag) : R2 := fun x y H Q => ∃ (d : PyData) (p : Addr) (zs : List Str), Dq K H x d ∧ y = .ref p ∧ (SqL K H p (zs.map V.str) ∨ SqT K H p (zs.map V.str)) ∧ Q (.bl (zs.any (strIs d))) H
section
variable {X : Cx}
def strE (d : PyData) : Value → Bool | .str z _ => strIs d z | _ => false
theorem vals_strs {d : PyData} : ∀ {zs : List Str} {its : List Value}, Vals (zs.map V.str) its → its.any (strE d) = zs.any (strIs d) ∧ ∀ w ∈ its, ∃ z t, w = .str z t
  | [], _, .nil => ⟨rfl, fun w h => nomatch h⟩
  | z :: r, _, .cons ⟨t, e⟩ h => by
    obtain ⟨h1, h2⟩ := vals_strs (d := d) h
    subst e
    refine ⟨by rw [List.any_cons, List.any_cons, h1]; rfl, fun w hw => ?_⟩
    rcases List.mem_cons.mp hw with e | e
    · exact ⟨z, t, e⟩
    · exact h2 w e
theorem eq_str_data {pins : List (Addr × Obj)} {σ : L2.St} {H : Hp} {s : Shared} (I : Inv X pins σ H s) {x : V} {v : Value} {d : PyData} (hd : Dq X.K H x d) (rx : L2.RelV x v) (hu : X.A.in1.units < cLine) (z : Str) (t : Tok) : EqAt X.A.in1 s (.str z t) v (strIs d z) := by
  cases hd with
  | non => cases rx; exact EqAt.str_none z t
  | bl b => cases rx; exact EqAt.str_bool z t b
  | int i => obtain ⟨u, rfl⟩ := rx; exact EqAt.str_int z t i u
  | str y => obtain ⟨u, rfl⟩ := rx; exact EqAt.str_str z t y u
  | lst hs _ =>
    cases rx
    obtain ⟨its, _, pl, _⟩ := I.list hs
    exact EqAt.str_list z t pl.isList hu
  | tup hs _ =>
    cases rx
    obtain ⟨its, _, pl, _⟩ := I.tuple hs
    exact EqAt.str_tuple z t pl hu
  | dct hs _ =>
    cases rx
    obtain ⟨_, _, vs, _, o, es, ep, e, hx, hdt, _⟩ := I.hok _ _ hs
    obtain ⟨cls, dd, data, sl⟩ := o
    have hc := hx.1
    simp only at hdt hc
    subst hdt hc
    exact eq_str_dict z t e hu
theorem op_inStr (hu : X.A.in1.units < cLine) : OpR X (compareOp .In) (rInStr X.K) := by
  intro pins s σ H x y v u Q I rx ry h
  obtain ⟨d, p, zs, hd, rfl, hq, q⟩ := h
  cases ry
  rcases hq with hq | hq
  · obtain ⟨its, r, pl, hz⟩ := I.list hq
    obtain ⟨h1, h2⟩ := vals_strs (d := d) r
    refine SeqAt.in_listAt (strE d) pl.isList (fun w hw => ?_) ⟨.bl _, H, I, rfl, ?_⟩
    · obtain ⟨z, t, rfl⟩ := h2 w (by simpa using hw)
      exact eq_str_data I hd rx hu z t
    · rw [show its.toArray.any (strE d) = its.any (strE d) by simp, h1]
      exact q
  · obtain ⟨its, r, pl, hz⟩ := I.tuple hq
    obtain ⟨h1, h2⟩ := vals_strs (d := d) r
    refine SeqAt.in_tupleAt (strE d) pl (fun w hw => ?_) ⟨.bl _, H, I, rfl, ?_⟩
    · obtain ⟨z, t, rfl⟩ := h2 w (by simpa using hw)
      exact eq_str_data I hd rx hu z t
    · rw [show its.toArray.any (strE d) = its.any (strE d) by simp, h1]
      exact q
end
end Lm

namespace Lm
open PySem PySem.Spec PyProof.Rows L2
/-! ### runs and motions, as functions of data -/
def runOf : PyData → Option (Int × Int)
  | .tuple [.int a, .int s, .int c] => if 0 ≤ a ∧ 1 ≤ s ∧ 1 ≤ c ∧ (c = 1 → s = 1) ∧ a + s * (c - 1) ≤ 1000000000 then some (a, a + s * (c - 1)) else none
  | _ => none
def motGo : List PyData → Nat → Int → PyData
  | [], _, _ => .none
  | d :: r, i, b => match runOf d with
    | none => two (.int i) (.str "run")
    | some (on, off) => if on ≤ b then two (.int i) (.str "order") else motGo r (i + 1) off
def motErr : PyData → PyData
  | .tuple ds => if 360 < ds.length then two .none (.str "motions") else motGo ds 0 (-1)
  | _ => two .none (.str "motions")
theorem motGo_cons {ds : List PyData} {i : Nat} {b : Int} {d : PyData} (h : ds[i]? = some d) : motGo (ds.drop i) i b = motGo (d :: ds.drop (i + 1)) i b := by
  obtain ⟨hi, e⟩ := List.getElem?_eq_some_iff.mp h
  rw [List.drop_eq_getElem_cons hi, e]
theorem run_bounds {a s c : Int} (h0 : 0 ≤ a) (h1 : 1 ≤ s) (h2 : 1 ≤ c) (h3 : c = 1 → s = 1) (h4 : a + s * (c - 1) ≤ 1000000000) : a ≤ 1000000000 ∧ s ≤ 1000000000 ∧ c ≤ 1000000001 := by
  have p0 : 0 ≤ s * (c - 1) := Int.mul_nonneg (by omega) (by omega)
  have p1 : 1 * (c - 1) ≤ s * (c - 1) := Int.mul_le_mul_of_nonneg_right h1 (by omega)
  refine ⟨by omega, ?_, by omega⟩
  by_cases e : c = 1
  · rw [h3 e]; decide
  · have p2 : s * 1 ≤ s * (c - 1) := Int.mul_le_mul_of_nonneg_left (by omega) (by omega)
    omega
theorem runOf_wt {d : PyData} : (runOf d).isSome = true → ∃ a s c, d = .tuple [.int a, .int s, .int c] ∧ runOf d = some (a, a + s * (c - 1)) ∧ 0 ≤ a ∧ a ≤ 1000000000 ∧ 1 ≤ s ∧ s ≤ 1000000000 ∧ 1 ≤ c ∧ c ≤ 1000000001 := by
  unfold runOf
  split
  · rename_i a s c
    split
    · rename_i h
      have b := run_bounds h.1 h.2.1 h.2.2.1 h.2.2.2.1 h.2.2.2.2
      exact fun _ => ⟨a, s, c, rfl, rfl, h.1, b.1, h.2.1, b.2.1, h.2.2.1, b.2.2⟩
    · intro h; cases h
  · intro h; cases h
theorem wt3 {d : PyData} (h : wt d 3 = true) : ∃ a b c, d = .tuple [.int a, .int b, .int c] := by
  unfold wt at h
  split at h
  · rename_i ds
    simp only [Bool.and_eq_true, decide_eq_true_eq] at h
    obtain ⟨h1, h2⟩ := h
    match ds, h1, h2 with
    | [x, y, z], _, h2 =>
      simp only [List.all_cons, List.all_nil, Bool.and_true, Bool.and_eq_true] at h2
      cases x <;> cases y <;> cases z <;> first | exact ⟨_, _, _, rfl⟩ | (simp [wh] at h2)
    | [], h1, _ => exact absurd h1 (by simp)
    | [_], h1, _ => exact absurd h1 (by simp)
    | [_, _], h1, _ => exact absurd h1 (by simp)
    | _ :: _ :: _ :: _ :: _, h1, _ => exact absurd h1 (by simp only [List.length_cons]; omega)
  · cases h
theorem wt3_no {d : PyData} (h : wt d 3 = false) : runOf d = none := by
  unfold runOf
  split
  · simp [wt, wh] at h
  · rfl
theorem runOf_len {ds : List PyData} (h : (ds.length : Int) ≠ 3) : runOf (.tuple ds) = none := by
  unfold runOf
  split
  · rename_i e
    cases e
    exact absurd rfl h
  · rfl
theorem runOf_out {ds : List PyData} (h : ds.all (inW 0 1000000001) = false) : runOf (.tuple ds) = none := by
  cases e : runOf (.tuple ds) with
  | none => rfl
  | some ab =>
    obtain ⟨a, s, c, e1, _, h1, h2, h3, h4, h5, h6⟩ := runOf_wt (d := .tuple ds) (by rw [e]; rfl)
    cases e1
    have g : (List.all [PyData.int a, PyData.int s, PyData.int c] (inW 0 1000000001)) = true := by
      simp only [List.all_cons, List.all_nil, Bool.and_true, inW, Bool.and_eq_true, decide_eq_true_eq]
      omega
    rw [g] at h
    cases h
theorem runOf_eq {a s c : Int} : (runOf (.tuple [.int a, .int s, .int c])).isSome = decide (0 ≤ a ∧ 1 ≤ s ∧ 1 ≤ c ∧ (c = 1 → s = 1) ∧ a + s * (c - 1) ≤ 1000000000) := by
  show (if 0 ≤ a ∧ 1 ≤ s ∧ 1 ≤ c ∧ (c = 1 → s = 1) ∧ a + s * (c - 1) ≤ 1000000000 then some (a, a + s * (c - 1)) else none).isSome = _
  by_cases h : 0 ≤ a ∧ 1 ≤ s ∧ 1 ≤ c ∧ (c = 1 → s = 1) ∧ a + s * (c - 1) ≤ 1000000000
  · rw [if_pos h, decide_eq_true h]; rfl
  · rw [if_neg h, decide_eq_false h]; rfl
theorem log2_sub {c : Int} (h : c.natAbs.log2 < 1920) : (c - 1).natAbs.log2 < 2000 := by
  have h1 : c.natAbs < 2 ^ 1920 := by
    by_cases z : c.natAbs = 0
    · rw [z]; exact Nat.two_pow_pos _
    · exact (Nat.log2_lt z).mp h
  by_cases z : (c - 1).natAbs = 0
  · rw [z]; decide
  · refine (Nat.log2_lt z).mpr ?_
    have h2 : (2 : Nat) ^ 1920 + 1 ≤ 2 ^ 2000 := by
      have : (2 : Nat) ^ 1921 ≤ 2 ^ 2000 := Nat.pow_le_pow_right (by decide) (by decide)
      have e : (2 : Nat) ^ 1921 = 2 ^ 1920 * 2 := Nat.pow_succ ..
      have p : 0 < (2 : Nat) ^ 1920 := Nat.two_pow_pos _
      omega
    omega
theorem run_mulW {a s c : Int} (h : (PyData.tuple [.int a, .int s, .int c]).showable = true) : CMulW s (c - 1) := by
  simp only [PyData.showable, PyData.showableAll, Bool.and_true, Bool.and_eq_true, decide_eq_true_eq] at h
  have := log2_sub h.2.2
  unfold CMulW
  omega
theorem show_get : ∀ {ds : List PyData} {i : Nat} {d : PyData}, PyData.showableAll ds = true → ds[i]? = some d → d.showable = true
  | [], _, _, _, e => by simp at e
  | x :: r, 0, d, h, e => by
    simp only [PyData.showableAll, Bool.and_eq_true] at h
    simp at e; rw [← e]; exact h.1
  | x :: r, i + 1, d, h, e => by
    simp only [PyData.showableAll, Bool.and_eq_true] at h
    exact show_get h.2 (by simpa using e)
def sp_last (K : PySem.W.Frag) : Sp := fun vs H Q _ => ∃ (t : Addr) (a s c : Int), vs = [.ref t] ∧ SqT K H t [.int a, .int s, .int c] ∧ CMulW s (c - 1) ∧ Q (.int (a + s * (c - 1))) H
def sp_boolS (K : PySem.W.Frag) (F : PyData → Bool) : Sp := fun vs H Q _ => ∃ v d, vs = [v] ∧ Dq K H v d ∧ d.showable = true ∧ ∀ H', Same H H' → Q (.bl (F d)) H'
def sp_errS (K : PySem.W.Frag) (F : PyData → PyData) : Sp := fun vs H Q _ => ∃ v d, vs = [v] ∧ Dq K H v d ∧ d.showable = true ∧ ∀ r H', Same H H' → Flat K H H' r (F d) → Q r H'
def lampB (d : PyData) : Bool := match d with | .tuple [k, s] => (["hold", "pulse"] : List Str).any (strIs k) && inW 1 1000000000 s | _ => false
theorem motGo_sm : ∀ (ds : List PyData) (i : Nat) (b : Int), i + ds.length ≤ 360 → Sm 60 1 (motGo ds i b)
  | [], _, _, _ => show Sm 60 1 .none from sm_chk (by decide +kernel)
  | d :: r, i, b, h => by
    simp only [List.length_cons] at h
    simp only [motGo]
    split
    · exact two_sm (by omega) _ (sm_chk (by decide +kernel))
    · split
      · exact two_sm (by omega) _ (sm_chk (by decide +kernel))
      · exact motGo_sm r (i + 1) _ (by omega)
theorem motErr_sm (d : PyData) : Sm 60 1 (motErr d) := by
  have e0 : Sm 60 1 (two .none (.str "motions")) := sm_chk (by decide +kernel)
  unfold motErr
  split
  · split
    · exact e0
    · exact motGo_sm _ _ _ (by omega)
  · exact e0
end Lm

namespace Lm
open PySem PySem.Spec PyProof.Rows L2
def sp_lamp (K : PySem.W.Frag) : Sp := fun vs H Q _ => ∃ (Z : Hp) (p dl al : Addr) (g : Int), vs = [.ref p, .int g] ∧ PotAt Z H p dl al ∧ 1 ≤ g ∧ g ≤ 1000000000 ∧
  ∀ (x : V) (H' : Hp), PotAt Z H' p dl al → Kp Z p dl H H' → TpR K 2 2 (DR K (Sm 30 1)) x (hid Z p dl H') → Q x H'
def sp_far (K : PySem.W.Frag) : Sp := fun vs H Q _ => ∃ (Z : Hp) (p dl al : Addr) (u : Int), vs = [.ref p, .int u] ∧ PotAt Z H p dl al ∧ 0 ≤ u ∧ u ≤ 40 ∧
  ∀ (x : V) (H' : Hp), PotAt Z H' p dl al → Kp Z p dl H H' → TpR K 0 40 (TpR K 3 3 (IR 0 2000000000)) x (hid Z p dl H') → Q x H'
def sp_spoiltR (K : PySem.W.Frag) : Sp := fun vs H Q _ => ∃ (Z : Hp) (p dl al : Addr) (v : V), vs = [.ref p, v] ∧ PotAt Z H p dl al ∧ TpR K 0 40 (TpR K 3 3 (IR 0 2000000000)) v (hid Z p dl H) ∧
  ∀ (x : V) (H' : Hp), PotAt Z H' p dl al → Kp Z p dl H H' → DR K (Sm 53122 5) x (hid Z p dl H') → Q x H'
section
variable {K : PySem.W.Frag} {Z : Hp} {p dl al : Addr} {H0 : Hp} {σ : L2.St} {te : TE} {R : VR}
theorem ev_iw {a b c d : Int} (h : Ev Z p dl al H0 σ te (IR a b)) (h1 : c ≤ a := by decide) (h2 : b ≤ d := by decide) : Ev Z p dl al H0 σ te (IR c d) := h.wide h1 h2
theorem ev_ivar {i : Nat} {g lo hi : Int} (e : σ[i]? = some (some (.int g))) (h0 : lo ≤ g) (h1 : g ≤ hi) : Ev Z p dl al H0 σ (tVar i) (IR lo hi) := ev_var e IR.mo ⟨g, rfl, h0, h1⟩
theorem ev_drawC {i : Nat} {n : Int} (e : σ[i]? = some (some (.ref p))) (h0 : 1 ≤ n := by decide) (h1 : n < 1073741824 := by decide) : Ev Z p dl al H0 σ (tCall sp_draw [] E0 (tCons (tVar i) (tCons (tC (.int n)) tNil))) (IR 0 (n - 1)) :=
  ev_draw (b := n) e h1 (ev_int.wide h0 (Int.le_refl _))
theorem ev_drawP {i : Nat} {a : Int} {j : Int} (c : CPow a j) (e : σ[i]? = some (some (.ref p))) (h0 : 1 ≤ a ^ j.toNat := by decide) (h1 : a ^ j.toNat < 1073741824 := by decide) :
    Ev Z p dl al H0 σ (tCall sp_draw [] E0 (tCons (tVar i) (tCons (tOp (rI CPow fun i j => .int (i ^ j.toNat)) (tC (.int a)) (tC (.int j))) tNil))) (IR 0 (a ^ j.toNat - 1)) :=
  ev_draw (b := a ^ j.toNat) e h1 ((ev_pow c).wide h0 (Int.le_refl _))
theorem ei_cons {lo hi : Int} {tl : TA} {a b : Nat} {c d : Int} (h1 : Ev Z p dl al H0 σ te (IR c d)) (h2 : EvA Z p dl al H0 σ tl (AllR a b (IR lo hi))) (h3 : lo ≤ c := by decide) (h4 : d ≤ hi := by decide) : EvA Z p dl al H0 σ (tCons te tl) (AllR (a + 1) (b + 1) (IR lo hi)) :=
  eall_cons IR.mo (h1.wide h3 h4) h2
end
/-- one more thing at the end of a list that stands apart -/
theorem app_any {K : PySem.W.Frag} {Z : Hp} {p dl al f : Addr} {H H3 : Hp} {xs : List V} {v : V} {m n : Nat} {R : VR} (hR2 : ∀ v G G', R v G → R v G') (P : PotAt Z H p dl al) (nf : H f = none) (P3 : PotAt Z H3 p dl al) (k3 : Kp Z p dl H H3)
    (hf : H3 f = some (.lst xs)) (hx : ∀ x ∈ xs, TpR K m n R x (hid Z p dl H3)) (hv : TpR K m n R v (hid Z p dl H3)) :
    let H4 := upd H3 f (.lst (xs ++ [v]))
    PotAt Z H4 p dl al ∧ Kp Z p dl H H4 ∧ H4 f = some (.lst (xs ++ [v])) ∧ ∀ x ∈ xs ++ [v], TpR K m n R x (hid Z p dl H4) := by
  intro H4
  have f1 := P.free nf
  have f2 := P.freeA nf
  refine ⟨P3.upd f1.1 f1.2.1 f2 f1.2.2, Kp.upd_new (ne_of_new nf) k3, upd_same, ?_⟩
  have tk : ∀ b o, hid Z p dl H3 b = some o → (∀ l, o ≠ .lst l) → hid Z p dl H4 b = some o := fun b o e no => by
    have n := hid_some e
    rw [hid_at n.1 n.2] at e ⊢
    have cf : b ≠ f := fun z => by rw [z, hf] at e; cases e; exact no _ rfl
    show upd H3 f _ b = _
    rw [upd_ne cf]
    exact e
  have one : ∀ x, TpR K m n R x (hid Z p dl H3) → TpR K m n R x (hid Z p dl H4) := fun x ⟨a, ys, e, g, l1, l2, l3⟩ => by
    refine ⟨a, ys, e, ?_, l1, l2, fun y hy => hR2 _ _ _ (l3 y hy)⟩
    rcases g with (g | ⟨o, g⟩) | g
    · exact .inl (.inl (tk _ _ g fun l z => nomatch z))
    · exact .inl (.inr ⟨o, tk _ _ g fun l z => nomatch z⟩)
    · exact .inr g
  intro x hx'
  rcases List.mem_append.mp hx' with e | e
  · exact one x (hx x e)
  · rw [List.mem_singleton.mp e]; exact one v hv
theorem far_step {m st x : Int} (h0 : 0 ≤ m) (h1 : 1 ≤ st) (h2 : 0 ≤ x) : 0 ≤ (if x < m.fdiv st then x else m.fdiv st) ∧ (if x < m.fdiv st then x else m.fdiv st) ≤ m ∧ 0 ≤ st * (if x < m.fdiv st then x else m.fdiv st) ∧ st * (if x < m.fdiv st then x else m.fdiv st) ≤ m := by
  have e : m.fdiv st = m / st := Int.fdiv_eq_ediv_of_nonneg _ (by omega)
  rw [e]
  have q0 : 0 ≤ m / st := Int.ediv_nonneg h0 (by omega)
  have q1 : st * (m / st) ≤ m := Int.mul_ediv_self_le (by omega)
  generalize m / st = q at q0 q1
  have k : ∀ y : Int, 0 ≤ y → y ≤ q → 0 ≤ y ∧ y ≤ m ∧ 0 ≤ st * y ∧ st * y ≤ m := fun y y0 y1 => by
    have a1 : st * y ≤ st * q := Int.mul_le_mul_of_nonneg_left y1 (by omega)
    have a2 : 1 * y ≤ st * y := Int.mul_le_mul_of_nonneg_right h1 y0
    have a3 : 0 ≤ st * y := Int.mul_nonneg (by omega) y0
    omega
  by_cases g : x < q
  · rw [if_pos g]; exact k x h2 (by omega)
  · rw [if_neg g]; exact k q q0 (Int.le_refl _)
theorem s_par3 {D : Ends} {σ : L2.St} {H : Hp} {ta : TA} {t : TS} {i j l : Nat} (h : ta σ H fun vs H1 => ∃ u v w, vs = [u, v, w] ∧ t D (((σ.set i (some u)).set j (some v)).set l (some w)) H1) : tSeq (tPar3 i j l ta) t D σ H := h
theorem ev_ifGt {Z : Hp} {p dl al : Addr} {H0 : Hp} {σ : L2.St} {ta tb : TE} {R : VR} {i : Nat} {c : Int} (e : σ[i]? = some (some (.int c))) (h1 : Ev Z p dl al H0 σ ta R) (h2 : Ev Z p dl al H0 σ tb R) :
    Ev Z p dl al H0 σ (tIf (tTest (tOp (rI0 fun i j => .bl (decide (j < i))) (tVar i) (tC (.int 1)))) ta tb) R :=
  fun H Q P k q => ⟨_, e, c, 1, rfl, rfl, _, rfl, ite2 (fun _ => h1 H Q P k q) (fun _ => h2 H Q P k q)⟩
theorem tri_data {K : PySem.W.Frag} {v : V} {G : Hp} (h : TpR K 3 3 (IR 0 2000000000) v G) : DR K (Sm 48 1) v G := h.data (n := 13) (k := 0) fun x hx => ir_data hx (by decide) (by decide)
theorem three_of {xs : List V} (h1 : 3 ≤ xs.length) (h2 : xs.length ≤ 3) : ∃ x y z, xs = [x, y, z] := by
  match xs, h1, h2 with
  | [x, y, z], _, _ => exact ⟨x, y, z, rfl⟩
def tD (q : Int × Int × Int) : PyData := .tuple [.int q.1, .int q.2.1, .int q.2.2]
theorem runs_dp {K : PySem.W.Frag} {G : Hp} {lo hi : Int} : ∀ {xs : List V}, (∀ x ∈ xs, TpR K 3 3 (IR lo hi) x G) → ∃ ts : List (Int × Int × Int), DpAll K G xs (ts.map tD) ∧ ts.length = xs.length
  | [], _ => ⟨[], .nil, rfl⟩
  | x :: r, h => by
    obtain ⟨ts, h1, h2⟩ := runs_dp (xs := r) fun y hy => h y (List.mem_cons_of_mem _ hy)
    obtain ⟨a, ys, rfl, g, l1, l2, l3⟩ := h x List.mem_cons_self
    obtain ⟨y0, y1, y2, rfl⟩ := three_of l1 l2
    obtain ⟨i, rfl, _⟩ := l3 y0 (by simp)
    obtain ⟨j, rfl, _⟩ := l3 y1 (by simp)
    obtain ⟨k, rfl, _⟩ := l3 y2 (by simp)
    exact ⟨(i, j, k) :: ts, .cons (.tup g (.cons (.int i) (.cons (.int j) (.cons (.int k) .nil)))) h1, by rw [List.length_cons, List.length_cons, h2]⟩
theorem tD_lay : ∀ ps : List (Int × Int × Int), PyData.canLayAll0 (ps.map tD) = true
  | [] => by simp [PyData.canLayAll0]
  | q :: r => by
    simp only [List.map_cons, PyData.canLayAll0, tD_lay r, Bool.and_true]
    simp [tD, PyData.canLay0, PyData.canLayAll0]
theorem tD_depth : ∀ ps : List (Int × Int × Int), PyData.depthAll (ps.map tD) ≤ 1
  | [] => by simp [PyData.depthAll]
  | q :: r => by
    simp only [List.map_cons, PyData.depthAll]
    refine Nat.max_le.mpr ⟨?_, tD_depth r⟩
    simp [tD, PyData.depth, PyData.depthAll]
theorem tD_shaped (ps : List (Int × Int × Int)) : SeqAt.shaped (.tuple (ps.map tD)) = true := by
  unfold SeqAt.shaped
  simp only [PyData.canLay0, tD_lay, PyData.depth, Bool.true_and]
  exact decide_eq_true (Nat.le_trans (Nat.succ_le_succ (tD_depth ps)) (show 2 ≤ 64 by decide))
theorem tD_eqv (ps : List (Int × Int × Int)) : PyData.eqv (.tuple (ps.map tD)) (.tuple []) = ps.isEmpty := by
  cases ps <;> simp [PyData.eqv, PyData.eqvAll]
end Lm

namespace Lm
open PySem PySem.Spec PyProof.Rows L2
theorem s_lst {K : PySem.W.Frag} {D : Ends} {σ : L2.St} {H : Hp} {te : TE} {g : TG} {tb u : TS} (h : te σ H (LstGo K g tb { D with nx := u D } σ)) : tSeq (tFor (iList K te) g tb) u D σ H := h
theorem app_three {K : PySem.W.Frag} {φ : PyData → Prop} {Z : Hp} {p dl al L w u : Addr} {H : Hp} {vs : List V} {i j k : Int} (P : PotAt Z H p dl al) (nL : H L = none) (nw : (upd H L (.lst vs)) w = none) (nu : (upd (upd H L (.lst vs)) w (.tup [.int i, .int j, .int k])) u = none)
    (hv : ∀ x ∈ vs, DR K φ x (hid Z p dl H)) (h0 : φ (.tuple [.tuple [.int i, .int j, .int k]])) :
    let H4 := upd (upd (upd (upd H L (.lst vs)) w (.tup [.int i, .int j, .int k])) u (.tup [.ref w])) L (.lst (vs ++ [.ref u]))
    PotAt Z H4 p dl al ∧ Kp Z p dl H H4 ∧ hid Z p dl H4 L = some (.lst (vs ++ [.ref u])) ∧ ∀ x ∈ vs ++ [.ref u], DR K φ x (hid Z p dl H4) := by
  intro H4
  have P1 := P.new (o := .lst vs) nL
  have P2 := P1.new (o := .tup [.int i, .int j, .int k]) nw
  have P3 := P2.new (o := .tup [.ref w]) nu
  have fL := P.free nL
  have fA := P.freeA nL
  have fw := P1.free nw
  have fu := P2.free nu
  have wL : w ≠ L := fun e => by rw [e, upd_same] at nw; cases nw
  have uw : u ≠ w := fun e => by rw [e, upd_same] at nu; cases nu
  have uL : u ≠ L := fun e => by rw [e, upd_ne wL.symm, upd_same] at nu; cases nu
  have k4 : Kp Z p dl H H4 := Kp.upd_new (ne_of_new nL) ((Kp.new nL).trans ((Kp.new nw).trans (Kp.new nu)))
  refine ⟨P3.upd fL.1 fL.2.1 fA fL.2.2, k4, hid_upd fL.1 fL.2, fun x hx => ?_⟩
  rcases List.mem_append.mp hx with e | e
  · exact DR.mo _ _ _ k4 (hv x e)
  · rw [List.mem_singleton.mp e]
    have e1 : hid Z p dl H4 u = some (.tup [.ref w]) := by
      rw [hid_at fu.1 fu.2]
      show upd (upd (upd (upd H L _) w _) u _) L _ u = _
      rw [upd_ne uL, upd_same]
    have e2 : hid Z p dl H4 w = some (.tup [.int i, .int j, .int k]) := by
      rw [hid_at fw.1 fw.2]
      show upd (upd (upd (upd H L _) w _) u _) L _ w = _
      rw [upd_ne wL, upd_ne uw.symm, upd_same]
    exact ⟨_, .tup (.inl (.inl e1)) (.cons (.tup (.inl (.inl e2)) (.cons (.int i) (.cons (.int j) (.cons (.int k) .nil)))) .nil), h0⟩
theorem tri_at {K : PySem.W.Frag} {Z : Hp} {p dl t : Addr} {H : Hp} {i j k : Int} (e : hid Z p dl H t = some (.tup [.int i, .int j, .int k])) (h : (0 ≤ i ∧ i ≤ 2000000000) ∧ (0 ≤ j ∧ j ≤ 2000000000) ∧ (0 ≤ k ∧ k ≤ 2000000000)) : TpR K 3 3 (IR 0 2000000000) (.ref t) (hid Z p dl H) := by
  refine ⟨t, _, rfl, .inl (.inl e), Nat.le_refl 3, Nat.le_refl 3, fun x hx => ?_⟩
  simp only [List.mem_cons, List.not_mem_nil, or_false] at hx
  rcases hx with e | e | e
  · exact ⟨_, e, h.1⟩
  · exact ⟨_, e, h.2.1⟩
  · exact ⟨_, e, h.2.2⟩
theorem ev_spoiltR {K : PySem.W.Frag} {Z : Hp} {p dl al : Addr} {H0 : Hp} {σ : L2.St} {i j : Nat} {v : V} (e : σ[i]? = some (some (.ref p))) (ej : σ[j]? = some (some v)) (hv : TpR K 0 40 (TpR K 3 3 (IR 0 2000000000)) v (hid Z p dl H0)) : Ev Z p dl al H0 σ (tCall (sp_spoiltR K) [] E0 (tCons (tVar i) (tCons (tVar j) tNil))) (DR K (Sm 53122 5)) :=
  fun H Q P k q => ⟨_, e, _, ej, Z, p, dl, al, v, rfl, P, TpR.mo (TpR.mo IR.mo) _ _ _ k hv, fun x H' P' k' r => q x H' P' k' r⟩
theorem s_nxe {D : Ends} {t u : TS} {σ : L2.St} {H : Hp} {i : Nat} {v : V} {a b c} (h : tSeq t u D (σ.set i (some v)) H) : gName i v σ H (Ends.nx { nx := tSeq t u D, rt := a, bk := b, ct := c }) := h
theorem bool_fine (b : Bool) : Fine (.bool b) := by cases b <;> exact (sm_chk (n := 5) (k := 0) (by decide +kernel)).fine (by decide) (by decide)
end Lm

namespace Lg
open PySem PySem.Spec PyProof.Rows L2 Lm
/-! ### a source of numbers: what must stand while b more draws are left; whose addresses -/
structure Src where
  at_ : Nat → Hp → Prop
  own : Addr → Prop
  frame : ∀ {b : Nat} {H H' : Hp}, (∀ a, own a → H' a = H a) → at_ b H → at_ b H'
  less : ∀ {b c : Nat} {H : Hp}, c ≤ b → at_ b H → at_ c H
  full : ∀ {b : Nat} {H : Hp} {q : Addr}, at_ b H → own q → H q ≠ none
open Classical in
noncomputable def cut (N : Addr → Prop) (H : Hp) : Hp := fun a => if N a then none else H a
def Occ (N : Addr → Prop) (H : Hp) : Prop := ∀ a, N a → H a ≠ none
abbrev NZ (S : Src) (Z : Hp) : Addr → Prop := fun a => S.own a ∨ Z a ≠ none
noncomputable abbrev hid (S : Src) (Z H : Hp) : Hp := cut (NZ S Z) H
section
variable {N N' : Addr → Prop} {H H' : Hp} {a q f : Addr} {o : HO}
theorem cut_at (h : ¬ N a) : cut N H a = H a := if_neg h
theorem cut_some (e : cut N H a = some o) : ¬ N a ∧ H a = some o := by
  unfold cut at e
  split at e
  · cases e
  · rename_i z
    exact ⟨z, e⟩
theorem cut_same : Same (cut N H) H := fun b o e => (cut_some e).2
theorem cut_mono (s : Same H H') : Same (cut N H) (cut N H') := fun b o e => by
  have n := cut_some e
  rw [cut_at n.1]
  exact s _ _ n.2
theorem cut_le (h : ∀ a, N a → N' a) : Same (cut N' H) (cut N H) := fun b o e => by
  have n := cut_some e
  rw [cut_at fun z => n.1 (h _ z)]
  exact n.2
theorem cut_upd (h : N f) : cut N (upd H f o) = cut N H := by
  funext b
  by_cases z : N b
  · unfold cut; rw [if_pos z, if_pos z]
  · rw [cut_at z, cut_at z, upd_ne (show b ≠ f from fun e => z (by rw [e]; exact h))]
theorem cut_new (O : Occ N H) (n : H q = none) : cut N (upd H q o) q = some o := by rw [cut_at fun z => O q z n, upd_same]
theorem Occ.keep (O : Occ N H) (s : Same H H') : Occ N H' := fun a h => by
  cases e : H a with
  | none => exact absurd e (O a h)
  | some o => rw [s _ _ e]; exact fun z => nomatch z
theorem Occ.more (O : Occ N H) (e : H f ≠ none) : Occ (fun a => N a ∨ a = f) H := fun a h => h.elim (O a) fun z => z ▸ e
theorem Occ.upd (O : Occ N H) : Occ N (upd H f o) := fun a h => by
  by_cases e : a = f
  · rw [e, upd_same]; exact fun z => nomatch z
  · rw [upd_ne e]; exact O a h
theorem occ_none : Occ (fun _ => False) H := fun a h => h.elim
theorem cut_none : cut (fun _ => False) H = H := by funext b; exact if_neg fun z => z
end
structure Iv (S : Src) (Z : Hp) (b : Nat) (H : Hp) : Prop where
  src : S.at_ b H
  zz : Same Z H
  zo : ∀ a, S.own a → Z a = none
def Off (S : Src) (Z : Hp) (a : Addr) : Prop := ¬ S.own a ∧ Z a = none
def Kp (S : Src) (Z H H' : Hp) : Prop := Same (hid S Z H) (hid S Z H')
section
variable {S : Src} {Z H H' H1 H2 : Hp} {b c : Nat} {q D a : Addr} {o o' o2 : HO}
theorem hid_at (h : Off S Z a) : hid S Z H a = H a := if_neg (fun z => z.elim h.1 (fun z => z h.2))
theorem hid_same : Same (hid S Z H) H := cut_same
theorem hid_some (e : hid S Z H a = some o) : Off S Z a := ⟨fun q => (cut_some e).1 (.inl q), Classical.byContradiction fun q => (cut_some e).1 (.inr q)⟩
theorem Iv.occ (P : Iv S Z b H) : Occ (NZ S Z) H := fun a h => h.elim (S.full P.src) fun z => by
  cases e : Z a with
  | none => exact absurd e z
  | some o => rw [P.zz _ _ e]; exact fun z => nomatch z
theorem Kp.refl : Kp S Z H H := Same.refl _
theorem Kp.trans (a : Kp S Z H H1) (b : Kp S Z H1 H2) : Kp S Z H H2 := Same.trans a b
theorem Kp.of (s : Same H H') : Kp S Z H H' := by
  intro b o e
  have n := hid_some e
  rw [hid_at n] at e ⊢
  exact s b o e
theorem same_new (h : H q = none) : Same H (upd H q o) := fun b x e => by
  rw [upd_ne (ne_of_none e h)]
  exact e
theorem Kp.new (h : H q = none) : Kp S Z H (upd H q o) := Kp.of (same_new h)
theorem Src.keep {b : Nat} (S : Src) (s : Same H H') (h : S.at_ b H) : S.at_ b H' := S.frame (fun a ha => by
  cases e : H a with
  | none => exact absurd e (S.full h ha)
  | some o => exact s _ _ e) h
theorem Iv.keep (P : Iv S Z b H) (s : Same H H') : Iv S Z b H' := ⟨S.keep s P.src, P.zz.trans s, P.zo⟩
theorem Iv.less (P : Iv S Z b H) (h : c ≤ b) : Iv S Z c H := ⟨S.less h P.src, P.zz, P.zo⟩
theorem Iv.new (P : Iv S Z b H) (n : H q = none) : Iv S Z b (upd H q o) := P.keep (same_new n)
theorem Iv.free (P : Iv S Z b H) (n : H q = none) : Off S Z q := ⟨fun z => S.full P.src z n, by
  cases e : Z q with
  | none => rfl
  | some o => rw [P.zz _ _ e] at n; cases n⟩
theorem zz_upd (h : Same Z H) (n : Z q = none) : Same Z (upd H q o) := fun b x e => by
  rw [upd_ne (ne_of_none e n)]
  exact h b x e
theorem Iv.upd (P : Iv S Z b H) (h : Off S Z q) : Iv S Z b (L2.upd H q o) := ⟨S.frame (fun a ha => upd_ne fun e => h.1 (e ▸ ha)) P.src, zz_upd P.zz h.2, P.zo⟩
theorem Iv.hide (P : Iv S Z b H) (e : H D = some o) (h : ¬ S.own D) : Iv S (L2.upd Z D o) b H := ⟨P.src, fun b x z => by
    by_cases q : b = D
    · rw [q, upd_same] at z
      rw [q, e]; exact z
    · rw [upd_ne q] at z
      exact P.zz b x z, fun a ha => by rw [upd_ne (show a ≠ D from fun e => h (by rw [← e]; exact ha))]; exact P.zo a ha⟩
theorem Iv.bare (P : Iv S (L2.upd Z D o) b H) (n : Z D = none) : Iv S Z b H := ⟨P.src, fun b x z => P.zz b x (by rw [upd_ne (ne_of_none z n)]; exact z), fun a ha => by
  have := P.zo a ha
  by_cases e : a = D
  · rw [e, upd_same] at this; cases this
  · rw [upd_ne e] at this; exact this⟩
theorem hid_new (P : Iv S Z b H) (n : H q = none) : hid S Z (L2.upd H q o) q = some o := by rw [hid_at (P.free n), upd_same]
theorem hid_upd (h : Off S Z q) : hid S Z (L2.upd H q o) q = some o := by rw [hid_at h, upd_same]
theorem hid_get (h : Off S Z a) (e : H a = some o) : hid S Z H a = some o := by rw [hid_at h]; exact e
theorem laid (P : Iv S Z b H) (n : H q = none) : Iv S Z b (L2.upd H q o) ∧ Kp S Z H (L2.upd H q o) ∧ hid S Z (L2.upd H q o) q = some o := ⟨P.new n, Kp.new n, hid_new P n⟩
theorem off_hide (h : Off S (L2.upd Z D o) a) : a ≠ D ∧ Off S Z a := by
  have q : a ≠ D := fun q => by have := h.2; rw [q, upd_same] at this; cases this
  exact ⟨q, h.1, by have := h.2; rw [upd_ne q] at this; exact this⟩
theorem hid_hide : Same (hid S (L2.upd Z D o) H) (hid S Z H) := fun b x e => by
  have n := hid_some e
  rw [hid_at n] at e
  rw [hid_at (off_hide n).2]
  exact e
theorem hid_swap : Same (hid S (L2.upd Z D o) H) (hid S (L2.upd Z D o') (L2.upd H D o2)) := fun b x e => by
  have n := hid_some e
  rw [hid_at n] at e
  have m := off_hide n
  rw [hid_at ⟨n.1, by rw [upd_ne m.1]; exact m.2.2⟩, upd_ne m.1]
  exact e
theorem hid_new2 (n : H D = none) : Same (hid S Z H) (hid S (L2.upd Z D o) (L2.upd H D o2)) := fun b x e => by
  have m := hid_some e
  rw [hid_at m] at e
  have q : b ≠ D := ne_of_none e n
  rw [hid_at ⟨m.1, by rw [upd_ne q]; exact m.2⟩, upd_ne q]
  exact e
theorem ne_of_new (n : H q = none) : ∀ b, H b ≠ none → b ≠ q := fun b h e => h (by rw [e]; exact n)
theorem Kp.upd_new (P : ∀ b, H b ≠ none → b ≠ q) (k : Kp S Z H H1) : Kp S Z H (L2.upd H1 q o) := fun b u e => by
  have n := hid_some e
  have e1 := k b u e
  rw [hid_at n] at e1 ⊢
  rw [upd_ne]
  · exact e1
  · refine P b ?_
    rw [hid_at n] at e
    rw [e]
    exact fun z => nomatch z
end
/-- a def without draws: what it gives is a function of the data that it gets -/
def sp_fn (K : PySem.W.Frag) (P : List PyData → Prop) (F : List PyData → PyData) : Sp := fun vs H Q _ => ∃ (N : Addr → Prop) (ds : List PyData), Occ N H ∧ Dqs K (cut N H) vs ds ∧ P ds ∧ ∀ r H', Same H H' → Dq K (cut N H') r (F ds) → Q r H'
/-! ### what an expression gives -/
def Ev (S : Src) (Z : Hp) (n : Nat) (H0 : Hp) (σ : L2.St) (te : TE) (R : VR) : Prop :=
  ∀ (H : Hp) (b : Nat) (Q : VK), Iv S Z (n + b) H → Kp S Z H0 H → (∀ v H', Iv S Z b H' → Kp S Z H H' → R v (hid S Z H') → Q v H') → te σ H Q
def EvA (S : Src) (Z : Hp) (n : Nat) (H0 : Hp) (σ : L2.St) (ta : TA) (R : LR) : Prop :=
  ∀ (H : Hp) (b : Nat) (Q : List V → Hp → Prop), Iv S Z (n + b) H → Kp S Z H0 H → (∀ v H', Iv S Z b H' → Kp S Z H H' → R v (hid S Z H') → Q v H') → ta σ H Q
section
variable {K : PySem.W.Frag} {S : Src} {Z : Hp} {H0 : Hp} {σ : L2.St} {te ta tb ti : TE} {tl : TA} {R R' R1 R2 : VR} {Rs Rt : LR} {n m n1 n2 : Nat}
theorem Ev.run (h : Ev S Z n H0 σ te R) {B b : Nat} {Q : VK} (P : Iv S Z B H0) (hb : n + b ≤ B) (q : ∀ v H', Iv S Z b H' → Kp S Z H0 H' → R v (hid S Z H') → Q v H') : te σ H0 Q := h H0 b Q (P.less hb) Kp.refl q
theorem EvA.run (h : EvA S Z n H0 σ tl Rs) {B b : Nat} {Q : List V → Hp → Prop} (P : Iv S Z B H0) (hb : n + b ≤ B) (q : ∀ v H', Iv S Z b H' → Kp S Z H0 H' → Rs v (hid S Z H') → Q v H') : tl σ H0 Q := h H0 b Q (P.less hb) Kp.refl q
theorem Ev.imp (h : Ev S Z n H0 σ te R) (i : ∀ v G, R v G → R' v G) : Ev S Z n H0 σ te R' := fun H b Q P k q => h H b Q P k fun v H' P' k' r => q v H' P' k' (i _ _ r)
theorem EvA.imp (h : EvA S Z n H0 σ tl Rs) (i : ∀ v G, Rs v G → Rt v G) : EvA S Z n H0 σ tl Rt := fun H b Q P k q => h H b Q P k fun v H' P' k' r => q v H' P' k' (i _ _ r)
theorem Ev.cost (h : Ev S Z n H0 σ te R) (i : n ≤ m) : Ev S Z m H0 σ te R := fun H b Q P k q => h H b Q (P.less (by omega)) k q
theorem ev_c {v : V} : Ev S Z 0 H0 σ (tC v) (fun u _ => u = v) := fun H b Q P k q => q v H (P.less (by omega)) Kp.refl rfl
theorem ev_var {i : Nat} {v : V} (e : σ[i]? = some (some v)) (m : Mo R) (h : R v (hid S Z H0)) : Ev S Z 0 H0 σ (tVar i) R := fun H b Q P k q => ⟨v, e, q v H (P.less (by omega)) Kp.refl (m _ _ _ k h)⟩
theorem eva_nil : EvA S Z 0 H0 σ tNil (fun vs _ => vs = []) := fun H b Q P k q => q [] H (P.less (by omega)) Kp.refl rfl
theorem eva_cons (mo : Mo R) (h1 : Ev S Z n1 H0 σ te R) (h2 : EvA S Z n2 H0 σ tl Rs) : EvA S Z (n1 + n2) H0 σ (tCons te tl) (fun vs G => ∃ v r, vs = v :: r ∧ R v G ∧ Rs r G) :=
  fun H b Q P k q => h1 H (n2 + b) _ (P.less (by omega)) k fun v H1 P1 k1 r1 => h2 H1 b _ P1 (k.trans k1) fun vs H2 P2 k2 r2 => q _ H2 P2 (k1.trans k2) ⟨v, vs, rfl, mo _ _ _ k2 r1, r2⟩
theorem eva_pair (m1 : Mo R1) (m2 : Mo R2) (h1 : Ev S Z n1 H0 σ ta R1) (h2 : Ev S Z n2 H0 σ tb R2) : EvA S Z (n1 + (n2 + 0)) H0 σ (tCons ta (tCons tb tNil)) (fun vs G => ∃ v w, vs = [v, w] ∧ R1 v G ∧ R2 w G) :=
  (eva_cons m1 h1 (eva_cons m2 h2 eva_nil)).imp fun vs G ⟨v, r, e, r1, w, r', e', r2, e2⟩ => ⟨v, w, by rw [e, e', e2], r1, r2⟩
theorem eall_nil : EvA S Z 0 H0 σ tNil (AllR 0 0 R) := fun H b Q P k q => q [] H (P.less (by omega)) Kp.refl ⟨Nat.le_refl _, Nat.le_refl _, fun v h => nomatch h⟩
theorem eall_cons {a b : Nat} (m : Mo R) (h1 : Ev S Z n1 H0 σ te R) (h2 : EvA S Z n2 H0 σ tl (AllR a b R)) : EvA S Z (n1 + n2) H0 σ (tCons te tl) (AllR (a + 1) (b + 1) R) :=
  (eva_cons m h1 h2).imp fun vs G h => by
    obtain ⟨v, r, rfl, hv, h1, h2, h3⟩ := h
    refine ⟨Nat.succ_le_succ h1, Nat.succ_le_succ h2, fun x hx => ?_⟩
    rcases List.mem_cons.mp hx with e | e
    · rw [e]; exact hv
    · exact h3 x e
theorem ev_tup (h : EvA S Z n H0 σ tl Rs) (hl : ∀ vs G, Rs vs G → vs.length ≤ sizeLine) (m : MoL Rs) : Ev S Z n H0 σ (tTup tl) (fun v G => ∃ a xs, v = .ref a ∧ G a = some (.tup xs) ∧ Rs xs G) :=
  fun H b Q P k q => h H b _ P k fun vs H1 P1 k1 r1 => ⟨hl _ _ r1, fun t nt => by
    obtain ⟨P2, k2, e2⟩ := laid (o := .tup vs) P1 nt
    exact q _ _ P2 (k1.trans k2) ⟨t, vs, rfl, e2, m _ _ _ k2 r1⟩⟩
theorem ev_lst {m n' : Nat} (hn : n' ≤ 1000) (hm : Mo R) (h : EvA S Z n H0 σ tl (AllR m n' R)) : Ev S Z n H0 σ (tLst tl) (LsR m n' R) :=
  fun H b Q P k q => h H b _ P k fun vs H1 P1 k1 r1 => ⟨Nat.le_of_lt (small1000 (Nat.le_trans r1.2.1 hn)), fun t nt => by
    obtain ⟨P2, k2, e2⟩ := laid (o := .lst vs) P1 nt
    exact q _ _ P2 (k1.trans k2) ⟨t, vs, rfl, e2, AllR.mo hm _ _ _ k2 r1⟩⟩
theorem ev_tupR {m n' : Nat} (hn : n' ≤ 1000) (hm : Mo R) (h : EvA S Z n H0 σ tl (AllR m n' R)) : Ev S Z n H0 σ (tTup tl) (TpR K m n' R) :=
  (ev_tup h (fun vs G r => Nat.le_of_lt (small1000 (Nat.le_trans r.2.1 hn))) (AllR.mo hm)).imp fun v G ⟨a, xs, e, g, r⟩ => ⟨a, xs, e, .inl (.inl g), r⟩
theorem ev_cat {a b c d : Nat} (hn : b + d ≤ 1000) (hm : Mo R) (h1 : Ev S Z n1 H0 σ ta (LsR a b R)) (h2 : Ev S Z n2 H0 σ tb (LsR c d R)) : Ev S Z (n1 + n2) H0 σ (tOp rCat ta tb) (LsR (a + c) (b + d) R) :=
  fun H bb Q P k q => h1 H (n2 + bb) _ (P.less (by omega)) k fun x H1 P1 k1 r1 => h2 H1 bb _ P1 (k.trans k1) fun y H2 P2 k2 r2 => by
    obtain ⟨l, xs, rfl, g1, a1, a2, a3⟩ := LsR.mo hm _ _ _ k2 r1
    obtain ⟨l2, ys, rfl, g2, b1, b2, b3⟩ := r2
    refine ⟨l, l2, xs, ys, rfl, rfl, hid_same _ _ g1, hid_same _ _ g2, Nat.le_of_lt (small1000 (by omega)), fun t nt => ?_⟩
    obtain ⟨P3, k3, e3⟩ := laid (o := .lst (xs ++ ys)) P2 nt
    refine q _ _ P3 ((k1.trans k2).trans k3) ⟨t, _, rfl, e3, by rw [List.length_append]; omega, by rw [List.length_append]; omega, fun v hv => ?_⟩
    rcases List.mem_append.mp hv with e | e
    · exact hm _ _ _ k3 (a3 v e)
    · exact hm _ _ _ k3 (b3 v e)
theorem ev_catA {a b c d : Nat} (hn : b + d ≤ 1000) (hm : Mo R) (h1 : Ev S Z n1 H0 σ ta (TpR K a b R)) (h2 : Ev S Z n2 H0 σ tb (TpR K c d R)) : Ev S Z (n1 + n2) H0 σ (tOp (rCatA K) ta tb) (TpR K (a + c) (b + d) R) :=
  fun H bb Q P k q => h1 H (n2 + bb) _ (P.less (by omega)) k fun x H1 P1 k1 r1 => h2 H1 bb _ P1 (k.trans k1) fun y H2 P2 k2 r2 => by
    have r1' := TpR.mo hm _ _ _ k2 r1
    obtain ⟨l, xs, rfl, g1, a1, a2, a3⟩ := r1'
    obtain ⟨l2, ys, rfl, g2, b1, b2, b3⟩ := id r2
    refine ⟨l, l2, xs, ys, rfl, rfl, Same.seqT hid_same g1, Same.seqT hid_same g2, Nat.le_of_lt (small1000 (by omega)), fun z => ?_, fun z1 z2 => ?_, fun z1 z2 t nt => ?_⟩
    · subst z
      refine q _ _ P2 (k1.trans k2) ⟨l2, ys, rfl, g2, ?_, by omega, b3⟩
      simp only [List.length_nil] at a1; omega
    · subst z2
      refine q _ _ P2 (k1.trans k2) ⟨l, xs, rfl, g1, ?_, by omega, a3⟩
      simp only [List.length_nil] at b1; omega
    · obtain ⟨P3, k3, e3⟩ := laid (o := .tup (xs ++ ys)) P2 nt
      refine q _ _ P3 ((k1.trans k2).trans k3) ⟨t, _, rfl, .inl (.inl e3), by rw [List.length_append]; omega, by rw [List.length_append]; omega, fun v hv => ?_⟩
      rcases List.mem_append.mp hv with e | e
      · exact hm _ _ _ k3 (a3 v e)
      · exact hm _ _ _ k3 (b3 v e)
theorem ev_int {i : Int} : Ev S Z 0 H0 σ (tC (.int i)) (IR i i) := ev_c.imp fun v G e => ⟨i, e, Int.le_refl _, Int.le_refl _⟩
theorem ev_neg {i j : Int} (h : Ev S Z n H0 σ te (IR i j)) : Ev S Z n H0 σ (tUn (rU fun i => .int (-i)) te) (IR (-j) (-i)) :=
  fun H b Q P k q => h H b _ P k fun v H1 P1 k1 ⟨x, e, h1, h2⟩ => ⟨x, e, q _ _ P1 k1 ⟨-x, rfl, by omega, by omega⟩⟩
theorem ev_add {a b c d : Int} (h1 : Ev S Z n1 H0 σ ta (IR a b)) (h2 : Ev S Z n2 H0 σ tb (IR c d)) : Ev S Z (n1 + n2) H0 σ (tOp (rI0 fun i j => .int (i + j)) ta tb) (IR (a + c) (b + d)) :=
  fun H bb Q P k q => h1 H (n2 + bb) _ (P.less (by omega)) k fun x H1 P1 k1 ⟨i, e1, i1, i2⟩ => h2 H1 bb _ P1 (k.trans k1) fun y H2 P2 k2 ⟨j, e2, j1, j2⟩ => ⟨i, j, e1, e2, q _ _ P2 (k1.trans k2) ⟨i + j, rfl, by omega, by omega⟩⟩
theorem ev_sub {a b c d : Int} (h1 : Ev S Z n1 H0 σ ta (IR a b)) (h2 : Ev S Z n2 H0 σ tb (IR c d)) : Ev S Z (n1 + n2) H0 σ (tOp (rI0 fun i j => .int (i - j)) ta tb) (IR (a - d) (b - c)) :=
  fun H bb Q P k q => h1 H (n2 + bb) _ (P.less (by omega)) k fun x H1 P1 k1 ⟨i, e1, i1, i2⟩ => h2 H1 bb _ P1 (k.trans k1) fun y H2 P2 k2 ⟨j, e2, j1, j2⟩ => ⟨i, j, e1, e2, q _ _ P2 (k1.trans k2) ⟨i - j, rfl, by omega, by omega⟩⟩
theorem ev_mul {a b c d : Int} (ha : 0 ≤ a) (hb : b < 2 ^ 64) (hc : 0 ≤ c) (h1 : Ev S Z n1 H0 σ ta (IR a b)) (h2 : Ev S Z n2 H0 σ tb (IR c d)) : Ev S Z (n1 + n2) H0 σ (tOp (rI CMul fun i j => .int (i * j)) ta tb) (IR (a * c) (b * d)) :=
  fun H bb Q P k q => h1 H (n2 + bb) _ (P.less (by omega)) k fun x H1 P1 k1 ⟨i, e1, i1, i2⟩ => h2 H1 bb _ P1 (k.trans k1) fun y H2 P2 k2 ⟨j, e2, j1, j2⟩ => by
    refine ⟨i, j, e1, e2, .inl ⟨by omega, by omega⟩, q _ _ P2 (k1.trans k2) ⟨i * j, rfl, ?_, ?_⟩⟩
    · exact Int.mul_le_mul i1 j1 hc (Int.le_trans ha i1)
    · exact Int.mul_le_mul i2 j2 (Int.le_trans hc j1) (Int.le_trans ha (Int.le_trans i1 i2))
theorem ev_pow {i j : Int} (h : CPow i j) : Ev S Z 0 H0 σ (tOp (rI CPow fun i j => .int (i ^ j.toNat)) (tC (.int i)) (tC (.int j))) (IR (i ^ j.toNat) (i ^ j.toNat)) :=
  fun H b Q P k q => ⟨i, j, rfl, rfl, h, q _ _ (P.less (by omega)) Kp.refl ⟨_, rfl, Int.le_refl _, Int.le_refl _⟩⟩
theorem Ev.wide {a b c d : Int} (h : Ev S Z n H0 σ te (IR a b)) (h1 : c ≤ a := by decide) (h2 : b ≤ d := by decide) : Ev S Z n H0 σ te (IR c d) := h.imp fun v G ⟨i, e, i1, i2⟩ => ⟨i, e, by omega, by omega⟩
theorem Ev.isInt {a b : Int} (h : Ev S Z n H0 σ te (IR a b)) : Ev S Z n H0 σ te (fun v _ => ∃ i, v = .int i) := h.imp fun v G ⟨i, e, _⟩ => ⟨i, e⟩
theorem ev_ivar {i : Nat} {g lo hi : Int} (e : σ[i]? = some (some (.int g))) (h0 : lo ≤ g) (h1 : g ≤ hi) : Ev S Z 0 H0 σ (tVar i) (IR lo hi) := ev_var e IR.mo ⟨g, rfl, h0, h1⟩
theorem ev_ixT {m c : Nat} {lo up : Int} (hm : Mo R) (h : Ev S Z n1 H0 σ te (TpR K m c R)) (hi : Ev S Z n2 H0 σ ti (IR lo up)) (h1 : -(m : Int) ≤ lo) (h2 : up < (m : Int)) : Ev S Z (n1 + n2) H0 σ (tOp (rIxT K) te ti) R :=
  fun H b Q P k q => h H (n2 + b) _ (P.less (by omega)) k fun x H1 P1 k1 r1 => hi H1 b _ P1 (k.trans k1) fun y H2 P2 k2 ⟨i, e, i1, i2⟩ => by
    obtain ⟨a, xs, rfl, g, l1, l2, l3⟩ := TpR.mo hm _ _ _ k2 r1
    obtain ⟨v, hv, ev⟩ := atI_in (xs := xs) (i := i) (by omega) (by omega)
    exact ⟨a, xs, i, v, rfl, e, Same.seqT hid_same g, ev, q _ _ P2 (k1.trans k2) (l3 v hv)⟩
theorem ev_ixL {m c : Nat} {lo up : Int} (hm : Mo R) (h : Ev S Z n1 H0 σ te (LsR m c R)) (hi : Ev S Z n2 H0 σ ti (IR lo up)) (h1 : -(m : Int) ≤ lo := by decide) (h2 : up < (m : Int) := by decide) : Ev S Z (n1 + n2) H0 σ (tOp (rIxL K) te ti) R :=
  fun H b Q P k q => h H (n2 + b) _ (P.less (by omega)) k fun x H1 P1 k1 r1 => hi H1 b _ P1 (k.trans k1) fun y H2 P2 k2 ⟨i, e, i1, i2⟩ => by
    obtain ⟨a, xs, rfl, g, l1, l2, l3⟩ := LsR.mo hm _ _ _ k2 r1
    obtain ⟨v, hv, ev⟩ := atI_in (xs := xs) (i := i) (by omega) (by omega)
    exact ⟨a, xs, i, v, rfl, e, .inl (.inl (hid_same _ _ g)), ev, q _ _ P2 (k1.trans k2) (l3 v hv)⟩
theorem ev_len {m c : Nat} (h : Ev S Z n H0 σ te (TpR K m c R)) : Ev S Z n H0 σ (tCB (fun xs H Q => ∃ p ys, xs = [.ref p] ∧ (SqL K H p ys ∨ SqT K H p ys) ∧ Q (.int ys.length) H) (tCons te tNil)) (IR m c) :=
  fun H b Q P k q => h H b _ P k fun v H1 P1 k1 ⟨a, xs, e, g, h1, h2, _⟩ => ⟨a, xs, by rw [e], .inr (Same.seqT hid_same g), q _ _ P1 k1 ⟨_, rfl, by omega, by omega⟩⟩
theorem ev_lenL {m c : Nat} (h : Ev S Z n H0 σ te (LsR m c R)) : Ev S Z n H0 σ (tCB (fun xs H Q => ∃ p ys, xs = [.ref p] ∧ (SqL K H p ys ∨ SqT K H p ys) ∧ Q (.int ys.length) H) (tCons te tNil)) (IR m c) :=
  fun H b Q P k q => h H b _ P k fun v H1 P1 k1 ⟨a, xs, e, g, h1, h2, _⟩ => ⟨a, xs, by rw [e], .inl (.inl (.inl (hid_same _ _ g))), q _ _ P1 k1 ⟨_, rfl, by omega, by omega⟩⟩
theorem ev_listOf {m c : Nat} (hm : Mo R) (h : Ev S Z n H0 σ te (TpR K m c R)) : Ev S Z n H0 σ (tCB (fun xs H Q => ∃ p ys, xs = [.ref p] ∧ (SqL K H p ys ∨ SqT K H p ys) ∧ ∀ l, H l = none → Q (.ref l) (upd H l (.lst ys))) (tCons te tNil)) (LsR m c R) :=
  fun H b Q P k q => h H b _ P k fun v H1 P1 k1 ⟨a, xs, e, g, h1, h2, h3⟩ => ⟨a, xs, by rw [e], .inr (Same.seqT hid_same g), fun t nt => by
    obtain ⟨P4, k4, e4⟩ := laid (o := .lst xs) P1 nt
    exact q _ _ P4 (k1.trans k4) ⟨t, xs, rfl, e4, h1, h2, fun x hx => hm _ _ _ k4 (h3 x hx)⟩⟩
theorem ev_tupleOf {m c : Nat} (hm : Mo R) (h : Ev S Z n H0 σ te (LsR m c R)) : Ev S Z n H0 σ (tCB (fun xs H Q => ∃ p ys, xs = [.ref p] ∧ ((SqL K H p ys ∧ ∀ l, H l = none → Q (.ref l) (upd H l (.tup ys))) ∨ (SqT K H p ys ∧ Q (.ref p) H))) (tCons te tNil)) (TpR K m c R) :=
  fun H b Q P k q => h H b _ P k fun v H1 P1 k1 ⟨a, xs, e, g, h1, h2, h3⟩ => ⟨a, xs, by rw [e], .inl ⟨.inl (.inl (hid_same _ _ g)), fun t nt => by
    obtain ⟨P4, k4, e4⟩ := laid (o := .tup xs) P1 nt
    exact q _ _ P4 (k1.trans k4) ⟨t, xs, rfl, .inl (.inl e4), h1, h2, fun x hx => hm _ _ _ k4 (h3 x hx)⟩⟩⟩
/-! ### a def without draws: data to data -/
theorem ev_fn {P : List PyData → Prop} {F : List PyData → PyData} {R : PyData → Prop} {Rs : List PyData → Prop} (h : EvA S Z n H0 σ tl (fun vs G => ∃ ds, Dqs K G vs ds ∧ Rs ds)) (hP : ∀ ds, Rs ds → P ds) (hR : ∀ ds, Rs ds → R (F ds)) : Ev S Z n H0 σ (tCall (sp_fn K P F) [] E0 tl) (DR K R) :=
  fun H b Q Pi k q => h H b _ Pi k fun vs H1 P1 k1 ⟨ds, hd, hr⟩ => ⟨NZ S Z, ds, P1.occ, by rw [List.append_nil]; exact hd, hP _ hr, fun r H' s hf => q _ _ (P1.keep s) (k1.trans (Kp.of s)) ⟨_, hf, hR _ hr⟩⟩
end
/-! ### lists that a comprehension makes grow -/
theorem ev_lcR {S : Src} {Z : Hp} {H0 : Hp} {σ : L2.St} {te : TE} {R : VR} {v n : Nat} {j : Int} (j0 : 0 ≤ j) (j1 : j ≤ 1000) (hm : Mo R)
    (hT : ∀ (Z' H1 : Hp) (x : V) (b : Nat), Iv S Z' b H1 → Same (hid S Z H0) (hid S Z' H1) → Ev S Z' n H1 ((wipe σ [v]).set v (some x)) te R) :
    Ev S Z (n * j.toNat) H0 σ (tLc (iRng1 (tCons (tC (.int j)) tNil)) (gName v) tYes te [v]) (LsR j.toNat j.toNat R) := fun H b Q P k q => by
  refine ⟨j, rfl, by omega, by omega, fun D nD => ?_⟩
  have f := P.free nD
  refine lc_range (fun i Hj => ∃ acc, Iv S (upd Z D (.lst acc)) (n * (j.toNat - i) + b) Hj ∧ acc.length = i ∧ (∀ x ∈ acc, R x (hid S (upd Z D (.lst acc)) Hj)) ∧ Same (hid S Z H) (hid S (upd Z D (.lst acc)) Hj)) ⟨[], (P.new nD).hide upd_same f.1, rfl, (fun x hx => nomatch hx), hid_new2 nD⟩ ?_ ?_
  · rintro i Hj hi ⟨acc, Pj, la, ra, sj⟩
    refine ⟨?_, yes_if ?_⟩
    · simp only [wipe, List.set_set]
    · have e1 : n * (j.toNat - i) = n + n * (j.toNat - (i + 1)) := by
        rw [show j.toNat - i = (j.toNat - (i + 1)) + 1 by omega, Nat.mul_add, Nat.mul_one, Nat.add_comm]
      rw [e1, Nat.add_assoc] at Pj
      refine hT _ Hj _ _ Pj (Same.trans k sj) Hj _ _ Pj Kp.refl fun y H4 P4 k4 r4 => ⟨acc, P4.zz _ _ upd_same, small1000 (by omega), acc ++ [y], ?_, by rw [List.length_append, la]; rfl, fun x hx => ?_, (Same.trans sj k4).trans hid_swap⟩
      · exact ((P4.bare f.2).upd f).hide upd_same f.1
      · rcases List.mem_append.mp hx with e | e
        · exact hm _ _ _ (Same.trans k4 hid_swap) (ra x e)
        · rw [List.mem_singleton.mp e]
          exact hm _ _ _ hid_swap r4
  · rintro Hn ⟨acc, Pn, la, ra, sn⟩
    have e := Pn.zz _ _ upd_same
    exact q _ Hn ((Pn.bare f.2).less (by omega)) (sn.trans hid_hide) ⟨D, acc, rfl, by rw [hid_at f]; exact e, by omega, by omega, fun x hx => hm _ _ _ hid_hide (ra x hx)⟩
end Lg

namespace Lg
open PySem PySem.Spec PyProof.Rows L2 Lm
/-! ### the reel -/
def rlAt (r c : Addr) (b : Nat) (H : Hp) : Prop := ∃ (t : Nat) (ns : List Int), H r = some (.lst [.ref c, .int (t : Int)]) ∧ H c = some (.lst (ns.map V.int)) ∧ ns ≠ [] ∧ ns.length ≤ 64 ∧ t + b ≤ 1000000000000
def reel (r c : Addr) : Src where
  at_ := rlAt r c
  own := fun a => a = r ∨ a = c
  frame := fun h ⟨t, ns, h1, h2, h3⟩ => ⟨t, ns, by rw [h r (.inl rfl)]; exact h1, by rw [h c (.inr rfl)]; exact h2, h3⟩
  less := fun hc ⟨t, ns, h1, h2, h3, h4, h5⟩ => ⟨t, ns, h1, h2, h3, h4, by omega⟩
  full := fun ⟨t, ns, h1, h2, _⟩ h => by
    rcases h with rfl | rfl
    · rw [h1]; exact fun z => nomatch z
    · rw [h2]; exact fun z => nomatch z
theorem reel_ne {r c : Addr} {b : Nat} {H : Hp} (h : rlAt r c b H) : r ≠ c := by
  obtain ⟨t, ns, h1, h2, h3, _⟩ := h
  rintro rfl
  rw [h1] at h2
  cases ns with
  | nil => exact h3 rfl
  | cons n ns =>
    have q : [V.ref r, V.int (t : Int)] = (n :: ns).map V.int := HO.lst.inj (Option.some.inj h2)
    simp at q
def sp_spin : Sp := fun vs H Q _ => ∃ (Z : Hp) (r c : Addr) (b : Nat) (n : Int), vs = [.ref r, .int n] ∧ Iv (reel r c) Z (1 + b) H ∧ 1 ≤ n ∧ n < 1073741824 ∧
  ∀ (v : Int) (H' : Hp), Iv (reel r c) Z b H' → Kp (reel r c) Z H H' → 0 ≤ v → v < n → Q (.int v) H'
def sp_reel (K : PySem.W.Frag) : Sp := fun vs H Q _ => ∃ (a : Addr) (ns : List Int), vs = [.ref a] ∧ SqL K H a (ns.map V.int) ∧ ns.length ≤ 63 ∧ ∀ (r c : Addr) (H' : Hp), Iv (reel r c) (fun _ => none) 1000000000000 H' → Same H H' → Q (.ref r) H'
section
variable {K : PySem.W.Frag} {r c : Addr} {Z : Hp} {H0 : Hp} {σ : L2.St} {te ta tb : TE} {tl : TA} {R : VR} {n : Nat}
theorem ev_spin {i : Nat} {b : Int} (e : σ[i]? = some (some (.ref r))) (hb : b < 1073741824) (h : Ev (reel r c) Z n H0 σ te (IR 1 b)) : Ev (reel r c) Z (n + 1) H0 σ (tCall sp_spin [] E0 (tCons (tVar i) (tCons te tNil))) (IR 0 (b - 1)) :=
  fun H bb Q P k q => ⟨_, e, h H (1 + bb) _ (P.less (by omega)) k fun v H1 P1 k1 ⟨m, em, n1, n2⟩ => ⟨Z, r, c, bb, m, by rw [em]; rfl, P1, by omega, by omega, fun x H2 P2 k2 r1 r2 => q _ _ P2 (k1.trans k2) ⟨x, rfl, r1, by omega⟩⟩⟩
theorem ev_spinC {i : Nat} {m : Int} (e : σ[i]? = some (some (.ref r)) := by rfl) (h0 : 1 ≤ m := by decide) (h1 : m < 1073741824 := by decide) : Ev (reel r c) Z (0 + 1) H0 σ (tCall sp_spin [] E0 (tCons (tVar i) (tCons (tC (.int m)) tNil))) (IR 0 (m - 1)) :=
  ev_spin (b := m) e h1 (ev_int.wide h0 (Int.le_refl _))
end
/-! ### lamps, stretches, logs, minutes -/
def kindS (h : Bool) : Str := if h then "hold" else "pulse"
abbrev Lamp := Bool × Int
abbrev Stt := Int × Int
def lampD (l : Lamp) : PyData := .tuple [.str (kindS l.1), .int l.2]
def logD (ps : List Stt) : PyData := .tuple (ps.map pD)
def lampsD (ls : List Lamp) : PyData := .tuple (ls.map lampD)
def minsD (ms : List Int) : PyData := .list (ms.map .int)
/-- strictly rising, from above b -/
def Asc : Int → List Int → Prop
  | _, [] => True
  | b, m :: r => b < m ∧ Asc m r
def stepL (h : Bool) (s : Int) : List Stt → Int → List Stt
  | [], m => [(m, m + s)]
  | q :: r, m => if q.2 < m then (m, m + s) :: q :: r else if h || decide (m = q.2) then (q.1, m + s) :: r else q :: r
def logF (l : Lamp) (ms : List Int) : List Stt := (ms.foldl (stepL l.1 l.2) []).reverse
/-- a log in order, all of it up to B -/
structure LgOk (n : Nat) (B : Int) (ps : List Stt) : Prop where
  up : LogUp (-1) ps
  len : ps.length ≤ n
  top : ∀ q ∈ ps, q.2 ≤ B
/-- the same from its end -/
def DownOk (B : Int) : List Stt → Prop
  | [] => True
  | q :: r => 0 ≤ q.1 ∧ q.1 < q.2 ∧ q.2 ≤ B ∧ DownOk B r ∧ (match r with | [] => True | p :: _ => p.2 < q.1)
theorem LogUp.snoc {b : Int} : ∀ {ps : List Stt} {q : Stt}, LogUp b ps → (∀ p, ps.getLast? = some p → p.2 < q.1) → b < q.1 → q.1 < q.2 → LogUp b (ps ++ [q])
  | [], q, _, _, h, h2 => ⟨h, h2, trivial⟩
  | p :: r, q, ⟨a1, a2, a3⟩, hl, h, h2 => by
    refine ⟨a1, a2, LogUp.snoc a3 (fun x hx => ?_) ?_ h2⟩
    · cases r with
      | nil => simp at hx
      | cons y ys => exact hl x (by rw [List.getLast?_cons_cons]; exact hx)
    · cases r with
      | nil => exact hl p rfl
      | cons y ys =>
        obtain ⟨b1, b2, b3⟩ := a3
        have := hl ((y :: ys).getLast (by simp)) (by rw [List.getLast?_cons_cons, List.getLast?_eq_getLast (by simp)])
        have m : (y :: ys).getLast (by simp) ∈ (y :: ys) := List.getLast_mem _
        have bb := LogUp.bound (b := p.2) (ps := y :: ys) ⟨b1, b2, b3⟩ _ m
        omega
theorem DownOk.rev {B : Int} : ∀ {qs : List Stt}, DownOk B qs → LogUp (-1) qs.reverse ∧ ∀ q ∈ qs, 0 ≤ q.1 ∧ q.1 < q.2 ∧ q.2 ≤ B
  | [], _ => ⟨trivial, fun q h => nomatch h⟩
  | q :: r, ⟨h0, h1, h2, h3, h4⟩ => by
    obtain ⟨i1, i2⟩ := DownOk.rev h3
    rw [List.reverse_cons]
    refine ⟨LogUp.snoc i1 (fun p hp => ?_) (by omega) h1, fun x hx => ?_⟩
    · rw [List.getLast?_reverse] at hp
      cases r with
      | nil => simp at hp
      | cons y ys => simp at hp; rw [← hp]; exact h4
    · rcases List.mem_cons.mp hx with e | e
      · rw [e]; exact ⟨h0, h1, h2⟩
      · exact i2 x e
theorem DownOk.ok {B : Int} {n : Nat} {qs : List Stt} (h : DownOk B qs) (hl : qs.length ≤ n) : LgOk n B qs.reverse :=
  ⟨h.rev.1, by rw [List.length_reverse]; exact hl, fun q hq => (h.rev.2 q (List.mem_reverse.mp hq)).2.2⟩
theorem stepL_down {h : Bool} {s B C m : Int} {qs : List Stt} (hs : 1 ≤ s) (hd : DownOk C qs) (h0 : 0 ≤ m) (hb : m + s ≤ B) (hc : C ≤ B) (hm : ∀ q, qs.head? = some q → q.1 < m) : DownOk B (stepL h s qs m) := by
  have w : ∀ {rs : List Stt}, DownOk C rs → DownOk B rs := fun {rs} => by
    intro hr
    induction rs with
    | nil => trivial
    | cons q r ih => obtain ⟨a1, a2, a3, a4, a5⟩ := hr; exact ⟨a1, a2, Int.le_trans a3 hc, ih a4, a5⟩
  cases qs with
  | nil => exact ⟨h0, by show m < m + s; omega, hb, trivial, trivial⟩
  | cons q r =>
    have hq := hm q rfl
    obtain ⟨a1, a2, a3, a4, a5⟩ := hd
    simp only [stepL]
    split
    · exact ⟨h0, by show m < m + s; omega, hb, w ⟨a1, a2, a3, a4, a5⟩, by assumption⟩
    · split
      · exact ⟨a1, by show q.1 < m + s; omega, hb, w a4, a5⟩
      · exact w ⟨a1, a2, a3, a4, a5⟩
theorem stepL_head {h : Bool} {s m : Int} {qs : List Stt} (hm : ∀ q, qs.head? = some q → q.1 < m) : ∀ q, (stepL h s qs m).head? = some q → q.1 ≤ m := by
  intro x
  cases qs with
  | nil => intro e; cases e; exact Int.le_refl _
  | cons q r =>
    have hq := hm q rfl
    simp only [stepL]
    split
    · intro e; cases e; exact Int.le_refl _
    · split
      · intro e; cases e; show q.1 ≤ m; omega
      · intro e; cases e; omega
theorem stepL_len {h : Bool} {s m : Int} {qs : List Stt} : (stepL h s qs m).length ≤ qs.length + 1 := by
  cases qs with
  | nil => exact Nat.le_refl _
  | cons q r =>
    simp only [stepL]
    split
    · simp
    · split <;> simp
theorem foldL_down {h : Bool} {s B : Int} (hs : 1 ≤ s) : ∀ {ms : List Int} {b : Int} {qs : List Stt}, Asc b ms → (∀ m ∈ ms, 0 ≤ m ∧ m + s ≤ B) → DownOk B qs → (∀ q, qs.head? = some q → q.1 ≤ b) → DownOk B (ms.foldl (stepL h s) qs) ∧ (ms.foldl (stepL h s) qs).length ≤ qs.length + ms.length
  | [], b, qs, _, _, hd, _ => ⟨hd, Nat.le_refl _⟩
  | m :: r, b, qs, ⟨a1, a2⟩, hm, hd, hh => by
    have m0 := hm m List.mem_cons_self
    have hh' : ∀ q, qs.head? = some q → q.1 < m := fun q e => by have := hh q e; omega
    obtain ⟨i1, i2⟩ := foldL_down (h := h) hs a2 (fun x hx => hm x (List.mem_cons_of_mem _ hx)) (stepL_down (h := h) hs hd m0.1 m0.2 (Int.le_refl _) hh') (stepL_head hh')
    have l := stepL_len (h := h) (s := s) (m := m) (qs := qs)
    refine ⟨i1, ?_⟩
    rw [List.foldl_cons, List.length_cons]
    omega
theorem logF_ok {l : Lamp} {ms : List Int} {b B : Int} {n : Nat} (hs : 1 ≤ l.2) (ha : Asc b ms) (hm : ∀ m ∈ ms, 0 ≤ m ∧ m + l.2 ≤ B) (hl : ms.length ≤ n) : LgOk n B (logF l ms) := by
  obtain ⟨h1, h2⟩ := foldL_down (h := l.1) (qs := []) hs ha hm trivial (fun q e => nomatch e)
  exact h1.ok (by simp at h2; omega)
/-! ### what such data is in the heap -/
theorem dqs_nil {K : PySem.W.Frag} {G : Hp} {vs : List V} (h : Dqs K G vs []) : vs = [] := by cases h; rfl
theorem dqs_cons {K : PySem.W.Frag} {G : Hp} {vs : List V} {d : PyData} {ds : List PyData} (h : Dqs K G vs (d :: ds)) : ∃ v r, vs = v :: r ∧ Dq K G v d ∧ Dqs K G r ds := by cases h; exact ⟨_, _, rfl, by assumption, by assumption⟩
theorem dq_int {K : PySem.W.Frag} {G : Hp} {v : V} {i : Int} (h : Dq K G v (.int i)) : v = .int i := by cases h; rfl
theorem dq_str {K : PySem.W.Frag} {G : Hp} {v : V} {x : Str} (h : Dq K G v (.str x)) : v = .str x := by cases h; rfl
theorem dq_bool {K : PySem.W.Frag} {G : Hp} {v : V} {x : Bool} (h : Dq K G v (.bool x)) : v = .bl x := by cases h; rfl
theorem dq_none {K : PySem.W.Frag} {G : Hp} {v : V} (h : Dq K G v .none) : v = .non := by cases h; rfl
theorem dq_tup {K : PySem.W.Frag} {G : Hp} {v : V} {ds : List PyData} (h : Dq K G v (.tuple ds)) : ∃ a xs, v = .ref a ∧ SqT K G a xs ∧ Dqs K G xs ds := by cases h; exact ⟨_, _, rfl, by assumption, by assumption⟩
theorem dq_lst {K : PySem.W.Frag} {G : Hp} {v : V} {ds : List PyData} (h : Dq K G v (.list ds)) : ∃ a xs, v = .ref a ∧ SqL K G a xs ∧ Dqs K G xs ds := by cases h; exact ⟨_, _, rfl, by assumption, by assumption⟩
theorem dq_lamp {K : PySem.W.Frag} {G : Hp} {v : V} {l : Lamp} (h : Dq K G v (lampD l)) : ∃ a, v = .ref a ∧ SqT K G a [.str (kindS l.1), .int l.2] := by
  obtain ⟨a, xs, rfl, h1, h2⟩ := dq_tup h
  obtain ⟨x, r, rfl, h3, h4⟩ := dqs_cons h2
  obtain ⟨y, r, rfl, h5, h6⟩ := dqs_cons h4
  rw [dqs_nil h6, dq_str h3, dq_int h5] at h1
  exact ⟨a, rfl, h1⟩
theorem dq_pair {K : PySem.W.Frag} {G : Hp} {v : V} {q : Stt} (h : Dq K G v (pD q)) : ∃ a, v = .ref a ∧ SqT K G a [.int q.1, .int q.2] := by
  obtain ⟨a, xs, rfl, h1, h2⟩ := dq_tup h
  obtain ⟨x, r, rfl, h3, h4⟩ := dqs_cons h2
  obtain ⟨y, r, rfl, h5, h6⟩ := dqs_cons h4
  rw [dqs_nil h6, dq_int h3, dq_int h5] at h1
  exact ⟨a, rfl, h1⟩
theorem dq_lampT {K : PySem.W.Frag} {G : Hp} {a : Addr} {l : Lamp} (h : SqT K G a [.str (kindS l.1), .int l.2]) : Dq K G (.ref a) (lampD l) := .tup h (.cons (.str _) (.cons (.int _) .nil))
theorem dq_pairT {K : PySem.W.Frag} {G : Hp} {a : Addr} {q : Stt} (h : SqT K G a [.int q.1, .int q.2]) : Dq K G (.ref a) (pD q) := .tup h (.cons (.int _) (.cons (.int _) .nil))
theorem dqs_ints {K : PySem.W.Frag} {G : Hp} : ∀ {vs : List V} {ms : List Int}, Dqs K G vs (ms.map .int) → vs = ms.map V.int
  | _, [], h => dqs_nil h
  | _, m :: r, h => by
    obtain ⟨v, t, rfl, h1, h2⟩ := dqs_cons h
    rw [dq_int h1, dqs_ints h2]; rfl
theorem ints_dqs {K : PySem.W.Frag} {G : Hp} : ∀ {ms : List Int}, Dqs K G (ms.map V.int) (ms.map .int)
  | [] => .nil
  | m :: r => .cons (.int m) ints_dqs
theorem kindS_hold (h : Bool) : decide (V.str (kindS h) = V.str "hold") = h := by
  cases h with
  | true => exact decide_eq_true rfl
  | false => exact decide_eq_false (fun e => absurd (V.str.inj e) (by decide))
theorem kindS_pulse (h : Bool) : decide (V.str (kindS h) = V.str "pulse") = !h := by
  cases h with
  | true => exact decide_eq_false (fun e => absurd (V.str.inj e) (by decide))
  | false => exact decide_eq_true rfl
theorem cut_ints (ns : List Int) (lo hi : Option Int) : ∃ ks : List Int, cutV (ns.map V.int) lo hi = ks.map V.int ∧ ks.length ≤ ns.length := by
  refine ⟨(ns.drop (HT.sIx (ns.map V.int).length 0 lo)).take (HT.sIx (ns.map V.int).length (ns.map V.int).length hi - HT.sIx (ns.map V.int).length 0 lo), ?_, ?_⟩
  · unfold cutV
    rw [List.map_take, List.map_drop]
  · rw [List.length_take, List.length_drop]
    omega
/-! ### promises -/
def sp_f (K : PySem.W.Frag) {α : Type} (A : α → List PyData) (P : α → Prop) (F : α → PyData) : Sp := fun vs H Q _ => ∃ (N : Addr → Prop) (x : α), Occ N H ∧ Dqs K (cut N H) vs (A x) ∧ P x ∧ ∀ r H', Same H H' → Dq K (cut N H') r (F x) → Q r H'
def fitB (l : Lamp) (q : Stt) : Bool := decide (q.2 - l.2 ≤ 1000000000) && (if l.1 then decide (l.2 ≤ q.2 - q.1) else decide ((q.2 - q.1).fmod l.2 = 0))
/-- the numbers of those that do not pass, from i on -/
def wrongs (p : Stt → Bool) : Nat → List Stt → List Int
  | _, [] => []
  | i, q :: r => if p q then wrongs p (i + 1) r else (i : Int) :: wrongs p (i + 1) r
theorem wrongs_snoc (p : Stt → Bool) : ∀ (i : Nat) (ps : List Stt) (q : Stt), wrongs p i (ps ++ [q]) = wrongs p i ps ++ (if p q then [] else [((i + ps.length : Nat) : Int)])
  | i, [], q => by simp only [List.nil_append, wrongs, List.length_nil, Nat.add_zero]
  | i, x :: r, q => by
    simp only [List.cons_append, wrongs, wrongs_snoc p (i + 1) r q, List.length_cons]
    rw [show i + 1 + r.length = i + (r.length + 1) by omega]
    split <;> simp
theorem wrongs_len (p : Stt → Bool) : ∀ (i : Nat) (ps : List Stt), (wrongs p i ps).length ≤ ps.length
  | _, [] => Nat.le_refl _
  | i, q :: r => by
    simp only [wrongs]
    have := wrongs_len p (i + 1) r
    split <;> simp only [List.length_cons] <;> omega
theorem wrongs_lt (p : Stt → Bool) : ∀ (i : Nat) (ps : List Stt), ∀ x ∈ wrongs p i ps, (i : Int) ≤ x ∧ x < i + ps.length
  | _, [], x, h => nomatch h
  | i, q :: r, x, h => by
    have ih := wrongs_lt p (i + 1) r
    simp only [wrongs] at h
    simp only [List.length_cons]
    split at h
    · have := ih x h; omega
    · rcases List.mem_cons.mp h with e | e
      · omega
      · have := ih x e; omega
def sp_lamps (K : PySem.W.Frag) : Sp := fun vs H Q _ => ∃ (Z : Hp) (r c : Addr) (b : Nat) (m T : Int), vs = [.ref r, .int m, .int T] ∧ Iv (reel r c) Z (25 + b) H ∧ 1 ≤ m ∧ m ≤ 6 ∧ 1 ≤ T ∧ T ≤ 10000 ∧
  ∀ (x : V) (H' : Hp) (ls : List Lamp), Iv (reel r c) Z b H' → Kp (reel r c) Z H H' → Dq K (hid (reel r c) Z H') x (lampsD ls) → 1 ≤ ls.length → (ls.length : Int) ≤ m → (∀ l ∈ ls, 1 ≤ l.2 ∧ l.2 ≤ T) → Q x H'
/-- minutes: rising, not negative, of at most 10 ** 7, so many at most -/
def MinsOk (n : Int) (ms : List Int) : Prop := Asc (-1) ms ∧ (ms.length : Int) ≤ n ∧ ∀ m ∈ ms, 0 ≤ m ∧ m ≤ 10000000
def sp_minutes (K : PySem.W.Frag) : Sp := fun vs H Q _ => ∃ (Z : Hp) (r c : Addr) (b : Nat) (m g : Int), vs = [.ref r, .int m, .int g] ∧ Iv (reel r c) Z (205 + b) H ∧ 0 ≤ m ∧ m ≤ 50 ∧ 1 ≤ g ∧ g ≤ 20000 ∧
  ∀ (x : V) (H' : Hp) (ms : List Int), Iv (reel r c) Z b H' → Kp (reel r c) Z H H' → Dq K (hid (reel r c) Z H') x (minsD ms) → MinsOk m ms → Q x H'
def sp_bent (K : PySem.W.Frag) : Sp := fun vs H Q _ => ∃ (Z : Hp) (r c : Addr) (b : Nat) (x : V) (ps : List Stt) (B : Int), vs = [.ref r, x] ∧ Iv (reel r c) Z (3 + b) H ∧ Dq K (hid (reel r c) Z H) x (logD ps) ∧ LgOk 60 B ps ∧ 0 ≤ B ∧ B ≤ 100000000 ∧
  ∀ (y : V) (H' : Hp) (qs : List Stt), Iv (reel r c) Z b H' → Kp (reel r c) Z H H' → Dq K (hid (reel r c) Z H') y (logD qs) → LgOk 60 (B + 8) qs → Q y H'
def sp_scene (K : PySem.W.Frag) : Sp := fun vs H Q _ => ∃ (Z : Hp) (r c : Addr) (b : Nat) (m T n : Int), vs = [.ref r, .int m, .int T, .int n] ∧ Iv (reel r c) Z (700 + b) H ∧ 1 ≤ m ∧ m ≤ 6 ∧ 1 ≤ T ∧ T ≤ 10000 ∧ 0 ≤ n ∧ n ≤ 50 ∧
  ∀ (p : Addr) (x y : V) (H' : Hp) (ls : List Lamp) (gs : List (List Stt)), Iv (reel r c) Z b H' → Kp (reel r c) Z H H' → H' p = some (.lst [x, y]) → ¬ (reel r c).own p → Z p = none → H p = none →
    Dq K (hid (reel r c) Z H') x (lampsD ls) → Dq K (hid (reel r c) Z H') y (.tuple (gs.map logD)) → 1 ≤ ls.length → (ls.length : Int) ≤ m → (∀ l ∈ ls, 1 ≤ l.2 ∧ l.2 ≤ T) → gs.length = ls.length → (∀ g ∈ gs, LgOk 60 20000000 g) → Q (.ref p) H'
end Lg

namespace Lg
open PySem PySem.Spec PyProof.Rows L2 Lm
/-! ### a list of one's own -/
noncomputable abbrev cut1 (f : Addr) (G : Hp) : Hp := cut (fun a => a = f) G
theorem cut1_at {f b : Addr} {G : Hp} (h : b ≠ f) : cut1 f G b = G b := if_neg h
section
variable {N : Addr → Prop} {H H3 : Hp} {f t : Addr} {o o' : HO} {vs : List V}
theorem app_cut (O : Occ N H3) (hf : H3 f = some o) (nt : H3 t = none) : Same (cut1 f (cut N H3)) (cut1 f (cut N (upd (upd H3 t (.tup vs)) f o'))) ∧ cut1 f (cut N (upd (upd H3 t (.tup vs)) f o')) t = some (.tup vs) := by
  have tf : t ≠ f := fun e => by rw [e, hf] at nt; cases nt
  have tN : ¬ N t := fun z => O t z nt
  constructor
  · intro b u e
    have n1 := cut_some e
    have n2 := cut_some n1.2
    have bt : b ≠ t := fun e => by rw [e, nt] at n2; cases n2.2
    rw [cut1_at n1.1, cut_at n2.1, upd_ne n1.1, upd_ne bt]
    exact n2.2
  · rw [cut1_at tf, cut_at tN, upd_ne tf, upd_same]
theorem set_cut : cut1 f (cut N (upd H3 f o)) = cut1 f (cut N H3) := by
  funext b
  by_cases e : b = f
  · unfold cut1 cut; rw [if_pos e, if_pos e]
  · rw [cut1_at e, cut1_at e]
    by_cases n : N b
    · unfold cut; rw [if_pos n, if_pos n]
    · rw [cut_at n, cut_at n, upd_ne e]
theorem new_cut (O : Occ N H3) (nt : H3 t = none) : Same (cut N H3) (cut N (upd H3 t o)) := cut_mono (same_new nt)
end
section
variable {S : Src} {Z H H3 : Hp} {b c : Nat} {f t : Addr} {o : HO} {vs : List V}
theorem app_iv (P : Iv S Z c H) (nf : H f = none) (P3 : Iv S Z b H3) (k3 : Kp S Z H H3) (nt : H3 t = none) : Iv S Z b (upd (upd H3 t (.tup vs)) f o) ∧ Kp S Z H (upd (upd H3 t (.tup vs)) f o) :=
  ⟨(P3.new nt).upd (P.free nf), Kp.upd_new (ne_of_new nf) (k3.trans (Kp.new nt))⟩
theorem set_iv (P : Iv S Z c H) (nf : H f = none) (P3 : Iv S Z b H3) (k3 : Kp S Z H H3) : Iv S Z b (upd H3 f o) ∧ Kp S Z H (upd H3 f o) :=
  ⟨P3.upd (P.free nf), Kp.upd_new (ne_of_new nf) k3⟩
/-- what is visible is so behind a call -/
theorem Kp.at_ (k : Kp S Z H H3) (h : Off S Z f) (e : H f = some o) : H3 f = some o := cut_same _ _ (k _ _ (hid_get h e))
end
section
variable {σ : L2.St} {H : Hp} {te : TE} {tl : TA} {Q : VK} {QL : List V → Hp → Prop} {K : PySem.W.Frag}
theorem r_tup (h : tl σ H fun vs H1 => vs.length ≤ sizeLine ∧ ∀ t, H1 t = none → Q (.ref t) (upd H1 t (.tup vs))) : tTup tl σ H Q := h
theorem r_lst (h : tl σ H fun vs H1 => vs.length ≤ sizeLine ∧ ∀ t, H1 t = none → Q (.ref t) (upd H1 t (.lst vs))) : tLst tl σ H Q := h
theorem r_cons (h : te σ H fun v H1 => tl σ H1 fun vs H2 => QL (v :: vs) H2) : tCons te tl σ H QL := h
theorem dqs_snoc {G : Hp} {xs : List V} {ds : List PyData} {v : V} {d : PyData} (h : Dqs K G xs ds) (hv : Dq K G v d) : Dqs K G (xs ++ [v]) (ds ++ [d]) := Dqs.app h (.cons hv .nil)
end
def KS (v : V) (_ : Hp) : Prop := ∃ h, v = .str (kindS h)
theorem KS.mo : Mo KS := fun v G G' s h => h
section
variable {K : PySem.W.Frag} {S : Src} {Z : Hp} {H0 : Hp} {σ : L2.St} {ta tb : TE} {n1 n2 : Nat}
theorem ev_min2 {a b c d : Int} (h1 : Ev S Z n1 H0 σ ta (IR a b)) (h2 : Ev S Z n2 H0 σ tb (IR c d)) : Ev S Z (n1 + n2) H0 σ (tCB (fun xs H Q => ∃ i j, xs = [.int i, .int j] ∧ Q (.int (if j < i then j else i)) H) (tCons ta (tCons tb tNil))) (IR (if c < a then c else a) b) :=
  fun H bb Q P k q => h1 H (n2 + bb) _ (P.less (by omega)) k fun x H1 P1 k1 ⟨i, e1, i1, i2⟩ => h2 H1 bb _ P1 (k.trans k1) fun y H2 P2 k2 ⟨j, e2, j1, j2⟩ => ⟨i, j, by rw [e1, e2], q _ _ P2 (k1.trans k2) ⟨_, rfl, by repeat (first | omega | split), by repeat (first | omega | split)⟩⟩
theorem EI_mo {i : Int} : Mo (EI i) := fun _ _ _ _ h => h
theorem ev_iv {i : Nat} {g : Int} (e : σ[i]? = some (some (.int g))) : Ev S Z 0 H0 σ (tVar i) (EI g) := ev_var e EI_mo rfl
theorem ev_kinds : Ev S Z 0 H0 σ (tLst (tCons (tC (.str "hold")) (tCons (tC (.str "pulse")) tNil))) (LsR 2 2 KS) :=
  ev_lst (by decide) KS.mo (eall_cons KS.mo (ev_c.imp fun v G e => ⟨true, e⟩) (eall_cons KS.mo (ev_c.imp fun v G e => ⟨false, e⟩) eall_nil))
end
theorem Asc.snoc : ∀ {b : Int} {ms : List Int} {m : Int}, Asc b ms → b < m → (∀ x ∈ ms, x < m) → Asc b (ms ++ [m])
  | _, [], _, _, h, _ => ⟨h, trivial⟩
  | b, x :: r, m, ⟨a1, a2⟩, h, hx => ⟨a1, Asc.snoc a2 (hx x List.mem_cons_self) fun y hy => hx y (List.mem_cons_of_mem _ hy)⟩
end Lg

namespace Lg
open PySem PySem.Spec PyProof.Rows L2 Lm
theorem dqs_snoc_inv {K : PySem.W.Frag} {G : Hp} : ∀ {xs : List V} {ds : List PyData} {d : PyData}, Dqs K G xs (ds ++ [d]) → ∃ ys v, xs = ys ++ [v] ∧ Dqs K G ys ds ∧ Dq K G v d
  | _, [], d, h => by
    obtain ⟨v, r, rfl, h1, h2⟩ := dqs_cons h
    rw [dqs_nil h2]
    exact ⟨[], v, rfl, .nil, h1⟩
  | _, e :: r, d, h => by
    obtain ⟨v, t, rfl, h1, h2⟩ := dqs_cons h
    obtain ⟨ys, u, rfl, h3, h4⟩ := dqs_snoc_inv h2
    exact ⟨v :: ys, u, rfl, .cons h1 h3, h4⟩
theorem ixN_last {xs : List V} {v : V} : ixN (xs ++ [v]).length (-1) = some xs.length := by
  unfold ixN
  rw [if_neg (by decide), if_pos (by simp; omega)]
  congr 1
  simp
  omega
theorem set_last {xs : List V} {v u : V} : (xs ++ [v]).set xs.length u = xs ++ [u] := by
  rw [List.set_append_right _ _ (Nat.le_refl _), Nat.sub_self]
  rfl
/-- the numbers that two sure facts about decide give -/
theorem Same.seqL {K : PySem.W.Frag} {H H' : Hp} {a : Addr} {xs : List V} (e : Same H H') (h : SqL K H a xs) : SqL K H' a xs := e.seq h
theorem get_ints {ms : List Int} {i : Nat} {x : V} (h : (ms.map V.int)[i]? = some x) : ∃ m, ms[i]? = some m ∧ x = .int m := by
  rw [List.getElem?_map] at h
  cases e : ms[i]? with
  | none => rw [e] at h; cases h
  | some n => rw [e] at h; exact ⟨n, rfl, (Option.some.inj h).symm⟩
theorem same_upd {H H3 : Hp} {f : Addr} {o : HO} (s : Same H H3) (n : H f = none) : Same H (upd H3 f o) := same_upd2 s n
theorem logF_len (h : Bool) (s : Int) : ∀ (ms : List Int) (qs : List Stt), (ms.foldl (stepL h s) qs).length ≤ qs.length + ms.length
  | [], _ => Nat.le_refl _
  | m :: r, qs => by
    have a := logF_len h s r (stepL h s qs m)
    have b := stepL_len (h := h) (s := s) (m := m) (qs := qs)
    rw [List.foldl_cons, List.length_cons]
    omega
theorem foldl_take {α β : Type} (g : β → α → β) (b : β) (xs : List α) {i : Nat} {x : α} (h : xs[i]? = some x) : (xs.take (i + 1)).foldl g b = g ((xs.take i).foldl g b) x := by
  rw [List.take_add_one, h, List.foldl_append]
  rfl
def sp_l_log (K : PySem.W.Frag) : Sp := sp_f K (fun x : Lamp × List Int => [lampD x.1, minsD x.2]) (fun x => x.2.length ≤ 900) (fun x => logD (logF x.1 x.2))
def sp_l_logs (K : PySem.W.Frag) : Sp := sp_f K (fun x : List Lamp × List Int => [lampsD x.1, minsD x.2]) (fun x => x.1.length ≤ 900 ∧ x.2.length ≤ 900) (fun x => .tuple (x.1.map fun l => logD (logF l x.2)))
def sp_fits (K : PySem.W.Frag) : Sp := sp_f K (fun x : Lamp × Stt => [lampD x.1, pD x.2]) (fun x => 1 ≤ x.1.2 ∧ x.2.1 < x.2.2) (fun x => .bool (fitB x.1 x.2))
def sp_wrong (K : PySem.W.Frag) : Sp := sp_f K (fun x : Lamp × List Stt => [lampD x.1, logD x.2]) (fun x => 1 ≤ x.1.2 ∧ (∀ q ∈ x.2, q.1 < q.2) ∧ x.2.length ≤ 900) (fun x => .tuple ((wrongs (fitB x.1) 0 x.2).map .int))
theorem dqs_get {K : PySem.W.Frag} {G : Hp} {α : Type} {D : α → PyData} {xs : List V} {ps : List α} {i : Nat} {v : V} (h : Dqs K G xs (ps.map D)) (e : xs[i]? = some v) : ∃ q, ps[i]? = some q ∧ Dq K G v (D q) := by
  obtain ⟨d, hd, hq⟩ := h.get e
  rw [List.getElem?_map] at hd
  cases e2 : ps[i]? with
  | none => rw [e2] at hd; cases hd
  | some q => rw [e2] at hd; cases (Option.some.inj hd); exact ⟨q, rfl, hq⟩
/-- a list of pairs that grows while nothing else changes: σ is what the names hold but for y -/
def GrowAt (K : PySem.W.Frag) (N : Addr → Prop) (H : Hp) (f : Addr) (ps : List Stt) (Hi : Hp) : Prop := ∃ xs, Same H Hi ∧ Hi f = some (.lst xs) ∧ Dqs K (cut1 f (cut N Hi)) xs (ps.map pD)
theorem GrowAt.start {K : PySem.W.Frag} {N : Addr → Prop} {H : Hp} {f : Addr} (nf : H f = none) : GrowAt K N H f [] (upd H f (.lst [])) := ⟨[], same_new nf, upd_same, .nil⟩
theorem GrowAt.put {K : PySem.W.Frag} {N : Addr → Prop} {H Hi G : Hp} {f t : Addr} {zs : List V} {o : HO} {ps : List Stt} {q : Stt} (nf : H f = none) (O : Occ N H) (si : Same H Hi) (sG : Same Hi G) (eG : G f = some o) (hz : Dqs K (cut1 f (cut N Hi)) zs (ps.map pD)) (nt : G t = none) :
    GrowAt K N H f (ps ++ [q]) (upd (upd G t (.tup [.int q.1, .int q.2])) f (.lst (zs ++ [.ref t]))) := by
  obtain ⟨s5, e5⟩ := app_cut (vs := [.int q.1, .int q.2]) (o' := .lst (zs ++ [.ref t])) ((O.keep si).keep sG) eG nt
  refine ⟨_, same_upd ((si.trans sG).trans (same_new nt)) nf, upd_same, ?_⟩
  rw [List.map_append]
  exact dqs_snoc (hz.mono ((cut_mono (cut_mono sG)).trans s5)) (dq_pairT (.inl (.inl e5)))
theorem GrowAt.keep {K : PySem.W.Frag} {N : Addr → Prop} {H Hi G : Hp} {f : Addr} {ps : List Stt} (h : GrowAt K N H f ps Hi) (s : Same Hi G) : GrowAt K N H f ps G :=
  let ⟨xs, s1, e, d⟩ := h; ⟨xs, s1.trans s, s _ _ e, d.mono (cut_mono (cut_mono s))⟩
theorem GrowAt.tup {K : PySem.W.Frag} {N : Addr → Prop} {H Hi : Hp} {f t : Addr} {xs : List V} {ds : List PyData} (O : Occ N H) (s : Same H Hi) (d : Dqs K (cut1 f (cut N Hi)) xs ds) (nt : Hi t = none) : Dq K (cut N (upd Hi t (.tup xs))) (.ref t) (.tuple ds) :=
  .tup (.inl (.inl (cut_new (O.keep s) nt))) (d.mono (cut_same.trans (cut_mono (same_new nt))))
theorem iteF_e {b : Bool} {P R : Prop} (h : b = false) (q : R) : if b = true then P else R := by rw [h]; exact q
theorem iteT_e {b : Bool} {P R : Prop} (h : b = true) (q : P) : if b = true then P else R := by rw [h]; exact q
theorem ite_b {b : Bool} {P R : Prop} (h1 : b = true → P) (h2 : b = false → R) : if b = true then P else R := by
  cases b with
  | true => exact h1 rfl
  | false => exact h2 rfl
end Lg

namespace Lg
open PySem PySem.Spec PyProof.Rows L2 Lm
theorem pg_tupK {X : Cx} {K : PySem.W.Frag} {es : List Expr} {k : Nat} {t : TGs} {n : Nat} {pos : Pos} (hK : X.K = K) (hc : X.calm = true) (h : PGs X es t) (hn : (assignEach es X.env).length = n := by rfl) (hst : (assignEach es X.env).findIdx? (·.1) = none := by rfl) : PG X (.Tuple es k pos) (gTup K n t) := by
  rw [← hK]
  exact pg_tup hc h hn hst
/-! ### comprehensions whose items are made by defs without draws -/
abbrev NP (N : Addr → Prop) (D : Addr) : Addr → Prop := fun a => N a ∨ a = D
theorem np_new {N : Addr → Prop} {H H' : Hp} {D : Addr} (n : H D = none) (s : Same H H') : Same (cut N H) (cut (NP N D) H') := fun b o e => by
  have m := cut_some e
  rw [cut_at (fun z => z.elim m.1 fun q => by rw [← q, m.2] at n; cases n)]
  exact s _ _ m.2
theorem np_le {N : Addr → Prop} {H : Hp} {D : Addr} : Same (cut (NP N D) H) (cut N H) := cut_le fun a h => .inl h
theorem np_occ {N : Addr → Prop} {H : Hp} {D : Addr} {o : HO} (O : Occ N H) (e : H D = some o) : Occ (NP N D) H := O.more (by rw [e]; exact fun z => nomatch z)
theorem map_take_snoc {α β : Type} (F : α → β) {as : List α} {i : Nat} {y : α} (h : as[i]? = some y) : (as.take (i + 1)).map F = (as.take i).map F ++ [F y] := by
  rw [List.take_add_one, h, List.map_append]
  rfl
theorem lc_map {J : It} {Gd : Hp → Prop} {K : PySem.W.Frag} {N : Addr → Prop} {xs : List V} {te : TE} {v : Nat} {σ : L2.St} {H1 : Hp} {Dl : Addr} {Qd : Hp → Prop} {α : Type} {D F : α → PyData} {as : List α}
    (w : Walk J xs.length Gd (YAt xs)) (hG : ∀ H', Same H1 H' → Gd H') (nD : H1 Dl = none) (O : Occ N H1) (hd : Dqs K (cut N H1) xs (as.map D)) (hl : as.length ≤ 900)
    (hT : ∀ (G : Hp) (x : V) (y : α) (Q : VK), y ∈ as → Occ (NP N Dl) G → Same (cut N H1) (cut (NP N Dl) G) → Same H1 G → Dq K (cut (NP N Dl) G) x (D y) → (∀ r G', Same G G' → Dq K (cut (NP N Dl) G') r (F y) → Q r G') → te ((wipe σ [v]).set v (some x)) G Q)
    (hq : ∀ H' acc, Same H1 H' → H' Dl = some (.lst acc) → Occ (NP N Dl) H' → Dqs K (cut (NP N Dl) H') acc (as.map F) → Qd H') :
    ∃ W : Nat → Nat → Hp → Prop, (∃ m, W 0 m (upd H1 Dl (.lst []))) ∧ ∀ i m H, W i m H →
      (J.stop i H ∧ Qd H) ∨ (J.go i H ∧ ∃ Nx : Hp → Prop, (∀ H', Nx H' → ∃ m', m' < m ∧ W (i + 1) m' H') ∧ ∀ x H', J.yld i H x H' → gName v x (wipe σ [v]) H' fun σ2 H2 => wipe σ2 [v] = wipe σ [v] ∧ tYes σ2 H2 fun b H3 =>
        if b = true then te σ2 H3 fun y H4 => ∃ acc, H4 Dl = some (.lst acc) ∧ acc.length < sizeLine ∧ Nx (upd H4 Dl (.lst (acc ++ [y]))) else Nx H3) := by
  have len := hd.len
  rw [List.length_map] at len
  refine lc_it w (fun i Hj => ∃ acc, Same H1 Hj ∧ Hj Dl = some (.lst acc) ∧ Dqs K (cut (NP N Dl) Hj) acc ((as.take i).map F)) ⟨[], same_new nD, upd_same, .nil⟩ (fun i H _ ⟨_, s, _⟩ => hG H s) ?_ ?_
  · rintro i x Hj H' hi ⟨acc, sj, ej, dj⟩ ⟨rfl, hx⟩
    obtain ⟨y, hy, qy⟩ := dqs_get hd hx
    have la := dj.len
    rw [List.length_map, List.length_take] at la
    refine ⟨?_, yes_if ?_⟩
    · simp only [wipe, List.set_set]
    · refine hT _ x y _ (List.mem_of_getElem? hy) (np_occ (O.keep sj) ej) (np_new nD sj) sj (qy.mono (np_new nD sj)) fun r G' sG hr => ⟨acc, sG _ _ ej, small1000 (by omega), acc ++ [r], same_upd (sj.trans sG) nD, upd_same, ?_⟩
      rw [map_take_snoc F hy, cut_upd (.inr rfl)]
      exact dqs_snoc (dj.mono (cut_mono sG)) hr
  · rintro Hn ⟨acc, sn, en, dn⟩
    rw [len, List.take_length] at dn
    exact hq Hn acc sn en (np_occ (O.keep sn) en) dn
/-- the numbers of those that do not pass, over numbers -/
theorem wrongs_take (p : Stt → Bool) {ps : List Stt} {i : Nat} {q : Stt} (h : ps[i]? = some q) : (wrongs p 0 (ps.take (i + 1))).map V.int = (wrongs p 0 (ps.take i)).map V.int ++ (if p q then [] else [V.int (i : Int)]) := by
  have hi : i < ps.length := (List.getElem?_eq_some_iff.mp h).1
  rw [List.take_add_one, h]
  show (wrongs p 0 (ps.take i ++ [q])).map V.int = _
  rw [wrongs_snoc, List.map_append, List.length_take]
  congr 1
  split
  · rfl
  · rw [show min i ps.length = i by omega]; simp
end Lg

namespace Lg
open PySem PySem.Spec PyProof.Rows L2 Lm
/-! ### exact numbers -/
section
variable {K : PySem.W.Frag} {S : Src} {Z : Hp} {H0 : Hp} {σ : L2.St} {te ta tb : TE} {tl : TA} {n n1 n2 : Nat} {a b : Int} {R : VR}
theorem ei_c {i : Int} : Ev S Z 0 H0 σ (tC (.int i)) (EI i) := ev_c
theorem ei_neg (h : Ev S Z n H0 σ te (EI a)) : Ev S Z n H0 σ (tUn (rU fun i => .int (-i)) te) (EI (-a)) := fun H b Q P k q => h H b _ P k fun v H1 P1 k1 e => ⟨a, e, q _ _ P1 k1 rfl⟩
theorem ei_add (h1 : Ev S Z n1 H0 σ ta (EI a)) (h2 : Ev S Z n2 H0 σ tb (EI b)) : Ev S Z (n1 + n2) H0 σ (tOp (rI0 fun i j => .int (i + j)) ta tb) (EI (a + b)) :=
  fun H bb Q P k q => h1 H (n2 + bb) _ (P.less (by omega)) k fun x H1 P1 k1 e1 => h2 H1 bb _ P1 (k.trans k1) fun y H2 P2 k2 e2 => ⟨a, b, e1, e2, q _ _ P2 (k1.trans k2) rfl⟩
theorem ei_sub (h1 : Ev S Z n1 H0 σ ta (EI a)) (h2 : Ev S Z n2 H0 σ tb (EI b)) : Ev S Z (n1 + n2) H0 σ (tOp (rI0 fun i j => .int (i - j)) ta tb) (EI (a - b)) :=
  fun H bb Q P k q => h1 H (n2 + bb) _ (P.less (by omega)) k fun x H1 P1 k1 e1 => h2 H1 bb _ P1 (k.trans k1) fun y H2 P2 k2 e2 => ⟨a, b, e1, e2, q _ _ P2 (k1.trans k2) rfl⟩
theorem ei_mul (hc : CMul a b) (h1 : Ev S Z n1 H0 σ ta (EI a)) (h2 : Ev S Z n2 H0 σ tb (EI b)) : Ev S Z (n1 + n2) H0 σ (tOp (rI CMul fun i j => .int (i * j)) ta tb) (EI (a * b)) :=
  fun H bb Q P k q => h1 H (n2 + bb) _ (P.less (by omega)) k fun x H1 P1 k1 e1 => h2 H1 bb _ P1 (k.trans k1) fun y H2 P2 k2 e2 => ⟨a, b, e1, e2, hc, q _ _ P2 (k1.trans k2) rfl⟩
theorem ei_fdivN (hc : b ≠ 0 ∧ b.natAbs < 1073741824) (h1 : Ev S Z n1 H0 σ ta (EI a)) (h2 : Ev S Z n2 H0 σ tb (EI b)) : Ev S Z (n1 + n2) H0 σ (tOp (rI CDivN fun i j => .int (i.fdiv j)) ta tb) (EI (a.fdiv b)) :=
  fun H bb Q P k q => h1 H (n2 + bb) _ (P.less (by omega)) k fun x H1 P1 k1 e1 => h2 H1 bb _ P1 (k.trans k1) fun y H2 P2 k2 e2 => ⟨a, b, e1, e2, hc, q _ _ P2 (k1.trans k2) rfl⟩
theorem ei_modN (hc : b ≠ 0) (h1 : Ev S Z n1 H0 σ ta (EI a)) (h2 : Ev S Z n2 H0 σ tb (EI b)) : Ev S Z (n1 + n2) H0 σ (tOp (rI (fun _ j => j ≠ 0) fun i j => .int (i.fmod j)) ta tb) (EI (a.fmod b)) :=
  fun H bb Q P k q => h1 H (n2 + bb) _ (P.less (by omega)) k fun x H1 P1 k1 e1 => h2 H1 bb _ P1 (k.trans k1) fun y H2 P2 k2 e2 => ⟨a, b, e1, e2, hc, q _ _ P2 (k1.trans k2) rfl⟩
theorem ei_pow {i j : Int} (h : CPow i j) : Ev S Z 0 H0 σ (tOp (rI CPow fun i j => .int (i ^ j.toNat)) (tC (.int i)) (tC (.int j))) (EI (i ^ j.toNat)) := fun H b Q P k q => ⟨i, j, rfl, rfl, h, q _ _ (P.less (by omega)) Kp.refl rfl⟩
theorem ei_max2 (h1 : Ev S Z n1 H0 σ ta (EI a)) (h2 : Ev S Z n2 H0 σ tb (EI b)) : Ev S Z (n1 + n2) H0 σ (tCB (fun xs H Q => ∃ i j, xs = [.int i, .int j] ∧ Q (.int (if j > i then j else i)) H) (tCons ta (tCons tb tNil))) (EI (if b > a then b else a)) :=
  fun H bb Q P k q => h1 H (n2 + bb) _ (P.less (by omega)) k fun x H1 P1 k1 e1 => h2 H1 bb _ P1 (k.trans k1) fun y H2 P2 k2 e2 => ⟨a, b, by rw [e1, e2], q _ _ P2 (k1.trans k2) rfl⟩
theorem ei_ir {lo hi : Int} (h : Ev S Z n H0 σ te (EI a)) (h1 : lo ≤ a := by decide) (h2 : a ≤ hi := by decide) : Ev S Z n H0 σ te (IR lo hi) := h.imp fun v G e => ⟨a, e, h1, h2⟩
/-- a stretch that ends by B -/
def PR (K : PySem.W.Frag) (B : Int) : VR := fun v G => ∃ q : Stt, Dq K G v (pD q) ∧ 0 ≤ q.1 ∧ q.1 < q.2 ∧ q.2 ≤ B
theorem PR.mo {B : Int} : Mo (PR K B) := fun v G G' s ⟨q, h, r⟩ => ⟨q, h.mono s, r⟩
theorem PR.wide {B C : Int} {v : V} {G : Hp} (h : PR K B v G) (hc : B ≤ C) : PR K C v G := let ⟨q, d, h0, h1, h2⟩ := h; ⟨q, d, h0, h1, Int.le_trans h2 hc⟩
theorem ev_pr {B : Int} (h : 0 ≤ a ∧ a < b ∧ b ≤ B) (h1 : Ev S Z n1 H0 σ ta (EI a)) (h2 : Ev S Z n2 H0 σ tb (EI b)) : Ev S Z (n1 + (n2 + 0)) H0 σ (tTup (tCons ta (tCons tb tNil))) (PR K B) :=
  fun H bb Q P k q => (eva_pair EI_mo EI_mo h1 h2) H bb _ P k fun vs H1 P1 k1 ⟨v, w, e, e1, e2⟩ => by
    subst e; cases e1; cases e2
    refine ⟨sz2, fun t nt => ?_⟩
    obtain ⟨P2, k2, g2⟩ := laid (o := .tup [.int a, .int b]) P1 nt
    exact q _ _ P2 (k1.trans k2) ⟨(a, b), dq_pairT (.inl (.inl g2)), h⟩
theorem ev_lsW {m c m' c' : Nat} {R' : VR} (h : Ev S Z n H0 σ te (LsR m c R)) (h1 : m' ≤ m) (h2 : c ≤ c') (i : ∀ x G, R x G → R' x G) : Ev S Z n H0 σ te (LsR m' c' R') :=
  h.imp fun v G ⟨a, xs, e, g, l1, l2, l3⟩ => ⟨a, xs, e, g, Nat.le_trans h1 l1, Nat.le_trans l2 h2, fun x hx => i x G (l3 x hx)⟩
theorem ev_ifLt {i : Nat} {c d : Int} (e : σ[i]? = some (some (.int c))) (h1 : c < d → Ev S Z n H0 σ ta R) (h2 : Ev S Z n H0 σ tb R) :
    Ev S Z n H0 σ (tIf (tTest (tOp (rI0 fun i j => .bl (decide (i < j))) (tVar i) (tC (.int d)))) ta tb) R :=
  fun H b Q P k q => ⟨_, e, c, d, rfl, rfl, _, rfl, ite2 (fun g => h1 (of_decide_eq_true g) H b Q P k q) (fun _ => h2 H b Q P k q)⟩
def AnyO (S : Src) (Z : Hp) (H0 : Hp) (σ : L2.St) (to : TO) : Prop := ∀ (H : Hp) (b : Nat) (Q : Option Int → Hp → Prop), Iv S Z b H → Kp S Z H0 H → (∀ o H', Iv S Z b H' → Kp S Z H H' → Q o H') → to σ H Q
theorem any_none : AnyO S Z H0 σ tNoPart := fun H b Q P k q => q none H P Kp.refl
theorem any_some {t : TE} (h : Ev S Z 0 H0 σ t (fun v _ => ∃ i, v = .int i)) : AnyO S Z H0 σ (tPart t) := fun H b Q P k q => h H b _ (P.less (by omega)) k fun v H1 P1 k1 ⟨i, e⟩ => ⟨i, e, q _ _ P1 k1⟩
theorem ev_slA {a b : Nat} {t1 t2 : TO} (hm : Mo R) (h : Ev S Z n H0 σ te (TpR K a b R)) (h1 : AnyO S Z H0 σ t1) (h2 : AnyO S Z H0 σ t2) : Ev S Z n H0 σ (tSl (rSlA K) te t1 t2) (TpR K 0 b R) :=
  fun H bb Q P k q => h H bb _ P k fun x H1 P1 k1 r1 => h1 H1 bb _ P1 (k.trans k1) fun lo H2 P2 k2 => h2 H2 bb _ P2 ((k.trans k1).trans k2) fun hi H3 P3 k3 => by
    obtain ⟨l, xs, rfl, g, a1, a2, a3⟩ := TpR.mo hm _ _ _ (Kp.trans k2 k3) r1
    refine ⟨l, xs, rfl, Same.seqT hid_same g, fun _ => ?_, fun _ t nt => ?_⟩
    · exact q _ _ P3 (k1.trans (k2.trans k3)) ⟨l, xs, rfl, g, Nat.zero_le _, a2, a3⟩
    · obtain ⟨P4, k4, e4⟩ := laid (o := .tup (cutV xs lo hi)) P3 nt
      exact q _ _ P4 (k1.trans ((k2.trans k3).trans k4)) ⟨t, _, rfl, .inl (.inl e4), Nat.zero_le _, Nat.le_trans (cutV_length _ _ _) a2, fun v hv => hm _ _ _ k4 (a3 v (mem_cutV hv))⟩
end
theorem ev_lsW_v {m c m' c' : Nat} {R : VR} {v : V} {G : Hp} (h : LsR m c R v G) (h1 : m' ≤ m) (h2 : c ≤ c') : LsR m' c' R v G := let ⟨a, xs, e, g, l1, l2, l3⟩ := h; ⟨a, xs, e, g, Nat.le_trans h1 l1, Nat.le_trans l2 h2, l3⟩
theorem s_ifn' {D : Ends} {σ : L2.St} {H : Hp} {c : TT} {t u : TS} (P : L2.St → Hp → Prop) (rest : ∀ σ' H', P σ' H' → u D σ' H') (h : ∀ X : L2.St → Hp → Prop, (∀ σ' H', P σ' H' → X σ' H') → c σ H fun b H1 => if b = true then t { D with nx := X } σ H1 else X σ H1) : tSeq (tIfS c t tNext) u D σ H := h _ rest
theorem Dqs.pr {K : PySem.W.Frag} {G : Hp} {B : Int} : ∀ {xs : List V} {ps : List Stt}, Dqs K G xs (ps.map pD) → (∀ q ∈ ps, 0 ≤ q.1 ∧ q.1 < q.2 ∧ q.2 ≤ B) → ∀ x ∈ xs, PR K B x G
  | _, [], h, _, x, hx => by rw [dqs_nil h] at hx; cases hx
  | _, q :: r, h, hb, x, hx => by
    obtain ⟨v, t, rfl, h1, h2⟩ := dqs_cons h
    rcases List.mem_cons.mp hx with e | e
    · rw [e]; exact ⟨q, h1, hb q List.mem_cons_self⟩
    · exact Dqs.pr h2 (fun p hp => hb p (List.mem_cons_of_mem _ hp)) x e
theorem LgOk.all {n : Nat} {B : Int} {ps : List Stt} (h : LgOk n B ps) : ∀ q ∈ ps, 0 ≤ q.1 ∧ q.1 < q.2 ∧ q.2 ≤ B := fun q hq => by
  have := h.up.bound q hq
  have := h.top q hq
  omega
theorem prs_dp {K : PySem.W.Frag} {G : Hp} : ∀ {xs : List V} {ps : List Stt}, Dqs K G xs (ps.map pD) → DpAll K G xs (ps.map pD)
  | _, [], h => by rw [dqs_nil h]; exact .nil
  | _, q :: r, h => by
    obtain ⟨v, t, rfl, h1, h2⟩ := dqs_cons h
    obtain ⟨a, rfl, g⟩ := dq_pair h1
    exact .cons (.tup g (.cons (.int _) (.cons (.int _) .nil))) (prs_dp h2)
theorem log_dp {K : PySem.W.Frag} {G : Hp} {v : V} {ps : List Stt} (h : Dq K G v (logD ps)) : Dp K G v (logD ps) := by
  obtain ⟨a, xs, rfl, g, hx⟩ := dq_tup h
  exact .tup g (prs_dp hx)
theorem LogUp.take : ∀ {b : Int} {ps : List Stt} (n : Nat), LogUp b ps → LogUp b (ps.take n)
  | _, [], _, _ => by simp [LogUp]
  | _, _, 0, _ => trivial
  | _, q :: r, n + 1, ⟨a1, a2, a3⟩ => ⟨a1, a2, LogUp.take n a3⟩
theorem cutV_take (xs : List V) (n : Nat) : cutV xs none (some (n : Int)) = xs.take n := by
  unfold cutV
  rw [HT.sIx_none, HT.sIx_nat, List.drop_zero, Nat.sub_zero]
  by_cases h : n ≤ xs.length
  · rw [Nat.min_eq_left h]
  · rw [Nat.min_eq_right (by omega), List.take_length, List.take_of_length_le (by omega)]
theorem DownOk.push {B : Int} {qs : List Stt} {q : Stt} (h : DownOk B qs) (h0 : 0 ≤ q.1) (h1 : q.1 < q.2) (h2 : q.2 ≤ B) (hl : ∀ p, qs.head? = some p → p.2 < q.1) : DownOk B (q :: qs) :=
  ⟨h0, h1, h2, h, by cases qs with | nil => trivial | cons p r => exact hl p rfl⟩
end Lg

namespace Lg
open PySem PySem.Spec PyProof.Rows L2 Lm
/-! ### all but the list at f is as it was -/
def AB (f : Addr) (H H' : Hp) : Prop := Same (cut1 f H) (cut1 f H')
section
variable {K : PySem.W.Frag} {S : Src} {N : Addr → Prop} {Z H H1 H2 Hi G : Hp} {f t a : Addr} {b : Nat} {o : HO}
theorem AB.refl : AB f H H := Same.refl _
theorem AB.trans (h : AB f H H1) (k : AB f H1 H2) : AB f H H2 := Same.trans h k
theorem AB.of (s : Same H H1) : AB f H H1 := cut_mono s
theorem AB.set : AB f H (upd H f o) := fun b u e => by
  have n := cut_some e
  rw [cut1_at n.1, upd_ne n.1]
  exact n.2
theorem AB.at_ (h : AB f H H1) (ne : a ≠ f) (e : H a = some o) : H1 a = some o := (cut_some (h a o (by rw [cut1_at ne]; exact e))).2
theorem AB.cut (h : AB f H H1) : Same (cut1 f (Lg.cut N H)) (cut1 f (Lg.cut N H1)) := fun b u e => by
  have n := cut_some e
  have m := cut_some n.2
  rw [cut1_at n.1, cut_at m.1]
  exact h.at_ n.1 m.2
theorem AB.kp {H8 : Hp} (h : AB f H H1) (nf : H8 f = none) (k : Kp S Z H8 H) : Kp S Z H8 H1 := fun b u e => by
  have m := cut_some e
  have n := cut_some (k b u e)
  show Lg.cut (NZ S Z) H1 b = _
  rw [cut_at m.1]
  exact h.at_ (ne_of_none m.2 nf) n.2
theorem AB.iv (h : AB f H H1) (P : Iv S Z b H) (hf : Off S Z f) : Iv S Z b H1 :=
  ⟨S.frame (fun a ha => by
    have ne : a ≠ f := fun e => hf.1 (by rw [← e]; exact ha)
    cases e : H a with
    | none => exact absurd e (S.full P.src ha)
    | some o => exact h.at_ ne e) P.src, fun a u e => h.at_ (ne_of_none e hf.2) (P.zz a u e), P.zo⟩
def GrowB (K : PySem.W.Frag) (N : Addr → Prop) (H : Hp) (f : Addr) (ps : List Stt) (Hi : Hp) : Prop := ∃ xs, AB f H Hi ∧ Hi f = some (.lst xs) ∧ Dqs K (cut1 f (Lg.cut N Hi)) xs (ps.map pD)
theorem GrowB.put {zs : List V} {ps : List Stt} {q : Stt} (O : Occ N Hi) (si : AB f H Hi) (sG : Same Hi G) (eG : G f = some o) (hz : Dqs K (cut1 f (Lg.cut N Hi)) zs (ps.map pD)) (nt : G t = none) :
    GrowB K N H f (ps ++ [q]) (upd (upd G t (.tup [.int q.1, .int q.2])) f (.lst (zs ++ [.ref t]))) := by
  obtain ⟨s5, e5⟩ := app_cut (vs := [.int q.1, .int q.2]) (o' := .lst (zs ++ [.ref t])) (O.keep sG) eG nt
  refine ⟨_, (si.trans (AB.of (sG.trans (same_new nt)))).trans AB.set, upd_same, ?_⟩
  rw [List.map_append]
  exact dqs_snoc (hz.mono ((cut_mono (cut_mono sG)).trans s5)) (dq_pairT (.inl (.inl e5)))
theorem hid_cut1 : Same (hid S (L2.upd Z f o) H) (cut1 f (hid S Z H)) := fun b u e => by
  have n := off_hide (hid_some e)
  rw [cut1_at n.1, hid_at n.2]
  exact hid_same _ _ e
theorem sqt_ne {xs ys : List V} {a : Addr} (h : SqT K G a xs) (e : G f = some (.lst ys)) : SqT K (cut1 f G) a xs := by
  rcases h with (h | ⟨o, h⟩) | h
  · exact .inl (.inl (by rw [cut1_at (ne_of h e (by intro z; cases z))]; exact h))
  · exact .inl (.inr ⟨o, by rw [cut1_at (ne_of h e (by intro z; cases z))]; exact h⟩)
  · exact .inr h
theorem pr_cut1 {B : Int} {x : V} {ys : List V} (h : PR K B x G) (e : G f = some (.lst ys)) : PR K B x (cut1 f G) := by
  obtain ⟨q, hd, r⟩ := h
  obtain ⟨a, rfl, g⟩ := dq_pair hd
  exact ⟨q, dq_pairT (sqt_ne g e), r⟩
end
end Lg
namespace Lg
open PySem PySem.Spec PyProof.Rows L2 Lm
theorem dqs_set {K : PySem.W.Frag} {G : Hp} {v : V} {d : PyData} : ∀ {xs : List V} {ds : List PyData} (j : Nat), Dqs K G xs ds → Dq K G v d → Dqs K G (xs.set j v) (ds.set j d)
  | _, _, _, .nil, _ => .nil
  | _, _, 0, .cons _ t, h => .cons h t
  | _, _, j + 1, .cons r t, h => .cons r (dqs_set j t h)
theorem LgOk.wide {n m : Nat} {B C : Int} {ps : List Stt} (h : LgOk n B ps) (h1 : n ≤ m) (h2 : B ≤ C) : LgOk m C ps := ⟨h.up, Nat.le_trans h.len h1, fun q hq => Int.le_trans (h.top q hq) h2⟩
theorem ixN_in {n : Nat} {i : Int} (h0 : 0 ≤ i) (h1 : i < n) : ixN n i = some i.toNat := by
  unfold ixN
  rw [if_pos h0, if_pos h1]
theorem atI_get {α : Type} {xs : List α} {i : Int} {v : α} (h0 : 0 ≤ i) (h : xs[i.toNat]? = some v) : atI xs i = some v := by
  have lt : i.toNat < xs.length := (List.getElem?_eq_some_iff.mp h).1
  unfold atI
  rw [ixN_in h0 (by omega)]
  exact h
end Lg
namespace Lg
open PySem PySem.Spec PyProof.Rows L2 Lm
theorem kp_none {S : Src} {Z H H8 : Hp} {p : Addr} (O : Occ (NZ S Z) H8) (k : Kp S Z H H8) (n : H8 p = none) : H p = none := by
  cases e : H p with
  | none => rfl
  | some o =>
    by_cases z : NZ S Z p
    · exact absurd n (O p z)
    · have h := k p o (by rw [show hid S Z H p = H p from cut_at z]; exact e)
      have := (cut_some h).2
      rw [n] at this
      cases this
end Lg

namespace Lg
open PySem PySem.Spec PyProof.Rows L2 Lm
/-- a log of at most n stretches, none of them empty, all of them up to B -/
def StOk (n : Nat) (B : Int) (ps : List Stt) : Prop := ps.length ≤ n ∧ ∀ q ∈ ps, 0 ≤ q.1 ∧ q.1 < q.2 ∧ q.2 ≤ B
def LgR (K : PySem.W.Frag) (n : Nat) (B : Int) : VR := fun v G => ∃ ps, Dq K G v (logD ps) ∧ StOk n B ps
theorem LgR.mo {K : PySem.W.Frag} {n : Nat} {B : Int} : Mo (LgR K n B) := fun v G G' s ⟨ps, h, r⟩ => ⟨ps, h.mono s, r⟩
theorem prs_dqs {K : PySem.W.Frag} {G : Hp} {B : Int} : ∀ {xs : List V}, (∀ x ∈ xs, PR K B x G) → ∃ ps : List Stt, Dqs K G xs (ps.map pD) ∧ ∀ q ∈ ps, 0 ≤ q.1 ∧ q.1 < q.2 ∧ q.2 ≤ B
  | [], _ => ⟨[], .nil, fun q h => nomatch h⟩
  | x :: r, h => by
    obtain ⟨q, hd, hq⟩ := h x List.mem_cons_self
    obtain ⟨ps, h1, h2⟩ := prs_dqs (xs := r) fun y hy => h y (List.mem_cons_of_mem _ hy)
    refine ⟨q :: ps, .cons hd h1, fun p hp => ?_⟩
    rcases List.mem_cons.mp hp with e | e
    · rw [e]; exact hq
    · exact h2 p e
theorem TpR.lg {K : PySem.W.Frag} {m n : Nat} {B : Int} {v : V} {G : Hp} (h : TpR K m n (PR K B) v G) : LgR K n B v G := by
  obtain ⟨a, xs, rfl, g, l1, l2, hx⟩ := h
  obtain ⟨ps, h1, h2⟩ := prs_dqs hx
  have := h1.len
  rw [List.length_map] at this
  exact ⟨ps, .tup g h1, by omega, h2⟩
theorem LgOk.st {n : Nat} {B : Int} {ps : List Stt} (h : LgOk n B ps) : StOk n B ps := ⟨h.len, h.all⟩
theorem StOk.wide {n m : Nat} {B C : Int} {ps : List Stt} (h : StOk n B ps) (h1 : n ≤ m) (h2 : B ≤ C) : StOk m C ps := ⟨Nat.le_trans h.1 h1, fun q hq => by have := h.2 q hq; omega⟩
theorem log_sm {ps : List Stt} {n : Nat} {B : Int} (h : StOk n B ps) (hB : B ≤ 10000000000) : Sm (n * 35 + 3) 2 (logD ps) :=
  Sm.tuple (n := 33) (k := 1) (fun d hd => by
    obtain ⟨q, hq, rfl⟩ := List.mem_map.mp hd
    have := h.2 q hq
    exact pD_sm (by omega) (by omega)) (by rw [List.length_map]; exact h.1)
theorem kind_sm (h : Bool) : Sm 13 0 (.str (kindS h)) := by cases h <;> exact sm_chk (by decide +kernel)
theorem lamp_sm {l : Lamp} (h0 : 0 ≤ l.2) (h1 : l.2 ≤ 10000000000) : Sm 33 1 (lampD l) :=
  Sm.tuple (c := 2) (n := 13) (k := 0) (ds := [.str (kindS l.1), .int l.2]) (fun d hd => by
    rcases List.mem_cons.mp hd with e | e
    · rw [e]; exact kind_sm _
    · rw [List.mem_singleton.mp e]; exact Sm.int (by omega)) (Nat.le_refl 2)
theorem two_sm' {d e : PyData} {n k : Nat} (h1 : Sm n k d) (h2 : Sm n k e) : Sm (2 * (n + 2) + 3) (k + 1) (.list [d, e]) :=
  Sm.list (c := 2) (ds := [d, e]) (fun x hx => by
    rcases List.mem_cons.mp hx with z | z
    · rw [z]; exact h1
    · rw [List.mem_singleton.mp z]; exact h2) (Nat.le_refl 2)
theorem ints_sm {xs : List Int} {n : Nat} (hl : xs.length ≤ n) (h : ∀ x ∈ xs, x.natAbs < 10 ^ 12) : Sm (n * 15 + 3) 1 (.tuple (xs.map .int)) :=
  Sm.tuple (n := 13) (k := 0) (fun d hd => by
    obtain ⟨x, hx, rfl⟩ := List.mem_map.mp hd
    exact Sm.int (h x hx)) (by rw [List.length_map]; exact hl)
section
variable {K : PySem.W.Frag} {S : Src} {Z : Hp} {H0 : Hp} {σ : L2.St} {te ta tb : TE} {tl : TA} {n n1 n2 : Nat} {a b lo hi : Int} {R : VR}
theorem ev_prR {B : Int} (h0 : 0 ≤ a) (h1 : a < lo) (h2 : hi ≤ B) (e1 : Ev S Z n1 H0 σ ta (EI a)) (e2 : Ev S Z n2 H0 σ tb (IR lo hi)) : Ev S Z (n1 + (n2 + 0)) H0 σ (tTup (tCons ta (tCons tb tNil))) (PR K B) :=
  fun H bb Q P k q => (eva_pair EI_mo IR.mo e1 e2) H bb _ P k fun vs H1 P1 k1 ⟨v, w, e, e1, ⟨b, e2, b0, b1⟩⟩ => by
    subst e; cases e1; cases e2
    refine ⟨sz2, fun t nt => ?_⟩
    obtain ⟨P2, k2, g2⟩ := laid (o := .tup [.int a, .int b]) P1 nt
    exact q _ _ P2 (k1.trans k2) ⟨(a, b), dq_pairT (.inl (.inl g2)), h0, by show a < b; omega, by show b ≤ B; omega⟩
theorem ev_modC {m : Int} (hm : 0 < m) (h : Ev S Z n H0 σ te (IR lo hi)) : Ev S Z n H0 σ (tOp (rI (fun _ j => j ≠ 0) fun i j => .int (i.fmod j)) te (tC (.int m))) (IR 0 (m - 1)) :=
  fun H b Q P k q => h H b _ P k fun v H1 P1 k1 ⟨i, e, _⟩ => ⟨i, m, e, rfl, by omega, q _ _ P1 k1 ⟨_, rfl, (fmodB hm).1, by have := (fmodB (a := i) hm).2; omega⟩⟩
/-- lamps[0][1] -/
theorem ei_stay0 {x : V} {i : Nat} {l : Lamp} {r : List Lamp} (e : σ[i]? = some (some x)) (h : Dq K (hid S Z H0) x (lampsD (l :: r))) : Ev S Z 0 H0 σ (tOp (rIxT K) (tOp (rIxT K) (tVar i) (tC (.int 0))) (tC (.int 1))) (EI l.2) :=
  fun H b Q P k q => by
    obtain ⟨a, xs, rfl, g, hd⟩ := dq_tup (h.mono k)
    obtain ⟨v, t, rfl, h1, h2⟩ := dqs_cons hd
    obtain ⟨al, rfl, gl⟩ := dq_lamp h1
    exact ⟨_, e, a, _, 0, .ref al, rfl, rfl, Same.seqT hid_same g, atI_nat (j := 0) rfl, al, _, 1, .int l.2, rfl, rfl, Same.seqT hid_same gl, atI_nat (j := 1) rfl, q _ _ (P.less (by omega)) Kp.refl rfl⟩
/-- lamp[1] -/
theorem ei_stay {x : V} {i : Nat} {l : Lamp} (e : σ[i]? = some (some x)) (h : Dq K (hid S Z H0) x (lampD l)) : Ev S Z 0 H0 σ (tOp (rIxT K) (tVar i) (tC (.int 1))) (EI l.2) :=
  fun H b Q P k q => by
    obtain ⟨al, rfl, gl⟩ := dq_lamp (h.mono k)
    exact ⟨_, e, al, _, 1, .int l.2, rfl, rfl, Same.seqT hid_same gl, atI_nat (j := 1) rfl, q _ _ (P.less (by omega)) Kp.refl rfl⟩
theorem ev_lg {m : Nat} {B : Int} (hn : n1 ≤ 1000) (h : EvA S Z n H0 σ tl (AllR m n1 (PR K B))) : Ev S Z n H0 σ (tTup tl) (LgR K n1 B) := (ev_tupR hn PR.mo h).imp fun v G r => TpR.lg r
end
theorem ne_self {z : Str} : V.bl (!decide (V.str z = V.str z)) = V.bl false := by rw [decide_eq_true rfl]; rfl
theorem dqs_lg {K : PySem.W.Frag} {G : Hp} {n : Nat} {B : Int} : ∀ {xs : List V} {gs : List (List Stt)}, Dqs K G xs (gs.map logD) → (∀ g ∈ gs, LgOk n B g) → ∀ x ∈ xs, LgR K n B x G
  | _, [], h, _, x, hx => by rw [dqs_nil h] at hx; cases hx
  | _, q :: r, h, hb, x, hx => by
    obtain ⟨v, t, rfl, h1, h2⟩ := dqs_cons h
    rcases List.mem_cons.mp hx with e | e
    · rw [e]; exact ⟨q, h1, (hb q List.mem_cons_self).st⟩
    · exact dqs_lg h2 (fun p hp => hb p (List.mem_cons_of_mem _ hp)) x e
end Lg

namespace Lg
open PySem PySem.Spec PyProof.Rows L2 Lm
/-! ### an error class of one field, over other such classes over ValueError -/
structure IsC (K : PySem.W.Frag) (C : Addr) : Prop where
  ha : PySem.W.findIn K (.ref C) "__class__" = some (some (.builtin "object.__class__"))
  hn : PySem.W.specialIn K (.builtin "object.__class__") "__get__" = some (some (.builtin "getset_descriptor.__get__"))
  ht : PySem.W.takesIn K (.builtin "object.__class__") = some true
  hm : PySem.W.mroIn K C (.type "object") = some true
structure ExC (K : PySem.W.Frag) (mg : Str → Option Value) (X q f : Str) (C fI : Addr) (fd : FuncData) (st : Stmt) : Prop where
  g : mg X = some (.ref C)
  ox : OexC K C
  iC : PySem.W.findIn K (.ref C) "__init__" = some (some (.ref fI))
  tI : PySem.W.typeIn K (.ref fI) = some (.type "function")
  no : PySem.W.findIn K (.ref C) f = some none
  xf : XfC K C
  is : IsC K C
  F : Fun K "__init__" q st fI fd
  b : Binds K fd ["self", f] []
def sp_init (K : PySem.W.Frag) (f : Str) : Sp := fun vs H Q _ => ∃ (a C : Addr) (v : V), vs = [.ref a, v] ∧ OexC K C ∧ PySem.W.findIn K (.ref C) f = some none ∧ H a = some (exo a C none) ∧
  ∀ dx, H dx = none → dx ≠ a → Q .non (upd (upd H dx (exd dx [(f, v)])) a (exo a C (some dx)))
section
variable {P : Program} {w : World} {K : PySem.W.Frag} {mg : Str → Option Value} {base : Heap}
theorem mkO_run {C : Addr} {f : Str} {v : V} {H1 : Hp} {Q : XK} (ox : OexC K C) (no : PySem.W.findIn K (.ref C) f = some none) (h : ∀ (d : Addr) (H' : Hp), Same H1 H' → H1 d = none → H' d = some (.xd [(f, v)]) → Q (.ref C) (some d) H') :
    ([v] : List V).length ≤ 1000 ∧ ∀ a, H1 a = none → sp_init K f [.ref a, v] (upd H1 a (exo a C none)) (fun r H2 => r = .non ∧ ∃ (d : Addr) (fs : List (Str × V)), H2 a = some (exo a C (some d)) ∧ H2 d = some (exd d fs) ∧ H1 d = none ∧ Q (.ref C) (some d) (upd (del H2 a) d (.xd fs))) (fun _ _ _ => False) := by
  refine ⟨by show 1 ≤ 1000; decide, fun a na => ⟨a, C, v, rfl, ox, no, upd_same, fun dx nd ne => ⟨rfl, dx, [(f, v)], upd_same, ?_, ?_, ?_⟩⟩⟩
  · rw [upd_ne ne, upd_same]
  · rw [upd_ne ne] at nd; exact nd
  · rw [upd_ne ne] at nd
    refine h dx _ (fun b o e => ?_) nd upd_same
    have ba : b ≠ a := ne_of_none e na
    have bd : b ≠ dx := ne_of_none e nd
    rw [upd_ne bd, del_ne ba, upd_ne ba, upd_ne bd, upd_ne ba]
    exact e
/-- isinstance of the error that the suite holds -/
def rIsX (K : PySem.W.Frag) (a : Addr) (cls : Value) (d : Option Addr) : List V → Hp → VK → Prop := fun xs H Q => ∃ (D : Addr) (c : V) (dd : Addr) (fs : List (Str × V)) (b : Bool), xs = [.ref a, c] ∧ cls = .ref D ∧ d = some dd ∧ H dd = some (.xd fs) ∧ XfC K D ∧ IsC K D ∧
  ((∃ cv : Value, (∀ u, L2.RelV c u → u = cv) ∧ PySem.W.kitOne K (.ref D) cv = some b) ∨ (∃ (tp : Addr) (as : List Addr), c = .ref tp ∧ H tp = some (.tup (as.map V.ref)) ∧ PySem.W.kitAny K (.ref D) (as.map Value.ref) = some b)) ∧ Q (.bl b) H
theorem vals_refs : ∀ {as : List Addr} {us : List Value}, Vals (as.map V.ref) us → us = as.map Value.ref
  | [], _, .nil => rfl
  | a :: r, _, .cons h t => by
    obtain rfl := (show _ = Value.ref a from h)
    rw [vals_refs t]
    rfl
theorem call_isX {X : Cx} {a : Addr} {oe : Obj} {cls : Value} {d : Option Addr} {pn : List (Addr × Obj)} (hz : Zc cls d oe) (hf : ∃ vs, oe.data = .fields vs) : CallR (X.suite a ((a, oe) :: pn)) (.builtin "isinstance") (rIsX X.K a cls d) := by
  intro pins s σ H xs us Q I r h
  obtain ⟨D, c, dd, fs, b, rfl, rfl, rfl, ed, XF, IC, e, q⟩ := h
  obtain ⟨u1, u2, rfl, r1, r2⟩ := vals2 r
  cases (show u1 = Value.ref a from r1)
  obtain ⟨hget, _⟩ := I.pin (a, oe) (List.mem_append.mpr (.inl List.mem_cons_self))
  obtain ⟨vs, hv⟩ := hf
  obtain ⟨mA, hns, hr⟩ := (show ObjOk X.prog X.w H s.heap dd (.xd fs) from I.hok dd _ ed)
  obtain ⟨od, ho, hl⟩ := lookIn_ns hns
  have J : PySem.W.InstAt s.heap a oe D (some od) := ⟨hget, hz.1, by unfold PySem.W.notCls; rw [hv] <;> rfl, by rw [hz.2]; exact ho⟩
  have hcl : (PySem.W.clsIn X.K D).isSome = true := by
    obtain ⟨cd, hc, _⟩ := PySem.W.any_some XF.hdC
    rw [hc]; rfl
  have Z := PySem.W.kitx_exc (x := a) (od := some od) (ox := oe) hcl XF.ga XF.gg XF.exC IC.ha IC.hn IC.ht IC.hm
  rcases e with ⟨cv, hcv, e⟩ | ⟨tp, as, rfl, hT, e⟩
  · have ec := hcv _ r2
    subst ec
    exact PySem.W.kia_one Z I.kIn J e (fun z => nomatch z) fun tk => ⟨.bl b, H, I.kept (t' := tk) fun _ _ z => z, rfl, q⟩
  · cases (show u2 = Value.ref tp from r2)
    obtain ⟨_, its, rv, o, h1, h2, n, h3⟩ := (show ObjOk X.prog X.w H s.heap tp (.tup (as.map V.ref)) from I.hok tp _ hT)
    have e3 := vals_refs rv
    subst e3
    obtain ⟨oc, odd, dt, sl⟩ := o
    simp only at h2 h3
    subst h2 h3
    exact PySem.W.kia_tup Z I.kIn J h1 e (fun z => nomatch z) fun tk => ⟨.bl b, H, I.kept (t' := tk) fun _ _ z => z, rfl, q⟩
end
end Lg

namespace Lg
open PySem PySem.Spec PyProof.Rows L2 Lm
/-! ### runs, and the logs that the text makes of them -/
abbrev Run := Int × Int × Int
def lastM (r : Run) : Int := r.1 + r.2.1 * (r.2.2 - 1)
def ap (f st : Int) (n : Nat) : List Int := (List.range n).map fun (k : Nat) => f + st * (k : Int)
def pcs (s f st : Int) (n : Nat) : List Stt := (List.range n).map fun (k : Nat) => (f + st * (k : Int), f + st * (k : Int) + s)
def spreadAll (rs : List Run) : List Int := rs.flatMap fun r => ap r.1 r.2.1 r.2.2.toNat
def joinS : List Stt → Stt → List Stt
  | [], p => [p]
  | q :: r, p => if p.1 ≤ q.2 then (q.1, if p.2 > q.2 then p.2 else q.2) :: r else p :: q :: r
def joinedF (ps : List Stt) : List Stt := (ps.foldl joinS []).reverse
def litP (s : Int) (r : Run) : List Stt := if r.2.1 ≤ s then [(r.1, lastM r + s)] else pcs s r.1 r.2.1 (if 61 < r.2.2 then 61 else r.2.2).toNat
def rup (n by_ : Int) : Int := (n + by_ - 1).fdiv by_
def lightR (s off : Int) (r : Run) : Run :=
  let u := rup (if off - r.1 > 0 then off - r.1 else 0) r.2.1
  let a := rup s r.2.1
  (r.1 + r.2.1 * u, r.2.1 * a, rup (r.2.2 - u) a)
def lightU (off : Int) (r : Run) : Int := rup (if off - r.1 > 0 then off - r.1 else 0) r.2.1
def lightS (s : Int) (x : List Run × Int) (r : Run) : List Run × Int := if lightU x.2 r < r.2.2 then (x.1 ++ [lightR s x.2 r], lastM (lightR s x.2 r) + s) else x
def lightsF (s : Int) (rs : List Run) : List Run := (rs.foldl (lightS s) ([], 0)).1
def logOf (l : Lamp) (rs : List Run) : List Stt := joinedF ((if l.1 then rs else lightsF l.2 rs).flatMap (litP l.2))
def RunsUp : Int → List Run → Prop
  | _, [] => True
  | b, r :: rs => b < r.1 ∧ 1 ≤ r.2.1 ∧ 1 ≤ r.2.2 ∧ RunsUp (lastM r) rs
/-- the end of the last stretch (of a list in reverse) is at most B -/
def HeadB (acc : List Stt) (B : Int) : Prop := ∀ q, acc.head? = some q → q.2 ≤ B
def offOf : List Stt → Int
  | [] => 0
  | q :: _ => q.2
theorem ap_succ (f st : Int) (n : Nat) : ap f st (n + 1) = ap f st n ++ [f + st * (n : Int)] := by unfold ap; rw [List.range_succ, List.map_append]; rfl
theorem pcs_succ (s f st : Int) (n : Nat) : pcs s f st (n + 1) = pcs s f st n ++ [(f + st * (n : Int), f + st * (n : Int) + s)] := by unfold pcs; rw [List.range_succ, List.map_append]; rfl
theorem ap_mono {st : Int} (h : 1 ≤ st) (n : Nat) : st * ((n + 1 : Nat) : Int) = st * (n : Int) + st := by
  rw [show ((n + 1 : Nat) : Int) = (n : Int) + 1 by omega, Int.mul_add, Int.mul_one]
theorem mul_nn {st : Int} (h : 1 ≤ st) (n : Nat) : 0 ≤ st * (n : Int) := Int.mul_nonneg (by omega) (by omega)
theorem joinS_len (acc : List Stt) (p : Stt) : acc.length ≤ (joinS acc p).length ∧ 1 ≤ (joinS acc p).length := by
  cases acc with
  | nil => simp [joinS]
  | cons q r => simp only [joinS]; split <;> simp
theorem joinS_fold_len : ∀ (ps : List Stt) (acc : List Stt), acc.length ≤ (ps.foldl joinS acc).length
  | [], _ => Nat.le_refl _
  | p :: r, acc => Nat.le_trans (joinS_len acc p).1 (joinS_fold_len r _)
theorem stepL_len2 (h : Bool) (s : Int) (acc : List Stt) (m : Int) : acc.length ≤ (stepL h s acc m).length := by
  cases acc with
  | nil => simp
  | cons q r => simp only [stepL]; split <;> (try split) <;> simp
theorem stepL_fold_len (h : Bool) (s : Int) : ∀ (ms : List Int) (acc : List Stt), acc.length ≤ (ms.foldl (stepL h s) acc).length
  | [], _ => Nat.le_refl _
  | m :: r, acc => Nat.le_trans (stepL_len2 h s acc m) (stepL_fold_len h s r _)
theorem stepJ {s m : Int} {acc : List Stt} (hb : HeadB acc (m + s)) : stepL true s acc m = joinS acc (m, m + s) := by
  cases acc with
  | nil => rfl
  | cons q r =>
    have h := hb q rfl
    simp only [stepL, joinS, Bool.true_or, if_true]
    by_cases g : q.2 < m
    · rw [if_pos g, if_neg (by omega)]
    · rw [if_neg g, if_pos (by omega)]
      congr 1
      by_cases g2 : m + s > q.2
      · rw [if_pos g2]
      · rw [if_neg g2, show q.2 = m + s by omega]
theorem joinS_head {m t : Int} {acc : List Stt} (hb : HeadB acc t) : ∃ r q, joinS acc (m, t) = q :: r ∧ q.2 = t := by
  cases acc with
  | nil => exact ⟨[], _, rfl, rfl⟩
  | cons q r =>
    have h := hb q rfl
    simp only [joinS]
    by_cases g : m ≤ q.2
    · rw [if_pos g]
      refine ⟨r, _, rfl, ?_⟩
      show (if t > q.2 then t else q.2) = t
      split <;> omega
    · rw [if_neg g]; exact ⟨q :: r, _, rfl, rfl⟩
theorem headB_join {m t : Int} {acc : List Stt} (hb : HeadB acc t) : HeadB (joinS acc (m, t)) t ∧ offOf (joinS acc (m, t)) = t := by
  obtain ⟨r, q, e, h⟩ := joinS_head (m := m) hb
  rw [e]
  exact ⟨fun x hx => by cases hx; omega, h⟩
/-- a hold lamp sees a run -/
theorem runH {s f st : Int} {acc : List Stt} (hs : 1 ≤ s) (hst : 1 ≤ st) (hb : HeadB acc (f + s)) : ∀ n : Nat, (ap f st n).foldl (stepL true s) acc = (pcs s f st n).foldl joinS acc ∧ HeadB ((pcs s f st n).foldl joinS acc) (f + st * (n : Int) + s)
  | 0 => ⟨rfl, fun q hq => by have := hb q hq; have := mul_nn hst 0; omega⟩
  | n + 1 => by
    obtain ⟨i1, i2⟩ := runH hs hst hb n
    rw [ap_succ, pcs_succ, List.foldl_append, List.foldl_append, i1]
    have e := stepJ i2
    refine ⟨e, fun q hq => ?_⟩
    have := (headB_join i2).1 q hq
    rw [ap_mono hst]
    omega
/-- pieces that touch are one -/
theorem touch {s f st : Int} {acc : List Stt} (hs : 1 ≤ s) (hst : 1 ≤ st) (hle : st ≤ s) (hb : HeadB acc (f + s)) : ∀ n : Nat, (pcs s f st (n + 1)).foldl joinS acc = joinS acc (f, f + st * (n : Int) + s)
  | 0 => by
    show joinS acc (f + st * ((0 : Nat) : Int), f + st * ((0 : Nat) : Int) + s) = _
    simp
  | n + 1 => by
    rw [pcs_succ, List.foldl_append, touch hs hst hle hb n]
    show joinS (joinS acc (f, f + st * (n : Int) + s)) _ = _
    have z := mul_nn hst n
    have e := ap_mono hst n
    cases acc with
    | nil =>
      simp only [joinS]
      rw [if_pos (by show f + st * ((n + 1 : Nat) : Int) ≤ f + st * (n : Int) + s; omega), if_pos (by show f + st * ((n + 1 : Nat) : Int) + s > f + st * (n : Int) + s; omega)]
    | cons q r =>
      have h := hb q rfl
      simp only [joinS]
      by_cases g : f ≤ q.2
      · rw [if_pos g, if_pos g]
        simp only []
        rw [if_pos (by split <;> omega)]
        congr 1
        congr 1
        repeat (first | omega | split)
      · rw [if_neg g, if_neg g]
        simp only []
        rw [if_pos (by omega), if_pos (by omega)]
/-- pieces that stay apart -/
theorem apart_len {s f st : Int} (hs : 1 ≤ s) (hlt : s < st) : ∀ (n : Nat) (acc : List Stt), HeadB acc (f + s) → acc.length + n ≤ ((pcs s f st (n + 1)).foldl joinS acc).length ∧ (acc = [] → n + 1 ≤ ((pcs s f st (n + 1)).foldl joinS acc).length) ∧ offOf ((pcs s f st (n + 1)).foldl joinS acc) = f + st * (n : Int) + s ∧ ((pcs s f st (n + 1)).foldl joinS acc) ≠ []
  | 0, acc, hb => by
    have e : pcs s f st 1 = [(f + st * ((0 : Nat) : Int), f + st * ((0 : Nat) : Int) + s)] := rfl
    have z : f + st * ((0 : Nat) : Int) = f := by simp
    rw [e, z]
    show acc.length + 0 ≤ (joinS acc (f, f + s)).length ∧ (acc = [] → 0 + 1 ≤ (joinS acc (f, f + s)).length) ∧ offOf (joinS acc (f, f + s)) = f + s ∧ joinS acc (f, f + s) ≠ []
    refine ⟨(joinS_len _ _).1, fun _ => (joinS_len _ _).2, (headB_join hb).2, fun e => ?_⟩
    have := (joinS_len acc (f, f + s)).2
    rw [e] at this
    simp at this
  | n + 1, acc, hb => by
    obtain ⟨i1, i2, i3, i4⟩ := apart_len (f := f) hs hlt n acc hb
    rw [pcs_succ, List.foldl_append]
    generalize (pcs s f st (n + 1)).foldl joinS acc = A at i1 i2 i3 i4
    have e := ap_mono (st := st) (by omega) n
    cases A with
    | nil => exact absurd rfl i4
    | cons q r =>
      have hq : q.2 = f + st * (n : Int) + s := i3
      have j : ([(f + st * ((n + 1 : Nat) : Int), f + st * ((n + 1 : Nat) : Int) + s)] : List Stt).foldl joinS (q :: r) = (f + st * ((n + 1 : Nat) : Int), f + st * ((n + 1 : Nat) : Int) + s) :: q :: r := by
        show joinS (q :: r) _ = _
        simp only [joinS]
        rw [if_neg (by show ¬ f + st * ((n + 1 : Nat) : Int) ≤ q.2; omega)]
      rw [j]
      simp only [List.length_cons] at i1 i2 ⊢
      exact ⟨by omega, fun z => by have := i2 z; omega, rfl, by simp⟩
/-- what the text makes of a run, against its pieces -/
theorem litP_rel {s f st c : Int} {acc : List Stt} (hs : 1 ≤ s) (hst : 1 ≤ st) (hc : 1 ≤ c) (hb : HeadB acc (f + s)) :
    (litP s (f, st, c)).foldl joinS acc = (pcs s f st c.toNat).foldl joinS acc ∨ (60 < ((litP s (f, st, c)).foldl joinS acc).length ∧ 60 < ((pcs s f st c.toNat).foldl joinS acc).length) := by
  unfold litP
  by_cases h : st ≤ s
  · left
    rw [if_pos h]
    obtain ⟨n, hn⟩ : ∃ n : Nat, c.toNat = n + 1 := ⟨c.toNat - 1, by omega⟩
    rw [hn, touch hs hst h hb n]
    show joinS acc _ = _
    unfold lastM
    rw [show (f, st, c).2.2 - 1 = (n : Int) by show c - 1 = _; omega]
  · rw [if_neg h]
    by_cases h2 : 61 < c
    · right
      rw [show (if (61 : Int) < (f, st, c).2.2 then (61 : Int) else (f, st, c).2.2) = 61 from if_pos h2]
      have k : ∀ n : Nat, 60 ≤ n → 60 < ((pcs s f st (n + 1)).foldl joinS acc).length := fun n hn => by
        obtain ⟨i1, i2, _⟩ := apart_len (f := f) hs (by omega : s < st) n acc hb
        cases acc with
        | nil => have := i2 rfl; omega
        | cons q r => simp only [List.length_cons] at i1; omega
      refine ⟨k 60 (by omega), ?_⟩
      obtain ⟨n, hn⟩ : ∃ n : Nat, c.toNat = n + 1 := ⟨c.toNat - 1, by omega⟩
      rw [hn]
      exact k n (by omega)
    · left
      rw [show (if (61 : Int) < (f, st, c).2.2 then (61 : Int) else (f, st, c).2.2) = c from if_neg h2]
theorem rup_spec {n b : Int} (hn : 0 ≤ n) (hb : 1 ≤ b) : 0 ≤ rup n b ∧ n ≤ b * rup n b ∧ b * rup n b < n + b := by
  unfold rup
  rw [Int.fdiv_eq_ediv_of_nonneg _ (by omega)]
  have h1 : b * ((n + b - 1) / b) ≤ n + b - 1 := Int.mul_ediv_self_le (by omega)
  have h2 : n + b - 1 < ((n + b - 1) / b + 1) * b := Int.lt_ediv_add_one_mul_self _ (by omega)
  have h3 : 0 ≤ (n + b - 1) / b := Int.ediv_nonneg (by omega) (by omega)
  rw [Int.add_mul, Int.one_mul, Int.mul_comm] at h2
  generalize (n + b - 1) / b = q at h1 h2 h3
  omega
theorem stepP1 {s m : Int} {acc : List Stt} (hs : 1 ≤ s) (h : offOf acc ≤ m) : stepL false s acc m = joinS acc (m, m + s) := by
  cases acc with
  | nil => rfl
  | cons q r =>
    have h : q.2 ≤ m := h
    simp only [stepL, joinS, Bool.false_or]
    by_cases g : q.2 < m
    · rw [if_pos g, if_neg (by omega)]
    · have e : m = q.2 := by omega
      rw [if_neg g, if_pos (decide_eq_true e), if_pos (by omega), if_pos (by omega)]
theorem stepP0 {s m : Int} {acc : List Stt} (h0 : 0 ≤ m) (h : m < offOf acc) : stepL false s acc m = acc := by
  cases acc with
  | nil => have h : m < 0 := h; omega
  | cons q r =>
    have h : m < q.2 := h
    simp only [stepL, Bool.false_or]
    rw [if_neg (by omega), if_neg (by rw [decide_eq_false (show ¬ m = q.2 by omega)]; exact fun z => nomatch z)]
theorem offFold {s f st : Int} {acc : List Stt} (hs : 1 ≤ s) (hst : 1 ≤ st) (hb : HeadB acc (f + s)) (n : Nat) : offOf ((pcs s f st (n + 1)).foldl joinS acc) = f + st * (n : Int) + s := by
  rw [pcs_succ, List.foldl_append]
  exact (headB_join (runH hs hst hb n).2).2
theorem headB_off {acc : List Stt} {B : Int} (h : offOf acc ≤ B) : HeadB acc B := fun q hq => by
  cases acc with
  | nil => cases hq
  | cons x r => cases hq; exact h
/-- a pulse lamp sees a run -/
theorem runP {s f st : Int} {u a : Nat} {acc : List Stt} (hs : 1 ≤ s) (hst : 1 ≤ st) (h0 : 0 ≤ f) (hu0 : ∀ k : Nat, k < u → f + st * (k : Int) < offOf acc) (hu1 : offOf acc ≤ f + st * (u : Int)) (ha : 1 ≤ a) (ha0 : st * ((a : Int) - 1) < s) (ha1 : s ≤ st * (a : Int)) :
    ∀ n c : Nat, (n ≤ u → c = 0) → (u ≤ n → n - u ≤ a * c ∧ a * c < n - u + a) → (ap f st n).foldl (stepL false s) acc = (pcs s (f + st * (u : Int)) (st * (a : Int)) c).foldl joinS acc
  | 0, c, h1, _ => by rw [h1 (Nat.zero_le _)]; rfl
  | n + 1, c, h1, h2 => by
    rw [ap_succ, List.foldl_append]
    have hm : 0 ≤ f + st * (n : Int) := by have := mul_nn hst n; omega
    have hst2 : 1 ≤ st * (a : Int) := by omega
    by_cases g : n + 1 ≤ u
    · rw [runP hs hst h0 hu0 hu1 ha ha0 ha1 n 0 (fun _ => rfl) (fun z => absurd z (by omega)), h1 g]
      exact stepP0 hm (hu0 n (by omega))
    · have hb : HeadB acc (f + st * (u : Int) + s) := headB_off (by omega)
      obtain ⟨k1, k2⟩ := h2 (by omega)
      obtain ⟨c0, rfl⟩ : ∃ c0, c = c0 + 1 := ⟨c - 1, by cases c with | zero => simp at k1; omega | succ c => omega⟩
      obtain ⟨d, rfl⟩ : ∃ d, n = u + d := ⟨n - u, by omega⟩
      rw [Nat.mul_succ] at k1 k2
      have em : st * ((u + d : Nat) : Int) = st * (u : Int) + st * (d : Int) := by rw [show ((u + d : Nat) : Int) = (u : Int) + d by omega, Int.mul_add]
      by_cases e : a * c0 = d
      · rw [runP hs hst h0 hu0 hu1 ha ha0 ha1 (u + d) c0 (fun z => by
          have : d = 0 := by omega
          subst this
          cases c0 with
          | zero => rfl
          | succ c => rw [Nat.mul_succ] at e; omega) (fun _ => by omega)]
        have ed : st * (d : Int) = st * (a : Int) * (c0 : Int) := by rw [← e, Int.natCast_mul, Int.mul_assoc]
        have hoff : offOf ((pcs s (f + st * (u : Int)) (st * (a : Int)) c0).foldl joinS acc) ≤ f + st * ((u + d : Nat) : Int) := by
          cases c0 with
          | zero => show offOf acc ≤ _; rw [em, ed]; simp; omega
          | succ c1 =>
            rw [offFold hs hst2 hb c1, em, ed, ap_mono hst2]
            omega
        show stepL false s _ (f + st * ((u + d : Nat) : Int)) = _
        rw [stepP1 hs hoff, pcs_succ, List.foldl_append, em, ed]
        show joinS _ _ = joinS _ _
        rw [← Int.add_assoc]
      · rw [runP hs hst h0 hu0 hu1 ha ha0 ha1 (u + d) (c0 + 1) (fun z => by
          have : d = 0 := by omega
          subst this
          cases c0 with
          | zero => exact absurd rfl e
          | succ c => rw [Nat.mul_succ] at k2; omega) (fun _ => by rw [Nat.mul_succ]; omega)]
        refine stepP0 hm ?_
        rw [offFold hs hst2 hb c0, em]
        have l1 : d ≤ a * c0 + (a - 1) := by omega
        have l2 : st * (d : Int) ≤ st * ((a * c0 + (a - 1) : Nat) : Int) := Int.mul_le_mul_of_nonneg_left (by omega) (by omega)
        have l3 : st * ((a * c0 + (a - 1) : Nat) : Int) = st * (a : Int) * (c0 : Int) + st * ((a : Int) - 1) := by
          rw [show ((a * c0 + (a - 1) : Nat) : Int) = (a : Int) * c0 + ((a : Int) - 1) by rw [Int.natCast_add, Int.natCast_mul]; omega, Int.mul_add, Int.mul_assoc]
        omega
/-- what the text tells of a run that lights a pulse lamp -/
theorem light_run {s : Int} {r : Run} {acc : List Stt} (hs : 1 ≤ s) (h0 : 0 ≤ r.1) (hst : 1 ≤ r.2.1) (hc : 1 ≤ r.2.2) :
    (lightU (offOf acc) r < r.2.2 → (ap r.1 r.2.1 r.2.2.toNat).foldl (stepL false s) acc = (pcs s (lightR s (offOf acc) r).1 (lightR s (offOf acc) r).2.1 (lightR s (offOf acc) r).2.2.toNat).foldl joinS acc ∧ 0 ≤ (lightR s (offOf acc) r).1 ∧ 1 ≤ (lightR s (offOf acc) r).2.1 ∧ 1 ≤ (lightR s (offOf acc) r).2.2 ∧
      HeadB acc ((lightR s (offOf acc) r).1 + s) ∧ offOf ((pcs s (lightR s (offOf acc) r).1 (lightR s (offOf acc) r).2.1 (lightR s (offOf acc) r).2.2.toNat).foldl joinS acc) = lastM (lightR s (offOf acc) r) + s) ∧
    (¬ lightU (offOf acc) r < r.2.2 → (ap r.1 r.2.1 r.2.2.toNat).foldl (stepL false s) acc = acc) := by
  obtain ⟨f, st, c⟩ := r
  have h0 : 0 ≤ f := h0
  have hst : 1 ≤ st := hst
  have hc : 1 ≤ c := hc
  have gn : 0 ≤ (if offOf acc - f > 0 then offOf acc - f else 0) := by split <;> omega
  obtain ⟨u0, u1, u2⟩ := rup_spec gn hst
  obtain ⟨a0, a1, a2⟩ := rup_spec (n := s) (by omega) hst
  have hU : lightU (offOf acc) (f, st, c) = rup (if offOf acc - f > 0 then offOf acc - f else 0) st := rfl
  have hR : lightR s (offOf acc) (f, st, c) = (f + st * rup (if offOf acc - f > 0 then offOf acc - f else 0) st, st * rup s st, rup (c - rup (if offOf acc - f > 0 then offOf acc - f else 0) st) (rup s st)) := rfl
  rw [hU, hR]
  obtain ⟨u, hu⟩ : ∃ u : Nat, rup (if offOf acc - f > 0 then offOf acc - f else 0) st = (u : Int) := ⟨_, (Int.toNat_of_nonneg u0).symm⟩
  obtain ⟨a, ha⟩ : ∃ a : Nat, rup s st = (a : Int) := ⟨_, (Int.toNat_of_nonneg a0).symm⟩
  rw [hu] at u1 u2 ⊢
  rw [ha] at a1 a2 ⊢
  have a1' : 1 ≤ a := by
    cases a with
    | zero => simp at a1; omega
    | succ a => omega
  have pu0 : ∀ k : Nat, k < u → f + st * (k : Int) < offOf acc := fun k hk => by
    have l : st * ((k + 1 : Nat) : Int) ≤ st * (u : Int) := Int.mul_le_mul_of_nonneg_left (by omega) (by omega)
    rw [ap_mono hst] at l
    have := mul_nn hst k
    split at u2 <;> omega
  have pu1 : offOf acc ≤ f + st * (u : Int) := by
    split at u1 <;> omega
  have pa0 : st * ((a : Int) - 1) < s := by rw [Int.mul_sub, Int.mul_one]; omega
  have P := runP (u := u) (a := a) (acc := acc) hs hst h0 pu0 pu1 a1' pa0 a1 c.toNat
  constructor
  · intro g
    have g : (u : Int) < c := g
    obtain ⟨c0, c1, c2⟩ := rup_spec (n := c - (u : Int)) (b := (a : Int)) (by omega) (by omega)
    show _ = (pcs s _ _ (rup (c - (u : Int)) (a : Int)).toNat).foldl joinS acc ∧ _
    show (ap f st c.toNat).foldl (stepL false s) acc = (pcs s (f + st * (u : Int)) (st * (a : Int)) (rup (c - (u : Int)) (a : Int)).toNat).foldl joinS acc ∧ 0 ≤ f + st * (u : Int) ∧ 1 ≤ st * (a : Int) ∧ 1 ≤ rup (c - (u : Int)) (a : Int) ∧ HeadB acc (f + st * (u : Int) + s) ∧
      offOf ((pcs s (f + st * (u : Int)) (st * (a : Int)) (rup (c - (u : Int)) (a : Int)).toNat).foldl joinS acc) = f + st * (u : Int) + st * (a : Int) * (rup (c - (u : Int)) (a : Int) - 1) + s
    obtain ⟨n, hn⟩ : ∃ n : Nat, rup (c - (u : Int)) (a : Int) = (n : Int) := ⟨_, (Int.toNat_of_nonneg c0).symm⟩
    rw [hn] at c1 c2 ⊢
    have c1' : c.toNat - u ≤ a * n := by
      have : (c - (u : Int)) ≤ ((a * n : Nat) : Int) := by rw [Int.natCast_mul]; exact c1
      omega
    have c2' : a * n < c.toNat - u + a := by
      have : ((a * n : Nat) : Int) < c - (u : Int) + a := by rw [Int.natCast_mul]; exact c2
      omega
    have n1 : 1 ≤ n := by
      cases n with
      | zero => simp at c1'; omega
      | succ n => omega
    have hb : HeadB acc (f + st * (u : Int) + s) := headB_off (by omega)
    have hst2 : 1 ≤ st * (a : Int) := by omega
    rw [Int.toNat_natCast]
    refine ⟨P n (fun z => by omega) (fun _ => ⟨c1', c2'⟩), by have := mul_nn hst u; omega, hst2, by omega, hb, ?_⟩
    obtain ⟨m, rfl⟩ : ∃ m, n = m + 1 := ⟨n - 1, by omega⟩
    rw [offFold hs hst2 hb m, show ((m + 1 : Nat) : Int) - 1 = (m : Int) by omega]
  · intro g
    have g : ¬ (u : Int) < c := g
    exact P 0 (fun _ => rfl) (fun z => by
      have : c.toNat - u = 0 := by omega
      rw [this]
      simp
      omega)
/-! ### all runs -/
def Rel60 (F J : List Stt) : Prop := F = J ∨ (60 < F.length ∧ 60 < J.length)
def lightsR (s : Int) : Int → List Run → List Run
  | _, [] => []
  | off, r :: rs => if lightU off r < r.2.2 then lightR s off r :: lightsR s (lastM (lightR s off r) + s) rs else lightsR s off rs
theorem lights_eq (s : Int) : ∀ (rs : List Run) (found : List Run) (off : Int), (rs.foldl (lightS s) (found, off)).1 = found ++ lightsR s off rs
  | [], found, off => by simp [lightsR]
  | r :: rs, found, off => by
    rw [List.foldl_cons]
    by_cases g : lightU off r < r.2.2
    · rw [show lightS s (found, off) r = (found ++ [lightR s off r], lastM (lightR s off r) + s) from if_pos g, lights_eq s rs]
      simp only [lightsR, if_pos g]
      rw [List.append_assoc]
      rfl
    · rw [show lightS s (found, off) r = (found, off) from if_neg g, lights_eq s rs]
      simp only [lightsR, if_neg g]
theorem rel_join {F J : List Stt} {ps : List Stt} (h : Rel60 F J) : Rel60 (ps.foldl joinS F) (ps.foldl joinS J) := by
  rcases h with e | ⟨h1, h2⟩
  · exact .inl (by rw [e])
  · exact .inr ⟨Nat.lt_of_lt_of_le h1 (joinS_fold_len _ _), Nat.lt_of_lt_of_le h2 (joinS_fold_len _ _)⟩
theorem Rel60.trans {A B C : List Stt} (h : Rel60 A B) (k : Rel60 B C) : Rel60 A C := by
  rcases h with e | ⟨h1, h2⟩
  · rw [e]; exact k
  · rcases k with e | ⟨k1, k2⟩
    · exact .inr ⟨h1, by rw [← e]; exact h2⟩
    · exact .inr ⟨h1, k2⟩
theorem hold_all {s : Int} (hs : 1 ≤ s) : ∀ (rs : List Run) (b : Int) (F J : List Stt), RunsUp b rs → HeadB F (b + s) → Rel60 F J → Rel60 ((spreadAll rs).foldl (stepL true s) F) ((rs.flatMap (litP s)).foldl joinS J)
  | [], _, _, _, _, _, h => h
  | (f, st, c) :: rs, b, F, J, ⟨u1, u2, u3, u4⟩, hb, h => by
    have u1 : b < f := u1
    have u2 : 1 ≤ st := u2
    have u3 : 1 ≤ c := u3
    have hb' : HeadB F (f + s) := fun q hq => by have := hb q hq; omega
    rw [List.flatMap_cons, List.foldl_append]
    rw [show spreadAll ((f, st, c) :: rs) = ap f st c.toNat ++ spreadAll rs from List.flatMap_cons .., List.foldl_append]
    obtain ⟨e1, e2⟩ := runH hs u2 hb' c.toNat
    rw [e1]
    obtain ⟨n, hn⟩ : ∃ n : Nat, c.toNat = n + 1 := ⟨c.toNat - 1, by omega⟩
    refine hold_all hs rs (lastM (f, st, c)) _ _ u4 ?_ ?_
    · rw [hn]
      refine headB_off ?_
      rw [offFold hs u2 hb' n]
      unfold lastM
      rw [show (f, st, c).2.2 - 1 = (n : Int) by show c - 1 = _; omega]
      exact Int.le_refl _
    · refine Rel60.trans ?_ (rel_join h)
      rcases litP_rel hs u2 u3 hb' with e | ⟨l1, l2⟩
      · exact .inl e.symm
      · exact .inr ⟨l2, l1⟩
theorem pulse_all {s : Int} (hs : 1 ≤ s) : ∀ (rs : List Run) (b : Int) (F J : List Stt), -1 ≤ b → RunsUp b rs → Rel60 F J → Rel60 ((spreadAll rs).foldl (stepL false s) F) (((lightsR s (offOf F) rs).flatMap (litP s)).foldl joinS J)
  | [], _, _, _, _, _, h => h
  | r :: rs, b, F, J, hb, ⟨u1, u2, u3, u4⟩, h => by
    have hl : -1 ≤ lastM r := by
      unfold lastM
      have : 0 ≤ r.2.1 * (r.2.2 - 1) := Int.mul_nonneg (by omega) (by omega)
      omega
    rw [show spreadAll (r :: rs) = ap r.1 r.2.1 r.2.2.toNat ++ spreadAll rs from List.flatMap_cons .., List.foldl_append]
    obtain ⟨L1, L0⟩ := light_run (acc := F) hs (by omega : 0 ≤ r.1) u2 u3
    simp only [lightsR]
    by_cases g : lightU (offOf F) r < r.2.2
    · obtain ⟨e1, e2, e3, e4, e5, e6⟩ := L1 g
      rw [if_pos g, List.flatMap_cons, List.foldl_append, e1]
      have ih := pulse_all hs rs (lastM r) ((pcs s (lightR s (offOf F) r).1 (lightR s (offOf F) r).2.1 (lightR s (offOf F) r).2.2.toNat).foldl joinS F) ((litP s (lightR s (offOf F) r)).foldl joinS J) hl u4 (by
        refine Rel60.trans ?_ (rel_join h)
        rcases litP_rel (s := s) (f := (lightR s (offOf F) r).1) (st := (lightR s (offOf F) r).2.1) (c := (lightR s (offOf F) r).2.2) hs e3 e4 e5 with e | ⟨l1, l2⟩
        · exact .inl e.symm
        · exact .inr ⟨l2, l1⟩)
      rw [e6] at ih
      exact ih
    · rw [if_neg g, L0 g]
      exact pulse_all hs rs (lastM r) F J hl u4 h
theorem logOf_spec {l : Lamp} {rs : List Run} (hs : 1 ≤ l.2) (hr : RunsUp (-1) rs) : Rel60 (logF l (spreadAll rs)) (logOf l rs) := by
  obtain ⟨h, s⟩ := l
  have key : Rel60 ((spreadAll rs).foldl (stepL h s) []) (((if h then rs else lightsF s rs).flatMap (litP s)).foldl joinS []) := by
    cases h with
    | true => exact hold_all hs rs (-1) [] [] hr (fun q hq => by cases hq) (.inl rfl)
    | false =>
      have := pulse_all hs rs (-1) [] [] (Int.le_refl _) hr (.inl rfl)
      rw [show (if false = true then rs else lightsF s rs) = lightsR s 0 rs by
        show lightsF s rs = _
        unfold lightsF
        rw [lights_eq]
        rfl]
      exact this
  rcases key with e | ⟨h1, h2⟩
  · left
    show List.reverse _ = List.reverse _
    rw [e]
  · right
    refine ⟨?_, ?_⟩
    · show 60 < (List.reverse _).length
      rw [List.length_reverse]; exact h1
    · show 60 < (List.reverse _).length
      rw [List.length_reverse]; exact h2
end Lg

namespace Lg
open PySem PySem.Spec PyProof.Rows L2 Lm
/-! ### a for over a list or a tuple -/
def iSeq (K : PySem.W.Frag) (tl : TE) : TI := fun σ H R => tl σ H fun x H1 => ∃ a, x = .ref a ∧ (((∃ xs, SqL K H1 a xs) ∧ R (Itl K a) H1) ∨ ((∃ xs, SqT K H1 a xs) ∧ R (Itt K a) H1))
theorem pi_seq {X : Cx} {tg : Expr} {l : Expr} {tl : TE} (hl : PE X l tl) : PI X tg l (iSeq X.K tl) := by
  refine ⟨fun pins s σ H R I h => ?_⟩
  refine thn (hl.run pins s σ H _ I h) fun v s1 ⟨x, H1, I1, r1, q1⟩ => ?_
  obtain ⟨a, e, q⟩ := q1
  subst e
  cases r1
  rcases q with ⟨⟨xs, hq⟩, q⟩ | ⟨⟨xs, hq⟩, q⟩
  · obtain ⟨its, rv, p, hz⟩ := I1.list hq
    refine wpAny_pyIter_list p.isList ?_
    refine ⟨s1.heap.objs.size, [s1.heap.objs.size], _, _, H1, rfl, I1.kept (t' := s1.toks) fun b o e => Heap.get?_push_of_some _ e, turn_list a _, ⟨_, Heap.get?_push_size _ rfl, rfl, rfl⟩, fun b hb => ?_, q⟩
    have e : b = s1.heap.objs.size := by simpa using hb
    subst e
    exact I1.fpOk (Nat.le_refl _) (I1.hok.fresh (Nat.le_refl _))
  · obtain ⟨its, rv, p, hz⟩ := I1.tuple hq
    refine wpAny_pyIter_tuple (show s1.heap.IsTuple a its.toArray from p) ?_
    refine ⟨s1.heap.objs.size, [s1.heap.objs.size], _, _, H1, rfl, I1.kept (t' := s1.toks) fun b o e => Heap.get?_push_of_some _ e, turn_tuple a _, ⟨_, Heap.get?_push_size _ rfl, rfl, rfl⟩, fun b hb => ?_, q⟩
    have e : b = s1.heap.objs.size := by simpa using hb
    subst e
    exact I1.fpOk (Nat.le_refl _) (I1.hok.fresh (Nat.le_refl _))
/-! ### promises of the makers of logs -/
def runD (r : Run) : PyData := .tuple [.int r.1, .int r.2.1, .int r.2.2]
def runsD (rs : List Run) : PyData := .tuple (rs.map runD)
def RB (r : Run) : Prop := (0 ≤ r.1 ∧ r.1 ≤ 10000000000) ∧ (1 ≤ r.2.1 ∧ r.2.1 ≤ 10000000000) ∧ (1 ≤ r.2.2 ∧ r.2.2 ≤ 10000000000)
def sp_last2 (K : PySem.W.Frag) : Sp := sp_f K (fun r : Run => [runD r]) RB (fun r => .int (lastM r))
def sp_rup (K : PySem.W.Frag) : Sp := sp_f K (fun x : Int × Int => [.int x.1, .int x.2]) (fun x => 1 ≤ x.2 ∧ x.2 < 1073741824) (fun x => .int (rup x.1 x.2))
/-- a run of motions -/
structure RunOk (r : Run) : Prop where
  f : 0 ≤ r.1 ∧ r.1 ≤ 1000000000
  s : 1 ≤ r.2.1 ∧ r.2.1 ≤ 1000000000
  c : 1 ≤ r.2.2 ∧ r.2.2 ≤ 1000000001
  l : lastM r ≤ 1000000000
def sp_lighting (K : PySem.W.Frag) : Sp := sp_f K (fun x : Int × List Run => [.int x.1, runsD x.2]) (fun x => 1 ≤ x.1 ∧ x.1 ≤ 1000000000 ∧ x.2.length ≤ 400 ∧ (∀ r ∈ x.2, RunOk r)) (fun x => .list ((lightsF x.1 x.2).map runD))
def sp_lit (K : PySem.W.Frag) : Sp := fun vs H Q _ => ∃ (N : Addr → Prop) (s : Int) (r : Run), Occ N H ∧ Dqs K (cut N H) vs [.int s, runD r] ∧ (1 ≤ s ∧ s ≤ 1000000000) ∧ RB r ∧
  ∀ (p : Addr) (xs : List V) (H' : Hp), Same H H' → H' p = some (.lst xs) → ¬ N p → Dqs K (cut N H') xs ((litP s r).map pD) → Q (.ref p) H'
def sp_joined (K : PySem.W.Frag) : Sp := sp_f K (fun ps : List Stt => [.list (ps.map pD)]) (fun ps => ps.length ≤ 100000) (fun ps => logD (joinedF ps))
def sp_fx (K : PySem.W.Frag) (CT : Addr) (f : Str) (n : Int) {α : Type} (A : α → List PyData) (P : α → Prop) (F : α → PyData) (B : α → Bool) : Sp := fun vs H Q E => ∃ (N : Addr → Prop) (x : α), Occ N H ∧ Dqs K (cut N H) vs (A x) ∧ P x ∧
  (B x = false → ∀ r H', Same H H' → Dq K (cut N H') r (F x) → Q r H') ∧ (B x = true → ∀ d H', Same H H' → H' d = some (.xd [(f, .int n)]) → H d = none → E (.ref CT) (some d) H')
def sp_most (K : PySem.W.Frag) (CT : Addr) (n : Int) : Sp := sp_fx K CT "limit" n (fun ds : List PyData => [.int n, .tuple ds]) (fun _ => True) (fun ds => .tuple ds) (fun ds => decide (n < (ds.length : Int)))
def sp_logof (K : PySem.W.Frag) (CT : Addr) : Sp := sp_fx K CT "limit" 60 (fun x : Lamp × List Run => [lampD x.1, runsD x.2]) (fun x => 1 ≤ x.1.2 ∧ x.1.2 ≤ 1000000000 ∧ x.2.length ≤ 400 ∧ (∀ r ∈ x.2, RunOk r)) (fun x => logD (logOf x.1 x.2)) (fun x => decide (60 < (logOf x.1 x.2).length))
theorem dq_run {K : PySem.W.Frag} {G : Hp} {v : V} {q : Run} (h : Dq K G v (runD q)) : ∃ a, v = .ref a ∧ SqT K G a [.int q.1, .int q.2.1, .int q.2.2] := by
  obtain ⟨a, xs, rfl, h1, h2⟩ := dq_tup h
  obtain ⟨x, r, rfl, h3, h4⟩ := dqs_cons h2
  obtain ⟨y, r, rfl, h5, h6⟩ := dqs_cons h4
  obtain ⟨z, r, rfl, h7, h8⟩ := dqs_cons h6
  rw [dqs_nil h8, dq_int h3, dq_int h5, dq_int h7] at h1
  exact ⟨a, rfl, h1⟩
theorem dq_runT {K : PySem.W.Frag} {G : Hp} {a : Addr} {q : Run} (h : SqT K G a [.int q.1, .int q.2.1, .int q.2.2]) : Dq K G (.ref a) (runD q) := .tup h (.cons (.int _) (.cons (.int _) (.cons (.int _) .nil)))
theorem np_cut1 {N : Addr → Prop} {H : Hp} {f : Addr} : cut (NP N f) H = cut1 f (cut N H) := by
  funext b
  by_cases e : b = f
  · unfold cut1 cut
    rw [if_pos (show NP N f b from .inr e), if_pos e]
  · rw [cut1_at e]
    by_cases n : N b
    · unfold cut
      rw [if_pos (show NP N f b from .inl n), if_pos n]
    · rw [cut_at n, cut_at (show ¬ NP N f b from fun z => z.elim n e)]
/-- a list of made things that grows while nothing else changes -/
def GrowG (K : PySem.W.Frag) (N : Addr → Prop) (H : Hp) (f : Addr) {α : Type} (D : α → PyData) (as : List α) (Hi : Hp) : Prop := ∃ xs, Same H Hi ∧ Hi f = some (.lst xs) ∧ Dqs K (cut1 f (cut N Hi)) xs (as.map D)
section
variable {K : PySem.W.Frag} {N : Addr → Prop} {H Hi G : Hp} {f t : Addr} {zs vs : List V} {o : HO} {α : Type} {D : α → PyData} {as : List α} {x : α}
theorem GrowG.start (nf : H f = none) : GrowG K N H f D ([] : List α) (upd H f (.lst [])) := ⟨[], same_new nf, upd_same, .nil⟩
theorem GrowG.put (hv : ∀ G', SqT K G' t vs → Dq K G' (.ref t) (D x)) (nf : H f = none) (O : Occ N H) (si : Same H Hi) (sG : Same Hi G) (eG : G f = some o) (hz : Dqs K (cut1 f (cut N Hi)) zs (as.map D)) (nt : G t = none) :
    GrowG K N H f D (as ++ [x]) (upd (upd G t (.tup vs)) f (.lst (zs ++ [.ref t]))) := by
  obtain ⟨s5, e5⟩ := app_cut (vs := vs) (o' := .lst (zs ++ [.ref t])) ((O.keep si).keep sG) eG nt
  refine ⟨_, same_upd ((si.trans sG).trans (same_new nt)) nf, upd_same, ?_⟩
  rw [List.map_append]
  exact dqs_snoc (hz.mono ((cut_mono (cut_mono sG)).trans s5)) (hv _ (.inl (.inl e5)))
theorem grow_list {ps : List PyData} (O : Occ N H) (nf : H f = none) (e : Hi f = some (.lst zs)) (h : Dqs K (cut1 f (cut N Hi)) zs ps) : Dq K (cut N Hi) (.ref f) (.list ps) :=
  .lst (.inl (.inl (by rw [cut_at fun z => O f z nf]; exact e))) (h.mono cut_same)
end
theorem size_le {n : Nat} (h : n ≤ 1000000) : n < sizeLine := by rw [PySem.sizeLine_eq]; omega
theorem joinS_len1 (acc : List Stt) (p : Stt) : (joinS acc p).length ≤ acc.length + 1 := by
  cases acc with
  | nil => simp [joinS]
  | cons q r => simp only [joinS]; split <;> simp
theorem joinS_fold_le : ∀ (ps acc : List Stt), (ps.foldl joinS acc).length ≤ acc.length + ps.length
  | [], _ => Nat.le_refl _
  | p :: r, acc => by
    have a := joinS_fold_le r (joinS acc p)
    have b := joinS_len1 acc p
    rw [List.foldl_cons, List.length_cons]
    omega
theorem litP_len {s : Int} {r : Run} : (litP s r).length ≤ 61 := by
  unfold litP
  split
  · exact (by decide : 1 ≤ 61)
  · unfold pcs
    rw [List.length_map, List.length_range]
    split <;> omega
theorem flat_len {s : Int} : ∀ rs : List Run, (rs.flatMap (litP s)).length ≤ rs.length * 61
  | [] => Nat.le_refl _
  | r :: rs => by
    rw [List.flatMap_cons, List.length_append, List.length_cons]
    have := flat_len (s := s) rs
    have := litP_len (s := s) (r := r)
    omega
theorem lightsR_len (s : Int) : ∀ (rs : List Run) (off : Int), (lightsR s off rs).length ≤ rs.length
  | [], _ => Nat.le_refl _
  | r :: rs, off => by
    simp only [lightsR]
    have a := lightsR_len s rs
    split
    · rw [List.length_cons, List.length_cons]; have := a (lastM (lightR s off r) + s); omega
    · rw [List.length_cons]; have := a off; omega
theorem lightsF_eq (s : Int) (rs : List Run) : lightsF s rs = lightsR s 0 rs := by
  unfold lightsF
  rw [lights_eq]
  rfl
theorem rup_one {n b : Int} (h : 1 ≤ n) (hb : 1 ≤ b) : 1 ≤ rup n b := by
  obtain ⟨h0, h1, _⟩ := rup_spec (n := n) (b := b) (by omega) hb
  have : rup n b ≠ 0 := fun e => by rw [e] at h1; simp at h1; omega
  omega
theorem rup_le {n b : Int} (h : 0 ≤ n) (hb : 1 ≤ b) : rup n b ≤ n := by
  obtain ⟨h0, h1, h2⟩ := rup_spec (n := n) (b := b) h hb
  by_cases e : rup n b ≤ n
  · exact e
  · have l : b * (n + 1) ≤ b * rup n b := Int.mul_le_mul_of_nonneg_left (by omega) (by omega)
    have l2 : 1 * n ≤ b * n := Int.mul_le_mul_of_nonneg_right hb h
    rw [Int.mul_add] at l
    omega
/-- what lights a pulse lamp is small -/
theorem lightU_nn {off : Int} {r : Run} (hst : 1 ≤ r.2.1) : 0 ≤ lightU off r := (rup_spec (by split <;> omega) hst).1
theorem lightR_b {s off : Int} {r : Run} (hs : 1 ≤ s ∧ s ≤ 1000000000) (hr : RunOk r) (g : lightU off r < r.2.2) : RB (lightR s off r) ∧ 0 ≤ lightU off r ∧ 1 ≤ rup s r.2.1 ∧ rup s r.2.1 ≤ 1000000000 := by
  obtain ⟨f, st, c⟩ := r
  obtain ⟨⟨f0, f1⟩, ⟨s0, s1⟩, ⟨c0, c1⟩, hl⟩ := hr
  have f0 : 0 ≤ f := f0
  have s0 : 1 ≤ st := s0
  have s1 : st ≤ 1000000000 := s1
  have c1 : c ≤ 1000000001 := c1
  have hl : f + st * (c - 1) ≤ 1000000000 := hl
  have hu := lightU_nn (off := off) (r := (f, st, c)) s0
  have e : lightR s off (f, st, c) = (f + st * lightU off (f, st, c), st * rup s st, rup (c - lightU off (f, st, c)) (rup s st)) := rfl
  rw [e]
  have g : lightU off (f, st, c) < c := g
  generalize lightU off (f, st, c) = u at hu g
  obtain ⟨a0, a1, a2⟩ := rup_spec (n := s) (b := st) (by omega) s0
  have a3 := rup_one hs.1 s0
  have a4 := rup_le (n := s) (b := st) (by omega) s0
  show RB (f + st * u, st * rup s st, rup (c - u) (rup s st)) ∧ 0 ≤ u ∧ 1 ≤ rup s st ∧ rup s st ≤ 1000000000
  have m1 : st * u ≤ st * (c - 1) := Int.mul_le_mul_of_nonneg_left (by omega) (by omega)
  have m0 : 0 ≤ st * u := Int.mul_nonneg (by omega) hu
  have b1 := rup_one (n := c - u) (b := rup s st) (by omega) a3
  have b2 := rup_le (n := c - u) (b := rup s st) (by omega) a3
  exact ⟨⟨⟨by show 0 ≤ f + st * u; omega, by show f + st * u ≤ _; omega⟩, ⟨by show 1 ≤ st * rup s st; omega, by show st * rup s st ≤ _; omega⟩, ⟨b1, by show rup (c - u) (rup s st) ≤ _; omega⟩⟩, hu, a3, by omega⟩
theorem ite_val {b : Bool} {ta tb : TE} {σ : L2.St} {H : Hp} {Q : VK} (P : V → Hp → Prop) (rest : ∀ v H', P v H' → Q v H') (h : ∀ Q' : VK, (∀ v H', P v H' → Q' v H') → if b = true then ta σ H Q' else tb σ H Q') : if b = true then ta σ H Q else tb σ H Q := h Q rest
theorem lightsR_ok {s : Int} (hs : 1 ≤ s ∧ s ≤ 1000000000) : ∀ (rs : List Run) (off : Int), (∀ r ∈ rs, RunOk r) → ∀ r ∈ lightsR s off rs, RB r
  | [], _, _, r, h => nomatch h
  | x :: rs, off, hok, r, h => by
    simp only [lightsR] at h
    split at h
    · rename_i g
      rcases List.mem_cons.mp h with e | e
      · rw [e]; exact (lightR_b hs (hok x List.mem_cons_self) g).1
      · exact lightsR_ok hs rs _ (fun y hy => hok y (List.mem_cons_of_mem _ hy)) r e
    · exact lightsR_ok hs rs _ (fun y hy => hok y (List.mem_cons_of_mem _ hy)) r h
theorem RunOk.rb {r : Run} (h : RunOk r) : RB r := by
  have a := h.f
  have b := h.s
  have c := h.c
  exact ⟨by omega, by omega, by omega⟩
end Lg

namespace Lg
open PySem PySem.Spec PyProof.Rows L2 Lm
theorem FnOk.imp {P : Program} {w : World} {K : PySem.W.Frag} {mg : Str → Option Value} {base : Heap} {CX : CXT} {k : Nat} {f : Addr} {fd : FuncData} {ps : List Str} {sp sp' : Sp} (F : FnOk P w K mg base CX k f fd ps sp) (h : ∀ vs H Q E, sp' vs H Q E → sp vs H Q E) : FnOk P w K mg base CX k f fd ps sp' := by
  constructor
  · exact fun vs H Q E z => F.len vs H Q E (h _ _ _ _ z)
  · intros
    first
      | exact F.run _ _ _ _ _ _ _ _ _ (by assumption) (by assumption) (by assumption) (by assumption) (h _ _ _ _ (by assumption))
      | exact F.go _ _ _ _ _ _ _ _ _ (by assumption) (by assumption) (by assumption) (by assumption) (h _ _ _ _ (by assumption))
/-! ### the pot as a source -/
def potAt (p dl al : Addr) (_ : Nat) (H : Hp) : Prop := (∃ t : Int, H p = some (.dK [(.inr "deep", .ref dl), (.inr "all", .ref al), (.inr "times", .int t)])) ∧ (∃ ns : List Int, H dl = some (.lst (ns.map V.int)) ∧ ns.length ≤ 64) ∧
  (∃ ns : List Int, H al = some (.lst (ns.map V.int)) ∧ ns ≠ [] ∧ ns.length ≤ 64) ∧ al ≠ dl
def pot (p dl al : Addr) : Src where
  at_ := potAt p dl al
  own := fun a => a = p ∨ a = dl ∨ a = al
  frame := fun h ⟨h1, h2, h3, h4⟩ => ⟨by rw [h p (.inl rfl)]; exact h1, by rw [h dl (.inr (.inl rfl))]; exact h2, by rw [h al (.inr (.inr rfl))]; exact h3, h4⟩
  less := fun _ h => h
  full := fun ⟨⟨t, h1⟩, ⟨ns, h2, _⟩, ⟨ms, h3, _⟩, _⟩ h => by
    rcases h with rfl | rfl | rfl
    · rw [h1]; exact fun z => nomatch z
    · rw [h2]; exact fun z => nomatch z
    · rw [h3]; exact fun z => nomatch z
section
variable {p dl al : Addr} {Z H H' : Hp} {b c : Nat}
theorem iv_pot (P : Iv (pot p dl al) Z b H) : PotAt Z H p dl al := ⟨P.src.1, P.src.2.1, P.src.2.2.1, P.src.2.2.2, P.zz, P.zo p (.inl rfl), P.zo dl (.inr (.inl rfl))⟩
theorem pot_iv (P : PotAt Z H p dl al) (z : Z al = none) : Iv (pot p dl al) Z b H := ⟨⟨P.ob, P.de, P.li, P.ne⟩, P.zz, fun a ha => by
  rcases ha with rfl | rfl | rfl
  · exact P.zp
  · exact P.zd
  · exact z⟩
theorem pot_hid : Same (hid (pot p dl al) Z H) (Lm.hid Z p dl H) := fun x o e => by
  have n := hid_some e
  rw [Lm.hid_at (fun z => n.1 (.inl z)) ⟨fun z => n.1 (.inr (.inl z)), n.2⟩]
  exact hid_same _ _ e
theorem pot_kp (k : Lm.Kp Z p dl H H') : Kp (pot p dl al) Z H H' := fun x o e => by
  have n := hid_some e
  have h := k x o (pot_hid _ _ e)
  rw [hid_at n]
  exact Lm.hid_same _ _ _ _ _ h
def sp_draw : Sp := fun vs H Q _ => ∃ (Z : Hp) (p dl al : Addr) (n : Int), vs = [.ref p, .int n] ∧ Iv (pot p dl al) Z 0 H ∧ 0 < n ∧ n < 1073741824 ∧
  ∀ (r : Int) (H' : Hp), Iv (pot p dl al) Z 0 H' → Kp (pot p dl al) Z H H' → 0 ≤ r → r < n → Q (.int r) H'
def sp_one : Sp := fun vs H Q _ => ∃ (Z : Hp) (p dl al l : Addr) (xs : List V), vs = [.ref p, .ref l] ∧ Iv (pot p dl al) Z 0 H ∧ hid (pot p dl al) Z H l = some (.lst xs) ∧ xs ≠ [] ∧ xs.length ≤ 1000 ∧
  ∀ (x : V) (H' : Hp), x ∈ xs → Iv (pot p dl al) Z 0 H' → Kp (pot p dl al) Z H H' → Q x H'
def sp_opened (K : PySem.W.Frag) : Sp := fun vs H Q _ => ∃ (a : Addr) (ns : List Int), vs = [.ref a] ∧ SqL K H a (ns.map V.int) ∧ ns.length ≤ 63 ∧ ∀ (p dl al : Addr) (H' : Hp), Iv (pot p dl al) (fun _ => none) 0 H' → Same H H' → Q (.ref p) H'
theorem draw_imp (vs : List V) (H : Hp) (Q : VK) (E : XK) (h : sp_draw vs H Q E) : Lm.sp_draw vs H Q E := by
  obtain ⟨Z, p, dl, al, n, e, P, n0, n1, q⟩ := h
  exact ⟨Z, p, dl, al, n, e, iv_pot P, n0, n1, fun r H' P' k' r0 r1 => q r H' (pot_iv P' (P.zo al (.inr (.inr rfl)))) (pot_kp k') r0 r1⟩
theorem one_imp (vs : List V) (H : Hp) (Q : VK) (E : XK) (h : sp_one vs H Q E) : Lm.sp_one vs H Q E := by
  obtain ⟨Z, p, dl, al, l, xs, e, P, hl, n0, n1, q⟩ := h
  exact ⟨Z, p, dl, al, l, xs, e, iv_pot P, pot_hid _ _ hl, n0, n1, fun x H' hx P' k' => q x H' hx (pot_iv P' (P.zo al (.inr (.inr rfl)))) (pot_kp k')⟩
theorem opened_imp (K : PySem.W.Frag) (vs : List V) (H : Hp) (Q : VK) (E : XK) (h : sp_opened K vs H Q E) : Lm.sp_opened K vs H Q E := by
  obtain ⟨a, ns, e, hS, hl, q⟩ := h
  exact ⟨a, ns, e, hS, hl, fun p dl al H' P' s' => q p dl al H' (pot_iv P' rfl) s'⟩
variable {K : PySem.W.Frag} {H0 : Hp} {σ : L2.St} {te : TE} {R : VR} {n : Nat}
theorem ev_draw {i : Nat} {b : Int} (e : σ[i]? = some (some (.ref p))) (hb : b < 1073741824) (h : Ev (pot p dl al) Z n H0 σ te (IR 1 b)) : Ev (pot p dl al) Z n H0 σ (tCall sp_draw [] E0 (tCons (tVar i) (tCons te tNil))) (IR 0 (b - 1)) :=
  fun H bb Q P k q => ⟨_, e, h H bb _ P k fun v H1 P1 k1 ⟨m, em, n1, n2⟩ => ⟨Z, p, dl, al, m, by rw [em]; rfl, P1.less (Nat.zero_le _), by omega, by omega, fun x H2 P2 k2 r1 r2 => q _ _ ⟨P2.src, P2.zz, P2.zo⟩ (k1.trans k2) ⟨x, rfl, r1, by omega⟩⟩⟩
theorem ev_drawC {i : Nat} {m : Int} (e : σ[i]? = some (some (.ref p)) := by rfl) (h0 : 1 ≤ m := by decide) (h1 : m < 1073741824 := by decide) : Ev (pot p dl al) Z 0 H0 σ (tCall sp_draw [] E0 (tCons (tVar i) (tCons (tC (.int m)) tNil))) (IR 0 (m - 1)) :=
  ev_draw (b := m) e h1 (ev_int.wide h0 (Int.le_refl _))
theorem ev_one {i m : Nat} (e : σ[i]? = some (some (.ref p))) (hn : m ≤ 1000) {m0 : Nat} (hm : Mo R) (h : Ev (pot p dl al) Z n H0 σ te (LsR (m0 + 1) m R)) : Ev (pot p dl al) Z n H0 σ (tCall sp_one [] E0 (tCons (tVar i) (tCons te tNil))) R :=
  fun H b Q P k q => ⟨_, e, h H b _ P k fun v H1 P1 k1 ⟨l, xs, el, g, l1, l2, l3⟩ => ⟨Z, p, dl, al, l, xs, by rw [el]; rfl, P1.less (Nat.zero_le _), g, (fun z => by subst z; simp at l1), by omega, fun x H2 hx P2 k2 => q _ _ ⟨P2.src, P2.zz, P2.zo⟩ (k1.trans k2) (hm _ _ _ k2 (l3 x hx))⟩⟩
end
end Lg

namespace Lg
open PySem PySem.Spec PyProof.Rows L2 Lm
def sp_lampP (K : PySem.W.Frag) : Sp := fun vs H Q _ => ∃ (Z : Hp) (p dl al : Addr) (g : Int), vs = [.ref p, .int g] ∧ Iv (pot p dl al) Z 0 H ∧ 1 ≤ g ∧ g ≤ 1000000000 ∧
  ∀ (x : V) (H' : Hp) (l : Lamp), Iv (pot p dl al) Z 0 H' → Kp (pot p dl al) Z H H' → Dq K (hid (pot p dl al) Z H') x (lampD l) → 1 ≤ l.2 → l.2 ≤ 1000000000 → Q x H'
/-- minutes: rising, from 0 on -/
def MinsP (ms : List Int) : Prop := Asc (-1) ms ∧ ms.length ≤ 60 ∧ ∀ m ∈ ms, 0 ≤ m ∧ m ≤ 10000
def intsT (ms : List Int) : PyData := .tuple (ms.map .int)
def sp_minsP (K : PySem.W.Frag) : Sp := fun vs H Q _ => ∃ (Z : Hp) (p dl al : Addr) (u : Int), vs = [.ref p, .int u] ∧ Iv (pot p dl al) Z 0 H ∧ 0 ≤ u ∧ u ≤ 60 ∧
  ∀ (x : V) (H' : Hp) (ms : List Int), Iv (pot p dl al) Z 0 H' → Kp (pot p dl al) Z H H' → Dq K (hid (pot p dl al) Z H') x (intsT ms) → MinsP ms → Q x H'
def sp_runsP (K : PySem.W.Frag) : Sp := fun vs H Q _ => ∃ (Z : Hp) (p dl al : Addr) (v : V) (ms : List Int), vs = [.ref p, v] ∧ Iv (pot p dl al) Z 0 H ∧ Dq K (hid (pot p dl al) Z H) v (intsT ms) ∧ MinsP ms ∧
  ∀ (x : V) (H' : Hp) (rs : List Run), Iv (pot p dl al) Z 0 H' → Kp (pot p dl al) Z H H' → Dq K (hid (pot p dl al) Z H') x (runsD rs) → spreadAll rs = ms → RunsUp (-1) rs → rs.length ≤ 60 → (∀ r ∈ rs, RunOk r) → Q x H'
def sp_played (K : PySem.W.Frag) : Sp := fun vs H Q _ => ∃ (N : Addr → Prop) (x y : V) (l : Lamp) (ms : List Int), vs = [x, y] ∧ Occ N H ∧ Dq K (cut N H) x (lampD l) ∧ (Dq K (cut N H) y (.list (ms.map .int)) ∨ Dq K (cut N H) y (intsT ms)) ∧ (∀ m ∈ ms, 0 ≤ m) ∧ ms.length ≤ 900 ∧
  ∀ r H', Same H H' → Dq K (cut N H') r (logD (logF l ms)) → Q r H'
def toldD (l : Lamp) (rs : List Run) : PyData := if 60 < (logOf l rs).length then .list [.int 60] else logD (logOf l rs)
def sp_told (K : PySem.W.Frag) : Sp := sp_f K (fun x : Lamp × List Run => [lampD x.1, runsD x.2]) (fun x => 1 ≤ x.1.2 ∧ x.1.2 ≤ 1000000000 ∧ x.2.length ≤ 400 ∧ (∀ r ∈ x.2, RunOk r)) (fun x => toldD x.1 x.2)
/-! ### runs of rising minutes -/
theorem asc_app : ∀ {b : Int} {xs ys : List Int}, Asc b (xs ++ ys) → Asc b xs ∧ (∀ x ∈ xs, ∀ y ∈ ys, x < y) ∧ (∀ x ∈ xs, b < x) ∧ (∀ y ∈ ys, b < y) ∧ (ys.Pairwise (· < ·))
  | b, [], ys, h => by
    have k : ∀ {b : Int} {ys : List Int}, Asc b ys → (∀ y ∈ ys, b < y) ∧ ys.Pairwise (· < ·) := fun {b ys} => by
      induction ys generalizing b with
      | nil => exact fun _ => ⟨(fun y h => nomatch h), List.Pairwise.nil⟩
      | cons y r ih =>
        rintro ⟨h1, h2⟩
        obtain ⟨i1, i2⟩ := ih h2
        refine ⟨fun z hz => ?_, List.pairwise_cons.mpr ⟨i1, i2⟩⟩
        rcases List.mem_cons.mp hz with e | e
        · omega
        · have := i1 z e; omega
    exact ⟨trivial, (fun x h => nomatch h), (fun x h => nomatch h), (k h).1, (k h).2⟩
  | b, x :: xs, ys, ⟨h1, h2⟩ => by
    obtain ⟨i1, i2, i3, i4, i5⟩ := asc_app h2
    refine ⟨⟨h1, i1⟩, fun z hz y hy => ?_, fun z hz => ?_, fun y hy => by have := i4 y hy; omega, i5⟩
    · rcases List.mem_cons.mp hz with e | e
      · rw [e]; exact i4 y hy
      · exact i2 z e y hy
    · rcases List.mem_cons.mp hz with e | e
      · omega
      · have := i3 z e; omega
theorem asc_of : ∀ {b : Int} {ys : List Int}, (∀ y ∈ ys, b < y) → ys.Pairwise (· < ·) → Asc b ys
  | _, [], _, _ => trivial
  | b, y :: r, h, p => by
    obtain ⟨p1, p2⟩ := List.pairwise_cons.mp p
    exact ⟨h y List.mem_cons_self, asc_of p1 p2⟩
theorem ap_mem {f st : Int} {n k : Nat} (h : k < n) : f + st * (k : Int) ∈ ap f st n := List.mem_map.mpr ⟨k, List.mem_range.mpr h, rfl⟩
theorem runs_up : ∀ {rs : List Run} {b : Int}, Asc b (spreadAll rs) → (∀ r ∈ rs, 1 ≤ r.2.1 ∧ 1 ≤ r.2.2) → RunsUp b rs
  | [], _, _, _ => trivial
  | r :: rs, b, h, hv => by
    rw [show spreadAll (r :: rs) = ap r.1 r.2.1 r.2.2.toNat ++ spreadAll rs from List.flatMap_cons ..] at h
    obtain ⟨i1, i2, i3, i4, i5⟩ := asc_app h
    have v := hv r List.mem_cons_self
    have m0 := i3 _ (ap_mem (f := r.1) (st := r.2.1) (n := r.2.2.toNat) (k := 0) (by omega))
    have m1 := ap_mem (f := r.1) (st := r.2.1) (n := r.2.2.toNat) (k := r.2.2.toNat - 1) (by omega)
    have em : r.1 + r.2.1 * ((r.2.2.toNat - 1 : Nat) : Int) = lastM r := by
      unfold lastM
      rw [show ((r.2.2.toNat - 1 : Nat) : Int) = r.2.2 - 1 by omega]
    rw [em] at m1
    refine ⟨by simpa using m0, v.1, v.2, runs_up (asc_of (fun y hy => i2 _ m1 y hy) i5) fun x hx => hv x (List.mem_cons_of_mem _ hx)⟩
theorem runs_ok {rs : List Run} {B : Int} (hB : B ≤ 1000000000) (h : ∀ m ∈ spreadAll rs, 0 ≤ m ∧ m ≤ B) (hv : ∀ r ∈ rs, (1 ≤ r.2.1 ∧ r.2.1 ≤ 1000000000) ∧ (1 ≤ r.2.2 ∧ r.2.2 ≤ 1000000000)) : ∀ r ∈ rs, RunOk r := fun r hr => by
  obtain ⟨v1, v2⟩ := hv r hr
  have mem : ∀ k : Nat, k < r.2.2.toNat → r.1 + r.2.1 * (k : Int) ∈ spreadAll rs := fun k hk => List.mem_flatMap.mpr ⟨r, hr, ap_mem hk⟩
  have m0 := h _ (mem 0 (by omega))
  have m1 := h _ (mem (r.2.2.toNat - 1) (by omega))
  have em : r.1 + r.2.1 * ((r.2.2.toNat - 1 : Nat) : Int) = lastM r := by
    unfold lastM
    rw [show ((r.2.2.toNat - 1 : Nat) : Int) = r.2.2 - 1 by omega]
  rw [em] at m1
  simp at m0
  exact ⟨by omega, v1, by omega, by omega⟩
/-- neighbours that are near (in reverse) -/
def Near60 : List Int → Prop
  | b :: a :: r => 1 ≤ b - a ∧ b - a ≤ 60 ∧ Near60 (a :: r)
  | _ => True
/-- what _law_played keeps: the end of the last stretch, or -1 -/
def darkOf : List Stt → Int
  | [] => -1
  | q :: _ => q.2
theorem spread_snoc (rs : List Run) (r : Run) : spreadAll (rs ++ [r]) = spreadAll rs ++ ap r.1 r.2.1 r.2.2.toNat := by
  unfold spreadAll
  rw [List.flatMap_append]
  simp
theorem ap_take {rem : List Int} {r0 d : Int} {s : Nat} (hs : s ≤ rem.length) (h : ∀ j : Nat, j < s → rem[j]? = some (r0 + d * (j : Int))) : rem = ap r0 d s ++ rem.drop s := by
  have e : rem.take s = ap r0 d s := by
    apply List.ext_getElem?
    intro j
    unfold ap
    rw [List.getElem?_take, List.getElem?_map]
    by_cases hj : j < s
    · rw [if_pos hj, h j hj, List.getElem?_range hj]; rfl
    · rw [if_neg hj, List.getElem?_eq_none (by rw [List.length_range]; omega)]; rfl
  rw [← e, List.take_append_drop]
/-- the first s of these numbers are evenly apart -/
def PreR (rem : List Int) (r0 d : Int) (s : Nat) : Prop := 1 ≤ s ∧ s ≤ rem.length ∧ (∀ j : Nat, j < s → rem[j]? = some (r0 + d * (j : Int))) ∧ (2 ≤ rem.length → 2 ≤ s)
theorem cutV_drop (xs : List V) {n : Nat} (h : n ≤ xs.length) : cutV xs (some (n : Int)) none = xs.drop n := by
  unfold cutV
  rw [HT.sIx_none, HT.sIx_nat, Nat.min_eq_left h, List.take_of_length_le (by rw [List.length_drop]; omega)]
theorem tst_of {t : TT} {σ : L2.St} {H : Hp} {Q : Bool → Hp → Prop} (P : Bool → Hp → Prop) (h2 : ∀ b H', P b H' → Q b H') (h1 : ∀ Q' : Bool → Hp → Prop, (∀ b H', P b H' → Q' b H') → t σ H Q') : t σ H Q := h1 Q h2
theorem te_of {t : TE} {σ : L2.St} {H : Hp} {Q : VK} (P : V → Hp → Prop) (h2 : ∀ b H', P b H' → Q b H') (h1 : ∀ Q' : VK, (∀ b H', P b H' → Q' b H') → t σ H Q') : t σ H Q := h1 Q h2
theorem atI_pre2 {α : Type} {xs : List α} {u v : α} : atI (xs ++ [u] ++ [v]) (-2) = some u := by
  unfold atI ixN
  have l : (xs ++ [u] ++ [v]).length = xs.length + 2 := by simp
  rw [l]
  rw [if_neg (by decide), if_pos (by omega)]
  show (xs ++ [u] ++ [v])[_]? = _
  have e : ((-2 : Int) + ((xs.length + 2 : Nat) : Int)).toNat = xs.length := by omega
  first
    | rw [e, List.append_assoc, List.getElem?_append_right (Nat.le_refl _), Nat.sub_self]; rfl
    | (rw [show ((((xs.length + 2 : Nat) : Int) + (-2 : Int)).toNat) = xs.length by omega, List.append_assoc, List.getElem?_append_right (Nat.le_refl _), Nat.sub_self]; rfl)
end Lg

namespace Lg
open PySem PySem.Spec PyProof.Rows L2 Lm
theorem told_small {l : Lamp} {rs : List Run} (hs : 1 ≤ l.2) (hr : RunsUp (-1) rs) (h : (logF l (spreadAll rs)).length ≤ 60) : toldD l rs = logD (logF l (spreadAll rs)) := by
  unfold toldD
  rcases logOf_spec hs hr with e | ⟨e, _⟩
  · rw [← e, if_neg (by omega)]
  · omega
theorem told_big {l : Lamp} {rs : List Run} (hs : 1 ≤ l.2) (hr : RunsUp (-1) rs) (h : 60 < (logF l (spreadAll rs)).length) : toldD l rs = .list [.int 60] := by
  unfold toldD
  rcases logOf_spec hs hr with e | ⟨_, e⟩
  · rw [← e, if_pos h]
  · rw [if_pos e]
theorem logF_le (l : Lamp) (ms : List Int) : (logF l ms).length ≤ ms.length := by
  have := logF_len l.1 l.2 ms []
  unfold logF
  rw [List.length_reverse]
  simpa using this
theorem logF_grow (l : Lamp) (f st : Int) {n m : Nat} (h : n ≤ m) : (logF l (ap f st n)).length ≤ (logF l (ap f st m)).length := by
  induction m with
  | zero => obtain rfl : n = 0 := by omega
            exact Nat.le_refl _
  | succ m ih =>
    rcases (show n ≤ m ∨ n = m + 1 by omega) with e | e
    · refine Nat.le_trans (ih e) ?_
      unfold logF
      rw [List.length_reverse, List.length_reverse, ap_succ, List.foldl_append]
      exact stepL_fold_len _ _ _ _
    · rw [e]; exact Nat.le_refl _
theorem stepL_bd {h : Bool} {s B m : Int} (hs : 0 ≤ s) (hm : 0 ≤ m ∧ m ≤ B) {qs : List Stt} (hq : ∀ q ∈ qs, (0 ≤ q.1 ∧ q.1 ≤ B) ∧ 0 ≤ q.2 ∧ q.2 ≤ B + s) : ∀ q ∈ stepL h s qs m, (0 ≤ q.1 ∧ q.1 ≤ B) ∧ 0 ≤ q.2 ∧ q.2 ≤ B + s := by
  cases qs with
  | nil =>
    intro q hq
    rw [List.mem_singleton.mp hq]
    exact ⟨hm, by show 0 ≤ m + s; omega, by show m + s ≤ B + s; omega⟩
  | cons p r =>
    have hp := hq p List.mem_cons_self
    simp only [stepL]
    split
    · intro q hz
      rcases List.mem_cons.mp hz with e | e
      · rw [e]; exact ⟨hm, by show 0 ≤ m + s; omega, by show m + s ≤ B + s; omega⟩
      · exact hq q e
    · split
      · intro q hz
        rcases List.mem_cons.mp hz with e | e
        · rw [e]; exact ⟨hp.1, by show 0 ≤ m + s; omega, by show m + s ≤ B + s; omega⟩
        · exact hq q (List.mem_cons_of_mem _ e)
      · exact hq
theorem logF_bd {l : Lamp} {B : Int} (hs : 0 ≤ l.2) : ∀ {ms : List Int}, (∀ m ∈ ms, 0 ≤ m ∧ m ≤ B) → ∀ q ∈ logF l ms, (0 ≤ q.1 ∧ q.1 ≤ B) ∧ 0 ≤ q.2 ∧ q.2 ≤ B + l.2 := by
  have go : ∀ (ms : List Int) (qs : List Stt), (∀ m ∈ ms, 0 ≤ m ∧ m ≤ B) → (∀ q ∈ qs, (0 ≤ q.1 ∧ q.1 ≤ B) ∧ 0 ≤ q.2 ∧ q.2 ≤ B + l.2) → ∀ q ∈ ms.foldl (stepL l.1 l.2) qs, (0 ≤ q.1 ∧ q.1 ≤ B) ∧ 0 ≤ q.2 ∧ q.2 ≤ B + l.2 := by
    intro ms
    induction ms with
    | nil => exact fun qs _ h => h
    | cons m r ih => exact fun qs hm hq => ih _ (fun x hx => hm x (List.mem_cons_of_mem _ hx)) (stepL_bd hs (hm m List.mem_cons_self) hq)
  intro ms hm q hq
  exact go ms [] hm (fun q h => nomatch h) q (List.mem_reverse.mp hq)
theorem logF_sm {l : Lamp} {B : Int} (hs : 0 ≤ l.2 ∧ l.2 ≤ 1000000000) (hB : B ≤ 1000000000) {ms : List Int} (hm : ∀ m ∈ ms, 0 ≤ m ∧ m ≤ B) (h60 : (logF l ms).length ≤ 60) : Sm 2103 2 (logD (logF l ms)) :=
  Sm.tuple (c := 60) (n := 33) (k := 1) (fun d hd => by
    obtain ⟨q, hq, rfl⟩ := List.mem_map.mp hd
    have := logF_bd hs.1 hm q hq
    exact pD_sm (by omega) (by omega)) (by rw [List.length_map]; exact h60)
theorem run_sm {r : Run} (h : RunOk r) : Sm 48 1 (runD r) :=
  Sm.tuple (c := 3) (n := 13) (k := 0) (ds := [.int r.1, .int r.2.1, .int r.2.2]) (fun d hd => by
    obtain ⟨h1, h2, h3⟩ := h.rb
    rcases List.mem_cons.mp hd with e | e
    · rw [e]; exact Sm.int (by omega)
    · rcases List.mem_cons.mp e with e | e
      · rw [e]; exact Sm.int (by omega)
      · rw [List.mem_singleton.mp e]; exact Sm.int (by omega)) (Nat.le_refl _)
theorem runs_sm {rs : List Run} (hl : rs.length ≤ 60) (h : ∀ r ∈ rs, RunOk r) : Sm 3003 2 (runsD rs) :=
  Sm.tuple (c := 60) (n := 48) (k := 1) (fun d hd => by
    obtain ⟨q, hq, rfl⟩ := List.mem_map.mp hd
    exact run_sm (h q hq)) (by rw [List.length_map]; exact hl)
/-! ### each minute by itself -/
def ones (ms : List Int) : List Run := ms.map fun m => (m, 1, 1)
theorem ones_spread (ms : List Int) : spreadAll (ones ms) = ms := by
  induction ms with
  | nil => rfl
  | cons m r ih =>
    show ap m 1 1 ++ spreadAll (ones r) = _
    rw [ih]
    show [m + 1 * ((0 : Nat) : Int)] ++ r = _
    simp
theorem ones_facts {ms : List Int} (h : MinsP ms) : spreadAll (ones ms) = ms ∧ RunsUp (-1) (ones ms) ∧ (ones ms).length ≤ 60 ∧ ∀ r ∈ ones ms, RunOk r := by
  have v : ∀ r ∈ ones ms, (1 ≤ r.2.1 ∧ r.2.1 ≤ 1000000000) ∧ (1 ≤ r.2.2 ∧ r.2.2 ≤ 1000000000) := fun r hr => by
    obtain ⟨m, _, rfl⟩ := List.mem_map.mp hr
    exact ⟨⟨Int.le_refl 1, (by decide : (1:Int) ≤ 1000000000)⟩, Int.le_refl 1, (by decide : (1:Int) ≤ 1000000000)⟩
  exact ⟨ones_spread ms, runs_up (by rw [ones_spread]; exact h.1) (fun r hr => ⟨(v r hr).1.1, (v r hr).2.1⟩), by unfold ones; rw [List.length_map]; exact h.2.1, runs_ok (B := 10000) (by decide) (by rw [ones_spread]; exact h.2.2) v⟩
theorem one_run {f st c : Int} (hf : 0 ≤ f) (hs : 1 ≤ st) (hc : 1 ≤ c) : RunsUp (-1) [(f, st, c)] := ⟨by show -1 < f; omega, hs, hc, trivial⟩
theorem one_spread {f st c : Int} : spreadAll [(f, st, c)] = ap f st c.toNat := by
  show ap f st c.toNat ++ [] = _
  rw [List.append_nil]
theorem ap_bd {f st B : Int} {n : Nat} (hf : 0 ≤ f) (hs : 0 ≤ st) (h : f + st * (n : Int) ≤ B) : ∀ m ∈ ap f st n, 0 ≤ m ∧ m ≤ B := fun m hm => by
  obtain ⟨k, hk, rfl⟩ := List.mem_map.mp hm
  have hk := List.mem_range.mp hk
  have h1 : 0 ≤ st * (k : Int) := Int.mul_nonneg hs (by omega)
  have h2 : st * (k : Int) ≤ st * (n : Int) := Int.mul_le_mul_of_nonneg_left (by omega) hs
  exact ⟨by omega, by omega⟩
def dueD (g : List Stt) : PyData := if 60 < g.length then .list [.int 60] else logD g
end Lg

namespace Lg
open PySem PySem.Spec PyProof.Rows L2 Lm
/-! ### runs that grow -/
def endL : Int → List Run → Int
  | b, [] => b
  | _, r :: rs => endL (lastM r) rs
theorem runsUp_snoc : ∀ {b : Int} {rs : List Run} {x : Run}, RunsUp b rs → endL b rs < x.1 → 1 ≤ x.2.1 → 1 ≤ x.2.2 → RunsUp b (rs ++ [x]) ∧ endL b (rs ++ [x]) = lastM x
  | _, [], _, _, h, h1, h2 => ⟨⟨h, h1, h2, trivial⟩, rfl⟩
  | _, r :: rs, x, ⟨u1, u2, u3, u4⟩, h, h1, h2 => by
    obtain ⟨i1, i2⟩ := runsUp_snoc (b := lastM r) u4 h h1 h2
    exact ⟨⟨u1, u2, u3, i1⟩, i2⟩
theorem spread_bd {rs : List Run} (h : ∀ r ∈ rs, RunOk r) : ∀ m ∈ spreadAll rs, 0 ≤ m ∧ m ≤ 1000000000 := fun m hm => by
  obtain ⟨r, hr, hx⟩ := List.mem_flatMap.mp hm
  obtain ⟨k, hk, rfl⟩ := List.mem_map.mp hx
  have hk := List.mem_range.mp hk
  obtain ⟨⟨f0, f1⟩, ⟨s0, s1⟩, ⟨c0, c1⟩, hl⟩ := h r hr
  unfold lastM at hl
  have h1 : 0 ≤ r.2.1 * (k : Int) := Int.mul_nonneg (by omega) (by omega)
  have h2 : r.2.1 * (k : Int) ≤ r.2.1 * (r.2.2 - 1) := Int.mul_le_mul_of_nonneg_left (by omega) (by omega)
  exact ⟨by omega, by omega⟩
/-! ### put: joined, but never more than 61 -/
def putR : List Stt → Stt → List Stt
  | [], p => [p]
  | q :: r, p => if p.1 ≤ q.2 then (q.1, if p.2 < q.2 then q.2 else p.2) :: r else if (q :: r).length < 61 then p :: q :: r else q :: r
theorem put_eq {qs : List Stt} {p : Stt} (h : qs.length < 61) : putR qs p = joinS qs p := by
  cases qs with
  | nil => rfl
  | cons q r =>
    simp only [putR, joinS]
    rw [if_pos h]
    split
    · congr 2
      split <;> split <;> omega
    · rfl
theorem put_len (qs : List Stt) (p : Stt) : qs.length ≤ (putR qs p).length ∧ 1 ≤ (putR qs p).length := by
  cases qs with
  | nil => simp [putR]
  | cons q r =>
    simp only [putR]
    split
    · simp
    · split <;> simp
theorem put_max (qs : List Stt) (p : Stt) (h : qs.length ≤ 61) : (putR qs p).length ≤ 61 := by
  cases qs with
  | nil => simp [putR]
  | cons q r =>
    simp only [putR]
    split
    · simpa using h
    · split
      · simp only [List.length_cons] at *; omega
      · exact h
theorem put_rel {F qs : List Stt} {p : Stt} (h : Rel60 F qs) : Rel60 (joinS F p) (putR qs p) := by
  rcases h with rfl | ⟨h1, h2⟩
  · by_cases g : F.length < 61
    · exact .inl (put_eq g).symm
    · exact .inr ⟨Nat.lt_of_lt_of_le (by omega) (joinS_len _ _).1, Nat.lt_of_lt_of_le (by omega) (put_len _ _).1⟩
  · exact .inr ⟨Nat.lt_of_lt_of_le h1 (joinS_len _ _).1, Nat.lt_of_lt_of_le h2 (put_len _ _).1⟩
/-- what the hold lamps have of the runs so far -/
def heldB (s : Int) (rs : List Run) : List Stt := (spreadAll rs).foldl (stepL true s) []
theorem held_snoc (s : Int) (rs : List Run) (r : Run) : heldB s (rs ++ [r]) = (ap r.1 r.2.1 r.2.2.toNat).foldl (stepL true s) (heldB s rs) := by
  unfold heldB
  rw [spread_snoc, List.foldl_append]
def pulB (s : Int) (rs : List Run) : List Stt := (spreadAll rs).foldl (stepL false s) []
theorem pul_snoc (s : Int) (rs : List Run) (r : Run) : pulB s (rs ++ [r]) = (ap r.1 r.2.1 r.2.2.toNat).foldl (stepL false s) (pulB s rs) := by
  unfold pulB
  rw [spread_snoc, List.foldl_append]
/-- the next run of hold lamps -/
theorem held_run {s b f st c : Int} {rs : List Run} (hs : 1 ≤ s) (hb : HeadB (heldB s rs) (b + s)) (h1 : b < f) (h2 : 1 ≤ st) (h3 : 1 ≤ c) :
    heldB s (rs ++ [(f, st, c)]) = (pcs s f st c.toNat).foldl joinS (heldB s rs) ∧ HeadB (heldB s (rs ++ [(f, st, c)])) (lastM (f, st, c) + s) ∧ (st ≤ s → heldB s (rs ++ [(f, st, c)]) = joinS (heldB s rs) (f, f + st * (c - 1) + s)) ∧
    (s < st → ∀ n : Nat, 62 ≤ n → 60 < ((pcs s f st n).foldl joinS (heldB s rs)).length) := by
  rw [held_snoc]
  generalize heldB s rs = acc at hb
  have hb' : HeadB acc (f + s) := fun q hq => by have := hb q hq; omega
  obtain ⟨e1, e2⟩ := runH hs h2 hb' c.toNat
  obtain ⟨n, hn⟩ : ∃ n : Nat, c.toNat = n + 1 := ⟨c.toNat - 1, by omega⟩
  have hc : c - 1 = (n : Int) := by omega
  show (ap f st c.toNat).foldl _ _ = _ ∧ HeadB ((ap f st c.toNat).foldl _ _) _ ∧ (_ → (ap f st c.toNat).foldl _ _ = _) ∧ _
  rw [e1]
  refine ⟨rfl, ?_, fun h => ?_, fun h m hm => ?_⟩
  · rw [hn]
    refine headB_off ?_
    rw [offFold hs h2 hb' n]
    unfold lastM
    show f + st * (n : Int) + s ≤ f + st * (c - 1) + s
    rw [hc]
    exact Int.le_refl _
  · rw [hn, touch hs h2 h hb' n, hc]
  · obtain ⟨m, rfl⟩ : ∃ k, m = k + 1 := ⟨m - 1, by omega⟩
    obtain ⟨i1, i2, _⟩ := apart_len (f := f) hs h m acc hb'
    cases acc with
    | nil => have := i2 rfl; omega
    | cons q r => simp only [List.length_cons] at i1; omega
/-! ### numbers of whole steps -/
theorem rup_uniq {x b q : Int} (hx : 0 ≤ x) (hb : 1 ≤ b) (h1 : x ≤ b * q) (h2 : b * q < x + b) : rup x b = q := by
  obtain ⟨_, r1, r2⟩ := rup_spec hx hb
  generalize rup x b = z at r1 r2
  have a1 : b * z - b * q < b := by omega
  have a2 : b * q - b * z < b := by omega
  rw [← Int.mul_sub] at a1 a2
  have : ∀ t : Int, b * t < b → t < 1 := fun t ht => by
    by_cases h : t < 1
    · exact h
    · have : b * 1 ≤ b * t := Int.mul_le_mul_of_nonneg_left (by omega) (by omega)
      omega
  have t1 := this _ a1
  have t2 := this _ a2
  omega
theorem neg_fdiv {x b : Int} (hb : 1 ≤ b) : x ≤ b * -((-x).fdiv b) ∧ b * -((-x).fdiv b) < x + b := by
  rw [Int.fdiv_eq_ediv_of_nonneg _ (by omega)]
  have h1 : b * (-x / b) ≤ -x := Int.mul_ediv_self_le (by omega)
  have h2 : -x < (-x / b + 1) * b := Int.lt_ediv_add_one_mul_self _ (by omega)
  rw [Int.add_mul, Int.one_mul, Int.mul_comm] at h2
  rw [Int.mul_neg]
  omega
theorem neg_fdiv_uniq {x b q : Int} (hb : 1 ≤ b) (h1 : x ≤ b * q) (h2 : b * q < x + b) : -((-x).fdiv b) = q := by
  obtain ⟨r1, r2⟩ := neg_fdiv (x := x) hb
  generalize -((-x).fdiv b) = z at r1 r2
  have a1 : b * z - b * q < b := by omega
  have a2 : b * q - b * z < b := by omega
  rw [← Int.mul_sub] at a1 a2
  have : ∀ t : Int, b * t < b → t < 1 := fun t ht => by
    by_cases h : t < 1
    · exact h
    · have : b * 1 ≤ b * t := Int.mul_le_mul_of_nonneg_left (by omega) (by omega)
      omega
  have t1 := this _ a1
  have t2 := this _ a2
  omega
end Lg

namespace Lg
open PySem PySem.Spec PyProof.Rows L2 Lm
/-- how many stays a light goes on for -/
def sizeP (s st c k : Int) : Int := if st ≤ s ∧ s.fmod st = 0 then 1 + (c - 1 - k).fdiv (s.fdiv st) else 1
def PL (s f st c : Int) (F : List Stt) (k dark : Int) (qs : List Stt) : Prop :=
  let u := lightU (offOf F) (f, st, c)
  let R := lightR s (offOf F) (f, st, c)
  (k = u ∧ qs = F ∧ dark = offOf F) ∨ (u < c ∧ ∃ j : Nat, 1 ≤ j ∧ (j : Int) ≤ R.2.2 ∧ k = u + rup s st * (j : Int) ∧ qs = (pcs s R.1 R.2.1 j).foldl joinS F ∧ dark = R.1 + R.2.1 * ((j : Int) - 1) + s ∧ (st ≤ s ∧ s.fmod st = 0 → (j : Int) = R.2.2))
section
variable {s f st c : Int} {F qs : List Stt} {k dark : Int}
theorem light_nn (hst : 1 ≤ st) : 0 ≤ lightU (offOf F) (f, st, c) ∧ offOf F ≤ f + st * lightU (offOf F) (f, st, c) := by
  have gn : 0 ≤ (if offOf F - f > 0 then offOf F - f else 0) := by split <;> omega
  obtain ⟨u0, u1, u2⟩ := rup_spec gn hst
  have hU : lightU (offOf F) (f, st, c) = rup (if offOf F - f > 0 then offOf F - f else 0) st := rfl
  rw [hU]
  refine ⟨u0, ?_⟩
  split at u1 <;> split <;> omega
/-- where the walk over a run begins -/
theorem light_start (hst : 1 ≤ st) : lightU (offOf F) (f, st, c) = if f < offOf F then (if (0 : Int) < -((f - offOf F).fdiv st) then -((f - offOf F).fdiv st) else 0) else 0 := by
  have hU : lightU (offOf F) (f, st, c) = rup (if offOf F - f > 0 then offOf F - f else 0) st := rfl
  rw [hU]
  by_cases h : f < offOf F
  · rw [if_pos h, if_pos (by omega)]
    obtain ⟨n1, n2⟩ := neg_fdiv (x := offOf F - f) hst
    rw [show -(offOf F - f) = f - offOf F by omega] at n1 n2
    have e := rup_uniq (x := offOf F - f) (by omega) hst n1 n2
    rw [e]
    have p : 0 < -((f - offOf F).fdiv st) := by
      apply Classical.byContradiction
      intro z
      have := Int.mul_le_mul_of_nonneg_left (show -((f - offOf F).fdiv st) ≤ 0 by omega) (show 0 ≤ st by omega)
      rw [Int.mul_zero] at this
      omega
    rw [if_pos p]
  · rw [if_neg h, if_neg (by omega)]
    exact rup_uniq (Int.le_refl _) hst (by simp) (by simp; omega)
theorem pl_start (hst : 1 ≤ st) : PL s f st c F (lightU (offOf F) (f, st, c)) (offOf F) F := .inl ⟨rfl, rfl, rfl⟩
theorem pl_step (hs : 1 ≤ s) (hst : 1 ≤ st) (hf : 0 ≤ f) (hc : 1 ≤ c) (h : PL s f st c F k dark qs) (hk : k < c) (hl : qs.length < 61) :
    PL s f st c F (-((f - (f + st * k + s * sizeP s st c k)).fdiv st)) (f + st * k + s * sizeP s st c k) (putR qs (f + st * k, f + st * k + s * sizeP s st c k)) ∧ k < -((f - (f + st * k + s * sizeP s st c k)).fdiv st) := by
  rw [put_eq hl]
  obtain ⟨a0, a1, a2⟩ := rup_spec (n := s) (by omega) hst
  obtain ⟨u0, u1⟩ := light_nn (F := F) (f := f) (c := c) hst
  have hR : lightR s (offOf F) (f, st, c) = (f + st * lightU (offOf F) (f, st, c), st * rup s st, rup (c - lightU (offOf F) (f, st, c)) (rup s st)) := rfl
  unfold PL at h ⊢
  rw [hR] at h ⊢
  dsimp only at h ⊢
  generalize lightU (offOf F) (f, st, c) = u at h u0 u1 ⊢
  have a1' : 1 ≤ rup s st := by
    apply Classical.byContradiction
    intro z
    have := Int.mul_le_mul_of_nonneg_left (show rup s st ≤ 0 by omega) (show 0 ≤ st by omega)
    rw [Int.mul_zero] at this
    omega
  have uc : u < c := by
    rcases h with ⟨rfl, _, _⟩ | ⟨h, _⟩
    · exact hk
    · exact h
  obtain ⟨n0, n1, n2⟩ := rup_spec (n := c - u) (b := rup s st) (by omega) a1'
  have div : st ≤ s ∧ s.fmod st = 0 → s.fdiv st = rup s st ∧ st * rup s st = s := fun ⟨_, d2⟩ => by
    have e : s = st * (s.fdiv st) := by
      have := Int.mul_fdiv_add_fmod s st
      omega
    have e2 : rup s st = s.fdiv st := rup_uniq (by omega) hst (by omega) (by omega)
    exact ⟨e2.symm, by rw [e2]; exact e.symm⟩
  -- the number of the light under way
  obtain ⟨j, hj, ek, eq, ed⟩ : ∃ j : Nat, (j : Int) < rup (c - u) (rup s st) ∧ k = u + rup s st * (j : Int) ∧ qs = (pcs s (f + st * u) (st * rup s st) j).foldl joinS F ∧ (st ≤ s ∧ s.fmod st = 0 → j = 0) := by
    have lt : ∀ j : Nat, u + rup s st * (j : Int) < c → (j : Int) < rup (c - u) (rup s st) := fun j hj => by
      apply Classical.byContradiction
      intro z
      have := Int.mul_le_mul_of_nonneg_left (show rup (c - u) (rup s st) ≤ (j : Int) by omega) (show 0 ≤ rup s st by omega)
      omega
    rcases h with ⟨rfl, rfl, _⟩ | ⟨_, j, j1, j2, rfl, rfl, _, j3⟩
    · exact ⟨0, lt 0 (by simpa using hk), by simp, rfl, fun _ => rfl⟩
    · refine ⟨j, lt j hk, rfl, rfl, fun d => ?_⟩
      have e := j3 d
      have := lt j hk
      omega
  have here : f + st * k = f + st * u + st * rup s st * (j : Int) := by
    rw [ek, Int.mul_add, Int.mul_assoc]
    omega
  by_cases d : st ≤ s ∧ s.fmod st = 0
  · obtain ⟨d1, d2⟩ := div d
    obtain rfl := ed d
    have ek : k = u := by rw [ek]; simp
    have esz : sizeP s st c k = rup (c - u) (rup s st) := by
      unfold sizeP
      rw [if_pos d, d1, ek]
      symm
      refine rup_uniq (by omega) a1' ?_ ?_
      · have := Int.lt_ediv_add_one_mul_self (c - 1 - u) (show 0 < rup s st by omega)
        rw [Int.fdiv_eq_ediv_of_nonneg _ (by omega), Int.mul_add, Int.mul_one]
        rw [Int.add_mul, Int.one_mul, Int.mul_comm] at this
        omega
      · have := Int.mul_ediv_self_le (x := c - 1 - u) (show rup s st ≠ 0 by omega)
        rw [Int.fdiv_eq_ediv_of_nonneg _ (by omega), Int.mul_add, Int.mul_one]
        omega
    rw [esz]
    obtain ⟨m, hm⟩ : ∃ m : Nat, rup (c - u) (rup s st) = ((m + 1 : Nat) : Int) := ⟨(rup (c - u) (rup s st)).toNat - 1, by omega⟩
    rw [hm] at n1 n2 ⊢
    have tch := touch (s := s) (f := f + st * u) (st := s) (acc := F) hs hs (Int.le_refl _) (headB_off (by omega)) m
    have e1 : s * ((m + 1 : Nat) : Int) = s * (m : Int) + s := by rw [show ((m + 1 : Nat) : Int) = (m : Int) + 1 by omega, Int.mul_add, Int.mul_one]
    have kq : -((f - (f + st * k + s * ((m + 1 : Nat) : Int))).fdiv st) = u + rup s st * ((m + 1 : Nat) : Int) := by
      rw [show f - (f + st * k + s * ((m + 1 : Nat) : Int)) = -(st * k + s * ((m + 1 : Nat) : Int)) by omega]
      have e3 : st * (u + rup s st * ((m + 1 : Nat) : Int)) = st * k + s * ((m + 1 : Nat) : Int) := by rw [Int.mul_add, ← Int.mul_assoc, d2, ek]
      exact neg_fdiv_uniq hst (by omega) (by omega)
    have pos : 0 < rup s st * ((m + 1 : Nat) : Int) := Int.mul_pos (by omega) (by omega)
    rw [kq]
    refine ⟨.inr ⟨uc, m + 1, by omega, Int.le_refl _, rfl, ?_, ?_, fun _ => rfl⟩, by omega⟩
    · rw [d2, tch, eq, ek, e1]
      show joinS F _ = joinS F _
      congr 2
      omega
    · rw [d2, ek, e1, show ((m + 1 : Nat) : Int) - 1 = (m : Int) by omega]
      omega
  · have esz : sizeP s st c k = 1 := if_neg d
    rw [esz, Int.mul_one]
    have kq : -((f - (f + st * k + s)).fdiv st) = u + rup s st * ((j + 1 : Nat) : Int) := by
      rw [show f - (f + st * k + s) = -(st * k + s) by omega]
      have e3 : u + rup s st * ((j + 1 : Nat) : Int) = k + rup s st := by rw [ek, show ((j + 1 : Nat) : Int) = (j : Int) + 1 by omega, Int.mul_add, Int.mul_one]; omega
      rw [e3]
      refine neg_fdiv_uniq hst ?_ ?_
      · rw [Int.mul_add]; omega
      · rw [Int.mul_add]; omega
    rw [kq]
    refine ⟨.inr ⟨uc, j + 1, by omega, by omega, rfl, ?_, ?_, fun z => absurd z d⟩, ?_⟩
    · rw [pcs_succ, List.foldl_append, eq, here]
      rfl
    · rw [here, show ((j + 1 : Nat) : Int) - 1 = (j : Int) by omega]
    · rw [ek, show ((j + 1 : Nat) : Int) = (j : Int) + 1 by omega, Int.mul_add, Int.mul_one]
      omega
theorem pcs_le {s f st : Int} {F : List Stt} {i j : Nat} (h : i ≤ j) : ((pcs s f st i).foldl joinS F).length ≤ ((pcs s f st j).foldl joinS F).length := by
  induction j with
  | zero => obtain rfl : i = 0 := by omega
            exact Nat.le_refl _
  | succ j ih =>
    rcases (show i ≤ j ∨ i = j + 1 by omega) with e | e
    · refine Nat.le_trans (ih e) ?_
      rw [pcs_succ, List.foldl_append]
      exact joinS_fold_len _ _
    · rw [e]; exact Nat.le_refl _
/-- where the walk over a run ends -/
theorem pl_end {rs : List Run} (hs : 1 ≤ s) (hst : 1 ≤ st) (hf : 0 ≤ f) (hc : 1 ≤ c) (h : PL s f st c (pulB s rs) k dark qs) (hx : ¬ k < c ∨ 61 ≤ qs.length) :
    (pulB s (rs ++ [(f, st, c)]) = qs ∧ dark = offOf (pulB s (rs ++ [(f, st, c)]))) ∨ (60 < (pulB s (rs ++ [(f, st, c)])).length ∧ 60 < qs.length) := by
  rw [pul_snoc]
  generalize pulB s rs = F at h
  obtain ⟨L1, L0⟩ := light_run (s := s) (r := (f, st, c)) (acc := F) hs hf hst hc
  have mono : F.length ≤ ((ap f st c.toNat).foldl (stepL false s) F).length := stepL_fold_len _ _ _ _
  show ((ap f st c.toNat).foldl (stepL false s) F = qs ∧ dark = offOf ((ap f st c.toNat).foldl (stepL false s) F)) ∨ (60 < ((ap f st c.toNat).foldl (stepL false s) F).length ∧ _)
  have L1 : lightU (offOf F) (f, st, c) < c → (ap f st c.toNat).foldl (stepL false s) F = _ ∧ _ := L1
  have L0 : ¬ lightU (offOf F) (f, st, c) < c → (ap f st c.toNat).foldl (stepL false s) F = F := L0
  rcases h with ⟨rfl, rfl, rfl⟩ | ⟨uc, j, j1, j2, rfl, rfl, rfl, j3⟩
  · rcases hx with hx | hx
    · rw [L0 hx]
      exact .inl ⟨rfl, rfl⟩
    · exact .inr ⟨by omega, by omega⟩
  · obtain ⟨e1, e2, e3, e4, e5, e6⟩ := L1 uc
    rw [e1]
    rcases hx with hx | hx
    · have hR : lightR s (offOf F) (f, st, c) = (f + st * lightU (offOf F) (f, st, c), st * rup s st, rup (c - lightU (offOf F) (f, st, c)) (rup s st)) := rfl
      have a1' : 1 ≤ rup s st := rup_one hs hst
      obtain ⟨n0, n1, n2⟩ := rup_spec (n := c - lightU (offOf F) (f, st, c)) (b := rup s st) (by omega) a1'
      have ej : (j : Int) = (lightR s (offOf F) (f, st, c)).2.2 := by
        apply Classical.byContradiction
        intro z
        rw [hR] at j2 z
        dsimp only at j2 z
        have := Int.mul_le_mul_of_nonneg_left (show (j : Int) ≤ rup (c - lightU (offOf F) (f, st, c)) (rup s st) - 1 by omega) (show 0 ≤ rup s st by omega)
        rw [Int.mul_sub, Int.mul_one] at this
        omega
      have ejn : (lightR s (offOf F) (f, st, c)).2.2.toNat = j := by omega
      refine .inl ⟨by rw [ejn], ?_⟩
      rw [e6]
      unfold lastM
      rw [← ej]
    · refine .inr ⟨?_, by omega⟩
      refine Nat.lt_of_lt_of_le (show 60 < _ from hx) (pcs_le (by omega))
end
end Lg

namespace Lg
open PySem PySem.Spec PyProof.Rows L2 Lm
def sp_farP (K : PySem.W.Frag) : Sp := fun vs H Q _ => ∃ (Z : Hp) (p dl al : Addr) (u : Int), vs = [.ref p, .int u] ∧ Iv (pot p dl al) Z 0 H ∧ 0 ≤ u ∧ u ≤ 60 ∧
  ∀ (x : V) (H' : Hp) (rs : List Run), Iv (pot p dl al) Z 0 H' → Kp (pot p dl al) Z H H' → Dq K (hid (pot p dl al) Z H') x (runsD rs) → RunsUp (-1) rs → rs.length ≤ 60 → (∀ r ∈ rs, RunOk r) → Q x H'
def logL (qs : List Stt) : PyData := .list (qs.reverse.map pD)
/-- a list of pairs that stands by itself, its end first -/
def LL (K : PySem.W.Frag) (G : Hp) (a : Addr) (qs : List Stt) : Prop := ∃ xs, G a = some (.lst xs) ∧ Dqs K G xs (qs.reverse.map pD)
theorem LL.mono {K : PySem.W.Frag} {G G' : Hp} {a : Addr} {qs : List Stt} (s : Same G G') (h : LL K G a qs) : LL K G' a qs := let ⟨xs, e, d⟩ := h; ⟨xs, s _ _ e, d.mono s⟩
theorem LL.dq {K : PySem.W.Frag} {G : Hp} {a : Addr} {qs : List Stt} (h : LL K G a qs) : Dq K G (.ref a) (logL qs) := let ⟨_, e, d⟩ := h; .lst (.inl (.inl e)) d
def sp_put (K : PySem.W.Frag) : Sp := fun vs H Q _ => ∃ (N : Addr → Prop) (a : Addr) (qs : List Stt) (p : Stt), vs = [.ref a, .int p.1, .int p.2] ∧ Occ N H ∧ LL K (cut N H) a qs ∧ qs.length ≤ 61 ∧
  ∀ (r : Addr) (H' : Hp), Same H H' → LL K (cut N H') r (putR qs p) → Q (.ref r) H'
def sp_back (K : PySem.W.Frag) (B : Int → List Run → List Stt) : Sp := fun vs H Q _ => ∃ (N : Addr → Prop) (s : Int) (rs : List Run), Occ N H ∧ Dqs K (cut N H) vs [.int s, runsD rs] ∧ 1 ≤ s ∧ s ≤ 1000000000 ∧ rs.length ≤ 400 ∧ (∀ r ∈ rs, RunOk r) ∧ RunsUp (-1) rs ∧
  ∀ (r : Addr) (H' : Hp) (qs : List Stt), Same H H' → LL K (cut N H') r qs → qs.length ≤ 61 → Rel60 (B s rs) qs → Q (.ref r) H'
abbrev sp_held (K : PySem.W.Frag) : Sp := sp_back K heldB
abbrev sp_pulsed (K : PySem.W.Frag) : Sp := sp_back K pulB
theorem drop_get {α : Type} {xs : List α} {i : Nat} {x : α} (h : xs[i]? = some x) : xs.drop i = x :: xs.drop (i + 1) := by
  obtain ⟨hi, rfl⟩ := List.getElem?_eq_some_iff.mp h
  exact List.drop_eq_getElem_cons hi
theorem take_snoc {α : Type} {xs : List α} {i : Nat} {x : α} (h : xs[i]? = some x) : xs.take (i + 1) = xs.take i ++ [x] := by
  rw [List.take_add_one, h]
  rfl
theorem cutV_init {xs : List V} {v : V} : cutV (xs ++ [v]) none (some (-1)) = xs := by
  unfold cutV
  rw [HT.sIx_none, List.drop_zero, Nat.sub_zero]
  have e : HT.sIx (xs ++ [v]).length (xs ++ [v]).length (some (-1)) = xs.length := by
    unfold HT.sIx
    simp
    try omega
  rw [e]
  simp
theorem call_lenK {X : Cx} {K : PySem.W.Frag} (h : X.K = K) : CallR X (.builtin "len") (fun xs H Q => ∃ p ys, xs = [.ref p] ∧ (SqL K H p ys ∨ SqT K H p ys) ∧ Q (.int ys.length) H) := h ▸ call_len_seq
theorem call_tupleK {X : Cx} {K : PySem.W.Frag} (h : X.K = K) : CallR X (.type "tuple") (fun xs H Q => ∃ p ys, xs = [.ref p] ∧ ((SqL K H p ys ∧ ∀ l, H l = none → Q (.ref l) (upd H l (.tup ys))) ∨ (SqT K H p ys ∧ Q (.ref p) H))) := h ▸ call_tuple_of
/-- the booked answer, once the runs were walked -/
theorem told_due {l : Lamp} {rs : List Run} {qs : List Stt} (hs : 1 ≤ l.2) (hr : RunsUp (-1) rs) (h : Rel60 ((spreadAll rs).foldl (stepL l.1 l.2) []) qs) : toldD l rs = dueD qs.reverse ∧ (qs.length ≤ 60 → qs.reverse = logF l (spreadAll rs)) := by
  have e : logF l (spreadAll rs) = ((spreadAll rs).foldl (stepL l.1 l.2) []).reverse := rfl
  rcases h with h | ⟨h1, h2⟩
  · have e2 : qs.reverse = logF l (spreadAll rs) := by rw [e, h]
    refine ⟨?_, fun _ => e2⟩
    rw [e2]
    unfold dueD
    by_cases g : 60 < (logF l (spreadAll rs)).length
    · rw [if_pos g]; exact told_big hs hr g
    · rw [if_neg g]; exact told_small hs hr (by omega)
  · refine ⟨?_, fun z => by omega⟩
    unfold dueD
    rw [if_pos (by rw [List.length_reverse]; exact h2)]
    exact told_big hs hr (by rw [e, List.length_reverse]; exact h1)
section
variable {K : PySem.W.Frag} {Z H0 : Hp} {p dl al : Addr} {σ : L2.St} {tg : TE} {n : Nat}
theorem ev_lampStay {i : Nat} (e : σ[i]? = some (some (.ref p))) (h : Ev (pot p dl al) Z n H0 σ tg (IR 1 1000000000)) : Ev (pot p dl al) Z n H0 σ (tOp (rIxT K) (tCall (sp_lampP K) [] E0 (tCons (tVar i) (tCons tg tNil))) (tC (.int 1))) (IR 1 1000000000) :=
  fun H b Q P k q => ⟨_, e, h H b _ P k fun v H1 P1 k1 ⟨g, eg, g1, g2⟩ => ⟨Z, p, dl, al, g, by rw [eg]; rfl, P1.less (Nat.zero_le _), g1, g2, fun x H' l P' k' d' l1 l2 => by
    obtain ⟨a1, rfl, ga⟩ := dq_lamp d'
    exact ⟨a1, _, 1, .int l.2, rfl, rfl, Same.seqT hid_same ga, atI_nat (j := 1) rfl, q _ _ ⟨P'.src, P'.zz, P'.zo⟩ (k1.trans k') ⟨l.2, rfl, l1, l2⟩⟩⟩⟩
end
theorem due_sm {l : Lamp} {rs : List Run} {qs : List Stt} (hs : 1 ≤ l.2 ∧ l.2 ≤ 1000000000) (hr : RunsUp (-1) rs) (ok : ∀ r ∈ rs, RunOk r) (h : Rel60 ((spreadAll rs).foldl (stepL l.1 l.2) []) qs) : Sm 2103 2 (dueD qs.reverse) := by
  unfold dueD
  by_cases g : 60 < qs.reverse.length
  · rw [if_pos g]
    exact (Sm.list (c := 1) (n := 13) (k := 0) (ds := [.int 60]) (fun d hd => by rw [List.mem_singleton.mp hd]; exact Sm.int (by decide)) (Nat.le_refl _)).wide (by decide) (by decide)
  · rw [if_neg g]
    rw [List.length_reverse] at g
    have e := (told_due hs.1 hr h).2 (by omega)
    rw [e]
    refine logF_sm ⟨by omega, hs.2⟩ (B := 1000000000) (Int.le_refl _) (spread_bd ok) ?_
    rw [← e, List.length_reverse]
    omega
end Lg

namespace Lg
open PySem PySem.Spec PyProof.Rows L2 Lm
/-! ### minutes put into runs -/
def grpS : List Run → Int → List Run
  | [], m => [(m, 1, 1)]
  | r :: rs, m => if r.2.2 = 1 ∨ m = r.1 + r.2.1 * r.2.2 then (r.1, (m - r.1).fdiv r.2.2, r.2.2 + 1) :: rs else (m, 1, 1) :: r :: rs
def grpF (ms : List Int) : List Run := (ms.foldl grpS []).reverse
theorem grpS_len (rs : List Run) (m : Int) : (grpS rs m).length ≤ rs.length + 1 := by
  cases rs with
  | nil => simp [grpS]
  | cons r rs => simp only [grpS]; split <;> simp
theorem grp_fold_len : ∀ (ms : List Int) (rs : List Run), (ms.foldl grpS rs).length ≤ rs.length + ms.length
  | [], _ => Nat.le_refl _
  | m :: ms, rs => by
    have a := grp_fold_len ms (grpS rs m)
    have b := grpS_len rs m
    rw [List.foldl_cons, List.length_cons]
    omega
/-- what stands in the last run: how many, how far -/
def GrpOk (rs : List Run) : Prop := ∀ r ∈ rs, 1 ≤ r.2.2 ∧ r.2.2 ≤ 1000000
/-- the value of a wrong minute -/
def minGo : List PyData → Int → Option PyData
  | [], _ => none
  | .int m :: r, b => if 0 ≤ m ∧ m ≤ 1000000000 ∧ b < m then minGo r m else some (.int m)
  | d :: _, _ => some d
def minErr : PyData → Option PyData
  | .tuple ds => minGo ds (-1)
  | d => some d
theorem minGo_ints : ∀ {ds : List PyData} {b : Int}, minGo ds b = none → ∃ ms : List Int, ds = ms.map .int ∧ Asc b ms ∧ ∀ m ∈ ms, 0 ≤ m ∧ m ≤ 1000000000
  | [], b, _ => ⟨[], rfl, trivial, fun m h => nomatch h⟩
  | .int m :: r, b, h => by
    simp only [minGo] at h
    split at h
    · rename_i g
      obtain ⟨ms, rfl, h1, h2⟩ := minGo_ints h
      refine ⟨m :: ms, rfl, ⟨g.2.2, h1⟩, fun x hx => ?_⟩
      rcases List.mem_cons.mp hx with e | e
      · rw [e]; exact ⟨g.1, g.2.1⟩
      · exact h2 x e
    · cases h
  | .none :: _, _, h => by simp [minGo] at h
  | .bool _ :: _, _, h => by simp [minGo] at h
  | .str _ :: _, _, h => by simp [minGo] at h
  | .list _ :: _, _, h => by simp [minGo] at h
  | .tuple _ :: _, _, h => by simp [minGo] at h
  | .dict _ :: _, _, h => by simp [minGo] at h
/-! ### a def that may raise an error with any value -/
def sp_fe (K : PySem.W.Frag) {α : Type} (A : α → List PyData) (P : α → Prop) (F : α → PyData) (B : α → Option (Addr × Str × PyData)) : Sp := fun vs H Q E => ∃ (N : Addr → Prop) (x : α), Occ N H ∧ Dqs K (cut N H) vs (A x) ∧ P x ∧
  (B x = none → ∀ r H', Same H H' → Dq K (cut N H') r (F x) → Q r H') ∧ (∀ C f d, B x = some (C, f, d) → ∀ (dd : Addr) (v : V) (H' : Hp), Same H H' → H dd = none → H' dd = some (.xd [(f, v)]) → Dq K (cut N H') v d → E (.ref C) (some dd) H')
def isMin (d : PyData) : Bool := inW 0 1000000000 d
def sp_isMin (K : PySem.W.Frag) : Sp := fun vs H Q _ => ∃ v d, vs = [v] ∧ Dq K H v d ∧ Q (.bl (isMin d)) H
def sp_foll (K : PySem.W.Frag) : Sp := sp_f K (fun x : Int × Run => [.int x.1, runD x.2]) (fun x => 1 ≤ x.2.2.2 ∧ x.2.2.2 ≤ 10000000000 ∧ 0 ≤ x.2.2.1 ∧ x.2.2.1 ≤ 10000000000) (fun x => .bool (decide (x.2.2.2 = 1) || decide (x.1 = x.2.1 + x.2.2.1 * x.2.2.2)))
def sp_runsOf (K : PySem.W.Frag) : Sp := sp_f K (fun ms : List Int => [.list ((ones ms).map runD)]) (fun ms => ms.length ≤ 900 ∧ Asc (-1) ms ∧ ∀ m ∈ ms, 0 ≤ m ∧ m ≤ 1000000000) (fun ms => runsD (grpF ms))
def GInv (ms : List Int) (i : Nat) (qs : List Run) : Prop := ∀ r ∈ qs, r.1 ∈ ms.take i ∧ (0 ≤ r.2.1 ∧ r.2.1 ≤ 1000000000) ∧ 1 ≤ r.2.2 ∧ r.2.2 ≤ (i : Int)
theorem asc_lt {ms : List Int} {i : Nat} {m b x : Int} (ha : Asc b ms) (hm : ms[i]? = some m) (hx : x ∈ ms.take i) : x < m := by
  have h := (asc_app (xs := ms.take i) (ys := ms.drop i) (by rw [List.take_append_drop]; exact ha)).2.1
  exact h x hx m (by rw [drop_get hm]; exact List.mem_cons_self)
theorem ginv_step {ms : List Int} {i : Nat} {m : Int} {qs : List Run} (ha : Asc (-1) ms) (hb : ∀ m ∈ ms, 0 ≤ m ∧ m ≤ 1000000000) (hm : ms[i]? = some m) (h : GInv ms i qs) : GInv ms (i + 1) (grpS qs m) := by
  have tk : ms.take (i + 1) = ms.take i ++ [m] := take_snoc hm
  have wide : ∀ r : Run, (r.1 ∈ ms.take i ∧ (0 ≤ r.2.1 ∧ r.2.1 ≤ 1000000000) ∧ 1 ≤ r.2.2 ∧ r.2.2 ≤ (i : Int)) → (r.1 ∈ ms.take (i + 1) ∧ (0 ≤ r.2.1 ∧ r.2.1 ≤ 1000000000) ∧ 1 ≤ r.2.2 ∧ r.2.2 ≤ ((i + 1 : Nat) : Int)) := fun r ⟨h1, h2, h3, h4⟩ => ⟨by rw [tk]; exact List.mem_append_left _ h1, h2, h3, by omega⟩
  have one : (m ∈ ms.take (i + 1) ∧ (0 ≤ (1 : Int) ∧ (1 : Int) ≤ 1000000000) ∧ (1 : Int) ≤ 1 ∧ (1 : Int) ≤ ((i + 1 : Nat) : Int)) := ⟨by rw [tk]; simp, ⟨by decide, by decide⟩, Int.le_refl _, by omega⟩
  cases qs with
  | nil =>
    intro r hr
    rw [List.mem_singleton.mp hr]
    exact one
  | cons q rs =>
    have hq := h q List.mem_cons_self
    have hr : ∀ r ∈ rs, _ := fun r hr => wide r (h r (List.mem_cons_of_mem _ hr))
    simp only [grpS]
    split
    · intro r hz
      rcases List.mem_cons.mp hz with e | e
      · obtain ⟨q1, q2, q3, q4⟩ := hq
        have lt := asc_lt ha hm q1
        have m1 := hb m (List.mem_of_getElem? hm)
        have b1 := hb q.1 (List.mem_of_mem_take q1)
        rw [e]
        refine ⟨(wide q ⟨q1, q2, q3, q4⟩).1, ?_, by show 1 ≤ q.2.2 + 1; omega, by show q.2.2 + 1 ≤ _; omega⟩
        show 0 ≤ (m - q.1).fdiv q.2.2 ∧ (m - q.1).fdiv q.2.2 ≤ 1000000000
        rw [Int.fdiv_eq_ediv_of_nonneg _ (by omega)]
        have d0 : 0 ≤ (m - q.1) / q.2.2 := Int.ediv_nonneg (by omega) (by omega)
        have d1 : (m - q.1) / q.2.2 ≤ m - q.1 := Int.ediv_le_self _ (by omega)
        omega
      · exact hr r e
    · intro r hz
      rcases List.mem_cons.mp hz with e | e
      · rw [e]; exact one
      · rcases List.mem_cons.mp e with e | e
        · rw [e]; exact wide q hq
        · exact hr r e
end Lg

namespace Lg
open PySem PySem.Spec PyProof.Rows L2 Lm
def sumC (rs : List Run) : Int := (rs.map fun r => r.2.2).sum
def sp_count (K : PySem.W.Frag) : Sp := sp_f K (fun rs : List Run => [runsD rs]) (fun rs => rs.length ≤ 900) (fun rs => .int (sumC rs))
def okD : Option Int → PyData
  | some m => .int m
  | none => .none
def erD (C : Addr) (f : Str) (d : PyData) : Option Int → Option (Addr × Str × PyData)
  | some _ => none
  | none => some (C, f, d)
/-- the motion with this number -/
def motAt : List Run → Int → Option Int
  | [], _ => none
  | r :: rs, i => if i < r.2.2 then some (r.1 + r.2.1 * i) else motAt rs (i - r.2.2)
def motAtD (rs : List Run) : PyData → Option Int
  | .int i => if 0 ≤ i then motAt rs i else none
  | _ => none
def sp_motAt (K : PySem.W.Frag) (C : Addr) : Sp := sp_fe K (fun x : List Run × PyData => [runsD x.1, x.2]) (fun x => x.1.length ≤ 900 ∧ ∀ r ∈ x.1, RunOk r) (fun x => okD (motAtD x.1 x.2)) (fun x => erD C "index" x.2 (motAtD x.1 x.2))
/-- how many motions stand before a minute -/
def befs (rs : List Run) (m : Int) : List Int := (rs.filter fun r => decide (r.1 < m)).map fun r => if rup (m - r.1) r.2.1 < r.2.2 then rup (m - r.1) r.2.1 else r.2.2
def befD (rs : List Run) : PyData → Option Int
  | .int m => if 0 ≤ m ∧ m ≤ 1000000000 then some (befs rs m).sum else none
  | _ => none
def sp_before (K : PySem.W.Frag) (C : Addr) : Sp := sp_fe K (fun x : List Run × PyData => [runsD x.1, x.2]) (fun x => x.1.length ≤ 900 ∧ ∀ r ∈ x.1, RunOk r) (fun x => okD (befD x.1 x.2)) (fun x => erD C "value" x.2 (befD x.1 x.2))
theorem befs_len (rs : List Run) (m : Int) : (befs rs m).length ≤ rs.length := by
  unfold befs
  rw [List.length_map]
  exact List.length_filter_le _ _
theorem befs_take {rs : List Run} {m : Int} {i : Nat} {r : Run} (h : rs[i]? = some r) : befs (rs.take (i + 1)) m = befs (rs.take i) m ++ (if r.1 < m then [if rup (m - r.1) r.2.1 < r.2.2 then rup (m - r.1) r.2.1 else r.2.2] else []) := by
  unfold befs
  rw [take_snoc h, List.filter_append, List.map_append]
  congr 1
  by_cases g : r.1 < m
  · rw [if_pos g, List.filter_cons_of_pos (by rw [decide_eq_true g])]
    rfl
  · rw [if_neg g, List.filter_cons_of_neg (by rw [decide_eq_false g]; exact fun z => nomatch z)]
    rfl
/-- what motions_of gives, and its errors -/
def grpOf : PyData → List Run
  | .tuple ds => grpF (ds.filterMap fun d => match d with | .int m => some m | _ => none)
  | _ => []
theorem ints_back (ms : List Int) : (ms.map PyData.int).filterMap (fun d => match d with | .int m => some m | _ => none) = ms := by
  induction ms with
  | nil => rfl
  | cons m r ih => rw [List.map_cons, List.filterMap_cons]; simp only [ih]
theorem grpOf_ints (ms : List Int) : grpOf (.tuple (ms.map .int)) = grpF ms := by
  show grpF ((ms.map PyData.int).filterMap _) = _
  rw [ints_back]
def motsErr (CM CL : Addr) (d : PyData) : Option (Addr × Str × PyData) := match minErr d with
  | some e => some (CM, "value", e)
  | none => if 360 < (grpOf d).length then some (CL, "limit", .int 360) else none
def sp_motsOf (K : PySem.W.Frag) (CM CL : Addr) : Sp := sp_fe K (fun d : PyData => [d]) (fun d => match d with | .tuple ds => ds.length ≤ 800 | _ => True) (fun d => runsD (grpOf d)) (motsErr CM CL)
end Lg

namespace Lg
open PySem PySem.Spec PyProof.Rows L2 Lm
def sp_oddP (K : PySem.W.Frag) : Sp := fun vs H Q _ => ∃ (Z : Hp) (p dl al : Addr), vs = [.ref p] ∧ Iv (pot p dl al) Z 0 H ∧ ∀ (x : V) (H' : Hp), Iv (pot p dl al) Z 0 H' → Kp (pot p dl al) Z H H' → DR K (Sm 60 3) x (hid (pot p dl al) Z H') → Q x H'
theorem odd_hid {p dl al : Addr} {Z H : Hp} {o : HO} (hz : Z al = none) : Lm.hid (upd Z al o) p dl H = hid (pot p dl al) Z H := by
  funext b
  by_cases h : Off (pot p dl al) Z b
  · have n1 : b ≠ p := fun e => h.1 (.inl e)
    have n2 : b ≠ dl := fun e => h.1 (.inr (.inl e))
    have n3 : b ≠ al := fun e => h.1 (.inr (.inr e))
    rw [hid_at h, Lm.hid_at n1 ⟨n2, by rw [upd_ne n3]; exact h.2⟩]
  · have e1 : hid (pot p dl al) Z H b = none := by
      cases e : hid (pot p dl al) Z H b with
      | none => rfl
      | some o => exact absurd (hid_some e) h
    rw [e1]
    cases e : Lm.hid (upd Z al o) p dl H b with
    | none => rfl
    | some o' =>
      exfalso
      have n := Lm.hid_some e
      apply h
      have n3 : b ≠ al := fun z => by have := n.2.2; rw [z, upd_same] at this; cases this
      refine ⟨fun z => ?_, ?_⟩
      · rcases z with z | z | z
        · exact n.1 z
        · exact n.2.1 z
        · exact n3 z
      · have := n.2.2
        rw [upd_ne n3] at this
        exact this
theorem odd_imp (K : PySem.W.Frag) (vs : List V) (H : Hp) (Q : VK) (E : XK) (h : sp_oddP K vs H Q E) : Lm.sp_odd K vs H Q E := by
  obtain ⟨Z, p, dl, al, e, P, q⟩ := h
  have PA := iv_pot P
  obtain ⟨ns, hal, hne, hlen⟩ := PA.li
  have za : Z al = none := P.zo al (.inr (.inr rfl))
  have npa : p ≠ al := PA.pa.symm
  refine ⟨upd Z al (.lst (ns.map V.int)), p, dl, al, e, ⟨PA.ob, PA.de, PA.li, PA.ne, fun b o z => ?_, ?_, ?_⟩, fun x H' P' k' r => ?_⟩
  · by_cases eb : b = al
    · rw [eb, upd_same] at z
      rw [eb, hal]; exact z
    · rw [upd_ne eb] at z
      exact P.zz b o z
  · rw [upd_ne npa]; exact P.zo p (.inl rfl)
  · rw [upd_ne PA.ne.symm]; exact P.zo dl (.inr (.inl rfl))
  · have zz' : Same Z H' := fun b o z => P'.zz b o (by rw [upd_ne (ne_of_none z za)]; exact z)
    have P2 : PotAt Z H' p dl al := ⟨P'.ob, P'.de, P'.li, P'.ne, zz', P.zo p (.inl rfl), P.zo dl (.inr (.inl rfl))⟩
    refine q x H' (pot_iv P2 za) ?_ (by rw [odd_hid za] at r; exact r)
    unfold Lm.Kp at k'
    rw [odd_hid za, odd_hid za] at k'
    exact k'
end Lg

namespace Lg
open PySem PySem.Spec PyProof.Rows L2 Lm
def dueGo : Option PyData → List Run → PyData
  | some e, _ => .list [.str "minute", e]
  | none, rs => if 360 < rs.length then .list [.str "large", .int 360] else runsD rs
def dueOf (d : PyData) : PyData := dueGo (minErr d) (grpOf d)
def told1 (w : Str) (d : PyData) : Option Int → PyData
  | some m => .int m
  | none => .list [.str w, d]
def lenOk : PyData → Prop
  | .tuple ds => ds.length ≤ 800
  | _ => True
def sp_told6 (K : PySem.W.Frag) : Sp := fun vs H Q _ => ∃ (N : Addr → Prop) (way : Int) (v1 v2 : V), vs = [.int way, v1, v2] ∧ Occ N H ∧
  ((way = 0 ∧ ∃ d, Dq K (cut N H) v1 d ∧ lenOk d ∧ ∀ r H', Same H H' → Dq K (cut N H') r (dueOf d) → Q r H') ∨
   (way = 1 ∧ ∃ rs d, Dq K (cut N H) v1 (runsD rs) ∧ Dq K (cut N H) v2 d ∧ rs.length ≤ 900 ∧ (∀ r ∈ rs, RunOk r) ∧ ∀ r H', Same H H' → Dq K (cut N H') r (told1 "index" d (motAtD rs d)) → Q r H') ∨
   (way = 2 ∧ ∃ rs d, Dq K (cut N H) v1 (runsD rs) ∧ Dq K (cut N H) v2 d ∧ rs.length ≤ 900 ∧ (∀ r ∈ rs, RunOk r) ∧ ∀ r H', Same H H' → Dq K (cut N H') r (told1 "minute" d (befD rs d)) → Q r H'))
def sp_due6 (K : PySem.W.Frag) : Sp := sp_f K (fun d : PyData => [d]) lenOk dueOf
theorem op_eqDK {X : Cx} {K : PySem.W.Frag} (h : X.K = K) (hu : X.A.units + 64 < cLine) : OpR X (compareOp .Eq) (rEqD K) := h ▸ op_eqD hu
end Lg

namespace Lg
open PySem PySem.Spec PyProof.Rows L2 Lm
/-- the run at hand can take no more -/
def Shut (qs : List Run) (m : Int) : Prop := grpS qs m = (m, 1, 1) :: qs
theorem grp_block {qs : List Run} {r0 d : Int} (hd : 1 ≤ d) (hs : Shut qs r0) : ∀ s : Nat, (ap r0 d (s + 1)).foldl grpS qs = (r0, if 1 < s + 1 then d else 1, ((s + 1 : Nat) : Int)) :: qs
  | 0 => by
    show grpS qs (r0 + d * ((0 : Nat) : Int)) = _
    rw [show r0 + d * ((0 : Nat) : Int) = r0 by simp, hs]
    rfl
  | s + 1 => by
    rw [ap_succ, List.foldl_append, grp_block hd hs s]
    rw [List.foldl_cons, List.foldl_nil]
    simp only [grpS]
    have pos : (0 : Int) < ((s + 1 : Nat) : Int) := by omega
    have e : (r0 + d * ((s + 1 : Nat) : Int) - r0).fdiv ((s + 1 : Nat) : Int) = d := by
      rw [show r0 + d * ((s + 1 : Nat) : Int) - r0 = d * ((s + 1 : Nat) : Int) by omega, Int.fdiv_eq_ediv_of_nonneg _ (by omega)]
      exact Int.mul_ediv_cancel _ (by omega)
    have c : ((s + 1 : Nat) : Int) = 1 ∨ r0 + d * ((s + 1 : Nat) : Int) = r0 + (if 1 < s + 1 then d else 1) * ((s + 1 : Nat) : Int) := by
      by_cases h : 1 < s + 1
      · rw [if_pos h]; exact .inr rfl
      · exact .inl (by omega)
    rw [if_pos c, e, if_pos (by omega)]
    rfl
theorem grp_take {qs : List Run} {rem : List Int} {r0 d : Int} {s : Nat} (hd : 1 ≤ d) (hsh : Shut qs r0) (s1 : 1 ≤ s) (s2 : s ≤ rem.length) (h : ∀ j : Nat, j < s → rem[j]? = some (r0 + d * (j : Int))) : rem.foldl grpS qs = (rem.drop s).foldl grpS ((r0, if 1 < s then d else 1, (s : Int)) :: qs) := by
  obtain ⟨n, rfl⟩ : ∃ n, s = n + 1 := ⟨s - 1, by omega⟩
  have e := ap_take s2 h
  conv => lhs; rw [e]
  rw [List.foldl_append, grp_block hd hsh n]
theorem shut_next {qs : List Run} {r0 d m : Int} {s : Nat} (hs : 2 ≤ s) (hm : m ≠ r0 + d * (s : Int)) : Shut ((r0, if 1 < s then d else 1, (s : Int)) :: qs) m := by
  unfold Shut
  simp only [grpS]
  rw [if_neg]
  rw [if_pos (by omega)]
  intro z
  rcases z with z | z
  · omega
  · exact hm z
def spreadL (n : Nat) (sh : Int) : List Int := (List.range n).map fun (k : Nat) => 7 * (k : Int).fdiv 2 + (k : Int).fmod 2 + sh * (k : Int) * (k : Int)
theorem spreadL_succ (n : Nat) (sh : Int) : spreadL (n + 1) sh = spreadL n sh ++ [7 * (n : Int).fdiv 2 + (n : Int).fmod 2 + sh * (n : Int) * (n : Int)] := by unfold spreadL; rw [List.range_succ, List.map_append]; rfl
def sp_spread (K : PySem.W.Frag) : Sp := sp_f K (fun x : Int × Int => [.int x.1, .int x.2]) (fun x => (0 ≤ x.1 ∧ x.1 ≤ 800) ∧ 0 ≤ x.2 ∧ x.2 ≤ 10) (fun x => .tuple ((spreadL x.1.toNat x.2).map .int))
def sp_numR (K : PySem.W.Frag) : Sp := fun vs H Q _ => ∃ (Z : Hp) (p dl al : Addr) (x : V) (rs : List Run), vs = [.ref p, x] ∧ Iv (pot p dl al) Z 0 H ∧ Dq K (hid (pot p dl al) Z H) x (runsD rs) ∧ RunsUp (-1) rs ∧ rs.length ≤ 60 ∧ (∀ r ∈ rs, RunOk r) ∧
  ∀ (H' : Hp), Iv (pot p dl al) Z 0 H' → Kp (pot p dl al) Z H H' → Q (.bl true) H'
theorem ev_oddP {K : PySem.W.Frag} {Z H0 : Hp} {p dl al : Addr} {σ : L2.St} {i : Nat} (e : σ[i]? = some (some (.ref p))) : Ev (pot p dl al) Z 0 H0 σ (tCall (sp_oddP K) [] E0 (tCons (tVar i) tNil)) (DR K (Sm 60 3)) := fun H b Q P k q => ⟨_, e, Z, p, dl, al, rfl, P.less (Nat.zero_le _), fun x H' P' k' r => q x H' ⟨P'.src, P'.zz, P'.zo⟩ k' r⟩
end Lg

namespace Lg
open PySem PySem.Spec PyProof.Rows L2 Lm
theorem sumC_cons (r : Run) (rs : List Run) : sumC (r :: rs) = r.2.2 + sumC rs := by unfold sumC; rw [List.map_cons, List.sum_cons]
theorem sumC_le : ∀ {rs : List Run} {b : Int}, RunsUp b rs → sumC rs ≤ endL b rs - b ∧ 0 ≤ sumC rs
  | [], b, _ => by
    show (0 : Int) ≤ b - b ∧ (0 : Int) ≤ 0
    omega
  | r :: rs, b, ⟨u1, u2, u3, u4⟩ => by
    obtain ⟨i1, i2⟩ := sumC_le u4
    rw [sumC_cons]
    show r.2.2 + sumC rs ≤ endL (lastM r) rs - b ∧ _
    have : r.2.2 - 1 ≤ r.2.1 * (r.2.2 - 1) := by
      have := Int.mul_le_mul_of_nonneg_right u2 (show 0 ≤ r.2.2 - 1 by omega)
      omega
    unfold lastM at i1 ⊢
    omega
theorem endL_le : ∀ {rs : List Run} {b : Int}, b ≤ 1000000000 → (∀ r ∈ rs, RunOk r) → endL b rs ≤ 1000000000
  | [], b, h, _ => h
  | r :: rs, b, _, ok => show endL (lastM r) rs ≤ 1000000000 from endL_le (ok r List.mem_cons_self).l fun x hx => ok x (List.mem_cons_of_mem _ hx)
theorem motAt_none : ∀ {rs : List Run} {i : Int}, (∀ r ∈ rs, RunOk r) → sumC rs ≤ i → motAt rs i = none
  | [], _, _, _ => rfl
  | r :: rs, i, ok, h => by
    rw [sumC_cons] at h
    have nn : 0 ≤ sumC rs := by
      clear h
      have : ∀ {qs : List Run}, (∀ r ∈ qs, RunOk r) → 0 ≤ sumC qs := fun {qs} => by
        induction qs with
        | nil => exact fun _ => Int.le_refl 0
        | cons q t ih =>
          intro o
          have a := ih fun x hx => o x (List.mem_cons_of_mem _ hx)
          have b := (o q List.mem_cons_self).c
          rw [sumC_cons]; omega
      exact this fun x hx => ok x (List.mem_cons_of_mem _ hx)
    simp only [motAt]
    rw [if_neg (by omega)]
    exact motAt_none (fun x hx => ok x (List.mem_cons_of_mem _ hx)) (by omega)
/-- the law's own count of a run -/
def befG (m : Int) (r : Run) : Int := if (if -((r.1 - m).fdiv r.2.1) < r.2.2 then -((r.1 - m).fdiv r.2.1) else r.2.2) > 0 then (if -((r.1 - m).fdiv r.2.1) < r.2.2 then -((r.1 - m).fdiv r.2.1) else r.2.2) else 0
theorem befG_eq {m : Int} {r : Run} (ok : RunOk r) : befG m r = if r.1 < m then (if rup (m - r.1) r.2.1 < r.2.2 then rup (m - r.1) r.2.1 else r.2.2) else 0 := by
  have s := ok.s
  have c := ok.c
  unfold befG
  obtain ⟨n1, n2⟩ := neg_fdiv (x := m - r.1) (b := r.2.1) s.1
  rw [show -(m - r.1) = r.1 - m by omega] at n1 n2
  by_cases h : r.1 < m
  · have e := rup_uniq (by omega) s.1 n1 n2
    rw [if_pos h, ← e]
    have p := rup_one (n := m - r.1) (b := r.2.1) (by omega) s.1
    rw [if_pos (by split <;> omega)]
  · rw [if_neg h]
    have np : -((r.1 - m).fdiv r.2.1) ≤ 0 := by
      apply Classical.byContradiction
      intro z
      have := Int.mul_le_mul_of_nonneg_left (show 1 ≤ -((r.1 - m).fdiv r.2.1) by omega) (show 0 ≤ r.2.1 by omega)
      rw [Int.mul_one] at this
      omega
    rw [if_neg (by split <;> omega)]
theorem befs_sum {m : Int} : ∀ {rs : List Run}, (∀ r ∈ rs, RunOk r) → (rs.map (befG m)).sum = (befs rs m).sum
  | [], _ => rfl
  | r :: rs, ok => by
    have ih := befs_sum (m := m) (rs := rs) fun x hx => ok x (List.mem_cons_of_mem _ hx)
    rw [List.map_cons, List.sum_cons, ih, befG_eq (ok r List.mem_cons_self)]
    unfold befs
    by_cases h : r.1 < m
    · rw [if_pos h, List.filter_cons_of_pos (by rw [decide_eq_true h]), List.map_cons, List.sum_cons]
    · rw [if_neg h, List.filter_cons_of_neg (by rw [decide_eq_false h]; exact fun z => nomatch z), Int.zero_add]
theorem motAt_bd : ∀ {rs : List Run} {i m : Int}, (∀ r ∈ rs, RunOk r) → 0 ≤ i → motAt rs i = some m → 0 ≤ m ∧ m ≤ 1000000000
  | [], _, _, _, _, h => by cases h
  | r :: rs, i, m, ok, h0, h => by
    have o := ok r List.mem_cons_self
    obtain ⟨⟨f0, f1⟩, ⟨s0, s1⟩, ⟨c0, c1⟩, hl⟩ := o
    unfold lastM at hl
    simp only [motAt] at h
    by_cases g : i < r.2.2
    · rw [if_pos g] at h
      have e := Option.some.inj h
      have h1 : 0 ≤ r.2.1 * i := Int.mul_nonneg (by omega) h0
      have h2 : r.2.1 * i ≤ r.2.1 * (r.2.2 - 1) := Int.mul_le_mul_of_nonneg_left (by omega) (by omega)
      omega
    · rw [if_neg g] at h
      exact motAt_bd (fun x hx => ok x (List.mem_cons_of_mem _ hx)) (by omega) h
theorem befG_bd {m : Int} {r : Run} (ok : RunOk r) : 0 ≤ befG m r ∧ befG m r ≤ r.2.2 := by
  have c := ok.c
  unfold befG
  split <;> split <;> omega
theorem befs_bd {m : Int} : ∀ {rs : List Run}, (∀ r ∈ rs, RunOk r) → 0 ≤ (rs.map (befG m)).sum ∧ (rs.map (befG m)).sum ≤ sumC rs
  | [], _ => ⟨Int.le_refl 0, Int.le_refl 0⟩
  | r :: rs, ok => by
    obtain ⟨i1, i2⟩ := befs_bd (m := m) (rs := rs) fun x hx => ok x (List.mem_cons_of_mem _ hx)
    obtain ⟨b1, b2⟩ := befG_bd (m := m) (ok r List.mem_cons_self)
    rw [List.map_cons, List.sum_cons, sumC_cons]
    omega
def isLs : PyData → Bool | .list _ => true | _ => false
theorem kit_ls (d : PyData) : kitB (tyN d) "list" = some (isLs d) := by cases d <;> simp only [tyN, isLs] <;> decide +kernel
theorem told1_sm {w : Str} {d : PyData} {o : Option Int} (hw : Sm 60 3 (.str w)) (hd : Sm 60 3 d) (ho : ∀ m, o = some m → m.natAbs < 10 ^ 12) : Sm 127 4 (told1 w d o) := by
  cases o with
  | some m => exact (Sm.int (ho m rfl)).wide (by decide) (by decide)
  | none => exact Sm.list (c := 2) (n := 60) (k := 3) (ds := [.str w, d]) (fun x hx => by
      rcases List.mem_cons.mp hx with e | e
      · rw [e]; exact hw
      · rw [List.mem_singleton.mp e]; exact hd) (Nat.le_refl _)
section
variable {K : PySem.W.Frag} {S : Src} {Z H0 : Hp} {σ : L2.St} {te : TE} {n : Nat} {a b : Int}
theorem ev_irD (h : Ev S Z n H0 σ te (IR a b)) (ha : -100000000000 ≤ a := by omega) (hb : b ≤ 100000000000 := by omega) : Ev S Z n H0 σ te (DR K (Sm 60 3)) := h.imp fun v G ⟨i, e, i0, i1⟩ => ⟨.int i, by rw [e]; exact .int _, (Sm.int (by omega)).wide (by decide) (by decide)⟩
theorem ev_blD {c : Bool} : Ev S Z 0 H0 σ (tC (.bl c)) (DR K (Sm 60 3)) := ev_c.imp fun v G e => ⟨.bool c, by rw [e]; exact .bl _, (Sm.bool c).wide (by decide) (by decide)⟩
theorem ev_nonD : Ev S Z 0 H0 σ (tC .non) (DR K (Sm 60 3)) := ev_c.imp fun v G e => ⟨.none, by rw [e]; exact .non, sm_chk (by decide +kernel)⟩
end
end Lg

namespace Lg
open PySem PySem.Spec PyProof.Rows L2 Lm
theorem piled_mem : ∀ {ts : List Str} {t : Str}, t ∈ ts → t.length + 2 ≤ piled ts
  | x :: r, t, h => by
    rw [piled_cons]
    rcases List.mem_cons.mp h with e | e
    · rw [e]; omega
    · have := piled_mem e; omega
theorem piled_len : ∀ (ts : List Str), 2 * ts.length ≤ piled ts
  | [] => Nat.zero_le _
  | x :: r => by
    have := piled_len r
    rw [piled_cons, List.length_cons]
    omega
theorem tupText_ge (ts : List Str) : piled ts ≤ (tupleText ts).length + 2 := Nat.le_trans (piled_le_tupleText ts) (by omega)
theorem shown_mem : ∀ {ds : List PyData} {e : PyData}, e ∈ ds → e.shown ∈ PyData.shownAll ds
  | d :: r, e, h => by
    simp only [PyData.shownAll]
    rcases List.mem_cons.mp h with z | z
    · rw [z]; exact List.mem_cons_self
    · exact List.mem_cons_of_mem _ (shown_mem z)
theorem shown_len : ∀ (ds : List PyData), (PyData.shownAll ds).length = ds.length
  | [] => rfl
  | d :: r => by simp only [PyData.shownAll, List.length_cons, shown_len r]
theorem show_all : ∀ {ds : List PyData} {e : PyData}, PyData.showableAll ds = true → e ∈ ds → e.showable = true
  | d :: r, e, h, m => by
    simp only [PyData.showableAll, Bool.and_eq_true] at h
    rcases List.mem_cons.mp m with z | z
    · rw [z]; exact h.1
    · exact show_all h.2 z
theorem depth_all : ∀ {ds : List PyData} {e : PyData}, e ∈ ds → e.depth ≤ PyData.depthAll ds
  | d :: r, e, m => by
    simp only [PyData.depthAll]
    rcases List.mem_cons.mp m with z | z
    · rw [z]; exact Nat.le_max_left _ _
    · exact Nat.le_trans (depth_all z) (Nat.le_max_right _ _)
theorem item_sm {n k : Nat} {ds : List PyData} {e : PyData} (h : Sm n k (.tuple ds)) (m : e ∈ ds) : Sm n k e := by
  refine ⟨?_, ?_, ?_⟩
  · have := h.sh
    simp only [PyData.showable] at this
    exact show_all this m
  · have := h.dp
    simp only [PyData.depth] at this
    have := depth_all m
    omega
  · have := h.sz
    simp only [PyData.shown] at this
    have a := tupText_ge (PyData.shownAll ds)
    have b := piled_mem (shown_mem m)
    omega
theorem tup_len {n k : Nat} {ds : List PyData} (h : Sm n k (.tuple ds)) : 2 * ds.length ≤ n + 2 := by
  have := h.sz
  simp only [PyData.shown] at this
  have a := tupText_ge (PyData.shownAll ds)
  have b := piled_len (PyData.shownAll ds)
  rw [shown_len] at b
  omega
theorem minGo_mem : ∀ {ds : List PyData} {b : Int} {e : PyData}, minGo ds b = some e → e ∈ ds
  | .int m :: r, b, e, h => by
    simp only [minGo] at h
    split at h
    · exact List.mem_cons_of_mem _ (minGo_mem h)
    · cases h; exact List.mem_cons_self
  | .none :: _, _, _, h => by simp [minGo] at h; rw [← h]; exact List.mem_cons_self
  | .bool _ :: _, _, _, h => by simp [minGo] at h; rw [← h]; exact List.mem_cons_self
  | .str _ :: _, _, _, h => by simp [minGo] at h; rw [← h]; exact List.mem_cons_self
  | .list _ :: _, _, _, h => by simp [minGo] at h; rw [← h]; exact List.mem_cons_self
  | .tuple _ :: _, _, _, h => by simp [minGo] at h; rw [← h]; exact List.mem_cons_self
  | .dict _ :: _, _, _, h => by simp [minGo] at h; rw [← h]; exact List.mem_cons_self
theorem ginv_all {ms : List Int} (ha : Asc (-1) ms) (hb : ∀ m ∈ ms, 0 ≤ m ∧ m ≤ 1000000000) : ∀ i : Nat, i ≤ ms.length → GInv ms i ((ms.take i).foldl grpS [])
  | 0, _ => fun r hr => nomatch hr
  | i + 1, h => by
    have hm : ms[i]? = some (ms[i]'(by omega)) := List.getElem?_eq_getElem (by omega)
    rw [foldl_take grpS [] ms hm]
    exact ginv_step ha hb hm (ginv_all ha hb i (by omega))
theorem due_fine {n k : Nat} {d : PyData} (h : Sm n k d) (hn : n ≤ 100000) (hk : k ≤ 50) (hl : lenOk d) : Fine (dueOf d) := by
  have key : ∃ n' k', Sm n' k' (dueOf d) ∧ n' ≤ 16777216 ∧ k' ≤ 100 := by
    unfold dueOf
    cases he : minErr d with
    | some e =>
      have se : Sm n k e := by
        cases d with
        | tuple ds => exact item_sm h (minGo_mem (show minGo ds (-1) = some e from he))
        | _ => cases he; exact h
      refine ⟨2 * (n + 20 + 2) + 3, k + 1, Sm.list (c := 2) (n := n + 20) (k := k) (ds := [.str "minute", e]) (fun x hx => ?_) (Nat.le_refl _), by omega, by omega⟩
      rcases List.mem_cons.mp hx with z | z
      · rw [z]; exact (show Sm 20 0 (.str "minute") from sm_chk (by decide +kernel)).wide (by omega) (Nat.zero_le _)
      · rw [List.mem_singleton.mp z]; exact se.wide (by omega) (Nat.le_refl _)
    | none =>
      simp only [dueGo]
      split
      · exact ⟨60, 3, sm_chk (by decide +kernel), by decide, by decide⟩
      · rename_i g
        have hds : ∃ ds, d = .tuple ds := by
          cases d with
          | tuple ds => exact ⟨ds, rfl⟩
          | _ => cases he
        obtain ⟨ds, rfl⟩ := hds
        obtain ⟨ms, rfl, ha, hb⟩ := minGo_ints (show minGo ds (-1) = none from he)
        have hl : (ms.map PyData.int).length ≤ 800 := hl
        rw [List.length_map] at hl
        rw [grpOf_ints] at g ⊢
        have gi := ginv_all ha hb ms.length (Nat.le_refl _)
        rw [List.take_length] at gi
        refine ⟨360 * (48 + 2) + 3, 2, Sm.tuple (c := 360) (n := 48) (k := 1) (fun x hx => ?_) (by rw [List.length_map]; omega), by decide, by decide⟩
        obtain ⟨r, hr, rfl⟩ := List.mem_map.mp hx
        have hr' : r ∈ ms.foldl grpS [] := List.mem_reverse.mp hr
        obtain ⟨g1, g2, g3, g4⟩ := gi r hr'
        have b1 := hb _ (List.mem_of_mem_take g1)
        refine Sm.tuple (c := 3) (n := 13) (k := 0) (ds := [.int r.1, .int r.2.1, .int r.2.2]) (fun y hy => ?_) (Nat.le_refl _)
        rcases List.mem_cons.mp hy with e | e
        · rw [e]; exact Sm.int (by omega)
        · rcases List.mem_cons.mp e with e | e
          · rw [e]; exact Sm.int (by omega)
          · rw [List.mem_singleton.mp e]; exact Sm.int (by omega)
  obtain ⟨n', k', s, h1, h2⟩ := key
  exact s.fine h1 h2
def Val (d : PyData) : Prop := Sm 60000 4 d ∧ lenOk d
theorem dr_all {K : PySem.W.Frag} {G : Hp} {φ : PyData → Prop} : ∀ {xs : List V}, (∀ x ∈ xs, DR K φ x G) → ∃ ds, Dqs K G xs ds ∧ ∀ d ∈ ds, φ d
  | [], _ => ⟨[], .nil, fun d h => nomatch h⟩
  | x :: r, h => by
    obtain ⟨d, hd, sd⟩ := h x List.mem_cons_self
    obtain ⟨ds, hds, sds⟩ := dr_all (xs := r) fun y hy => h y (List.mem_cons_of_mem _ hy)
    exact ⟨d :: ds, .cons hd hds, fun e he => by
      rcases List.mem_cons.mp he with z | z
      · rw [z]; exact sd
      · exact sds e z⟩
theorem tp_val {K : PySem.W.Frag} {a c : Nat} {G : Hp} {v : V} (hc : c ≤ 800) (h : TpR K a c (DR K (Sm 60 3)) v G) : DR K Val v G := by
  obtain ⟨l, xs, rfl, g, _, lc, hx⟩ := h
  obtain ⟨ds, hds, sds⟩ := dr_all hx
  have len := hds.len
  refine ⟨.tuple ds, .tup g hds, (Sm.tuple (c := c) (n := 60) (k := 3) sds (by omega)).wide (by omega) (Nat.le_refl _), ?_⟩
  show ds.length ≤ 800
  omega
theorem ls_val {K : PySem.W.Frag} {a c : Nat} {G : Hp} {v : V} (hc : c ≤ 800) (h : LsR a c (DR K (Sm 60 3)) v G) : DR K Val v G := by
  obtain ⟨l, xs, rfl, g, _, lc, hx⟩ := h
  obtain ⟨ds, hds, sds⟩ := dr_all hx
  have len := hds.len
  exact ⟨.list ds, .lst (.inl (.inl g)) hds, (Sm.list (c := c) (n := 60) (k := 3) sds (by omega)).wide (by omega) (Nat.le_refl _), trivial⟩
theorem odd_val {K : PySem.W.Frag} {G : Hp} {v : V} (h : DR K (Sm 60 3) v G) : DR K Val v G := by
  obtain ⟨d, hd, sd⟩ := h
  refine ⟨d, hd, sd.wide (by decide) (by decide), ?_⟩
  cases d with
  | tuple ds =>
    have := tup_len sd
    show ds.length ≤ 800
    omega
  | _ => trivial
/-- minutes as a tuple of small numbers -/
theorem mins_tp {K : PySem.W.Frag} {G : Hp} {v : V} {ms : List Int} (h : Dq K G v (intsT ms)) (hm : MinsP ms) : TpR K 0 60 (DR K (Sm 60 3)) v G := by
  obtain ⟨a, xs, rfl, g, hd⟩ := dq_tup h
  obtain rfl := dqs_ints hd
  refine ⟨a, _, rfl, g, Nat.zero_le _, by rw [List.length_map]; exact hm.2.1, fun x hx => ?_⟩
  obtain ⟨z, hz, rfl⟩ := List.mem_map.mp hx
  have := hm.2.2 z hz
  exact ⟨.int z, .int z, (Sm.int (by omega)).wide (by decide) (by decide)⟩
section
variable {K : PySem.W.Frag} {S : Src} {Z H0 : Hp} {σ : L2.St} {te : TE} {n : Nat} {R : VR}
theorem ev_revT {a b : Nat} (hm : Mo R) (h : Ev S Z n H0 σ te (TpR K a b R)) : Ev S Z n H0 σ (tRevT K te) (TpR K a b R) :=
  fun H bb Q P k q => h H bb _ P k fun x H1 P1 k1 r1 => by
    obtain ⟨l, xs, rfl, g, a1, a2, a3⟩ := r1
    refine ⟨l, xs, rfl, Same.seqT hid_same g, fun t nt => ?_⟩
    obtain ⟨P4, k4, e4⟩ := laid (o := .tup xs.reverse) P1 nt
    exact q _ _ P4 (k1.trans k4) ⟨t, _, rfl, .inl (.inl e4), by rw [List.length_reverse]; exact a1, by rw [List.length_reverse]; exact a2, fun v hv => hm _ _ _ k4 (a3 v (List.mem_reverse.mp hv))⟩
theorem ev_val {a c : Nat} (hc : c ≤ 800) (h : Ev S Z n H0 σ te (TpR K a c (DR K (Sm 60 3)))) : Ev S Z n H0 σ te (DR K Val) := h.imp fun v G r => tp_val hc r
theorem ev_strD {x : Str} (hx : Sm 60 3 (.str x)) : Ev S Z 0 H0 σ (tC (.str x)) (DR K (Sm 60 3)) := ev_c.imp fun v G e => ⟨.str x, by rw [e]; exact .str _, hx⟩
theorem spreadL_bd {n : Nat} {sh : Int} (h0 : 0 ≤ sh) (h1 : sh ≤ 10) (hn : n ≤ 800) : ∀ z ∈ spreadL n sh, 0 ≤ z ∧ z < 100000000 := fun z hz => by
  obtain ⟨k, hk, rfl⟩ := List.mem_map.mp hz
  have hk := List.mem_range.mp hk
  rw [Int.fdiv_eq_ediv_of_nonneg _ (by decide), Int.fmod_eq_emod_of_nonneg _ (by decide)]
  have a1 : sh * (k : Int) ≤ 10 * 800 := Int.mul_le_mul h1 (by omega) (by omega) (by decide)
  have a0 : 0 ≤ sh * (k : Int) := Int.mul_nonneg h0 (by omega)
  have b1 : sh * (k : Int) * (k : Int) ≤ 8000 * 800 := Int.mul_le_mul a1 (by omega) (by omega) (by decide)
  have b0 : 0 ≤ sh * (k : Int) * (k : Int) := Int.mul_nonneg a0 (by omega)
  omega
theorem ev_spread {c sh : Int} (hc : 0 ≤ c) (hc1 : c ≤ 800) (h0 : 0 ≤ sh) (h1 : sh ≤ 10) : Ev S Z 0 H0 σ (tCall (sp_spread K) [] E0 (tCons (tC (.int c)) (tCons (tC (.int sh)) tNil))) (TpR K 0 c.toNat (DR K (Sm 60 3))) := fun H b Q P k q =>
  ⟨NZ S Z, (c, sh), P.occ, .cons (.int _) (.cons (.int _) .nil), ⟨⟨hc, hc1⟩, h0, h1⟩, fun r H' s d => by
    have d : Dq K (cut (NZ S Z) H') r (.tuple ((spreadL c.toNat sh).map .int)) := d
    obtain ⟨a, xs, rfl, g, hd⟩ := dq_tup d
    obtain rfl := dqs_ints hd
    refine q _ _ ((P.less (by omega)).keep s) (Kp.of s) ⟨a, _, rfl, g, Nat.zero_le _, by rw [List.length_map]; unfold spreadL; rw [List.length_map, List.length_range]; exact Nat.le_refl _, fun x hx => ?_⟩
    obtain ⟨z, hz, rfl⟩ := List.mem_map.mp hx
    have := spreadL_bd h0 h1 (by omega) z hz
    exact ⟨.int z, .int z, (Sm.int (by omega)).wide (by decide) (by decide)⟩⟩
theorem ev_zeros : Ev S Z 0 H0 σ (tOp (rRepT K) (tTup (tCons (tC (.int 0)) tNil)) (tC (.int 700))) (TpR K 0 700 (DR K (Sm 60 3))) := fun H b Q P k q =>
  ⟨Nat.le_of_lt (small1000 (Nat.le_add_left 1 999)), fun t nt => ⟨t, 700, [.int 0], rfl, rfl, .inl (.inl upd_same), by simp, by decide, by decide, by decide, fun p np => by
    obtain ⟨P1, k1, e1⟩ := laid (o := .tup [.int 0]) (P.less (c := b) (by omega)) nt
    obtain ⟨P2, k2, e2⟩ := laid (o := .tup (List.replicate (700 : Int).toNat [V.int 0]).flatten) P1 np
    refine q _ _ P2 (k1.trans k2) ⟨p, _, rfl, .inl (.inl e2), Nat.zero_le _, by simp, fun x hx => ?_⟩
    obtain ⟨l, hl, hx⟩ := List.mem_flatten.mp hx
    rw [List.eq_of_mem_replicate hl] at hx
    rw [List.mem_singleton.mp hx]
    exact ⟨.int 0, .int 0, (Sm.int (by decide)).wide (by decide) (by decide)⟩⟩⟩
end
end Lg

namespace Lg
open PySem PySem.Spec PyProof.Rows L2 Lm
/-! ### set(list of whole numbers), sorted(set(..)) -/
abbrev newSet (w : World) : Obj := ⟨.type "set", none, .set #[] 0 (.fresh 0 0 (!w.params.followText "set-order")), #[]⟩
abbrev pushed (w : World) (h : Heap) : Heap := h.push (newSet w)
section
variable {P : Program} {w : World} {A : Around} {E : Value → Shared → Prop} {s : Shared}
/-- the filling of the new set from the list -/
theorem set_fill {l : Addr} {items : Array Value} {ns : List Int} (hd : A.handled = none) (isl : s.heap.IsList l items) (ia : IntsAre items.toList ns) (small : ns.length + 1 < scanBound)
    {R : Result → Shared → Prop} (k : ∀ (h' : Heap) (tk c : Nat), SetR w h' s.heap.objs.size (fun j => decide (j ∈ ns)) c → c ≤ ns.length → (∀ b o, s.heap.get? b = some o → h'.get? b = some o) → R (.ok (.ret .none)) { s with heap := h', toks := tk }) :
    codeAny (model P w) A (.builtin "set.update.loop" ⟨[.ref s.heap.objs.size, .ref (pushed w s.heap).objs.size], []⟩) R { s with heap := (pushed w s.heap).push { cls := .type "list_iterator", data := .fields #[.ref l, .int 0 0] } } := by
  have sz : items.size = ns.length := by rw [← ia.length, Array.length_toList]
  have lt : l < s.heap.objs.size := by
    obtain ⟨o, e, _⟩ := isl
    exact Heap.lt_size e
  have one : (pushed w s.heap).objs.size = s.heap.objs.size + 1 := Heap.size_push ..
  have up : s.heap.objs.size < (pushed w s.heap).objs.size := by rw [one]; exact Nat.lt_succ_self _
  have apart : l ≠ (pushed w s.heap).objs.size := Nat.ne_of_lt (Nat.lt_trans lt up)
  have away : s.heap.objs.size ∉ [(pushed w s.heap).objs.size, l] := by
    intro z
    rcases List.mem_cons.mp z with z | z
    · exact absurd z (Nat.ne_of_lt up)
    · exact absurd (List.mem_singleton.mp z) (Nat.ne_of_gt lt)
  have hd1 : A.in1.handled = none := by simp [hd]
  have there : (pushed w s.heap).get? s.heap.objs.size = some (newSet w) := Heap.get?_push_size _ rfl
  have isl1 : (pushed w s.heap).IsList l items := isl.push _
  refine set_update_ints ((Walks.list hd1 _ l apart items).toS) s.heap.objs.size away ns sz small (fun i v hv => ?_) items.size 0 _ (Nat.sub_zero _) (Nat.zero_le _) ⟨⟨_, Heap.get?_push_size _ rfl, rfl, rfl⟩, isl1.push _⟩
    ⟨0, Nat.le_refl 0, setR_new_at (Heap.get?_push_of_some _ there)⟩ fun s' c mv hc hS => ?_
  · have li : i < ns.length := by rw [← sz]; exact (Array.getElem?_eq_some_iff.mp hv).1
    obtain ⟨t, e⟩ := ia.int_at i v (by rw [Array.getElem?_toList]; exact hv)
    have g := List.getElem?_eq_getElem li
    exact ⟨ns[i], t, g, by rw [e, List.getD_eq_getElem?_getD, g] <;> rfl⟩
  · have eg := mv.gens
    have ed := mv.drawn
    have eo := mv.os
    obtain ⟨h', g', d', tk', os'⟩ := s'
    cases eg
    cases ed
    cases eo
    refine k h' tk' c hS (by omega) fun b o e => ?_
    have lb := Heap.lt_size e
    refine mv.heap b o (fun z => ?_) (Heap.get?_push_of_some _ (Heap.get?_push_of_some _ e))
    rcases List.mem_cons.mp z with z | z
    · exact absurd z (Nat.ne_of_lt lb)
    · exact absurd (List.mem_singleton.mp z) (Nat.ne_of_lt (Nat.lt_trans lb up))
/-- what set.__init__ leaves -/
def Filled (w : World) (s : Shared) (ns : List Int) (r : Value) (s2 : Shared) : Prop := r = .none ∧ ∃ (h' : Heap) (tk c : Nat), s2 = { s with heap := h', toks := tk } ∧ SetR w h' s.heap.objs.size (fun j => decide (j ∈ ns)) c ∧ c ≤ ns.length ∧ ∀ b o, s.heap.get? b = some o → h'.get? b = some o
theorem set_init {l : Addr} {items : Array Value} {ns : List Int} (hd : A.handled = none) (isl : s.heap.IsList l items) (ia : IntsAre items.toList ns) (small : ns.length + 1 < scanBound) :
    codeAny (model P w) A (.call (.builtin "set.__init__") ⟨[.ref s.heap.objs.size, .ref l], []⟩) (wants (Filled w s ns) E) { s with heap := pushed w s.heap } := by
  have there : (pushed w s.heap).get? s.heap.objs.size = some (newSet w) := Heap.get?_push_size _ rfl
  have ty : Shared.TypeIs { s with heap := pushed w s.heap } (.ref s.heap.objs.size) "set" := ⟨_, there, rfl⟩
  refine codeAny_call_builtin F.called_set.init.plain F.entry_set_init (check_set_init_1 ty ?_)
  have isl1 : (pushed w s.heap).IsList l items := isl.push _
  obtain ⟨⟨oc, od, da, os⟩, ho, c1, nl, c2⟩ := isl
  simp only at c1 c2
  subst c1 c2
  have ho1 : (pushed w s.heap).get? l = some { cls := .type "list", dict := od, data := .seq items nl, slots := os } := Heap.get?_push_of_some _ ho
  have isl0 : s.heap.IsList l items := ⟨_, ho, rfl, nl, rfl⟩
  have f1 := F.sub_list_set
  have f2 := F.sub_list_frozenset
  have f3 : (Value.type "list" == Value.type "dict") = false := by decide
  unfold Builtin.«set.__init__» noKeywords Builtin.Frozenset.updateFrom
  generalize hI : pyIter = I
  wp_walk
  subst hI
  refine wpAny_pyIter_list isl1 (wpAny_bind (wpAny_runValue ?_))
  refine set_fill (by simp [hd]) isl0 ia small fun h' tk c hS hc kk => ?_
  show wpAny _ _ _ _ _ _
  refine wpAny_pure ?_
  show wpAny _ _ (ret Value.none) _ _ _
  exact wpAny_pure ⟨rfl, h', tk, c, rfl, hS, hc, kk⟩
theorem set_call {l : Addr} {items : Array Value} {ns : List Int} {Q : Value → Shared → Prop} (hd : A.handled = none) (isl : s.heap.IsList l items) (ia : IntsAre items.toList ns) (small : ns.length + 1 < scanBound)
    (k : ∀ (h' : Heap) (tk c : Nat), SetR w h' s.heap.objs.size (fun j => decide (j ∈ ns)) c → c ≤ ns.length → (∀ b o, s.heap.get? b = some o → h'.get? b = some o) → Q (.ref s.heap.objs.size) { s with heap := h', toks := tk }) :
    wpAny (model P w) A (call (.type "set") [.ref l]) Q E s := by
  obtain ⟨mc, mt, mro⟩ := F.called_set.mro
  have g1 := F.called_set.made
  have g2 := F.called_set.sub
  have g3 := F.called_set.notType
  have g4 := F.called_set.canCreate
  have g5 := F.typeCall_set_1 (.ref l)
  refine wpAny_call (codeAny_of_tree (show wpAny _ _ (callAny (.type "set") _) _ _ _ from wpAny_pure ⟨Code.quiet_builtin _ (by decide +kernel), codeAny_builtin F.entry_type_call ?_⟩))
  rw [Around.under_plain (weight_type_call_type "set" [.ref l] []) rfl]
  repeat (any_goals (first | assumption | wp_step))
  refine codeAny_mono (code_set_led1 (.ref l) (E := E) (Q₁ := fun u s1 => u = .ref s.heap.objs.size ∧ s1 = { s with heap := pushed w s.heap }) ⟨rfl, rfl⟩) fun r s1 hr => ?_
  match r, hr with
  | .error _, hr => exact hr
  | .ok .next, hr => exact hr.elim
  | .ok .brk, hr => exact hr.elim
  | .ok .cont, hr => exact hr.elim
  | .ok (.ret u), ⟨e1, e2⟩ =>
    subst e1 e2
    have there : (pushed w s.heap).get? s.heap.objs.size = some (newSet w) := Heap.get?_push_size _ rfl
    have ty : Shared.TypeIs { s with heap := pushed w s.heap } (.ref s.heap.objs.size) "set" := ⟨_, there, rfl⟩
    have g6 := F.called_set.init.lookup
    have g7 := F.called_set.init.bind (.ref s.heap.objs.size)
    repeat (any_goals (first | assumption | wp_step))
    refine codeAny_mono (set_init (E := E) (by simp [hd]) isl ia small) fun r2 s2 hr2 => ?_
    match r2, hr2 with
    | .error _, hr2 => exact hr2
    | .ok .next, hr2 => exact hr2.elim
    | .ok .brk, hr2 => exact hr2.elim
    | .ok .cont, hr2 => exact hr2.elim
    | .ok (.ret v), ⟨e3, h', tk, c, e4, hS, hc, kk⟩ =>
      subst e3 e4
      repeat (any_goals (first | assumption | wp_step))
      exact k _ _ _ hS hc kk
end
section
variable {X : Cx}
theorem setO_room {w : World} {h : Heap} {a : Addr} {S : Int → Bool} {n m : Nat} (R : SetR w h a S n) (e : n ≤ m) : ∃ c, c ≤ m ∧ SetR w h a S c := ⟨n, e, R⟩
/-- set(a list of whole numbers) -/
def rSetLI (K : PySem.W.Frag) (w : World) : List V → Hp → VK → Prop := fun xs H Q => ∃ (l : Addr) (ns : List Int), xs = [.ref l] ∧ SqL K H l (ns.map V.int) ∧ ns.length ≤ 1000 ∧ ∀ (p : Addr) (c : Nat), H p = none → c ≤ ns.length → Q (.ref p) (upd H p (SetO w p (fun j => decide (j ∈ ns)) c))
theorem cr_setLI (hc : X.calm = true) : CallR X (.type "set") (rSetLI X.K X.w) := by
  intro pins s σ H xs us Q I r h
  obtain ⟨l, ns, rfl, hq, hl, q⟩ := h
  rw [Vals.ref1 r]
  obtain ⟨its, rv, isl, len⟩ := I.list hq
  refine set_call (I.ok.hd hc) isl.isList (by simpa using ints_of_vals rv) (show ns.length + 1 < scanBound by unfold scanBound; omega) fun h' tk c hS hcn kk => ?_
  have n0 : H s.heap.objs.size = none := I.hok.fresh (Nat.le_refl _)
  exact ⟨.ref _, upd H s.heap.objs.size (SetO X.w s.heap.objs.size (fun j => decide (j ∈ ns)) c), I.laid (t' := tk) kk (Nat.le_refl _) (setO_new hS), rfl, q _ c n0 hcn⟩
end
end Lg

namespace Lg
open PySem PySem.Spec PyProof.Rows L2 Lm
/-! ### motions as data: the runs in them -/
def runQ : PyData → Option Run
  | .tuple [.int a, .int s, .int c] => some (a, s, c)
  | _ => none
def runsOf : PyData → List Run
  | .tuple ds => ds.filterMap runQ
  | _ => []
structure GoodR (r : Run) : Prop where
  f : 0 ≤ r.1
  s : 1 ≤ r.2.1
  c : 1 ≤ r.2.2
  o : r.2.2 = 1 → r.2.1 = 1
  l : lastM r ≤ 1000000000
theorem GoodR.ok {r : Run} (h : GoodR r) : RunOk r := by
  have b := run_bounds h.f h.s h.c h.o h.l
  exact ⟨⟨h.f, b.1⟩, ⟨h.s, b.2.1⟩, ⟨h.c, b.2.2⟩, h.l⟩
theorem runQ_runD (r : Run) : runQ (runD r) = some r := rfl
theorem runQ_all (rs : List Run) : (rs.map runD).filterMap runQ = rs := by
  induction rs with
  | nil => rfl
  | cons r rs ih => rw [List.map_cons, List.filterMap_cons, runQ_runD, ih]
theorem runsOf_runs (rs : List Run) : runsOf (runsD rs) = rs := runQ_all rs
theorem isN_two {d e : PyData} : isN (two d e) = false := rfl
theorem motGo_runs : ∀ {ds : List PyData} {i : Nat} {b : Int}, isN (motGo ds i b) = true → ds = (ds.filterMap runQ).map runD ∧ (∀ r ∈ ds.filterMap runQ, GoodR r) ∧ RunsUp b (ds.filterMap runQ)
  | [], _, _, _ => ⟨rfl, fun r h => (nomatch h), trivial⟩
  | d :: ds, i, b, h => by
    cases hr : runOf d with
    | none =>
      simp only [motGo, hr] at h
      rw [isN_two] at h
      cases h
    | some ab =>
      obtain ⟨a, s, c, rfl, e, h0, h1, h2, h3, h4, h5⟩ := runOf_wt (d := d) (by rw [hr]; rfl)
      rw [hr] at e
      cases e
      simp only [motGo, hr] at h
      by_cases g : a ≤ b
      · rw [if_pos g, isN_two] at h
        cases h
      · rw [if_neg g] at h
        obtain ⟨i1, i2, i3⟩ := motGo_runs h
        have dec : decide (0 ≤ a ∧ 1 ≤ s ∧ 1 ≤ c ∧ (c = 1 → s = 1) ∧ a + s * (c - 1) ≤ 1000000000) = true := by rw [← runOf_eq, hr]; rfl
        have dd := of_decide_eq_true dec
        have eq : List.filterMap runQ (.tuple [.int a, .int s, .int c] :: ds) = (a, s, c) :: ds.filterMap runQ := by rw [List.filterMap_cons]; rfl
        rw [eq]
        refine ⟨by rw [List.map_cons, ← i1]; rfl, fun r hm => ?_, ⟨by show b < a; omega, h2, h4, i3⟩⟩
        rcases List.mem_cons.mp hm with e | e
        · rw [e]; exact ⟨dd.1, dd.2.1, dd.2.2.1, dd.2.2.2.1, dd.2.2.2.2⟩
        · exact i2 r e
theorem motGo_of : ∀ {rs : List Run} {i : Nat} {b : Int}, (∀ r ∈ rs, GoodR r) → RunsUp b rs → isN (motGo (rs.map runD) i b) = true
  | [], _, _, _, _ => rfl
  | (a, s, c) :: rs, i, b, h, ⟨u1, _, _, u4⟩ => by
    have g := h _ List.mem_cons_self
    have e : runOf (.tuple [.int a, .int s, .int c]) = some (a, a + s * (c - 1)) := if_pos ⟨g.f, g.s, g.c, g.o, g.l⟩
    show isN (motGo (.tuple [.int a, .int s, .int c] :: rs.map runD) i b) = true
    simp only [motGo, e]
    rw [if_neg (show ¬ a ≤ b by have : b < a := u1; omega)]
    exact motGo_of (fun r hr => h r (List.mem_cons_of_mem _ hr)) u4
theorem mot_runs {d : PyData} (h : isN (motErr d) = true) : d = runsD (runsOf d) ∧ (runsOf d).length ≤ 360 ∧ (∀ r ∈ runsOf d, GoodR r) ∧ RunsUp (-1) (runsOf d) := by
  cases d with
  | tuple ds =>
    have e : motErr (.tuple ds) = if 360 < ds.length then two .none (.str "motions") else motGo ds 0 (-1) := rfl
    rw [e] at h
    by_cases g : 360 < ds.length
    · rw [if_pos g] at h; cases h
    · rw [if_neg g] at h
      obtain ⟨i1, i2, i3⟩ := motGo_runs h
      refine ⟨congrArg PyData.tuple i1, ?_, i2, i3⟩
      have := congrArg List.length i1
      rw [List.length_map] at this
      show (ds.filterMap runQ).length ≤ 360
      omega
  | _ => cases h
theorem mot_of {rs : List Run} (h : ∀ r ∈ rs, GoodR r) (u : RunsUp (-1) rs) (l : rs.length ≤ 360) : isN (motErr (runsD rs)) = true := by
  show isN (if 360 < (rs.map runD).length then two .none (.str "motions") else motGo (rs.map runD) 0 (-1)) = true
  rw [if_neg (by rw [List.length_map]; omega)]
  exact motGo_of h u
/-! ### what is explained -/
def hasB (l : Lamp) (rs : List Run) (g : List Stt) : Bool := !decide (60 < (logOf l rs).length) && decide (logOf l rs = g)
def giveB (rs : List Run) : List Lamp → List (List Stt) → Bool
  | l :: ls, g :: gs => hasB l rs g && giveB rs ls gs
  | _, _ => true
def explB (ls : List Lamp) (gs : List (List Stt)) (d : PyData) : Bool := isN (motErr d) && giveB (runsOf d) ls gs
def gsD (gs : List (List Stt)) : PyData := .tuple (gs.map logD)
theorem has_due {l : Lamp} {rs : List Run} {g : List Stt} (hs : 1 ≤ l.2) (u : RunsUp (-1) rs) (hg : g.length ≤ 60) : hasB l rs g = decide (logF l (spreadAll rs) = g) := by
  unfold hasB
  rcases logOf_spec (l := l) hs u with e | ⟨h1, h2⟩
  · rw [← e]
    by_cases q : logF l (spreadAll rs) = g
    · rw [decide_eq_true q, decide_eq_false (show ¬ 60 < (logF l (spreadAll rs)).length by rw [q]; omega)]; rfl
    · rw [decide_eq_false q, Bool.and_false]
  · rw [decide_eq_true h2, decide_eq_false (show ¬ logF l (spreadAll rs) = g from fun q => by rw [q] at h1; omega)]; rfl
theorem give_due {rs : List Run} (u : RunsUp (-1) rs) : ∀ {ls : List Lamp} {gs : List (List Stt)}, gs.length = ls.length → (∀ l ∈ ls, 1 ≤ l.2) → (∀ g ∈ gs, g.length ≤ 60) → giveB rs ls gs = decide ((ls.map fun l => logF l (spreadAll rs)) = gs)
  | [], [], _, _, _ => rfl
  | l :: ls, g :: gs, h, hl, hg => by
    rw [List.map_cons]
    unfold giveB
    rw [has_due (hl l List.mem_cons_self) u (hg g List.mem_cons_self), give_due u (by simpa using h) (fun x hx => hl x (List.mem_cons_of_mem _ hx)) fun x hx => hg x (List.mem_cons_of_mem _ hx)]
    by_cases e1 : logF l (spreadAll rs) = g <;> by_cases e2 : (ls.map fun l => logF l (spreadAll rs)) = gs <;> simp [e1, e2]
  | [], _ :: _, h, _, _ => by simp at h
  | _ :: _, [], h, _, _ => by simp at h
theorem expl_runs {rs : List Run} {ls : List Lamp} {gs : List (List Stt)} (h : ∀ r ∈ rs, GoodR r) (u : RunsUp (-1) rs) (n : rs.length ≤ 360) (e : gs.length = ls.length) (hl : ∀ l ∈ ls, 1 ≤ l.2) (hg : ∀ g ∈ gs, g.length ≤ 60) :
    explB ls gs (runsD rs) = decide ((ls.map fun l => logF l (spreadAll rs)) = gs) := by
  unfold explB
  rw [mot_of h u n, runsOf_runs, give_due u e hl hg, Bool.true_and]
/-! ### equal data -/
theorem eqv_pair (p q : Stt) : PyData.eqv (pD p) (pD q) = decide (p = q) := by
  obtain ⟨a, b⟩ := p
  obtain ⟨c, d⟩ := q
  show (a == c && (b == d && true)) = _
  by_cases e1 : a = c <;> by_cases e2 : b = d <;> simp [e1, e2]
theorem eqvAll_map {α : Type} [DecidableEq α] {D : α → PyData} (h : ∀ a b, PyData.eqv (D a) (D b) = decide (a = b)) : ∀ xs ys : List α, PyData.eqvAll (xs.map D) (ys.map D) = decide (xs = ys)
  | [], [] => rfl
  | [], _ :: _ => rfl
  | _ :: _, [] => rfl
  | x :: xs, y :: ys => by
    show (PyData.eqv (D x) (D y) && PyData.eqvAll (xs.map D) (ys.map D)) = _
    rw [h, eqvAll_map h]
    by_cases e1 : x = y <;> by_cases e2 : xs = ys <;> simp [e1, e2]
theorem eqv_log (a b : List Stt) : PyData.eqv (logD a) (logD b) = decide (a = b) := eqvAll_map eqv_pair a b
theorem eqv_gs (a b : List (List Stt)) : PyData.eqv (gsD a) (gsD b) = decide (a = b) := eqvAll_map eqv_log a b
theorem logs_dp {K : PySem.W.Frag} {G : Hp} : ∀ {xs : List V} {gs : List (List Stt)}, Dqs K G xs (gs.map logD) → DpAll K G xs (gs.map logD)
  | _, [], h => by rw [dqs_nil h]; exact .nil
  | _, q :: r, h => by
    obtain ⟨v, t, rfl, h1, h2⟩ := dqs_cons h
    exact .cons (log_dp h1) (logs_dp h2)
theorem gs_dp {K : PySem.W.Frag} {G : Hp} {v : V} {gs : List (List Stt)} (h : Dq K G v (gsD gs)) : Dp K G v (gsD gs) := by
  obtain ⟨a, xs, rfl, g, hx⟩ := dq_tup h
  exact .tup g (logs_dp hx)
theorem gs_lay : ∀ gs : List (List Stt), PyData.canLayAll0 (gs.map logD) = true ∧ PyData.depthAll (gs.map logD) ≤ 62
  | [] => ⟨rfl, by simp [PyData.depthAll]⟩
  | g :: gs => by
    have h := pD_shaped g
    unfold SeqAt.shaped at h
    obtain ⟨h1, h2⟩ := Bool.and_eq_true_iff.mp h
    have ih := gs_lay gs
    refine ⟨?_, ?_⟩
    · show (PyData.canLay0 (logD g) && PyData.canLayAll0 (gs.map logD)) = true
      rw [show PyData.canLay0 (logD g) = true from h1, ih.1]; rfl
    · rw [List.map_cons]
      simp only [PyData.depthAll]
      refine Nat.max_le.mpr ⟨?_, ih.2⟩
      have := pD_depth g
      simp only [logD, PyData.depth]
      omega
theorem gs_shaped (gs : List (List Stt)) : SeqAt.shaped (gsD gs) = true := by
  obtain ⟨h1, h2⟩ := gs_lay gs
  unfold SeqAt.shaped
  refine Bool.and_eq_true_iff.mpr ⟨h1, decide_eq_true ?_⟩
  simp only [gsD, PyData.depth]
  omega
/-! ### minutes put together one by one -/
def gpS : List Run → Int → List Run
  | [], m => [(m, 1, 1)]
  | r :: rs, m => if r.2.2 = 1 then (r.1, m - r.1, 2) :: rs else if 1 < r.2.2 ∧ r.1 + r.2.1 * r.2.2 = m then (r.1, r.2.1, r.2.2 + 1) :: rs else (m, 1, 1) :: r :: rs
def gpF (ms : List Int) : List Run := (ms.foldl gpS []).reverse
structure GpR (B : Int) (n : Nat) (r : Run) : Prop where
  f : 0 ≤ r.1 ∧ r.1 ≤ B
  s : 1 ≤ r.2.1 ∧ r.2.1 ≤ B + 1
  c : 1 ≤ r.2.2 ∧ r.2.2 ≤ n
  o : r.2.2 = 1 → r.2.1 = 1
theorem GpR.wide {B C : Int} {n m : Nat} {r : Run} (h : GpR B n r) (h1 : B ≤ C) (h2 : n ≤ m) : GpR C m r := ⟨by have := h.f; omega, by have := h.s; omega, by have := h.c; omega, h.o⟩
theorem ap_one (f st : Int) : ap f st 1 = [f] := by simp [ap]
theorem gpS_step {rs : List Run} {b m : Int} {n : Nat} (h : ∀ r ∈ rs, GpR b n r) (hn : 1 ≤ n ∨ rs = []) (b0 : b < m) (m0 : 0 ≤ m) :
    spreadAll (gpS rs m).reverse = spreadAll rs.reverse ++ [m] ∧ (∀ r ∈ gpS rs m, GpR m (n + 1) r) ∧ (gpS rs m).length ≤ rs.length + 1 := by
  have one : GpR m (n + 1) (m, 1, 1) := ⟨⟨m0, Int.le_refl _⟩, ⟨Int.le_refl _, by show (1 : Int) ≤ m + 1; omega⟩, ⟨Int.le_refl _, by show (1 : Int) ≤ ((n + 1 : Nat) : Int); omega⟩, fun _ => rfl⟩
  cases rs with
  | nil =>
    refine ⟨?_, fun r hr => ?_, Nat.le_refl _⟩
    · show spreadAll [(m, 1, 1)] = [m]
      simp [spreadAll, ap]
    · rw [List.mem_singleton.mp hr]; exact one
  | cons r rs =>
    have hr := h r List.mem_cons_self
    have hrs : ∀ x ∈ rs, GpR m (n + 1) x := fun x hx => (h x (List.mem_cons_of_mem _ hx)).wide (by omega) (Nat.le_succ _)
    obtain ⟨f, s, c⟩ := r
    have hf := hr.f
    have hs := hr.s
    have hc := hr.c
    simp only at hf hs hc
    simp only [gpS]
    split
    · rename_i g
      have g : c = 1 := g
      refine ⟨?_, fun x hx => ?_, Nat.le_succ _⟩
      · rw [List.reverse_cons, List.reverse_cons, spread_snoc, spread_snoc, List.append_assoc]
        congr 1
        show ap f (m - f) 2 = ap f s c.toNat ++ [m]
        rw [g, show (1 : Int).toNat = 1 from rfl, ap_one]
        show ap f (m - f) 2 = [f, m]
        simp [ap, List.range_succ]
        omega
      · rcases List.mem_cons.mp hx with e | e
        · rw [e]
          exact ⟨⟨hf.1, by show f ≤ m; omega⟩, ⟨by show 1 ≤ m - f; omega, by show m - f ≤ m + 1; omega⟩, ⟨by show (1 : Int) ≤ 2; omega, by show (2 : Int) ≤ ((n + 1 : Nat) : Int); omega⟩, fun z => by have z : (2 : Int) = 1 := z; omega⟩
        · exact hrs x e
    · split
      · rename_i g0 g
        obtain ⟨g1, g2⟩ := g
        have g1 : 1 < c := g1
        have g2 : f + s * c = m := g2
        refine ⟨?_, fun x hx => ?_, Nat.le_succ _⟩
        · rw [List.reverse_cons, List.reverse_cons, spread_snoc, spread_snoc, List.append_assoc]
          congr 1
          show ap f s (c + 1).toNat = ap f s c.toNat ++ [m]
          rw [show (c + 1).toNat = c.toNat + 1 by omega, ap_succ, show ((c.toNat : Nat) : Int) = c by omega, g2]
        · rcases List.mem_cons.mp hx with e | e
          · rw [e]
            exact ⟨⟨hf.1, by show f ≤ m; omega⟩, ⟨hs.1, by show s ≤ m + 1; omega⟩, ⟨by show 1 ≤ c + 1; omega, by show c + 1 ≤ ((n + 1 : Nat) : Int); omega⟩, fun z => by have z : c + 1 = 1 := z; omega⟩
          · exact hrs x e
      · refine ⟨?_, fun x hx => ?_, Nat.le_refl _⟩
        · rw [List.reverse_cons, spread_snoc]
          congr 1
          simp [ap]
        · rcases List.mem_cons.mp hx with e | e
          · rw [e]; exact one
          · rcases List.mem_cons.mp e with e | e
            · rw [e]; exact hr.wide (by omega) (Nat.le_succ _)
            · exact hrs x e
theorem gp_all : ∀ (ms : List Int) (rs : List Run) (b : Int) (n : Nat), (∀ r ∈ rs, GpR b n r) → (1 ≤ n ∨ rs = []) → Asc b ms → -1 ≤ b →
    ∃ B : Int, (B = b ∨ B ∈ ms) ∧ spreadAll (ms.foldl gpS rs).reverse = spreadAll rs.reverse ++ ms ∧ (∀ r ∈ ms.foldl gpS rs, GpR B (n + ms.length) r) ∧ (ms.foldl gpS rs).length ≤ rs.length + ms.length
  | [], rs, b, n, h, _, _, _ => ⟨b, .inl rfl, by simp, h, Nat.le_refl _⟩
  | m :: ms, rs, b, n, h, hn, ⟨a1, a2⟩, hb => by
    obtain ⟨i1, i2, i3⟩ := gpS_step h hn a1 (by omega)
    obtain ⟨B, j0, j1, j2, j3⟩ := gp_all ms (gpS rs m) m (n + 1) i2 (.inl (Nat.le_add_left 1 n)) a2 (by omega)
    refine ⟨B, ?_, ?_, ?_, ?_⟩
    · rcases j0 with e | e
      · exact .inr (by rw [e]; exact List.mem_cons_self)
      · exact .inr (List.mem_cons_of_mem _ e)
    · rw [List.foldl_cons, j1, i1, List.append_assoc]; rfl
    · rw [List.length_cons, show n + (ms.length + 1) = n + 1 + ms.length by omega]; exact j2
    · rw [List.foldl_cons, List.length_cons]; omega
/-- minutes as the law draws them -/
def MsOk (ms : List Int) : Prop := Asc (-1) ms ∧ ms.length ≤ 300 ∧ ∀ m ∈ ms, 0 ≤ m ∧ m ≤ 20000000
/-- runs that are these minutes -/
structure RunsAre (rs : List Run) (ms : List Int) : Prop where
  eq : spreadAll rs = ms
  good : ∀ r ∈ rs, GoodR r
  up : RunsUp (-1) rs
  len : rs.length ≤ ms.length
  sm : ∀ r ∈ rs, r.1 ≤ 20000000 ∧ r.2.1 ≤ 20000001 ∧ r.2.2 ≤ 300
theorem lastM_mem {rs : List Run} {r : Run} (hr : r ∈ rs) (hc : 1 ≤ r.2.2) : lastM r ∈ spreadAll rs := by
  have m1 := ap_mem (f := r.1) (st := r.2.1) (n := r.2.2.toNat) (k := r.2.2.toNat - 1) (by omega)
  have em : r.1 + r.2.1 * ((r.2.2.toNat - 1 : Nat) : Int) = lastM r := by
    unfold lastM
    rw [show ((r.2.2.toNat - 1 : Nat) : Int) = r.2.2 - 1 by omega]
  rw [em] at m1
  exact List.mem_flatMap.mpr ⟨r, hr, m1⟩
theorem gp_are {ms : List Int} (h : MsOk ms) : RunsAre (gpF ms) ms := by
  obtain ⟨a, l, m⟩ := h
  obtain ⟨B, j0, j1, j2, j3⟩ := gp_all ms [] (-1) 0 (fun r h => (nomatch h)) (.inr rfl) a (Int.le_refl _)
  have e : spreadAll (gpF ms) = ms := j1
  have hB : B ≤ 20000000 := by
    rcases j0 with z | z
    · omega
    · exact (m B z).2
  have g : ∀ r ∈ gpF ms, GpR B (0 + ms.length) r := fun r hr => j2 r (List.mem_reverse.mp hr)
  refine ⟨e, fun r hr => ?_, runs_up (by rw [e]; exact a) fun r hr => ⟨(g r hr).s.1, (g r hr).c.1⟩, by unfold gpF; rw [List.length_reverse]; simpa using j3, fun r hr => ?_⟩
  · have q := g r hr
    have z := lastM_mem hr q.c.1
    rw [e] at z
    exact ⟨q.f.1, q.s.1, q.c.1, q.o, by have := m _ z; omega⟩
  · have q := g r hr
    have h1 := q.f
    have h2 := q.s
    have h3 := q.c
    omega
def ones1 (ms : List Int) : List Run := ms.map fun m => (m, 1, 1)
theorem ones1_are {ms : List Int} (h : MsOk ms) : RunsAre (ones1 ms) ms := by
  obtain ⟨a, l, m⟩ := h
  have e : spreadAll (ones1 ms) = ms := by
    clear a l m
    induction ms with
    | nil => rfl
    | cons x xs ih =>
      show ap x 1 1 ++ spreadAll (ones1 xs) = x :: xs
      rw [ih, ap_one]; rfl
  have g : ∀ r ∈ ones1 ms, ∃ x ∈ ms, r = (x, 1, 1) := fun r hr => by
    obtain ⟨x, hx, e⟩ := List.mem_map.mp hr
    exact ⟨x, hx, e.symm⟩
  refine ⟨e, fun r hr => ?_, runs_up (by rw [e]; exact a) fun r hr => ?_, by unfold ones1; rw [List.length_map]; exact Nat.le_refl _, fun r hr => ?_⟩
  · obtain ⟨x, hx, rfl⟩ := g r hr
    have := m x hx
    exact ⟨this.1, Int.le_refl _, Int.le_refl _, fun _ => rfl, by show x + 1 * (1 - 1) ≤ _; omega⟩
  · obtain ⟨x, hx, rfl⟩ := g r hr
    exact ⟨Int.le_refl _, Int.le_refl _⟩
  · obtain ⟨x, hx, rfl⟩ := g r hr
    have := m x hx
    exact ⟨this.2, (by show (1 : Int) ≤ 20000001; decide), (by show (1 : Int) ≤ 300; decide)⟩
theorem expl_are {rs : List Run} {ms : List Int} {ls : List Lamp} {gs : List (List Stt)} (h : RunsAre rs ms) (n : ms.length ≤ 300) (e : gs.length = ls.length) (hl : ∀ l ∈ ls, 1 ≤ l.2) (hg : ∀ g ∈ gs, g.length ≤ 60) :
    explB ls gs (runsD rs) = decide ((ls.map fun l => logF l ms) = gs) := by
  have := h.len
  rw [expl_runs h.good h.up (by omega) e hl hg, h.eq]
end Lg

namespace Lg
open PySem PySem.Spec PyProof.Rows L2 Lm
theorem walk_zipT {K : PySem.W.Frag} {a b : Addr} {xs ys : List V} (hl : xs.length = ys.length) : Walk (RZ.ItzT K a b) xs.length (fun H => SqT K H a xs ∧ SqT K H b ys) (YPair (fun i => xs[i]?) (fun i => ys[i]?)) := by
  constructor
  · intro i H hi q
    exact ⟨xs, ys, xs[i], ys[i]'(by omega), q.1, q.2, List.getElem?_eq_getElem hi, List.getElem?_eq_getElem (by omega)⟩
  · intro H q
    exact ⟨xs, ys, q.1, q.2, .inl (Nat.le_refl _)⟩
  · intro i H v H' _ q y
    obtain ⟨T, x, z, e1, e2, e3, e4, e5⟩ := y
    exact ⟨T, x, z, e1, e2, e3, e4 xs q.1, e5 ys q.2⟩
def sp_counts (K : PySem.W.Frag) : Sp := fun vs H Q _ => ∃ (a b : Addr) (xs ys : List V), vs = [.ref a, .ref b] ∧ SqT K H a xs ∧ SqT K H b ys ∧ xs.length = ys.length ∧ Q .non H
def StayOk (l : Lamp) : Prop := 1 ≤ l.2 ∧ l.2 ≤ 1000000000
def sp_has (K : PySem.W.Frag) : Sp := sp_f K (fun x : Lamp × List Run × List Stt => [lampD x.1, runsD x.2.1, logD x.2.2]) (fun x => StayOk x.1 ∧ x.2.1.length ≤ 400 ∧ ∀ r ∈ x.2.1, RunOk r) (fun x => .bool (hasB x.1 x.2.1 x.2.2))
def sp_give (K : PySem.W.Frag) : Sp := sp_f K (fun x : List Run × List Lamp × List (List Stt) => [runsD x.1, lampsD x.2.1, gsD x.2.2]) (fun x => x.1.length ≤ 400 ∧ (∀ r ∈ x.1, RunOk r) ∧ x.2.2.length = x.2.1.length ∧ x.2.1.length ≤ 900 ∧ ∀ l ∈ x.2.1, StayOk l) (fun x => .bool (giveB x.1 x.2.1 x.2.2))
def sp_expl (K : PySem.W.Frag) : Sp := sp_f K (fun x : List Lamp × List (List Stt) × PyData => [lampsD x.1, gsD x.2.1, x.2.2]) (fun x => x.2.1.length = x.1.length ∧ x.1.length ≤ 900 ∧ (∀ l ∈ x.1, StayOk l) ∧ x.2.2.showable = true) (fun x => .bool (explB x.1 x.2.1 x.2.2))
def sp_gp (K : PySem.W.Frag) : Sp := sp_f K (fun ms : List Int => [minsD ms]) MsOk (fun ms => runsD (gpF ms))
/-- the source: other minutes near some -/
def sp_near (K : PySem.W.Frag) : Sp := fun vs H Q _ => ∃ (Z : Hp) (r c : Addr) (b : Nat) (x : V) (ms : List Int), vs = [.ref r, x] ∧ Iv (reel r c) Z (3 + b) H ∧ Dq K (hid (reel r c) Z H) x (minsD ms) ∧ MinsOk 50 ms ∧
  ∀ (y : V) (H' : Hp) (ns : List Int), Iv (reel r c) Z b H' → Kp (reel r c) Z H H' → Dq K (hid (reel r c) Z H') y (minsD ns) → MsOk ns → ns.length ≤ 51 → Q y H'
def sp_oddL (K : PySem.W.Frag) : Sp := fun vs H Q _ => ∃ (Z : Hp) (r c : Addr) (b : Nat), vs = [.ref r] ∧ Iv (reel r c) Z (1 + b) H ∧ ∀ (y : V) (H' : Hp), Iv (reel r c) Z b H' → Kp (reel r c) Z H H' → DR K (Sm 60 3) y (hid (reel r c) Z H') → Q y H'
def sp_many (K : PySem.W.Frag) : Sp := fun vs H Q _ => ∃ (Z : Hp) (r c : Addr) (b : Nat), vs = [.ref r] ∧ Iv (reel r c) Z (4 + b) H ∧ ∀ (H' : Hp), Iv (reel r c) Z b H' → Kp (reel r c) Z H H' → Q (.bl true) H'
def sp_bare : Sp := fun vs H Q _ => vs = [] ∧ ∀ H', Same H H' → Q (.bl true) H'
theorem giveB_snoc {rs : List Run} : ∀ {ls : List Lamp} {gs : List (List Stt)} {i : Nat} {l : Lamp} {g : List Stt}, ls[i]? = some l → gs[i]? = some g → giveB rs (ls.take (i + 1)) (gs.take (i + 1)) = (giveB rs (ls.take i) (gs.take i) && hasB l rs g)
  | l0 :: ls, g0 :: gs, 0, l, g, h1, h2 => by
    cases h1
    cases h2
    show (hasB l0 rs g0 && giveB rs (ls.take 0) (gs.take 0)) = (true && hasB l0 rs g0)
    rw [List.take_zero, List.take_zero]
    show (hasB l0 rs g0 && true) = _
    rw [Bool.and_true, Bool.true_and]
  | l0 :: ls, g0 :: gs, i + 1, l, g, h1, h2 => by
    show (hasB l0 rs g0 && giveB rs (ls.take (i + 1)) (gs.take (i + 1))) = ((hasB l0 rs g0 && giveB rs (ls.take i) (gs.take i)) && hasB l rs g)
    rw [giveB_snoc (i := i) h1 h2, Bool.and_assoc]
  | [], _, i, _, _, h1, _ => by simp at h1
  | _ :: _, [], i, _, _, _, h2 => by simp at h2
/-- what has_log said of the first so many -/
def hasL (rs : List Run) (ls : List Lamp) (gs : List (List Stt)) : List Bool := (ls.zip gs).map fun x => hasB x.1 rs x.2
theorem giveB_hasL (rs : List Run) : ∀ (ls : List Lamp) (gs : List (List Stt)), giveB rs ls gs = (hasL rs ls gs).all id
  | l :: ls, g :: gs => by
    show (hasB l rs g && giveB rs ls gs) = (hasB l rs g && (hasL rs ls gs).all id)
    rw [giveB_hasL rs ls gs]
  | [], gs => by cases gs <;> rfl
  | _ :: _, [] => rfl
theorem hasL_take {rs : List Run} {ls : List Lamp} {gs : List (List Stt)} {i : Nat} {l : Lamp} {g : List Stt} (h1 : ls[i]? = some l) (h2 : gs[i]? = some g) : (hasL rs ls gs).take (i + 1) = (hasL rs ls gs).take i ++ [hasB l rs g] := by
  rw [List.take_add_one]
  unfold hasL
  rw [List.getElem?_map, show (ls.zip gs)[i]? = some (l, g) from List.getElem?_zip_eq_some.mpr ⟨h1, h2⟩]
  rfl
theorem passE0 {X : Cx} : Passes (L2.CX X.prog X.w) X E0 := fun _ _ _ _ _ _ _ ⟨_, _, _, _, _, _, _, _, _, _, _, _, h⟩ => h.elim
end Lg

namespace Lg
open PySem PySem.Spec PyProof.Rows L2 Lm PySem.SeqAt PySem.MeetsSeq
open PySem.AutoSeq1 (wpAny_loadPart')
/-! ### a dict is no tuple -/
theorem tuple_declines_dict (l m : Addr) (items : Array Value) (n : Nat) (dd : Option Addr) (sl : Array (Option Value)) (es : Array DictEntry) (k : Nat) (d2 : Option Addr) (s2 : Array (Option Value)) :
    Meets (Builtin.«tuple.__eq__» ⟨[.ref l, .ref m], []⟩) (fun _ R s => s.heap.get? l = some { cls := .type "tuple", dict := dd, data := .seq items n, slots := sl } ∧ s.heap.get? m = some { cls := .type "dict", dict := d2, data := .dict es k, slots := s2 } ∧ R (.ok (.ret .notImplemented)) s) :=
  .of_wp fun prog w A R s h => by
    obtain ⟨hp, g, d, tk, os⟩ := s
    obtain ⟨h1, h2, h⟩ := h
    have f1 := F.sub_dict_tuple
    wp_walk using wpAny_loadPart' h1, wpAny_loadPart' h2, wpAny_load h2
    exact ⟨_, rfl, h⟩
section
variable {A : Around} {s : Shared}
theorem rc_dict_tuple {l m : Addr} {d1 d2 : Option Addr} {s1 s2 : Array (Option Value)} {es : Array DictEntry} {k n : Nat} {items : Array Value} (ho : s.heap.get? m = some { cls := .type "dict", dict := d2, data := .dict es k, slots := s2 })
    (hm : s.heap.get? l = some { cls := .type "tuple", dict := d1, data := .seq items n, slots := s1 }) (hu : A.units < cLine) : RcAt A s (.ref m) (.ref l) false := fun prog w E Q h => by
  have t1 : s.TypeIs (.ref m) "dict" := ⟨_, ho, rfl⟩
  have t2 : s.TypeIs (.ref l) "tuple" := ⟨_, hm, rfl⟩
  have nt : (Value.type "dict") ≠ .type "tuple" := by decide
  have ne : m ≠ l := fun e => by
    rw [e, hm] at ho
    exact absurd (congrArg Obj.cls (Option.some.inj ho)).symm nt
  refine rc_eq_decline_or (k := false) t1 t2 (by decide) F.sub_tuple_dict F.slot_dict_eq F.slot_tuple_eq_refl (fun _ hq => ?_)
    (fun _ hq => call_meets F.slot_tuple_eq_refl t2 F.entry_tuple_eq (F.args_tuple_eq_2 _ _) (tuple_declines_dict l m items n d1 s1 es k d2 s2) ⟨hm, ho, hq⟩)
    (fun _ hq => wpAny_isSame_ref_other ne ho hm nt hq) (.inr hu) h
  refine PySem.wpAny_call_entry PySem.F.slot_dict_eq t1 PySem.F.entry_dict_eq ?_ (PySem.F.args_dict_eq_2 _ _)
  show wpAny _ _ (Builtin.Dict.dictSlotArgs "__eq__" ⟨[.ref m, .ref l], []⟩ >>= _) _ _ s
  unfold Builtin.Dict.dictSlotArgs
  refine wpAny_bind (wpAny_bind (wpAny_notOrdered_dict t1 (show wpAny _ _ (pure (Value.ref m, Value.ref l)) _ _ s from wpAny_pure ?_)))
  refine wpAny_bind (wpAny_isInstance (T := "tuple") t2 PySem.F.sub_tuple_dict ?_)
  simp only [Bool.not_false, if_true]
  exact wpAny_bind (wpAny_rule (wpAny_pure ⟨_, rfl, hq⟩))
end
def isTE : PyData → Bool
  | .tuple [] => true
  | _ => false
/-- data == an empty tuple -/
def rEqTE (K : PySem.W.Frag) : R2 := fun x y H Q => ∃ (d : PyData) (b : Addr), y = .ref b ∧ H b = some (.tup []) ∧ ((Dp K H x d ∧ SeqAt.shaped d = true) ∨ (isTE d = false ∧ ∃ (a : Addr) (kvs : List (L2.Key × V)), x = .ref a ∧ H a = some (.dK kvs))) ∧ Q (.bl (isTE d)) H
theorem isTE_eqv (d : PyData) : PyData.eqv d (.tuple []) = isTE d := by
  cases d with
  | tuple ds => cases ds <;> simp [PyData.eqv, PyData.eqvAll, isTE]
  | _ => simp [PyData.eqv, isTE]
theorem op_eqTE {X : Cx} {K : PySem.W.Frag} (hK : X.K = K) (hu : X.A.units + 64 < cLine) : OpR X (compareOp .Eq) (rEqTE K) := by
  subst hK
  intro pins s σ H x y v u Q I rx ry h
  obtain ⟨d, b, rfl, hb, h, q⟩ := h
  rcases h with ⟨hd, sh⟩ | ⟨e, a, kvs, rfl, ha⟩
  · refine op_eqD hu pins s σ H x (.ref b) v u Q I rx ry ⟨d, .tuple [], hd, .tup (.inl (.inl hb)) .nil, sh, by decide, ?_⟩
    rw [isTE_eqv]
    exact q
  · cases rx
    cases ry
    obtain ⟨_, _, ws, _, o, es, ep, g1, hx, g2, _⟩ := I.hok _ _ ha
    obtain ⟨c1, d1, t1, s1⟩ := o
    have hc := hx.1
    simp only at g2 hc
    subst g2 hc
    obtain ⟨its, rv, pl, hz⟩ := I.tuple (show SqT X.K H b [] from .inl (.inl hb))
    obtain ⟨o2, h1, h2, n2, h3⟩ := pl
    obtain ⟨c2, d2, t2, s2⟩ := o2
    simp only at h2 h3
    subst h2 h3
    rw [e] at q
    exact rc_dict_tuple g1 h1 (by omega) _ _ _ _ ⟨.bl false, H, I, rfl, q⟩
/-! ### exact data -/
def DQ (K : PySem.W.Frag) (d : PyData) : VR := fun v G => Dq K G v d
def DQs (K : PySem.W.Frag) (ds : List PyData) : LR := fun vs G => Dqs K G vs ds
theorem DQ.mo {K : PySem.W.Frag} {d : PyData} : Mo (DQ K d) := fun _ _ _ s h => (show Dq K _ _ _ from h).mono s
section
variable {K : PySem.W.Frag} {S : Src} {Z H0 : Hp} {σ : L2.St} {te : TE} {tl : TA} {n n1 n2 : Nat} {d : PyData} {ds : List PyData}
theorem q_int {i : Int} : Ev S Z 0 H0 σ (tC (.int i)) (DQ K (.int i)) := ev_c.imp fun v G e => by rw [e]; exact .int i
theorem q_ei {i : Int} (h : Ev S Z n H0 σ te (EI i)) : Ev S Z n H0 σ te (DQ K (.int i)) := h.imp fun v G e => by rw [e]; exact .int i
theorem q_bl {b : Bool} : Ev S Z 0 H0 σ (tC (.bl b)) (DQ K (.bool b)) := ev_c.imp fun v G e => by rw [e]; exact .bl b
theorem q_str {x : Str} : Ev S Z 0 H0 σ (tC (.str x)) (DQ K (.str x)) := ev_c.imp fun v G e => by rw [e]; exact .str x
theorem q_non : Ev S Z 0 H0 σ (tC .non) (DQ K .none) := ev_c.imp fun v G e => by rw [e]; exact .non
theorem q_var {i : Nat} {v : V} (e : σ[i]? = some (some v)) (h : Dq K (hid S Z H0) v d) : Ev S Z 0 H0 σ (tVar i) (DQ K d) := ev_var e DQ.mo h
theorem qa_nil : EvA S Z 0 H0 σ tNil (DQs K []) := eva_nil.imp fun v G e => by rw [e]; exact .nil
theorem qa_cons (h1 : Ev S Z n1 H0 σ te (DQ K d)) (h2 : EvA S Z n2 H0 σ tl (DQs K ds)) : EvA S Z (n1 + n2) H0 σ (tCons te tl) (DQs K (d :: ds)) :=
  (eva_cons DQ.mo h1 h2).imp fun vs G ⟨v, r, e, hv, hr⟩ => by rw [e]; exact .cons hv hr
theorem q_tup (hl : ds.length ≤ 1000) (h : EvA S Z n H0 σ tl (DQs K ds)) : Ev S Z n H0 σ (tTup tl) (DQ K (.tuple ds)) :=
  (ev_tup h (fun vs G r => Nat.le_of_lt (small1000 (by rw [Dqs.len r]; exact hl))) (fun _ _ _ s h => (show Dqs K _ _ _ from h).mono s)).imp fun v G ⟨a, xs, e, g, r⟩ => by rw [e]; exact .tup (.inl (.inl g)) r
theorem q_lst (hl : ds.length ≤ 1000) (h : EvA S Z n H0 σ tl (DQs K ds)) : Ev S Z n H0 σ (tLst tl) (DQ K (.list ds)) :=
  fun H b Q P k q => h H b _ P k fun vs H1 P1 k1 r1 => ⟨Nat.le_of_lt (small1000 (by rw [Dqs.len r1]; exact hl)), fun t nt => by
    obtain ⟨P2, k2, e2⟩ := laid (o := .lst vs) P1 nt
    exact q _ _ P2 (k1.trans k2) (Dq.lst (.inl (.inl e2)) ((show Dqs K _ _ _ from r1).mono k2))⟩
theorem q_dnew : Ev S Z 0 H0 σ tDNewK (DQ K (.dict [])) := fun H b Q P k q t nt => by
  obtain ⟨P4, k4, e4⟩ := laid (o := .dK []) P nt
  exact q _ _ (P4.less (by omega)) k4 (.dct e4 .nil)
theorem q_disp1 {x : Str} {i : Int} : Ev S Z 0 H0 σ (tDisp [(tC (.str x), tC (.int i))]) (DQ K (.dict [(.str x, .int i)])) := fun H b Q P k q t nt => by
  have e : (upd (upd H t (.dK [])) t (.dK (mergeK [] [((Sum.inr x : L2.Key), V.int i)]))) = upd H t (.dK [(Sum.inr x, V.int i)]) := by rw [upd_upd]; rfl
  refine ⟨upd_same, [(Sum.inr x, V.int i)], rfl, Nat.le_add_left 1 14, ?_⟩
  rw [e]
  obtain ⟨P4, k4, e4⟩ := laid (o := .dK [(Sum.inr x, V.int i)]) P nt
  exact q _ _ (P4.less (by omega)) k4 (.dct (ds := [.int i]) e4 (.cons (.int i) .nil))
theorem q_mem {φ : PyData → Prop} (h : Ev S Z n H0 σ te (DQ K d)) (p : φ d) : Ev S Z n H0 σ te (DR K φ) := h.imp fun v G r => ⟨d, r, p⟩
theorem q_fn {α : Type} {A : α → List PyData} {P : α → Prop} {F : α → PyData} (x : α) (h : EvA S Z n H0 σ tl (DQs K (A x))) (hP : P x) : Ev S Z n H0 σ (tCall (sp_f K A P F) [] E0 tl) (DQ K (F x)) :=
  fun H b Q Pi k q => h H b _ Pi k fun vs H1 P1 k1 r1 => ⟨NZ S Z, x, P1.occ, by rw [List.append_nil]; exact r1, hP, fun r H' s hf => q _ _ (P1.keep s) (k1.trans (Kp.of s)) hf⟩
end
end Lg

namespace Lg
open PySem PySem.Spec PyProof.Rows L2 Lm
mutual
def noD : PyData → Bool
  | .dict _ => false
  | .list ds => noDs ds
  | .tuple ds => noDs ds
  | _ => true
def noDs : List PyData → Bool
  | [] => true
  | d :: ds => noD d && noDs ds
end
mutual
theorem dq_dp {K : PySem.W.Frag} {G : Hp} : ∀ (d : PyData) {v : V}, noD d = true → Dq K G v d → Dp K G v d
  | .none, _, _, h => by cases h; exact .non
  | .bool b, _, _, h => by cases h; exact .bl b
  | .int i, _, _, h => by cases h; exact .int i
  | .str x, _, _, h => by cases h; exact .str x
  | .list ds, _, e, h => by
    obtain ⟨a, xs, rfl, g, hx⟩ := dq_lst h
    exact .lst g (dqs_dp ds (by simpa only [noD] using e) hx)
  | .tuple ds, _, e, h => by
    obtain ⟨a, xs, rfl, g, hx⟩ := dq_tup h
    exact .tup g (dqs_dp ds (by simpa only [noD] using e) hx)
  | .dict _, _, e, _ => by simp only [noD] at e; cases e
theorem dqs_dp {K : PySem.W.Frag} {G : Hp} : ∀ (ds : List PyData) {xs : List V}, noDs ds = true → Dqs K G xs ds → DpAll K G xs ds
  | [], _, _, h => by rw [dqs_nil h]; exact .nil
  | d :: ds, _, e, h => by
    simp only [noDs] at e
    obtain ⟨e1, e2⟩ := Bool.and_eq_true_iff.mp e
    obtain ⟨v, r, rfl, h1, h2⟩ := dqs_cons h
    exact .cons (dq_dp d e1 h1) (dqs_dp ds e2 h2)
end
/-- the odd values of these laws -/
def oddL : List PyData := [.none, .bool true, .bool false, .int (-1), .int 0, .int 1, .int 1000000001, .int (10 ^ 39), .str "", .str "3", .tuple [], .list [], .dict [], .tuple [.int 0], .list [.int 0], .tuple [.int 3, .int 1, .int 1], .dict [(.str "a", .int 0)]]
def isDc : PyData → Bool
  | .dict _ => true
  | _ => false
def oddOk (d : PyData) : Bool := d.showable && (isTE d || !isN (motErr d)) && ((noD d && SeqAt.shaped d) || (isDc d && !isTE d))
theorem odd_all : oddL.all oddOk = true := by decide +kernel
theorem odd_ok {d : PyData} (h : d ∈ oddL) : d.showable = true ∧ (isTE d = true ∨ isN (motErr d) = false) ∧ ((noD d = true ∧ SeqAt.shaped d = true) ∨ (isDc d = true ∧ isTE d = false)) := by
  have := List.all_eq_true.mp odd_all d h
  unfold oddOk at this
  simp only [Bool.and_eq_true, Bool.or_eq_true, Bool.not_eq_true'] at this
  exact ⟨this.1.1, this.1.2, this.2⟩
theorem odd_te {K : PySem.W.Frag} {H : Hp} {x : V} {d : PyData} (h : d ∈ oddL) (hd : Dq K H x d) : (Dp K H x d ∧ SeqAt.shaped d = true) ∨ (isTE d = false ∧ ∃ (a : Addr) (kvs : List (L2.Key × V)), x = .ref a ∧ H a = some (.dK kvs)) := by
  rcases (odd_ok h).2.2 with ⟨h1, h2⟩ | ⟨h1, h2⟩
  · exact .inl ⟨dq_dp d h1 hd, h2⟩
  · refine .inr ⟨h2, ?_⟩
    cases hd with
    | dct g _ => exact ⟨_, _, rfl, g⟩
    | _ => cases h1
theorem te_eq {d : PyData} (h : isTE d = true) : d = .tuple [] := by
  unfold isTE at h
  split at h
  · rfl
  · cases h
/-! ### strictly rising lists of whole numbers as minutes -/
theorem asc_pw {ms : List Int} {b : Int} (h : ms.Pairwise (· < ·)) (hb : ∀ m ∈ ms, b < m) : Asc b ms := asc_of hb h
theorem near_ok {ks ns : List Int} {new : Int} {n : Nat} (hk : ks.length ≤ n) (hn : n ≤ 299) (bk : ∀ m ∈ ks, 0 ≤ m ∧ m ≤ 20000000) (bn : 0 ≤ new ∧ new ≤ 20000000) (up : ns.Pairwise (· < ·)) (mem : ∀ k : Int, k ∈ ns → k ∈ ks ∨ k = new) (len : ns.length ≤ n + 1) : MsOk ns := by
  have b : ∀ m ∈ ns, 0 ≤ m ∧ m ≤ 20000000 := fun m hm => by
    rcases mem m hm with e | e
    · exact bk m e
    · rw [e]; exact bn
  exact ⟨asc_pw up fun m hm => by have := (b m hm).1; omega, by omega, b⟩
end Lg
namespace Lg
open PySem PySem.Spec PyProof.Rows L2 Lm
def sp_oddM (K : PySem.W.Frag) : Sp := fun vs H Q _ => ∃ (Z : Hp) (r c : Addr) (b : Nat), vs = [.ref r] ∧ Iv (reel r c) Z (1 + b) H ∧ ∀ (y : V) (H' : Hp), Iv (reel r c) Z b H' → Kp (reel r c) Z H H' → DR K (· ∈ oddL) y (hid (reel r c) Z H') → Q y H'
end Lg
namespace Lg
open PySem PySem.Spec PyProof.Rows L2 Lm
def LI (G : Hp) (x : V) (ms : List Int) : Prop := ∃ a, x = .ref a ∧ G a = some (.lst (ms.map V.int))
theorem LI.mono {G G' : Hp} {x : V} {ms : List Int} (s : Same G G') (h : LI G x ms) : LI G' x ms := let ⟨a, e, g⟩ := h; ⟨a, e, s _ _ g⟩
theorem LI.dq {K : PySem.W.Frag} {G : Hp} {x : V} {ms : List Int} (h : LI G x ms) : Dq K G x (minsD ms) := by
  obtain ⟨a, rfl, g⟩ := h
  exact .lst (.inl (.inl g)) ints_dqs
def sp_minutesL : Sp := fun vs H Q _ => ∃ (Z : Hp) (r c : Addr) (b : Nat) (m g : Int), vs = [.ref r, .int m, .int g] ∧ Iv (reel r c) Z (205 + b) H ∧ 0 ≤ m ∧ m ≤ 50 ∧ 1 ≤ g ∧ g ≤ 20000 ∧
  ∀ (x : V) (H' : Hp) (ms : List Int), Iv (reel r c) Z b H' → Kp (reel r c) Z H H' → LI (hid (reel r c) Z H') x ms → MinsOk m ms → Q x H'
theorem minutes_imp (K : PySem.W.Frag) (vs : List V) (H : Hp) (Q : VK) (E : XK) (h : sp_minutes K vs H Q E) : sp_minutesL vs H Q E := by
  obtain ⟨Z, r, c, b, m, g, rfl, h1, h2, h3, h4, h5, q⟩ := h
  exact ⟨Z, r, c, b, m, g, rfl, h1, h2, h3, h4, h5, fun x H' ms P k l => q x H' ms P k l.dq⟩
def sp_nearL : Sp := fun vs H Q _ => ∃ (Z : Hp) (r c : Addr) (b : Nat) (x : V) (ms : List Int), vs = [.ref r, x] ∧ Iv (reel r c) Z (3 + b) H ∧ LI (hid (reel r c) Z H) x ms ∧ MinsOk 50 ms ∧
  ∀ (y : V) (H' : Hp) (ns : List Int), Iv (reel r c) Z b H' → Kp (reel r c) Z H H' → LI (hid (reel r c) Z H') y ns → MsOk ns → ns.length ≤ 51 → Q y H'
end Lg

namespace Lg
open PySem PySem.Spec PyProof.Rows L2 Lm
/-! ### no source -/
def src0 : Src where
  at_ := fun _ _ => True
  own := fun _ => False
  frame := fun _ _ => trivial
  less := fun _ _ => trivial
  full := fun _ h => h.elim
abbrev noZ : Hp := fun _ => none
theorem iv0 {H : Hp} {b : Nat} : Iv src0 noZ b H := ⟨trivial, fun _ _ e => (nomatch e), fun _ h => h.elim⟩
theorem hid0 {H : Hp} : hid src0 noZ H = H := by
  funext b
  exact hid_at ⟨fun z => z, rfl⟩
theorem kp0 {H H' : Hp} (k : Kp src0 noZ H H') : Same H H' := fun b o e => by
  have := k b o (by rw [hid0]; exact e)
  rwa [hid0] at this
/-! ### comprehensions with exact data -/
section
variable {K : PySem.W.Frag} {S : Src} {Z H0 : Hp} {σ : L2.St} {te : TE} {tl : TE} {n : Nat}
theorem q_lc {v : Nat} {ds : List PyData} {F : PyData → PyData} (hl : ds.length ≤ 900) (h : Ev S Z n H0 σ tl (DQ K (.list ds)))
    (hT : ∀ (Z' H1 : Hp) (x : V) (d : PyData), d ∈ ds → Same (hid S Z H0) (hid S Z' H1) → Dq K (hid S Z' H1) x d → Ev S Z' 0 H1 ((wipe σ [v]).set v (some x)) te (DQ K (F d))) :
    Ev S Z n H0 σ (tLc (iList K tl) (gName v) tYes te [v]) (DQ K (.list (ds.map F))) := fun H b Q P k q => by
  refine h H b _ P k fun x H1 P1 k1 r1 => ?_
  obtain ⟨a, xs, rfl, g, hx⟩ := dq_lst r1
  have lx := hx.len
  refine ⟨a, rfl, ⟨xs, Same.seqL hid_same g⟩, fun D nD => ?_⟩
  have f := P1.free nD
  refine lc_list (K := K) (a := a) (xs := xs) (fun i Hj => ∃ acc, Iv S (upd Z D (.lst acc)) b Hj ∧ acc.length = i ∧ Dqs K (hid S (upd Z D (.lst acc)) Hj) acc ((ds.take i).map F) ∧ Same (hid S Z H1) (hid S (upd Z D (.lst acc)) Hj)) ⟨[], (P1.new nD).hide upd_same f.1, rfl, .nil, hid_new2 nD⟩ (fun i Hj _ ⟨acc, _, _, _, sj⟩ => Same.seqL (Same.trans sj hid_same) g) ?_ ?_
  · rintro i x Hj hx' ⟨acc, Pj, la, da, sj⟩
    obtain ⟨d, hd, dq⟩ := hx.get hx'
    have hi : i < ds.length := (List.getElem?_eq_some_iff.mp hd).1
    refine ⟨by simp only [wipe, List.set_set], yes_if ?_⟩
    refine hT _ Hj x d (List.mem_of_getElem? hd) (Same.trans (Same.trans k k1) sj) (dq.mono sj) Hj b _ (by simpa using Pj) Kp.refl fun y H4 P4 k4 r4 => ⟨acc, P4.zz _ _ upd_same, small1000 (by omega), acc ++ [y], ?_, by rw [List.length_append, la]; rfl, ?_, (Same.trans sj k4).trans hid_swap⟩
    · exact ((P4.bare f.2).upd f).hide upd_same f.1
    · rw [List.take_add_one, hd, List.map_append]
      exact dqs_snoc (da.mono (Same.trans k4 hid_swap)) ((show Dq K _ _ _ from r4).mono hid_swap)
  · rintro Hn ⟨acc, Pn, la, da, sn⟩
    have e := Pn.zz _ _ upd_same
    rw [lx, List.take_length] at da
    exact q _ Hn (Pn.bare f.2) (Kp.trans k1 (sn.trans hid_hide)) (Dq.lst (.inl (.inl (by rw [hid_at f]; exact e))) (da.mono hid_hide))
theorem q_lcr {v : Nat} {j : Int} {F : Nat → PyData} (j0 : 0 ≤ j) (j1 : j ≤ 900)
    (hT : ∀ (Z' H1 : Hp) (i : Nat), i < j.toNat → Same (hid S Z H0) (hid S Z' H1) → Ev S Z' 0 H1 ((wipe σ [v]).set v (some (.int (0 + (i : Int))))) te (DQ K (F i))) :
    Ev S Z 0 H0 σ (tLc (iRng1 (tCons (tC (.int j)) tNil)) (gName v) tYes te [v]) (DQ K (.list ((List.range j.toNat).map F))) := fun H b Q P k q => by
  refine ⟨j, rfl, by omega, by omega, fun D nD => ?_⟩
  have P : Iv S Z b H := P.less (by omega)
  have f := P.free nD
  refine lc_range (fun i Hj => ∃ acc, Iv S (upd Z D (.lst acc)) b Hj ∧ acc.length = i ∧ Dqs K (hid S (upd Z D (.lst acc)) Hj) acc ((List.range i).map F) ∧ Same (hid S Z H) (hid S (upd Z D (.lst acc)) Hj)) ⟨[], (P.new nD).hide upd_same f.1, rfl, .nil, hid_new2 nD⟩ ?_ ?_
  · rintro i Hj hi ⟨acc, Pj, la, da, sj⟩
    refine ⟨by simp only [wipe, List.set_set], yes_if ?_⟩
    refine hT _ Hj i (by omega) (Same.trans k sj) Hj b _ (by simpa using Pj) Kp.refl fun y H4 P4 k4 r4 => ⟨acc, P4.zz _ _ upd_same, small1000 (by omega), acc ++ [y], ?_, by rw [List.length_append, la]; rfl, ?_, (Same.trans sj k4).trans hid_swap⟩
    · exact ((P4.bare f.2).upd f).hide upd_same f.1
    · rw [List.range_succ, List.map_append]
      exact dqs_snoc (da.mono (Same.trans k4 hid_swap)) ((show Dq K _ _ _ from r4).mono hid_swap)
  · rintro Hn ⟨acc, Pn, la, da, sn⟩
    have e := Pn.zz _ _ upd_same
    exact q _ Hn (Pn.bare f.2) (sn.trans hid_hide) (Dq.lst (.inl (.inl (by rw [hid_at f]; exact e))) (da.mono hid_hide))
theorem q_tupleOf {ds : List PyData} (h : Ev S Z n H0 σ te (DQ K (.list ds))) : Ev S Z n H0 σ (tCB (fun xs H Q => ∃ p ys, xs = [.ref p] ∧ ((SqL K H p ys ∧ ∀ l, H l = none → Q (.ref l) (upd H l (.tup ys))) ∨ (SqT K H p ys ∧ Q (.ref p) H))) (tCons te tNil)) (DQ K (.tuple ds)) :=
  fun H b Q P k q => h H b _ P k fun v H1 P1 k1 r1 => by
    obtain ⟨a, xs, rfl, g, hx⟩ := dq_lst r1
    refine ⟨a, xs, rfl, .inl ⟨Same.seqL hid_same g, fun t nt => ?_⟩⟩
    obtain ⟨P4, k4, e4⟩ := laid (o := .tup xs) P1 nt
    exact q _ _ P4 (k1.trans k4) (Dq.tup (.inl (.inl e4)) (hx.mono k4))
end
/-! ### the log of motions that are far from one another -/
theorem fold_far {kd : Bool} {s f st : Int} (hs : 1 ≤ s) (h : s < st) : ∀ n : Nat, (ap f st n).foldl (stepL kd s) [] = (pcs s f st n).reverse
  | 0 => by simp [ap, pcs]
  | n + 1 => by
    rw [ap_succ, pcs_succ, List.foldl_append, fold_far hs h n, List.reverse_append]
    cases n with
    | zero => rfl
    | succ n =>
      rw [pcs_succ, List.reverse_append]
      show stepL kd s ((f + st * (n : Int), f + st * (n : Int) + s) :: (pcs s f st n).reverse) (f + st * ((n + 1 : Nat) : Int)) = _
      have e : st * ((n + 1 : Nat) : Int) = st * (n : Int) + st := ap_mono (by omega) n
      simp only [stepL]
      rw [if_pos (by rw [e]; omega)]
      rfl
theorem logF_far {kd : Bool} {s f st : Int} (hs : 1 ≤ s) (h : s < st) (n : Nat) : logF (kd, s) (ap f st n) = pcs s f st n := by
  unfold logF
  rw [fold_far hs h, List.reverse_reverse]
theorem pcs_len (s f st : Int) (n : Nat) : (pcs s f st n).length = n := by simp [pcs]
theorem logF_ne {l : Lamp} : ∀ {ms : List Int}, ms ≠ [] → logF l ms ≠ [] := by
  intro ms h e
  have key : ∀ (ms : List Int) (acc : List Stt), acc ≠ [] → ms.foldl (stepL l.1 l.2) acc ≠ [] := by
    intro ms
    induction ms with
    | nil => intro acc h; exact h
    | cons m ms ih =>
      intro acc h
      refine ih _ ?_
      cases acc with
      | nil => exact absurd rfl h
      | cons q r =>
        simp only [stepL]
        split
        · simp
        · split <;> simp
  cases ms with
  | nil => exact h rfl
  | cons m ms =>
    have e : (ms.foldl (stepL l.1 l.2) [(m, m + l.2)]).reverse = [] := e
    exact key ms _ (by simp) (List.reverse_eq_nil_iff.mp e)
end Lg

namespace Lg
open PySem PySem.Spec PyProof.Rows L2 Lm
section
variable {K : PySem.W.Frag} {S : Src} {Z H0 : Hp} {σ : L2.St} {ta tb : TE} {tl : TA} {n n1 n2 : Nat} {d e : PyData}
theorem q_eqD (h1 : Ev S Z n1 H0 σ ta (DQ K d)) (h2 : Ev S Z n2 H0 σ tb (DQ K e)) (nd : noD d = true) (ne : noD e = true) (sd : SeqAt.shaped d = true) (se : SeqAt.shaped e = true) : Ev S Z (n1 + n2) H0 σ (tOp (rEqD K) ta tb) (DQ K (.bool (PyData.eqv d e))) :=
  fun H b Q P k q => h1 H (n2 + b) _ (P.less (by omega)) k fun x H1 P1 k1 r1 => h2 H1 b _ P1 (k.trans k1) fun y H2 P2 k2 r2 =>
    ⟨d, e, dq_dp d nd (((show Dq K _ _ _ from r1).mono k2).mono hid_same), dq_dp e ne ((show Dq K _ _ _ from r2).mono hid_same), sd, se, q _ _ P2 (k1.trans k2) (.bl _)⟩
/-- an answer of explains -/
theorem q_expl {ls : List Lamp} {gs : List (List Stt)} (h : EvA S Z n H0 σ tl (DQs K [lampsD ls, gsD gs, d])) (e : gs.length = ls.length) (l9 : ls.length ≤ 900) (hs : ∀ l ∈ ls, StayOk l) (sh : d.showable = true) : Ev S Z n H0 σ (tCall (sp_expl K) [] E0 tl) (DQ K (.bool (explB ls gs d))) :=
  q_fn (A := fun x : List Lamp × List (List Stt) × PyData => [lampsD x.1, gsD x.2.1, x.2.2]) (ls, gs, d) h ⟨e, l9, hs, sh⟩
end
def bareV : List PyData := [.tuple [], .tuple [.tuple [.int 5, .int 1, .int 1]], .none, .tuple [.tuple [.int 5, .int 2, .int 1]], .list []]
theorem bare_sh : ∀ d ∈ bareV, d.showable = true := by
  have h : bareV.all (fun d => d.showable) = true := by decide +kernel
  exact fun d hd => List.all_eq_true.mp h d hd
theorem bare_eq : PyData.eqv (.list (bareV.map fun d => PyData.bool (explB [] [] d))) (.list [.bool true, .bool true, .bool false, .bool false, .bool false]) = true := by decide +kernel
end Lg
namespace Lg
open PySem PySem.Spec PyProof.Rows L2 Lm
/-! ### runs that are too many -/
theorem run_good {f st c : Int} (h0 : 0 ≤ f) (h1 : f ≤ 1000) (s0 : 1 ≤ st) (s1 : st ≤ 100) (c0 : 2 ≤ c) (c1 : c ≤ 1000061) : GoodR (f, st, c) :=
  ⟨h0, s0, by show 1 ≤ c; omega, fun z => by have z : c = 1 := z; omega, by
    show f + st * (c - 1) ≤ 1000000000
    have : st * (c - 1) ≤ 100 * (c - 1) := Int.mul_le_mul_of_nonneg_right s1 (by omega)
    omega⟩
theorem expl_one {f st c : Int} {ls : List Lamp} {gs : List (List Stt)} (h0 : 0 ≤ f) (h1 : f ≤ 1000) (s0 : 1 ≤ st) (s1 : st ≤ 100) (c0 : 2 ≤ c) (c1 : c ≤ 1000061) (e : gs.length = ls.length) (hl : ∀ l ∈ ls, 1 ≤ l.2) (hg : ∀ g ∈ gs, g.length ≤ 60) :
    explB ls gs (runsD [(f, st, c)]) = decide ((ls.map fun l => logF l (ap f st c.toNat)) = gs) := by
  have g := run_good h0 h1 s0 s1 c0 c1
  rw [expl_runs (rs := [(f, st, c)]) (fun r hr => by rw [List.mem_singleton.mp hr]; exact g) ⟨by show -1 < f; omega, s0, by show 1 ≤ c; omega, trivial⟩ (Nat.le_add_left 1 359) e hl hg]
  rw [show spreadAll [(f, st, c)] = ap f st c.toNat by simp [spreadAll]]
theorem many_no {kd : Bool} {s f st c : Int} {g : List Stt} (hs : 1 ≤ s) (h : s < st) (h0 : 0 ≤ f) (h1 : f ≤ 1000) (s1 : st ≤ 100) (c0 : 61 ≤ c) (c1 : c ≤ 1000061) (hg : g.length ≤ 60) : explB [(kd, s)] [g] (runsD [(f, st, c)]) = false := by
  rw [expl_one h0 h1 (by omega) s1 (by omega) c1 rfl (fun l hl => by rw [List.mem_singleton.mp hl]; exact hs) (fun x hx => by rw [List.mem_singleton.mp hx]; exact hg)]
  refine decide_eq_false fun e => ?_
  have e : logF (kd, s) (ap f st c.toNat) = g := (List.cons.inj e).1
  rw [logF_far hs h] at e
  have := congrArg List.length e
  rw [pcs_len] at this
  omega
theorem many_two {kd : Bool} {s f st c : Int} {g : List Stt} (hs : 1 ≤ s) (h : s < st) (h0 : 0 ≤ f) (h1 : f ≤ 1000) (s1 : st ≤ 100) (c0 : 61 ≤ c) (c1 : c ≤ 1000061) (hg : g.length ≤ 60) : explB [(kd, 1000000000), (kd, s)] [[], g] (runsD [(f, st, c)]) = false := by
  rw [expl_one h0 h1 (by omega) s1 (by omega) c1 rfl (fun l hl => by
    rcases List.mem_cons.mp hl with e | e
    · rw [e]; exact (by decide : (1 : Int) ≤ 1000000000)
    · rw [List.mem_singleton.mp e]; exact hs) (fun x hx => by
    rcases List.mem_cons.mp hx with e | e
    · rw [e]; exact Nat.zero_le _
    · rw [List.mem_singleton.mp e]; exact hg)]
  refine decide_eq_false fun e => ?_
  have e : logF (kd, 1000000000) (ap f st c.toNat) = [] := (List.cons.inj e).1
  refine logF_ne (fun z => ?_) e
  have := congrArg List.length z
  simp [ap] at this
  omega
theorem many_yes {kd : Bool} {s f st : Int} (hs : 1 ≤ s) (h : s < st) (h0 : 0 ≤ f) (h1 : f ≤ 1000) (s1 : st ≤ 100) : explB [(kd, s)] [pcs s f st 60] (runsD [(f, st, 60)]) = true := by
  rw [expl_one h0 h1 (by omega) s1 (by decide) (by decide) rfl (fun l hl => by rw [List.mem_singleton.mp hl]; exact hs) (fun x hx => by rw [List.mem_singleton.mp hx, pcs_len]; decide)]
  refine decide_eq_true ?_
  show [logF (kd, s) (ap f st 60)] = _
  rw [logF_far hs h]
/-! ### small runs, seen -/
theorem int_sh {i : Int} (h : i.natAbs < 10 ^ 12) : (PyData.int i).showable = true := (Sm.int h).sh
end Lg
namespace Lg
open PySem PySem.Spec PyProof.Rows L2 Lm
section
variable {K : PySem.W.Frag} {S : Src} {Z H0 : Hp} {σ : L2.St} {te ta : TE} {n m : Nat} {ds : List PyData}
theorem q_notBl {x y : Bool} (h : Ev S Z n H0 σ te (DQ K (.bool x))) : Ev S Z n H0 σ (tOp rNotB te (tC (.bl y))) (DQ K (.bool (!decide (x = y)))) := fun H b Q P k q => h H b _ P k fun v H1 P1 k1 r1 => by
  obtain rfl := dq_bool r1
  exact ⟨x, y, rfl, rfl, q _ _ P1 k1 (.bl _)⟩
theorem cut_whole {xs : List V} {lo hi : Option Int} (h : HT.sIx xs.length 0 lo = 0 ∧ HT.sIx xs.length xs.length hi = xs.length) : cutV xs lo hi = xs := by
  unfold cutV
  rw [h.1, h.2]
  simp
theorem q_take (h : Ev S Z n H0 σ te (DQ K (.tuple ds))) : Ev S Z n H0 σ (tSl (rSlA K) te tNoPart (tPart (tC (.int (m : Int))))) (DQ K (.tuple (ds.take m))) := fun H b Q P k q => h H b _ P k fun v H1 P1 k1 r1 => by
  obtain ⟨a, xs, rfl, g, hx⟩ := dq_tup r1
  have lx := hx.len
  refine ⟨m, rfl, a, xs, rfl, Same.seqT hid_same g, fun hw => ?_, fun _ t nt => ?_⟩
  · have e := cut_whole hw
    rw [cutV_take] at e
    have l := congrArg List.length e
    rw [List.length_take] at l
    have w : ds.take m = ds := List.take_of_length_le (by omega)
    rw [w] at q
    exact q _ _ P1 k1 r1
  · rw [cutV_take]
    obtain ⟨P4, k4, e4⟩ := laid (o := .tup (xs.take m)) P1 nt
    exact q _ _ P4 (k1.trans k4) (Dq.tup (.inl (.inl e4)) ((Dqs.take m hx).mono k4))
theorem q_drop (hm : m ≤ ds.length) (h : Ev S Z n H0 σ te (DQ K (.tuple ds))) : Ev S Z n H0 σ (tSl (rSlA K) te (tPart (tC (.int (m : Int)))) tNoPart) (DQ K (.tuple (ds.drop m))) := fun H b Q P k q => h H b _ P k fun v H1 P1 k1 r1 => by
  obtain ⟨a, xs, rfl, g, hx⟩ := dq_tup r1
  have lx := hx.len
  refine ⟨m, rfl, a, xs, rfl, Same.seqT hid_same g, fun hw => ?_, fun _ t nt => ?_⟩
  · have e := cut_whole hw
    rw [cutV_drop _ (by omega)] at e
    have l := congrArg List.length e
    rw [List.length_drop] at l
    have : m = 0 ∨ ds = [] := by
      cases ds with
      | nil => exact .inr rfl
      | cons d r =>
        left
        simp only [List.length_cons] at lx
        omega
    rcases this with z | z
    · subst z
      exact q _ _ P1 k1 r1
    · subst z
      rw [List.drop_nil] at q
      exact q _ _ P1 k1 r1
  · rw [cutV_drop _ (by omega)]
    obtain ⟨P4, k4, e4⟩ := laid (o := .tup (xs.drop m)) P1 nt
    exact q _ _ P4 (k1.trans k4) (Dq.tup (.inl (.inl e4)) ((Dqs.drop m hx).mono k4))
end
end Lg

namespace Lg
open PySem PySem.Spec PyProof.Rows L2 Lm PySem.SeqAt PySem.MeetsSeq
open PySem.AutoSeq1 (wpAny_loadPart')
/-! ### a tuple times a whole number from 1 on -/
theorem tuple_once (l : Addr) (items : Array Value) (n : Nat) (dd : Option Addr) (sl : Array (Option Value)) (u : Tok) :
    Meets (Builtin.«tuple.__mul__» ⟨[.ref l, .int 1 u], []⟩) (fun _ R s => s.heap.get? l = some { cls := .type "tuple", dict := dd, data := .seq items n, slots := sl } ∧ R (.ok (.ret (.ref l))) s) :=
  .of_wp fun prog w A R s h => by
    obtain ⟨hp, g, d, tk, os⟩ := s
    obtain ⟨hl, h⟩ := h
    have f1 := AutoSeq1.idx_int
    have c1 : (items.isEmpty || (1 : Int) == 1) = true := by simp
    wp_walk using wpAny_loadPart' hl
    exact ⟨_, rfl, h⟩
def rRepB (K : PySem.W.Frag) : R2 := fun x y H Q => ∃ l k xs, x = .ref l ∧ y = .int k ∧ SqT K H l xs ∧ xs ≠ [] ∧ 1 ≤ k ∧ k ≤ 1000 ∧ xs.length ≤ 1000 ∧ (k = 1 → Q (.ref l) H) ∧ (2 ≤ k → ∀ p, H p = none → Q (.ref p) (upd H p (.tup (List.replicate k.toNat xs).flatten)))
theorem op_repB {X : Cx} {K : PySem.W.Frag} (hK : X.K = K) : OpR X (binaryOp .Mult) (rRepB K) := by
  subst hK
  intro pins s σ H x y v u Q I rx ry h
  obtain ⟨l, k, xs, rfl, rfl, hT, hne, h1, h2, h3, q1, q2⟩ := h
  by_cases e : k = 1
  · subst e
    cases rx
    obtain ⟨t, rfl⟩ := ry
    obtain ⟨its, r, ⟨⟨cls, dd, data, sl⟩, ho, hc, n, hd⟩, hs⟩ := I.tuple hT
    simp only at hc hd
    subst hc hd
    have ty : s.TypeIs (.ref l) "tuple" := ⟨_, ho, rfl⟩
    exact wpAny_binaryOp_repeat_ref (T := "tuple") (U := "int") (by decide) ty (fun s' => typeIs_int s' 1 t) noFill_tuple_mul F.fills_int_mul F.slot_int_rmul repeat_tuple F.slot_int_index.lookup
      (call_meets F.slot_int_rmul (typeIs_int s 1 t) F.entry_int_rmul (F.args_int_rmul_2 _ _) (int_rmul_tuple 1 t l its.toArray n dd sl) ⟨ho, rfl, ty,
        call_meets F.slot_tuple_mul ty F.entry_tuple_mul (F.args_tuple_mul_2 _ _) (tuple_once l its.toArray n dd sl t) ⟨ho, ⟨.ref l, H, I, rfl, q1 rfl⟩⟩⟩)
  · exact op_repT pins s σ H _ _ v u Q I rx ry ⟨l, k, xs, rfl, rfl, hT, hne, by omega, h2, h3, q2 (by omega)⟩
section
variable {K : PySem.W.Frag} {S : Src} {Z H0 : Hp} {σ : L2.St} {ta tb te : TE} {n n1 n2 : Nat} {ds es : PyData} {xs ys : List PyData}
theorem rep_one {α : Type} (x : α) : ∀ n : Nat, (List.replicate n [x]).flatten = List.replicate n x
  | 0 => rfl
  | n + 1 => by rw [List.replicate_succ, List.flatten_cons, rep_one x n]; rfl
theorem dqs_rep {G : Hp} {v : V} {d : PyData} (h : Dq K G v d) : ∀ n : Nat, Dqs K G (List.replicate n v) (List.replicate n d)
  | 0 => .nil
  | n + 1 => .cons h (dqs_rep h n)
theorem q_repB {d : PyData} {k : Int} (h1 : 1 ≤ k) (h2 : k ≤ 1000) (h : Ev S Z n1 H0 σ ta (DQ K (.tuple [d]))) (hk : Ev S Z n2 H0 σ tb (EI k)) : Ev S Z (n1 + n2) H0 σ (tOp (rRepB K) ta tb) (DQ K (.tuple (List.replicate k.toNat d))) :=
  fun H b Q P kk q => h H (n2 + b) _ (P.less (by omega)) kk fun x H1 P1 k1 r1 => hk H1 b _ P1 (kk.trans k1) fun y H2 P2 k2 r2 => by
    obtain ⟨a, xs, rfl, g, hx⟩ := dq_tup ((show Dq K _ _ _ from r1).mono k2)
    obtain ⟨v, r, rfl, hv, hr⟩ := dqs_cons hx
    obtain rfl := dqs_nil hr
    refine ⟨a, k, [v], rfl, r2, Same.seqT hid_same g, by simp, h1, h2, Nat.le_add_left 1 999, fun e => ?_, fun e p np => ?_⟩
    · subst e
      exact q _ _ P2 (k1.trans k2) (Dq.tup g (.cons hv .nil))
    · rw [rep_one]
      obtain ⟨P4, k4, e4⟩ := laid (o := .tup (List.replicate k.toNat v)) P2 np
      exact q _ _ P4 (k1.trans (k2.trans k4)) (Dq.tup (.inl (.inl e4)) (dqs_rep (hv.mono k4) _))
theorem q_catA (h1 : Ev S Z n1 H0 σ ta (DQ K (.tuple xs))) (h2 : Ev S Z n2 H0 σ tb (DQ K (.tuple ys))) (hl : xs.length + ys.length ≤ 1000) : Ev S Z (n1 + n2) H0 σ (tOp (rCatA K) ta tb) (DQ K (.tuple (xs ++ ys))) :=
  fun H b Q P k q => h1 H (n2 + b) _ (P.less (by omega)) k fun x H1 P1 k1 r1 => h2 H1 b _ P1 (k.trans k1) fun y H2 P2 k2 r2 => by
    have r1' := (show Dq K _ _ _ from r1).mono k2
    obtain ⟨a, us, rfl, g, hx⟩ := dq_tup r1'
    obtain ⟨a2, ws, rfl, g2, hy⟩ := dq_tup r2
    have lx := hx.len
    have ly := hy.len
    refine ⟨a, a2, us, ws, rfl, rfl, Same.seqT hid_same g, Same.seqT hid_same g2, Nat.le_of_lt (small1000 (by omega)), fun z => ?_, fun z1 z2 => ?_, fun z1 z2 t nt => ?_⟩
    · subst z
      have e : xs = [] := List.eq_nil_of_length_eq_zero (by rw [← lx]; rfl)
      subst e
      exact q _ _ P2 (k1.trans k2) r2
    · subst z2
      have e : ys = [] := List.eq_nil_of_length_eq_zero (by rw [← ly]; rfl)
      subst e
      rw [List.append_nil] at q
      exact q _ _ P2 (k1.trans k2) r1'
    · obtain ⟨P4, k4, e4⟩ := laid (o := .tup (us ++ ws)) P2 nt
      exact q _ _ P4 (k1.trans (k2.trans k4)) (Dq.tup (.inl (.inl e4)) (Dqs.app (hx.mono k4) (hy.mono k4)))
theorem q_listOf (h : Ev S Z n H0 σ te (DQ K (.tuple xs))) : Ev S Z n H0 σ (tCB (fun xs H Q => ∃ p ys, xs = [.ref p] ∧ (SqL K H p ys ∨ SqT K H p ys) ∧ ∀ l, H l = none → Q (.ref l) (upd H l (.lst ys))) (tCons te tNil)) (DQ K (.list xs)) :=
  fun H b Q P k q => h H b _ P k fun v H1 P1 k1 r1 => by
    obtain ⟨a, us, rfl, g, hx⟩ := dq_tup r1
    refine ⟨a, us, rfl, .inr (Same.seqT hid_same g), fun t nt => ?_⟩
    obtain ⟨P4, k4, e4⟩ := laid (o := .lst us) P1 nt
    exact q _ _ P4 (k1.trans k4) (Dq.lst (.inl (.inl e4)) (hx.mono k4))
theorem q_lenT (h : Ev S Z n H0 σ te (DQ K (.tuple xs))) : Ev S Z n H0 σ (tCB (fun xs H Q => ∃ p ys, xs = [.ref p] ∧ (SqL K H p ys ∨ SqT K H p ys) ∧ Q (.int ys.length) H) (tCons te tNil)) (EI (xs.length : Int)) :=
  fun H b Q P k q => h H b _ P k fun v H1 P1 k1 r1 => by
    obtain ⟨a, us, rfl, g, hx⟩ := dq_tup r1
    have lx := hx.len
    exact ⟨a, us, rfl, .inr (Same.seqT hid_same g), q _ _ P1 k1 (by rw [lx]; rfl)⟩
theorem q_eqTE {d : PyData} {b : Bool} (hd : d ∈ oddL) (h1 : Ev S Z n1 H0 σ ta (DQ K d)) (h2 : Ev S Z n2 H0 σ tb (fun v G => ∃ a, v = .ref a ∧ G a = some (.tup []))) : Ev S Z (n1 + n2) H0 σ (tOp (rEqTE K) ta tb) (DQ K (.bool (isTE d))) :=
  fun H b Q P k q => h1 H (n2 + b) _ (P.less (by omega)) k fun x H1 P1 k1 r1 => h2 H1 b _ P1 (k.trans k1) fun y H2 P2 k2 r2 => by
    obtain ⟨a, rfl, g⟩ := r2
    have r1' := ((show Dq K _ _ _ from r1).mono k2).mono hid_same
    exact ⟨d, a, rfl, hid_same _ _ g, odd_te hd r1', q _ _ P2 (k1.trans k2) (.bl _)⟩
theorem ev_tup0 : Ev S Z 0 H0 σ (tTup tNil) (fun v G => ∃ a, v = .ref a ∧ G a = some (.tup [])) := (ev_tup eva_nil (fun vs G e => by rw [e]; exact Nat.zero_le _) (fun _ _ _ _ h => h)).imp fun v G ⟨a, xs, e, g, z⟩ => ⟨a, e, by rw [g, z]⟩
end
end Lg

namespace Lg
open PySem PySem.Spec PyProof.Rows L2 Lm
/-! ### k14: values that are no motions -/
theorem shAll_app : ∀ xs ys : List PyData, PyData.showableAll (xs ++ ys) = (PyData.showableAll xs && PyData.showableAll ys)
  | [], ys => by simp [PyData.showableAll]
  | x :: xs, ys => by
    show (x.showable && PyData.showableAll (xs ++ ys)) = ((x.showable && PyData.showableAll xs) && PyData.showableAll ys)
    rw [shAll_app xs ys, Bool.and_assoc]
theorem runs_sh : ∀ {rs : List Run}, (∀ r ∈ rs, RunOk r) → PyData.showableAll (rs.map runD) = true
  | [], _ => rfl
  | r :: rs, h => by
    show ((runD r).showable && PyData.showableAll (rs.map runD)) = true
    rw [(run_sm (h r List.mem_cons_self)).sh, runs_sh fun x hx => h x (List.mem_cons_of_mem _ hx)]; rfl
def wrongV (rs : List Run) : List PyData := [.list (rs.map runD), .tuple (rs.map runD ++ [runD (0, 1, 1), runD (0, 1, 1)]), .tuple (rs.map runD ++ [.none]), .tuple (rs.map runD ++ [runD (1000000000, 1, 2)]), .none, .str "none"]
theorem up_last : ∀ {rs : List Run} {b : Int} {x y : Run}, RunsUp b (rs ++ [x, y]) → lastM x < y.1
  | [], _, _, _, ⟨_, _, _, h, _⟩ => h
  | r :: rs, _, _, _, ⟨_, _, _, h⟩ => up_last (rs := rs) h
theorem wrong_no {rs : List Run} {d : PyData} (h : d ∈ wrongV rs) : isN (motErr d) = false := by
  have key : ∀ d, d ∈ wrongV rs → ¬ isN (motErr d) = true := by
    intro d h e
    obtain ⟨m1, _, m3, m4⟩ := mot_runs e
    unfold wrongV at h
    rcases List.mem_cons.mp h with z | h
    · subst z; cases e
    rcases List.mem_cons.mp h with z | h
    · have q : d = runsD (rs ++ [(0, 1, 1), (0, 1, 1)]) := by rw [z]; simp [runsD]
      rw [q, runsOf_runs] at m4
      have : lastM (0, 1, 1) < (0 : Int) := up_last m4
      exact absurd this (by decide)
    rcases List.mem_cons.mp h with z | h
    · subst z
      have q : rs.map runD ++ [PyData.none] = (runsOf (.tuple (rs.map runD ++ [.none]))).map runD := PyData.tuple.inj m1
      have mem : PyData.none ∈ rs.map runD ++ [PyData.none] := List.mem_append_right _ List.mem_cons_self
      rw [q] at mem
      obtain ⟨r, _, z⟩ := List.mem_map.mp mem
      cases z
    rcases List.mem_cons.mp h with z | h
    · have q : d = runsD (rs ++ [(1000000000, 1, 2)]) := by rw [z]; simp [runsD]
      rw [q, runsOf_runs] at m3
      have := (m3 (1000000000, 1, 2) (List.mem_append_right _ List.mem_cons_self)).l
      exact absurd this (by decide)
    rcases List.mem_cons.mp h with z | h
    · subst z; cases e
    · rw [List.mem_singleton.mp h] at e; cases e
  cases hh : isN (motErr d) with
  | false => rfl
  | true => exact absurd hh (key d h)
theorem wrong_sh {rs : List Run} {d : PyData} (hr : ∀ r ∈ rs, RunOk r) (h : d ∈ wrongV rs) : d.showable = true := by
  have e := runs_sh hr
  unfold wrongV at h
  rcases List.mem_cons.mp h with z | h
  · rw [z]; exact e
  rcases List.mem_cons.mp h with z | h
  · rw [z]
    show PyData.showableAll (_ ++ _) = true
    rw [shAll_app, e]; decide +kernel
  rcases List.mem_cons.mp h with z | h
  · rw [z]
    show PyData.showableAll (_ ++ _) = true
    rw [shAll_app, e]; rfl
  rcases List.mem_cons.mp h with z | h
  · rw [z]
    show PyData.showableAll (_ ++ _) = true
    rw [shAll_app, e]; decide +kernel
  rcases List.mem_cons.mp h with z | h
  · rw [z]; rfl
  · rw [List.mem_singleton.mp h]; rfl
/-! ### what an odd value explains -/
theorem logOf_nil (l : Lamp) : logOf l [] = [] := by
  obtain ⟨h, s⟩ := l
  cases h <;> rfl
theorem give_nil : ∀ (ls : List Lamp) (gs : List (List Stt)), gs.length = ls.length → giveB [] ls gs = decide (gs = List.replicate ls.length [])
  | [], [], _ => rfl
  | l :: ls, g :: gs, h => by
    unfold giveB
    rw [give_nil ls gs (by simpa using h), List.length_cons, List.replicate_succ]
    unfold hasB
    rw [logOf_nil]
    by_cases e1 : g = [] <;> by_cases e2 : gs = List.replicate ls.length [] <;> simp [e1, e2, eq_comm]
  | [], _ :: _, h => by simp at h
  | _ :: _, [], h => by simp at h
theorem expl_odd {d : PyData} {ls : List Lamp} {gs : List (List Stt)} (h : d ∈ oddL) (e : gs.length = ls.length) : explB ls gs d = (isTE d && decide (gs = List.replicate ls.length [])) := by
  rcases (odd_ok h).2.1 with z | z
  · rw [z, te_eq z]
    show (true && giveB [] ls gs) = _
    rw [give_nil ls gs e]
  · unfold explB
    rw [z, Bool.false_and]
    cases hz : isTE d with
    | false => rfl
    | true => rw [te_eq hz] at z; cases z
/-! ### sizes -/
theorem lamps_sm {ls : List Lamp} {c : Nat} (hl : ls.length ≤ c) (h : ∀ l ∈ ls, StayOk l) : Sm (c * 35 + 3) 2 (lampsD ls) :=
  Sm.tuple (n := 33) (k := 1) (fun d hd => by
    obtain ⟨q, hq, rfl⟩ := List.mem_map.mp hd
    have := h q hq
    exact lamp_sm (by unfold StayOk at this; omega) (by unfold StayOk at this; omega)) (by rw [List.length_map]; exact hl)
theorem gs_sm {gs : List (List Stt)} {c : Nat} (hl : gs.length ≤ c) (h : ∀ g ∈ gs, StOk 60 10000000000 g) : Sm (c * 2105 + 3) 3 (gsD gs) :=
  Sm.tuple (n := 2103) (k := 2) (fun d hd => by
    obtain ⟨q, hq, rfl⟩ := List.mem_map.mp hd
    exact log_sm (n := 60) (h q hq) (Int.le_refl _)) (by rw [List.length_map]; exact hl)
theorem three_fine {a b c : PyData} {n k : Nat} (h1 : Sm n k a) (h2 : Sm n k b) (h3 : Sm n k c) (hn : 3 * (n + 2) + 3 ≤ 16777216) (hk : k + 1 ≤ 100) : Fine (.list [a, b, c]) :=
  (Sm.list (c := 3) (ds := [a, b, c]) (n := n) (k := k) (fun x hx => by
    rcases List.mem_cons.mp hx with z | z
    · rw [z]; exact h1
    · rcases List.mem_cons.mp z with z | z
      · rw [z]; exact h2
      · rw [List.mem_singleton.mp z]; exact h3) (Nat.le_refl 3)).fine hn hk
theorem gs_noD : ∀ gs : List (List Stt), noD (gsD gs) = true := by
  have p : ∀ ps : List Stt, noDs (ps.map pD) = true := by
    intro ps
    induction ps with
    | nil => rfl
    | cons q r ih => show (noD (pD q) && noDs (r.map pD)) = true; rw [ih]; rfl
  intro gs
  show noDs (gs.map logD) = true
  induction gs with
  | nil => rfl
  | cons g r ih =>
    show (noD (logD g) && noDs (r.map logD)) = true
    rw [ih]
    show (noDs (g.map pD) && true) = true
    rw [p]; rfl
theorem rep_gs (n : Nat) : PyData.tuple (List.replicate n (.tuple [])) = gsD (List.replicate n []) := by
  unfold gsD
  rw [List.map_replicate]; rfl
/-! ### evaluations of the law's own calls -/
section
variable {K : PySem.W.Frag} {r c : Addr} {Z H0 : Hp} {σ : L2.St} {te tl : TE} {n : Nat}
def MinR (v : V) (G : Hp) : Prop := ∃ ms, LI G v ms ∧ MsOk ms ∧ ms.length ≤ 51
theorem MinR.mo : Mo MinR := fun _ _ _ s ⟨ms, l, h⟩ => ⟨ms, l.mono s, h⟩
theorem ms_of {ms : List Int} {n : Int} (h : MinsOk n ms) (hn : n ≤ 50) : MsOk ms ∧ ms.length ≤ 51 := ⟨⟨h.1, by have := h.2.1; omega, fun m hm => by have := h.2.2 m hm; omega⟩, by have := h.2.1; omega⟩
theorem ev_near {i j : Nat} {x : V} {ms : List Int} (e : σ[i]? = some (some (.ref r))) (ej : σ[j]? = some (some x)) (hx : LI (hid (reel r c) Z H0) x ms) (hm : MinsOk 50 ms) : Ev (reel r c) Z 3 H0 σ (tCall sp_nearL [] E0 (tCons (tVar i) (tCons (tVar j) tNil))) MinR :=
  fun H b Q P k q => ⟨_, e, x, ej, Z, r, c, b, x, ms, rfl, P, hx.mono k, hm, fun y H' ns P' k' l h1 h2 => q y H' P' k' ⟨ns, l, h1, h2⟩⟩
theorem ev_minsL {i : Nat} {m g : Int} (e : σ[i]? = some (some (.ref r))) (m0 : 0 ≤ m) (m1 : m ≤ 50) (g0 : 1 ≤ g) (g1 : g ≤ 20000) : Ev (reel r c) Z 205 H0 σ (tCall sp_minutesL [] E0 (tCons (tVar i) (tCons (tC (.int m)) (tCons (tC (.int g)) tNil)))) MinR :=
  fun H b Q P k q => ⟨_, e, Z, r, c, b, m, g, rfl, P, m0, m1, g0, g1, fun y H' ns P' k' l h => q y H' P' k' ⟨ns, l, ms_of h m1⟩⟩
theorem ev_emptyL : Ev (reel r c) Z 0 H0 σ (tLst tNil) MinR := fun H b Q P k q => ⟨Nat.zero_le _, fun t nt => by
  obtain ⟨P4, k4, e4⟩ := laid (o := .lst []) P nt
  exact q _ _ (P4.less (by omega)) k4 ⟨[], ⟨t, rfl, e4⟩, ⟨trivial, Nat.zero_le _, fun m h => (nomatch h)⟩, Nat.zero_le _⟩⟩
def onesF : PyData → PyData
  | .int m => runD (m, 1, 1)
  | d => d
theorem onesF_map (ms : List Int) : (ms.map PyData.int).map onesF = (ones1 ms).map runD := by
  unfold ones1
  rw [List.map_map, List.map_map]; rfl
/-- tuple([(minute, 1, 1) for minute in ..]) -/
theorem q_ones {S : Src} {v : Nat} {ms : List Int} (hl : ms.length ≤ 900) (h : Ev S Z n H0 σ tl (DQ K (minsD ms))) (hv : v < σ.length) :
    Ev S Z n H0 σ (tCB (fun xs H Q => ∃ p ys, xs = [.ref p] ∧ ((SqL K H p ys ∧ ∀ l, H l = none → Q (.ref l) (upd H l (.tup ys))) ∨ (SqT K H p ys ∧ Q (.ref p) H))) (tCons (tLc (iList K tl) (gName v) tYes (tTup (tCons (tVar v) (tCons (tC (.int 1)) (tCons (tC (.int 1)) tNil)))) [v]) tNil)) (DQ K (runsD (ones1 ms))) := by
  have key := q_tupleOf (q_lc (K := K) (S := S) (Z := Z) (H0 := H0) (σ := σ) (v := v) (te := tTup (tCons (tVar v) (tCons (tC (.int 1)) (tCons (tC (.int 1)) tNil)))) (ds := ms.map .int) (F := onesF) (by rw [List.length_map]; exact hl) h fun Z' H1 x d hd s2 hx => by
    obtain ⟨m, _, rfl⟩ := List.mem_map.mp hd
    obtain rfl := dq_int hx
    refine q_tup (ds := [.int m, .int 1, .int 1]) (Nat.le_add_left 3 997) (qa_cons (q_var (v := .int m) ?_ (.int m)) (qa_cons q_int (qa_cons q_int qa_nil)))
    rw [List.getElem?_set_self (by simp [wipe, hv])])
  rw [onesF_map] at key
  exact key
end
end Lg
namespace Lg
open PySem PySem.Spec PyProof.Rows L2 Lm
section
variable {K : PySem.W.Frag} {S : Src} {Z H0 : Hp} {σ : L2.St} {tl : TA} {n : Nat}
theorem q_at {v : V} {d : PyData} (h : Dq K (hid S Z H0) v d) : Ev S Z 0 H0 σ (tC v) (DQ K d) := fun H b Q P k q => q v H (P.less (by omega)) Kp.refl ((show Dq K _ _ _ from h).mono k)
theorem q_logs {ls : List Lamp} {ms : List Int} (h : EvA S Z n H0 σ tl (DQs K [lampsD ls, minsD ms])) (h1 : ls.length ≤ 900) (h2 : ms.length ≤ 900) : Ev S Z n H0 σ (tCall (sp_l_logs K) [] E0 tl) (DQ K (gsD (ls.map fun l => logF l ms))) := by
  have := q_fn (K := K) (A := fun x : List Lamp × List Int => [lampsD x.1, minsD x.2]) (P := fun x : List Lamp × List Int => x.1.length ≤ 900 ∧ x.2.length ≤ 900) (F := fun x : List Lamp × List Int => PyData.tuple (x.1.map fun l => logD (logF l x.2))) (ls, ms) h ⟨h1, h2⟩
  rw [show gsD (ls.map fun l => logF l ms) = PyData.tuple (ls.map fun l => logD (logF l ms)) by unfold gsD; rw [List.map_map]; rfl]
  exact this
theorem q_gp {ms : List Int} (h : EvA S Z n H0 σ tl (DQs K [minsD ms])) (hm : MsOk ms) : Ev S Z n H0 σ (tCall (sp_gp K) [] E0 tl) (DQ K (runsD (gpF ms))) :=
  q_fn (K := K) (A := fun ms : List Int => [minsD ms]) (P := MsOk) (F := fun ms => runsD (gpF ms)) ms h hm
end
section
variable {K : PySem.W.Frag} {r c : Addr} {Z H0 : Hp} {σ : L2.St}
theorem ev_bent {i j : Nat} {v : V} {g0 : List Stt} {gr : List (List Stt)} {B : Int} (e : σ[i]? = some (some (.ref r))) (ej : σ[j]? = some (some v)) (hd : Dq K (hid (reel r c) Z H0) v (gsD (g0 :: gr))) (hg : LgOk 60 B g0) (b0 : 0 ≤ B) (b1 : B ≤ 100000000) :
    Ev (reel r c) Z 3 H0 σ (tCall (sp_bent K) [] E0 (tCons (tVar i) (tCons (tOp (rIxT K) (tVar j) (tC (.int 0))) tNil))) (DR K fun d => ∃ qs, d = logD qs ∧ LgOk 60 (B + 8) qs) := fun H b Q P k q => by
  obtain ⟨a, xs, rfl, g, hx⟩ := dq_tup (hd.mono k)
  obtain ⟨u, us, rfl, hu, _⟩ := dqs_cons hx
  refine ⟨_, e, .ref a, ej, a, _, 0, u, rfl, rfl, Same.seqT hid_same g, atI_nat (j := 0) rfl, Z, r, c, b, u, g0, B, rfl, P, hu, hg, b0, b1, fun y H' qs P' k' dq hq => ?_⟩
  exact q y H' P' k' ⟨_, dq, qs, rfl, hq⟩
end
end Lg
namespace Lg
open PySem PySem.Spec PyProof.Rows L2 Lm
theorem catA_run {K : PySem.W.Frag} {S : Src} {Z : Hp} {v w : V} {H : Hp} {b : Nat} {Q : VK} {xs ys : List PyData} (P : Iv S Z b H) (h1 : Dq K (hid S Z H) v (.tuple xs)) (h2 : Dq K (hid S Z H) w (.tuple ys)) (hl : xs.length + ys.length ≤ 1000)
    (q : ∀ u H', Iv S Z b H' → Kp S Z H H' → Dq K (hid S Z H') u (.tuple (xs ++ ys)) → Q u H') : rCatA K v w H Q :=
  (q_catA (σ := []) (q_at h1) (q_at h2) hl).run P (b := b) (by omega) q
end Lg
namespace Lg
open PySem PySem.Spec PyProof.Rows L2 Lm
/-- a comprehension whose test lets nothing through -/
theorem q_lc0 {K : PySem.W.Frag} {S : Src} {Z H0 : Hp} {σ : L2.St} {te tl : TE} {tt : TT} {n v : Nat} {ds : List PyData} (h : Ev S Z n H0 σ tl (DQ K (.list ds)))
    (hT : ∀ (Z' H1 : Hp) (x : V) (d : PyData) (b : Nat) (Q : Bool → Hp → Prop), d ∈ ds → Same (hid S Z H0) (hid S Z' H1) → Dq K (hid S Z' H1) x d → Iv S Z' b H1 → (∀ H', Iv S Z' b H' → Kp S Z' H1 H' → Q false H') → tt ((wipe σ [v]).set v (some x)) H1 Q) :
    Ev S Z n H0 σ (tLc (iList K tl) (gName v) tt te [v]) (fun u G => ∃ a, u = .ref a ∧ G a = some (.lst [])) := fun H b Q P k q => by
  refine h H b _ P k fun x H1 P1 k1 r1 => ?_
  obtain ⟨a, xs, rfl, g, hx⟩ := dq_lst r1
  refine ⟨a, rfl, ⟨xs, Same.seqL hid_same g⟩, fun D nD => ?_⟩
  have f := P1.free nD
  refine lc_list (K := K) (a := a) (xs := xs) (fun i Hj => Iv S (upd Z D (.lst [])) b Hj ∧ Same (hid S Z H1) (hid S (upd Z D (.lst [])) Hj)) ⟨(P1.new nD).hide upd_same f.1, hid_new2 nD⟩ (fun i Hj _ ⟨_, sj⟩ => Same.seqL (Same.trans sj hid_same) g) ?_ ?_
  · rintro i x Hj hx' ⟨Pj, sj⟩
    obtain ⟨d, hd, dq⟩ := hx.get hx'
    refine ⟨by simp only [wipe, List.set_set], ?_⟩
    exact hT _ Hj x d b _ (List.mem_of_getElem? hd) (Same.trans (Same.trans k k1) sj) (dq.mono sj) Pj fun H4 P4 k4 => iteF ⟨P4, Same.trans sj k4⟩
  · rintro Hn ⟨Pn, sn⟩
    have e := Pn.zz _ _ upd_same
    exact q _ Hn (Pn.bare f.2) (Kp.trans k1 (sn.trans hid_hide)) ⟨D, rfl, by rw [hid_at f]; exact e⟩
theorem ev_lst0 {S : Src} {Z H0 : Hp} {σ : L2.St} : Ev S Z 0 H0 σ (tLst tNil) (fun v G => ∃ a, v = .ref a ∧ G a = some (.lst [])) := fun H b Q P k q => ⟨Nat.zero_le _, fun t nt => by
  obtain ⟨P4, k4, e4⟩ := laid (o := .lst []) P nt
  exact q _ _ (P4.less (by omega)) k4 ⟨t, rfl, e4⟩⟩
theorem ev_neE {K : PySem.W.Frag} {S : Src} {Z H0 : Hp} {σ : L2.St} {ta tb : TE} {n1 n2 : Nat} (h1 : Ev S Z n1 H0 σ ta (fun v G => ∃ a, v = .ref a ∧ G a = some (.lst []))) (h2 : Ev S Z n2 H0 σ tb (fun v G => ∃ a, v = .ref a ∧ G a = some (.lst []))) : Ev S Z (n1 + n2) H0 σ (tOp (rNeE K) ta tb) (fun v _ => v = .bl false) :=
  fun H b Q P k q => h1 H (n2 + b) _ (P.less (by omega)) k fun x H1 P1 k1 r1 => h2 H1 b _ P1 (k.trans k1) fun y H2 P2 k2 r2 => by
    obtain ⟨a, rfl, g⟩ := r1
    obtain ⟨a2, rfl, g2⟩ := r2
    exact ⟨a, a2, [], rfl, rfl, .inl (.inl (hid_same _ _ (k2 _ _ g))), .inl (.inl (hid_same _ _ g2)), q _ _ P2 (k1.trans k2) rfl⟩
end Lg

namespace Lg
open PySem PySem.Spec PyProof.Rows L2 Lm
/-! ### k14: the far lamps and the many runs at its end -/
def farL (s : Int) : List Lamp := [(true, s), (false, s)]
def farG (s : Int) : List (List Stt) := [[(7, 100000000)], [(7, 100000000 - (99999993 : Int).fmod s)]]
def farR (s : Int) : List Run := [(7, s, (99999993 : Int).fdiv s), (100000000 - s, 1, 1)]
def farR' (s : Int) : List Run := if (99999993 : Int).fmod s = 0 then (farR s).take 1 else farR s
theorem five {s : Int} (h0 : 2 ≤ s) (h1 : s ≤ 6) : s = 2 ∨ s = 3 ∨ s = 4 ∨ s = 5 ∨ s = 6 := by omega
theorem far_one {s : Int} (h0 : 2 ≤ s) (h1 : s ≤ 6) : explB [(true, s)] [[(7, 100000000)]] (runsD (farR' s)) = true := by
  rcases five h0 h1 with e | e | e | e | e <;> subst e <;> decide +kernel
theorem far_two {s : Int} (h0 : 2 ≤ s) (h1 : s ≤ 6) : explB [(false, s)] [[(7, 100000000 - (99999993 : Int).fmod s)]] (runsD ((farR' s).take 1)) = true := by
  rcases five h0 h1 with e | e | e | e | e <;> subst e <;> decide +kernel
theorem far_sh {s : Int} (h0 : 2 ≤ s) (h1 : s ≤ 6) : (runsD (farR' s)).showable = true ∧ (runsD ((farR' s).take 1)).showable = true := by
  rcases five h0 h1 with e | e | e | e | e <;> subst e <;> exact ⟨by decide +kernel, by decide +kernel⟩
def rangeI (n : Nat) : List Int := (List.range n).map fun (k : Nat) => (k : Int)
theorem range_mem {n : Nat} {m : Int} (h : m ∈ rangeI n) : 0 ≤ m ∧ m < n := by
  obtain ⟨k, hk, rfl⟩ := List.mem_map.mp h
  have := List.mem_range.mp hk
  omega
theorem range_asc (n : Nat) : Asc (-1) (rangeI n) := by
  refine asc_of (fun m h => by have := range_mem h; omega) ?_
  unfold rangeI
  rw [List.pairwise_map]
  exact List.pairwise_lt_range.imp fun h => by omega
theorem ones_good {n : Nat} (hn : n ≤ 1000) : ∀ r ∈ ones1 (rangeI n), GoodR r := fun r hr => by
  obtain ⟨m, hm, rfl⟩ := List.mem_map.mp hr
  have := range_mem hm
  exact ⟨this.1, Int.le_refl _, Int.le_refl _, fun _ => rfl, by show m + 1 * (1 - 1) ≤ 1000000000; omega⟩
theorem ones_eq (ms : List Int) : spreadAll (ones1 ms) = ms := by
  induction ms with
  | nil => rfl
  | cons x xs ih =>
    show ap x 1 1 ++ spreadAll (ones1 xs) = x :: xs
    rw [ih, ap_one]; rfl
theorem range_take {n m : Nat} (h : m ≤ n) : (ones1 (rangeI n)).take m = ones1 (rangeI m) := by
  unfold ones1 rangeI
  rw [← List.map_take, ← List.map_take, List.take_range, Nat.min_eq_left h]
theorem range_len (n : Nat) : (ones1 (rangeI n)).length = n := by simp [ones1, rangeI]
theorem many_361 : explB [(true, 400)] [[(0, 760)]] (runsD (ones1 (rangeI 361))) = false := by
  unfold explB
  have e : isN (motErr (runsD (ones1 (rangeI 361)))) = false := by
    show isN (if 360 < ((ones1 (rangeI 361)).map runD).length then two .none (.str "motions") else motGo ((ones1 (rangeI 361)).map runD) 0 (-1)) = false
    rw [if_pos (by rw [List.length_map, range_len]; decide)]; rfl
  rw [e, Bool.false_and]
theorem many_360 : explB [(true, 400)] [[(0, 759)]] (runsD ((ones1 (rangeI 361)).take 360)) = true := by
  rw [range_take (by decide), expl_runs (ones_good (by decide)) (runs_up (by rw [ones_eq]; exact range_asc 360) fun r hr => ⟨(ones_good (n := 360) (by decide) r hr).s, (ones_good (n := 360) (by decide) r hr).c⟩) (by rw [range_len]; exact Nat.le_refl _) rfl (fun l hl => by rw [List.mem_singleton.mp hl]; decide) (fun g hg => by rw [List.mem_singleton.mp hg]; decide), ones_eq]
  decide +kernel
theorem range_F (n : Nat) : (List.range n).map (fun (i : Nat) => runD ((i : Int), 1, 1)) = (ones1 (rangeI n)).map runD := by
  unfold ones1 rangeI
  rw [List.map_map, List.map_map]; rfl
section
variable {K : PySem.W.Frag} {S : Src} {Z H0 : Hp} {σ : L2.St}
theorem ei_8 : Ev S Z 0 H0 σ (tOp (rI CPow fun i j => .int (i ^ j.toNat)) (tC (.int 10)) (tC (.int 8))) (EI 100000000) := (ei_pow (i := 10) (j := 8) (by decide)).imp fun v G e => (show v = _ from e).trans (congrArg V.int (by decide))
end
end Lg

namespace Lg
open PySem PySem.Spec PyProof.Rows L2 Lm TL
/-! ### a local name that holds a def, called -/
def tCallV1 (i : Nat) (f : Addr) (sp : Sp) (t : TA) : TE := fun σ H Q => σ[i]? = some (some (.ref f)) ∧ t σ H fun vs H1 => sp vs H1 Q E0
section
variable {X : Cx}
theorem pe_callV {i k : Nat} {f : Addr} {fd : FuncData} {ps : List Str} {sp : Sp} {x : Str} {e : Expr} {es : List Expr} {t : TA} {p pos : Pos} (F : FnOk X.prog X.w X.K X.mg X.base CX0 k f fd ps sp) (hr : Room k X.A) (hN : X.N[i]? = some x) (hv : Vis X.env.scope x)
    (hk : PySem.W.keepIn X.K (.ref f) = true) (hb : Binds X.K fd ps []) (ha : PA X (e :: es) t) (hd : (x == ("__debug__" : Str)) = false := by decide) (hcd : (x == ("__classdict__" : Str)) = false := by decide)
    (he : starEach (e :: es) X.env = (false, eval e X.env) :: starEach es X.env := by rfl) (hpl : (backTo pos (starEach es X.env)).any (·.1) = false := by rfl) : PE X (.Call (.Name x p) (e :: es) [] pos) (tCallV1 i f sp t) := by
  refine ⟨fun pins s σ H Q I ⟨hs, h⟩ => wpAny_Call_Name_kw (thn ((pe_var (pos := p) hN hv hd hcd).run pins s σ H (fun v H1 => v = .ref f ∧ H1 = H) I ⟨.ref f, hs, rfl, rfl⟩) ?_)⟩
  rintro u s1 ⟨v, H1, I1, r1, rfl, rfl⟩
  cases r1
  refine PySem.W.callWith_K (h₀ := X.base) I.ok.mod.kin hk (thn (ha.run pos pins s1 σ _ _ I1 h) ?_) he hpl
  rintro us s2 ⟨vs, H2, I2, r, q⟩
  exact ⟨I2.kIn, run_fn F hr hb .nil pass0 I2 r (by simpa using q)⟩
end
/-! ### texts -/
def numT (i : Int) : Str := Str.ofString (toString i)
def lampT (l : Lamp) : Str := kindS l.1 ++ (":" : Str) ++ numT l.2
def sttT (q : Stt) : Str := numT q.1 ++ ("-" : Str) ++ numT q.2
def runT (r : Run) : Str := if r.2.2 > 1 then numT r.1 ++ ("+" : Str) ++ (numT r.2.1 ++ ("x" : Str) ++ numT r.2.2) else numT r.1
def wordsT (ws : List Str) : Str := if ws = [] then "none" else Txt.join " " ws
theorem tl_numT {i : Int} (h : 0 ≤ i) : tl (numT i) = numL i.toNat := by
  obtain ⟨n, rfl⟩ : ∃ n : Nat, i = n := ⟨i.toNat, by omega⟩
  exact tl_num n
theorem num_free {i : Int} {s : Nat} (h : 0 ≤ i) (hs : s < 48 ∨ 57 < s) : s ∉ tl (numT i) := by
  rw [tl_numT h]
  exact numL_free hs
theorem num_len {i : Int} {k : Nat} (h : 0 ≤ i) (hk : 0 < k) (hi : i.toNat < 10 ^ k) : (numT i).length ≤ k := by
  rw [len_tl, tl_numT h]
  exact numL_len hk hi
theorem num_int {i : Int} (h : 0 ≤ i) (hi : i.toNat < 10 ^ 20) : PySem.intText? (numT i) = some i := by
  have l := num_len (k := 20) h (by decide) hi
  obtain ⟨n, rfl⟩ : ∃ n : Nat, i = n := ⟨i.toNat, by omega⟩
  refine int_num ?_
  rw [len_tl, tl_numT h, Int.toNat_natCast] at l
  omega
theorem digit_of {c : Nat} (h : 48 ≤ c ∧ c ≤ 57) : Unicode.isDigit c = true := by
  obtain ⟨a, b⟩ := h
  have : c = 48 ∨ c = 49 ∨ c = 50 ∨ c = 51 ∨ c = 52 ∨ c = 53 ∨ c = 54 ∨ c = 55 ∨ c = 56 ∨ c = 57 := by omega
  rcases this with e | e | e | e | e | e | e | e | e | e <;> subst e <;> decide +kernel
theorem all_tl {x : Str} {p : Nat → Bool} (h : ∀ c ∈ tl x, p c = true) : x.cps.all p = true := by
  rw [← Array.all_toList, List.all_eq_true]
  exact h
theorem num_signs {i : Int} (h : 0 ≤ i) : ∀ c ∈ tl (numT i), 48 ≤ c ∧ c ≤ 57 := by
  rw [tl_numT h]
  intro c hc
  exact numL_digits i.toNat c hc
theorem num_ne {i : Int} (h : 0 ≤ i) : tl (numT i) ≠ [] := by rw [tl_numT h]; exact numL_ne _
theorem num_isdigit {i : Int} (h : 0 ≤ i) : Txt.isdigit (numT i) = true := by
  unfold Txt.isdigit
  rw [Bool.and_eq_true]
  refine ⟨decide_eq_true ?_, all_tl fun c hc => digit_of (num_signs h c hc)⟩
  rw [len_tl]
  exact List.length_pos_iff.mpr (num_ne h)
theorem num_isascii {i : Int} (h : 0 ≤ i) : Txt.isascii (numT i) = true := by
  unfold Txt.isascii
  refine all_tl fun c hc => decide_eq_true ?_
  have := num_signs h c hc
  omega
theorem numL_head (n : Nat) : ∃ c r, numL n = c :: r ∧ (c = 48 → n = 0) := by
  induction n using Nat.strongRecOn with
  | ind n ih =>
    by_cases h : n < 10
    · exact ⟨48 + n, [], numL_lt h, fun e => by omega⟩
    · obtain ⟨c, r, e, g⟩ := ih (n / 10) (by omega)
      rw [numL_step (by omega), e]
      exact ⟨c, _, rfl, fun z => by have := g z; omega⟩
theorem num_head {i : Int} (h : 0 ≤ i) : ∃ c r, tl (numT i) = c :: r ∧ (c = 48 → numT i = "0") := by
  obtain ⟨c, r, e, g⟩ := numL_head i.toNat
  rw [tl_numT h]
  refine ⟨c, r, e, fun z => ?_⟩
  have : i = 0 := by have := g z; omega
  subst this
  rfl
theorem num_log {i : Int} (h : 0 ≤ i) (hi : i ≤ 100000000000) : i.natAbs.log2 < 1920 := log2_lt (by omega)
/-! ### words -/
/-- a word: no space in it, not the word for none, short, plain -/
structure Wd (w : Str) : Prop where
  free : 32 ∉ tl w
  ne : w ≠ "none"
  len : w.length ≤ 35
  lo : ∀ c ∈ tl w, c < 128
theorem tl_none : tl ("none" : Str) = [110, 111, 110, 101] := by decide +kernel
theorem tl_colon : tl (":" : Str) = [58] := by decide +kernel
theorem tl_dash : tl ("-" : Str) = [45] := by decide +kernel
theorem tl_plus : tl ("+" : Str) = [43] := by decide +kernel
theorem tl_x : tl ("x" : Str) = [120] := by decide +kernel
theorem tl_sp : tl (" " : Str) = [32] := by decide +kernel
theorem tl_kind (k : Bool) : tl (kindS k) = if k then [104, 111, 108, 100] else [112, 117, 108, 115, 101] := by cases k <;> decide +kernel
theorem ne_none {w : Str} {c : Nat} (h : c ∈ tl w) (n : c ∉ ([110, 111, 110, 101] : List Nat)) : w ≠ "none" := fun e => by
  rw [e, tl_none] at h
  exact n h
theorem num_some {i : Int} (h : 0 ≤ i) : ∃ c, c ∈ tl (numT i) ∧ 48 ≤ c ∧ c ≤ 57 := by
  obtain ⟨c, r, e, _⟩ := num_head h
  have m : c ∈ tl (numT i) := by rw [e]; exact List.mem_cons_self
  exact ⟨c, m, num_signs h c m⟩
theorem len_app (x y : Str) : (x ++ y).length = x.length + y.length := by rw [len_tl, len_tl, len_tl, tl_append, List.length_append]
theorem lamp_tl (l : Lamp) : tl (lampT l) = tl (kindS l.1) ++ ([58] ++ tl (numT l.2)) := by
  unfold lampT
  rw [tl_append, tl_append, tl_colon, List.append_assoc]
theorem stt_tl (q : Stt) : tl (sttT q) = tl (numT q.1) ++ ([45] ++ tl (numT q.2)) := by
  unfold sttT
  rw [tl_append, tl_append, tl_dash, List.append_assoc]
theorem num_lo {i : Int} (h : 0 ≤ i) : ∀ c ∈ tl (numT i), c < 128 := fun c hc => by have := num_signs h c hc; omega
theorem lamp_wd {l : Lamp} (h : StayOk l) : Wd (lampT l) := by
  obtain ⟨a, b⟩ := h
  have h0 : 0 ≤ l.2 := by omega
  have kl : (kindS l.1).length ≤ 5 := by cases l.1 <;> decide +kernel
  have nl := num_len (k := 10) h0 (by decide) (by omega)
  refine ⟨?_, ne_none (c := 58) (by rw [lamp_tl]; simp) (by decide), ?_, ?_⟩
  · rw [lamp_tl]
    intro m
    rcases List.mem_append.mp m with e | e
    · rw [tl_kind] at e
      revert e
      cases l.1 <;> decide
    · rcases List.mem_cons.mp e with e | e
      · cases e
      · exact num_free h0 (by omega) e
  · unfold lampT
    rw [len_app, len_app]
    have : ((":" : Str)).length = 1 := by decide +kernel
    omega
  · rw [lamp_tl]
    intro c m
    rcases List.mem_append.mp m with e | e
    · rw [tl_kind] at e
      have : ∀ c ∈ (if l.1 = true then [104, 111, 108, 100] else [112, 117, 108, 115, 101]), c < 128 := by cases l.1 <;> decide
      exact this c e
    · rcases List.mem_cons.mp e with e | e
      · rw [e]; decide
      · exact num_lo h0 c e
def SttOk (q : Stt) : Prop := 0 ≤ q.1 ∧ q.1 < q.2 ∧ q.2 ≤ 2000000000
theorem stt_wd {q : Stt} (h : SttOk q) : Wd (sttT q) := by
  obtain ⟨a, b, c⟩ := h
  have n1 := num_len (k := 10) a (by decide) (by omega)
  have h2 : 0 ≤ q.2 := by omega
  have n2 := num_len (k := 10) h2 (by decide) (by omega)
  refine ⟨?_, ne_none (c := 45) (by rw [stt_tl]; simp) (by decide), ?_, ?_⟩
  · rw [stt_tl]
    intro m
    rcases List.mem_append.mp m with e | e
    · exact num_free a (by omega) e
    · rcases List.mem_cons.mp e with e | e
      · cases e
      · exact num_free h2 (by omega) e
  · unfold sttT
    rw [len_app, len_app]
    have : (("-" : Str)).length = 1 := by decide +kernel
    omega
  · rw [stt_tl]
    intro c m
    rcases List.mem_append.mp m with e | e
    · exact num_lo a c e
    · rcases List.mem_cons.mp e with e | e
      · rw [e]; decide
      · exact num_lo h2 c e
/-- a run as texts have it -/
structure RunT (r : Run) : Prop where
  ok : RunOk r
  one : r.2.2 = 1 → r.2.1 = 1
theorem run_tl {r : Run} (h : r.2.2 > 1) : tl (runT r) = tl (numT r.1) ++ ([43] ++ (tl (numT r.2.1) ++ ([120] ++ tl (numT r.2.2)))) := by
  unfold runT
  rw [if_pos h, tl_append, tl_append, tl_append, tl_append, tl_plus, tl_x, List.append_assoc, List.append_assoc]
theorem run_tl1 {r : Run} (h : ¬ r.2.2 > 1) : runT r = numT r.1 := by
  unfold runT
  rw [if_neg h]
theorem run_wd {r : Run} (h : RunT r) : Wd (runT r) := by
  obtain ⟨⟨⟨a, a1⟩, ⟨b, b1⟩, ⟨c, c1⟩, _⟩, _⟩ := h
  have n1 := num_len (k := 10) a (by decide) (by omega)
  have hb : 0 ≤ r.2.1 := by omega
  have hc : 0 ≤ r.2.2 := by omega
  have n2 := num_len (k := 10) hb (by decide) (by omega)
  have n3 := num_len (k := 10) hc (by decide) (by omega)
  obtain ⟨d, m1, m2, m3⟩ := num_some a
  by_cases g : r.2.2 > 1
  · have e := run_tl g
    refine ⟨?_, ne_none (c := 43) (by rw [e]; simp) (by decide), ?_, ?_⟩
    · rw [e]
      intro m
      simp only [List.mem_append, List.mem_singleton] at m
      rcases m with e | e | e | e | e
      · exact num_free a (by omega) e
      · cases e
      · exact num_free hb (by omega) e
      · cases e
      · exact num_free hc (by omega) e
    · rw [len_tl, e]
      simp only [List.length_append, List.length_cons, List.length_nil, ← len_tl]
      omega
    · rw [e]
      intro c m
      simp only [List.mem_append, List.mem_singleton] at m
      rcases m with e | e | e | e | e
      · exact num_lo a c e
      · rw [e]; decide
      · exact num_lo hb c e
      · rw [e]; decide
      · exact num_lo hc c e
  · rw [run_tl1 g]
    refine ⟨num_free a (by omega), ne_none m1 (by simp only [List.mem_cons, List.not_mem_nil, or_false]; omega), by omega, num_lo a⟩
/-! ### texts of words -/
theorem wordsT_nil : wordsT [] = "none" := rfl
theorem wordsT_cons {ws : List Str} (h : ws ≠ []) : wordsT ws = Txt.join " " ws := if_neg h
theorem split_words {ws : List Str} (h : ws ≠ []) (g : ∀ w ∈ ws, Wd w) : Txt.split (wordsT ws) " " = ws := by
  rw [wordsT_cons h]
  exact split_join tl_sp (by decide +kernel) h fun p hp => (g p hp).free
theorem words_none {ws : List Str} (h : ws ≠ []) (g : ∀ w ∈ ws, Wd w) : wordsT ws ≠ "none" := fun e => by
  have s := split_words h g
  rw [e] at s
  have : Txt.split ("none" : Str) " " = [("none" : Str)] := by decide +kernel
  rw [this] at s
  exact (g "none" (by rw [← s]; exact List.mem_cons_self)).ne rfl
theorem joinL_mem {S : List Nat} {c : Nat} : ∀ {ps : List (List Nat)}, c ∈ joinL S ps → c ∈ S ∨ ∃ p ∈ ps, c ∈ p
  | [], h => nomatch h
  | [p], h => .inr ⟨p, List.mem_cons_self, h⟩
  | p :: q :: r, h => by
    have h : c ∈ p ++ (S ++ joinL S (q :: r)) := by simpa only [joinL, List.append_assoc] using h
    rcases List.mem_append.mp h with e | e
    · exact .inr ⟨p, List.mem_cons_self, e⟩
    · rcases List.mem_append.mp e with e | e
      · exact .inl e
      · rcases joinL_mem e with e | ⟨z, hz, e⟩
        · exact .inl e
        · exact .inr ⟨z, List.mem_cons_of_mem _ hz, e⟩
theorem joinL_len {k : Nat} : ∀ {ps : List (List Nat)}, (∀ p ∈ ps, p.length ≤ k) → (joinL [32] ps).length ≤ ps.length * (k + 1)
  | [], h => Nat.zero_le _
  | [p], h => by
    have := h p List.mem_cons_self
    show p.length ≤ 1 * (k + 1)
    omega
  | p :: q :: r, h => by
    have e : joinL [32] (p :: q :: r) = p ++ ([32] ++ joinL [32] (q :: r)) := by simp only [joinL, List.append_assoc]
    have a := h p List.mem_cons_self
    have b := joinL_len (ps := q :: r) fun z hz => h z (List.mem_cons_of_mem _ hz)
    rw [e, List.length_append, List.length_append]
    have f : (p :: q :: r).length * (k + 1) = (q :: r).length * (k + 1) + (k + 1) := by rw [List.length_cons, Nat.add_mul, Nat.one_mul]
    rw [f]
    simp only [List.length_cons, List.length_nil] at b ⊢
    omega
theorem words_tl {ws : List Str} (h : ws ≠ []) : tl (wordsT ws) = joinL [32] (ws.map tl) := by
  rw [wordsT_cons h, join_eq, tl_join, tl_sp]
theorem words_len {ws : List Str} (g : ∀ w ∈ ws, Wd w) : (wordsT ws).length ≤ 4 + ws.length * 36 := by
  by_cases h : ws = []
  · subst h
    decide +kernel
  · rw [len_tl, words_tl h]
    have := joinL_len (k := 35) (ps := ws.map tl) fun p hp => by
      obtain ⟨w, hw, rfl⟩ := List.mem_map.mp hp
      have := (g w hw).len
      rwa [len_tl] at this
    rw [List.length_map] at this
    omega
theorem words_lo {ws : List Str} (g : ∀ w ∈ ws, Wd w) : ∀ c ∈ tl (wordsT ws), c < 128 := by
  by_cases h : ws = []
  · subst h
    rw [wordsT_nil, tl_none]
    decide
  · rw [words_tl h]
    intro c hc
    rcases joinL_mem hc with e | ⟨p, hp, e⟩
    · rw [List.mem_singleton.mp e]; decide
    · obtain ⟨w, hw, rfl⟩ := List.mem_map.mp hp
      exact (g w hw).lo c e
theorem words_sm {ws : List Str} (g : ∀ w ∈ ws, Wd w) (hn : ws.length ≤ 400) : Sm 200000 0 (.str (wordsT ws)) := by
  refine ⟨rfl, Nat.le_refl _, ?_⟩
  rw [PyData.shown_str]
  have h1 := PySem.StrLaws.reprText_len (wordsT ws) (fun c hc => Nat.lt_trans (words_lo g c hc) (by decide))
  have h2 := words_len g
  omega
theorem words_sum {ws : List Str} (g : ∀ w ∈ ws, Wd w) (hn : ws.length ≤ 400) : (ws.map (·.length)).sum + ws.length * (" " : Str).length ≤ 16777216 := by
  have a : (ws.map (·.length)).sum ≤ ws.length * 35 := by
    clear hn
    induction ws with
    | nil => exact Nat.zero_le _
    | cons w r ih =>
      have h1 := (g w List.mem_cons_self).len
      have h2 := ih fun z hz => g z (List.mem_cons_of_mem _ hz)
      rw [List.map_cons, List.sum_cons, List.length_cons, Nat.add_mul]
      omega
  have b : ((" " : Str)).length = 1 := by decide +kernel
  rw [b]
  omega
end Lg

namespace Lg
open PySem PySem.Spec PyProof.Rows L2 Lm TL
/-! ### contracts -/
def LampsG (ls : List Lamp) : Prop := ls.length ≤ 6 ∧ ∀ l ∈ ls, StayOk l
def LogG (ps : List Stt) : Prop := ps.length ≤ 60 ∧ LogUp (-1) ps ∧ ∀ q ∈ ps, q.2 ≤ 2000000000
def RunsG (rs : List Run) : Prop := rs.length ≤ 360 ∧ RunsUp (-1) rs ∧ ∀ r ∈ rs, RunT r
def sp_words (K : PySem.W.Frag) : Sp := sp_f K (fun ws : List Str => [.list (ws.map .str)]) (fun ws => ws.length ≤ 400 ∧ ∀ w ∈ ws, Wd w) (fun ws => .str (wordsT ws))
def sp_lampText (K : PySem.W.Frag) : Sp := sp_f K (fun l : Lamp => [lampD l]) StayOk (fun l => .str (lampT l))
def sp_runText (K : PySem.W.Frag) : Sp := sp_f K (fun r : Run => [runD r]) RunT (fun r => .str (runT r))
def sp_numOf (K : PySem.W.Frag) : Sp := sp_f K (fun i : Int => [.str (numT i)]) (fun i => 0 ≤ i ∧ i ≤ 10000000000) (fun i => .int i)
def sp_lampOf (K : PySem.W.Frag) : Sp := sp_f K (fun l : Lamp => [.str (lampT l)]) StayOk lampD
def sp_sttOf (K : PySem.W.Frag) : Sp := sp_f K (fun q : Stt => [.str (sttT q)]) SttOk pD
def sp_runOf (K : PySem.W.Frag) : Sp := sp_f K (fun r : Run => [.str (runT r)]) RunT runD
def sp_lampsT (K : PySem.W.Frag) : Sp := sp_f K (fun ls : List Lamp => [lampsD ls]) LampsG (fun ls => .str (wordsT (ls.map lampT)))
def sp_logT (K : PySem.W.Frag) : Sp := sp_f K (fun ps : List Stt => [logD ps]) LogG (fun ps => .str (wordsT (ps.map sttT)))
def sp_runsT (K : PySem.W.Frag) : Sp := sp_f K (fun rs : List Run => [runsD rs]) RunsG (fun rs => .str (wordsT (rs.map runT)))
def sp_noErr (K : PySem.W.Frag) {α : Type} (D : α → PyData) (OKs : List α → Prop) : Sp := sp_f K (fun xs : List α => [.tuple (xs.map D)]) OKs (fun _ => .none)
def sp_item (K : PySem.W.Frag) {α : Type} (f : α → Str) (D : α → PyData) (OK : α → Prop) : Sp := sp_f K (fun x : α => [.str (f x)]) OK D
def sp_parsed (K : PySem.W.Frag) (fi fe : Addr) (lim : Int) {α : Type} (f : α → Str) (D : α → PyData) (OKs : List α → Prop) : Sp := fun vs H Q _ => ∃ (N : Addr → Prop) (xs : List α), vs = [.str (wordsT (xs.map f)), .ref fi, .ref fe, .int lim] ∧ Occ N H ∧ OKs xs ∧
  ∀ r H', Same H H' → Dq K (cut N H') r (.tuple (xs.map D)) → Q r H'
def sp_parse (K : PySem.W.Frag) {α : Type} (f : α → Str) (D : α → PyData) (OKs : List α → Prop) : Sp := sp_f K (fun xs : List α => [.str (wordsT (xs.map f))]) OKs (fun xs => .tuple (xs.map D))
/-- what a list of good things is -/
structure Good {α : Type} (lim : Int) (f : α → Str) (OK : α → Prop) (OKs : List α → Prop) : Prop where
  len : ∀ xs, OKs xs → (xs.length : Int) ≤ lim
  ok : ∀ xs, OKs xs → ∀ x ∈ xs, OK x
  wd : ∀ x, OK x → Wd (f x)
theorem good_lamps : Good 6 lampT StayOk LampsG := ⟨fun xs h => by have := h.1; omega, fun xs h => h.2, fun x h => lamp_wd h⟩
theorem logUp_stt {ps : List Stt} (h : LogG ps) : ∀ q ∈ ps, SttOk q := fun q hq => by
  have a := h.2.1.bound q hq
  exact ⟨by omega, a.2, h.2.2 q hq⟩
theorem good_log : Good 60 sttT SttOk LogG := ⟨fun xs h => by have := h.1; omega, fun xs h => logUp_stt h, fun x h => stt_wd h⟩
theorem good_runs : Good 360 runT RunT RunsG := ⟨fun xs h => by have := h.1; omega, fun xs h => h.2.2, fun x h => run_wd h⟩
section
variable {α : Type} {lim : Int} {f : α → Str} {OK : α → Prop} {OKs : List α → Prop} {xs : List α}
theorem Good.words (G : Good lim f OK OKs) (h : OKs xs) : ∀ w ∈ xs.map f, Wd w := fun w hw => by
  obtain ⟨x, hx, rfl⟩ := List.mem_map.mp hw
  exact G.wd x (G.ok xs h x hx)
theorem Good.n (G : Good lim f OK OKs) (h : OKs xs) (l : lim ≤ 400) : (xs.map f).length ≤ 400 := by
  have := G.len xs h
  rw [List.length_map]
  omega
end
/-! ### no error -/
theorem stOf_ok {q : Stt} (h : SttOk q) : stOf (pD q) = some q := by
  show (if 0 ≤ q.1 ∧ q.1 < q.2 ∧ q.2 ≤ 2000000000 then some (q.1, q.2) else none) = _
  rw [if_pos (show 0 ≤ q.1 ∧ q.1 < q.2 ∧ q.2 ≤ 2000000000 from h)]
theorem logGo_ok : ∀ {ps : List Stt} {i : Nat} {b : Int}, LogUp b ps → (∀ q ∈ ps, SttOk q) → logGo (ps.map pD) i b = .none
  | [], _, _, _, _ => rfl
  | q :: r, i, b, ⟨h1, _, h3⟩, ok => by
    rw [List.map_cons]
    simp only [logGo, stOf_ok (ok q List.mem_cons_self)]
    rw [if_neg (by omega)]
    exact logGo_ok h3 fun x hx => ok x (List.mem_cons_of_mem _ hx)
theorem logErr_ok {ps : List Stt} (h : LogG ps) : logErr (logD ps) = .none := by
  show (if 60 < (ps.map pD).length then _ else logGo (ps.map pD) 0 (-1)) = _
  rw [List.length_map, if_neg (by have := h.1; omega)]
  exact logGo_ok h.2.1 (logUp_stt h)
theorem runOf_ok {r : Run} (h : RunT r) : runOf (runD r) = some (r.1, lastM r) := by
  show (if 0 ≤ r.1 ∧ 1 ≤ r.2.1 ∧ 1 ≤ r.2.2 ∧ (r.2.2 = 1 → r.2.1 = 1) ∧ r.1 + r.2.1 * (r.2.2 - 1) ≤ 1000000000 then some (r.1, r.1 + r.2.1 * (r.2.2 - 1)) else none) = _
  rw [if_pos ⟨h.ok.f.1, h.ok.s.1, h.ok.c.1, h.one, h.ok.l⟩]
  rfl
theorem motGo_ok : ∀ {rs : List Run} {i : Nat} {b : Int}, RunsUp b rs → (∀ r ∈ rs, RunT r) → motGo (rs.map runD) i b = .none
  | [], _, _, _, _ => rfl
  | q :: r, i, b, ⟨h1, _, _, h4⟩, ok => by
    rw [List.map_cons]
    simp only [motGo, runOf_ok (ok q List.mem_cons_self)]
    rw [if_neg (by omega)]
    exact motGo_ok h4 fun x hx => ok x (List.mem_cons_of_mem _ hx)
theorem motErr_ok {rs : List Run} (h : RunsG rs) : motErr (runsD rs) = .none := by
  show (if 360 < (rs.map runD).length then _ else motGo (rs.map runD) 0 (-1)) = _
  rw [List.length_map, if_neg (by have := h.1; omega)]
  exact motGo_ok h.2.1 h.2.2
theorem flat_none {K : PySem.W.Frag} {H H' : Hp} {r : V} (h : Flat K H H' r .none) : r = .non := by
  rcases h with ⟨e, _⟩ | ⟨t, a, b, d1, d2, _, _, _, e, _⟩
  · exact e
  · cases e
theorem logE_imp (K : PySem.W.Frag) (vs : List V) (H : Hp) (Q : VK) (E : XK) (h : sp_noErr K pD LogG vs H Q E) : sp_err K logErr vs H Q E := by
  obtain ⟨N, ps, O, hd, hp, q⟩ := h
  obtain ⟨v, _, rfl, hd1, hd⟩ := dqs_cons hd
  obtain rfl := dqs_nil hd
  refine ⟨v, logD ps, rfl, hd1.mono cut_same, fun r H' s fl => ?_⟩
  rw [logErr_ok hp] at fl
  rw [flat_none fl]
  exact q _ _ s .non
theorem runs_show {rs : List Run} (h : ∀ r ∈ rs, RunT r) : (runsD rs).showable = true := by
  have : ∀ rs : List Run, (∀ r ∈ rs, RunT r) → PyData.showableAll (rs.map runD) = true := by
    intro rs
    induction rs with
    | nil => intro _; rfl
    | cons r t ih =>
      intro h
      have ht := ih fun x hx => h x (List.mem_cons_of_mem _ hx)
      obtain ⟨⟨⟨a, a1⟩, ⟨b, b1⟩, ⟨c, c1⟩, _⟩, _⟩ := h r List.mem_cons_self
      rw [List.map_cons]
      simp only [PyData.showableAll, runD, PyData.showable, ht, decide_eq_true (num_log a (by omega)), decide_eq_true (num_log (show 0 ≤ r.2.1 by omega) (by omega)), decide_eq_true (num_log (show 0 ≤ r.2.2 by omega) (by omega)), Bool.and_true]
  show PyData.showable (.tuple (rs.map runD)) = true
  simp only [PyData.showable]
  exact this rs h
theorem motE_imp (K : PySem.W.Frag) (vs : List V) (H : Hp) (Q : VK) (E : XK) (h : sp_noErr K runD RunsG vs H Q E) : sp_errS K motErr vs H Q E := by
  obtain ⟨N, rs, O, hd, hp, q⟩ := h
  obtain ⟨v, _, rfl, hd1, hd⟩ := dqs_cons hd
  obtain rfl := dqs_nil hd
  refine ⟨v, runsD rs, rfl, hd1.mono cut_same, runs_show hp.2.2, fun r H' s fl => ?_⟩
  rw [motErr_ok hp] at fl
  rw [flat_none fl]
  exact q _ _ s .non
theorem lampB_ok {l : Lamp} (h : StayOk l) : lampB (lampD l) = true := by
  show ((["hold", "pulse"] : List Str).any (strIs (.str (kindS l.1))) && (decide (1 ≤ l.2) && decide (l.2 ≤ 1000000000))) = true
  rw [decide_eq_true h.1, decide_eq_true h.2]
  cases l.1 <;> decide +kernel
/-! ### the pot's logs and runs -/
def sp_logP (K : PySem.W.Frag) : Sp := fun vs H Q _ => ∃ (Z : Hp) (p dl al : Addr) (u g : Int), vs = [.ref p, .int u, .int g] ∧ Iv (pot p dl al) Z 0 H ∧ 0 ≤ u ∧ u ≤ 60 ∧ 1 ≤ g ∧ g ≤ 10000000 ∧
  ∀ (x : V) (H' : Hp) (ps : List Stt), Iv (pot p dl al) Z 0 H' → Kp (pot p dl al) Z H H' → Dq K (hid (pot p dl al) Z H') x (logD ps) → LogG ps → Q x H'
theorem log_imp (K : PySem.W.Frag) (vs : List V) (H : Hp) (Q : VK) (E : XK) (h : sp_logP K vs H Q E) : Lm.sp_log K vs H Q E := by
  obtain ⟨Z, p, dl, al, u, g, e, P, u0, u1, g0, g1, q⟩ := h
  have PA := iv_pot P
  obtain ⟨ns, hal, hne, hlen⟩ := PA.li
  have za : Z al = none := P.zo al (.inr (.inr rfl))
  have npa : p ≠ al := PA.pa.symm
  refine ⟨upd Z al (.lst (ns.map V.int)), p, dl, al, u, g, e, ⟨PA.ob, PA.de, PA.li, PA.ne, fun b o z => ?_, ?_, ?_⟩, u0, u1, g0, g1, fun x H' P' k' r => ?_⟩
  · by_cases eb : b = al
    · rw [eb, upd_same] at z
      rw [eb, hal]; exact z
    · rw [upd_ne eb] at z
      exact P.zz b o z
  · rw [upd_ne npa]; exact P.zo p (.inl rfl)
  · rw [upd_ne PA.ne.symm]; exact P.zo dl (.inr (.inl rfl))
  · have zz' : Same Z H' := fun b o z => P'.zz b o (by rw [upd_ne (ne_of_none z za)]; exact z)
    have P2 : PotAt Z H' p dl al := ⟨P'.ob, P'.de, P'.li, P'.ne, zz', P.zo p (.inl rfl), P.zo dl (.inr (.inl rfl))⟩
    unfold Lm.Kp at k'
    rw [odd_hid za, odd_hid za] at k'
    rw [odd_hid za] at r
    obtain ⟨ps, ⟨a, xs, rfl, ga, pr⟩, hl, hu, hb⟩ := r
    exact q _ H' ps (pot_iv P2 za) k' (.tup (.inl (.inl ga)) pr.dqs) ⟨by omega, hu, hb⟩
def sp_farG (K : PySem.W.Frag) : Sp := fun vs H Q _ => ∃ (Z : Hp) (p dl al : Addr) (u : Int), vs = [.ref p, .int u] ∧ Iv (pot p dl al) Z 0 H ∧ 0 ≤ u ∧ u ≤ 60 ∧
  ∀ (x : V) (H' : Hp) (rs : List Run), Iv (pot p dl al) Z 0 H' → Kp (pot p dl al) Z H H' → Dq K (hid (pot p dl al) Z H') x (runsD rs) → RunsG rs → Q x H'
end Lg
namespace Lg
open PySem PySem.Spec PyProof.Rows L2 Lm TL
theorem dqs_strs {K : PySem.W.Frag} {G : Hp} : ∀ {vs : List V} {ms : List Str}, Dqs K G vs (ms.map .str) → vs = ms.map V.str
  | vs, [], h => by obtain rfl := dqs_nil h; rfl
  | vs, m :: ms, h => by
    obtain ⟨v, r, rfl, h1, h2⟩ := dqs_cons h
    rw [dq_str h1, dqs_strs h2]; rfl
theorem strs_dqs {K : PySem.W.Frag} {G : Hp} : ∀ {ms : List Str}, Dqs K G (ms.map V.str) (ms.map .str)
  | [] => .nil
  | m :: ms => .cons (.str m) strs_dqs
end Lg
namespace Lg
open PySem PySem.Spec PyProof.Rows L2 Lm TL
theorem len_empty : Str.empty.length = 0 := rfl
theorem empty_app (x : Str) : Str.empty ++ x = x := ext_tl (by rw [tl_append]; rfl)
theorem app_empty (x : Str) : x ++ Str.empty = x := ext_tl (by rw [tl_append]; exact List.append_nil _)
theorem app_assoc (x y z : Str) : x ++ y ++ z = x ++ (y ++ z) := ext_tl (by simp only [tl_append, List.append_assoc])
theorem szl {x : Str} (h : x.length ≤ 100000) : x.length ≤ sizeLine := Nat.le_trans h (by rw [PySem.sizeLine_eq]; decide)
theorem len_colon : (":" : Str).length = 1 := by decide +kernel
theorem len_dash : ("-" : Str).length = 1 := by decide +kernel
theorem len_plus : ("+" : Str).length = 1 := by decide +kernel
theorem len_x : ("x" : Str).length = 1 := by decide +kernel
theorem kindS_len (k : Bool) : (kindS k).length ≤ 5 := by cases k <;> decide +kernel
theorem part_lamp (l : Lamp) : Txt.partition (lampT l) ":" = (kindS l.1, (":" : Str), numT l.2) := by
  unfold lampT
  refine partition_app tl_colon ?_
  rw [tl_kind]
  cases l.1 <;> decide
theorem part_stt {q : Stt} (h : 0 ≤ q.1) : Txt.partition (sttT q) "-" = (numT q.1, ("-" : Str), numT q.2) := by
  unfold sttT
  exact partition_app tl_dash (num_free h (by omega))
theorem part_run {r : Run} (h : 0 ≤ r.1) (g : r.2.2 > 1) : Txt.partition (runT r) "+" = (numT r.1, ("+" : Str), numT r.2.1 ++ ("x" : Str) ++ numT r.2.2) := by
  unfold runT
  rw [if_pos g]
  exact partition_app tl_plus (num_free h (by omega))
theorem part_run1 {r : Run} (h : 0 ≤ r.1) (g : ¬ r.2.2 > 1) : Txt.partition (runT r) "+" = (numT r.1, Str.empty, Str.empty) := by
  rw [run_tl1 g]
  exact partition_none tl_plus (num_free h (by omega))
theorem part_rest {a b : Int} (h : 0 ≤ a) : Txt.partition (numT a ++ ("x" : Str) ++ numT b) "x" = (numT a, ("x" : Str), numT b) := partition_app tl_x (num_free h (by omega))
end Lg

namespace Lg
open PySem PySem.Spec PyProof.Rows L2 Lm
theorem lc_mapG {J : It} {Gd : Hp → Prop} {K : PySem.W.Frag} {N : Addr → Prop} {xs : List V} {g : TG} {te : TE} {vs : List Nat} {σ : L2.St} {H1 : Hp} {Dl : Addr} {Qd : Hp → Prop} {α : Type} {D F : α → PyData} {as : List α}
    (w : Walk J xs.length Gd (YAt xs)) (hG : ∀ H', Same H1 H' → Gd H') (nD : H1 Dl = none) (O : Occ N H1) (hd : Dqs K (cut N H1) xs (as.map D)) (hl : as.length ≤ 900)
    (hT : ∀ (G : Hp) (x : V) (y : α) (Q : VK), y ∈ as → Occ (NP N Dl) G → Same (cut N H1) (cut (NP N Dl) G) → Same H1 G → Dq K (cut (NP N Dl) G) x (D y) → (∀ r G', Same G G' → Dq K (cut (NP N Dl) G') r (F y) → Q r G') → g x (wipe σ vs) G fun σ2 H2 => wipe σ2 vs = wipe σ vs ∧ te σ2 H2 Q)
    (hq : ∀ H' acc, Same H1 H' → H' Dl = some (.lst acc) → Occ (NP N Dl) H' → Dqs K (cut (NP N Dl) H') acc (as.map F) → Qd H') :
    ∃ W : Nat → Nat → Hp → Prop, (∃ m, W 0 m (upd H1 Dl (.lst []))) ∧ ∀ i m H, W i m H →
      (J.stop i H ∧ Qd H) ∨ (J.go i H ∧ ∃ Nx : Hp → Prop, (∀ H', Nx H' → ∃ m', m' < m ∧ W (i + 1) m' H') ∧ ∀ x H', J.yld i H x H' → g x (wipe σ vs) H' fun σ2 H2 => wipe σ2 vs = wipe σ vs ∧ tYes σ2 H2 fun b H3 =>
        if b = true then te σ2 H3 fun y H4 => ∃ acc, H4 Dl = some (.lst acc) ∧ acc.length < sizeLine ∧ Nx (upd H4 Dl (.lst (acc ++ [y]))) else Nx H3) := by
  have len := hd.len
  rw [List.length_map] at len
  refine lc_it w (fun i Hj => ∃ acc, Same H1 Hj ∧ Hj Dl = some (.lst acc) ∧ Dqs K (cut (NP N Dl) Hj) acc ((as.take i).map F)) ⟨[], same_new nD, upd_same, .nil⟩ (fun i H _ ⟨_, s, _⟩ => hG H s) ?_ ?_
  · rintro i x Hj H' hi ⟨acc, sj, ej, dj⟩ ⟨rfl, hx⟩
    obtain ⟨y, hy, qy⟩ := dqs_get hd hx
    have la := dj.len
    rw [List.length_map, List.length_take] at la
    exact hT _ x y _ (List.mem_of_getElem? hy) (np_occ (O.keep sj) ej) (np_new nD sj) sj (qy.mono (np_new nD sj)) fun r G' sG hr => ⟨acc, sG _ _ ej, small1000 (by omega), acc ++ [r], same_upd (sj.trans sG) nD, upd_same, by
      rw [map_take_snoc F hy, cut_upd (.inr rfl)]
      exact dqs_snoc (dj.mono (cut_mono sG)) hr⟩
  · rintro Hn ⟨acc, sn, en, dn⟩
    rw [len, List.take_length] at dn
    exact hq Hn acc sn en (np_occ (O.keep sn) en) dn
/-- a grown list, as data -/
theorem np_list {K : PySem.W.Frag} {N : Addr → Prop} {H H' : Hp} {D : Addr} {acc : List V} {ds : List PyData} (nD : H D = none) (O : Occ N H) (e : H' D = some (.lst acc)) (h : Dqs K (cut (NP N D) H') acc ds) : Dq K (cut N H') (.ref D) (.list ds) :=
  .lst (.inl (.inl (by rw [cut_at fun z => O D z nD]; exact e))) (h.mono np_le)
end Lg
namespace Lg
open PySem PySem.Spec PyProof.Rows L2 Lm
theorem tup_flat : ∀ {ds : List PyData}, (∀ d ∈ ds, noD d = true ∧ d.canLay0 = true ∧ d.depth ≤ 60) → noDs ds = true ∧ PyData.canLayAll0 ds = true ∧ PyData.depthAll ds ≤ 60
  | [], _ => ⟨rfl, rfl, by simp [PyData.depthAll]⟩
  | d :: ds, h => by
    obtain ⟨a, b, c⟩ := h d List.mem_cons_self
    obtain ⟨a2, b2, c2⟩ := tup_flat fun x hx => h x (List.mem_cons_of_mem _ hx)
    refine ⟨?_, ?_, ?_⟩
    · show (noD d && noDs ds) = true
      rw [a, a2]; rfl
    · show (PyData.canLay0 d && PyData.canLayAll0 ds) = true
      rw [b, b2]; rfl
    · simp only [PyData.depthAll]
      exact Nat.max_le.mpr ⟨c, c2⟩
theorem tup_flat' {ds : List PyData} (h : ∀ d ∈ ds, noD d = true ∧ d.canLay0 = true ∧ d.depth ≤ 60) : noD (.tuple ds) = true ∧ SeqAt.shaped (.tuple ds) = true := by
  obtain ⟨a, b, c⟩ := tup_flat h
  refine ⟨a, ?_⟩
  unfold SeqAt.shaped
  refine Bool.and_eq_true_iff.mpr ⟨b, decide_eq_true ?_⟩
  simp only [PyData.depth]
  omega
theorem mem_map_all {α : Type} {D : α → PyData} {p : PyData → Prop} {xs : List α} (h : ∀ x, p (D x)) : ∀ d ∈ xs.map D, p d := fun d hd => by
  obtain ⟨x, _, rfl⟩ := List.mem_map.mp hd
  exact h x
theorem kind_lay (l : Lamp) : (lampD l).canLay0 = true := by
  obtain ⟨k, s⟩ := l
  have h : PyData.canLay0 (.str (kindS k)) = true := by cases k <;> decide +kernel
  show (PyData.canLay0 (.str (kindS k)) && (true && true)) = true
  rw [h]; rfl
theorem lamps_flat (ls : List Lamp) : noD (lampsD ls) = true ∧ SeqAt.shaped (lampsD ls) = true := tup_flat' (mem_map_all fun l => ⟨rfl, kind_lay l, by simp [lampD, PyData.depth, PyData.depthAll]⟩)
theorem log_flat (ls : List Stt) : noD (logD ls) = true ∧ SeqAt.shaped (logD ls) = true := tup_flat' (mem_map_all fun l => ⟨rfl, rfl, by simp [pD, two, PyData.depth, PyData.depthAll]⟩)
theorem runs_flat (ls : List Run) : noD (runsD ls) = true ∧ SeqAt.shaped (runsD ls) = true := tup_flat' (mem_map_all fun l => ⟨rfl, rfl, by simp [runD, PyData.depth, PyData.depthAll]⟩)
end Lg
namespace Lg
open PySem
theorem szs {n : Nat} (h : n ≤ 100000) : n ≤ sizeLine := Nat.le_trans h (by rw [PySem.sizeLine_eq]; decide)
end Lg

namespace Lg
open PySem PySem.Spec PyProof.Rows L2 Lm
section
variable {K : PySem.W.Frag} {S : Src} {Z H0 : Hp} {σ : L2.St} {te ta tb : TE} {tl : TA} {n n1 n2 : Nat} {d : PyData} {x : Str}
/-- a list made over range(a drawn number) -/
theorem ev_lcD {R : VR} {v : Nat} {m : Int} (hm1 : m ≤ 1000) (hm : Mo R) (h : EvA S Z 0 H0 σ tl (fun vs _ => ∃ j : Int, vs = [.int j] ∧ 0 ≤ j ∧ j ≤ m))
    (hT : ∀ (Z' H1 : Hp) (x : V) (b : Nat), Iv S Z' b H1 → Same (hid S Z H0) (hid S Z' H1) → Ev S Z' 0 H1 ((wipe σ [v]).set v (some x)) te R) :
    Ev S Z 0 H0 σ (tLc (iRng1 tl) (gName v) tYes te [v]) (LsR 0 m.toNat R) := fun H b Q P k q => h H b _ P k fun vs H1 P1 k1 ⟨j, e, j0, j1⟩ => by
  subst e
  exact (ev_lcR (n := 0) (H0 := H1) (σ := σ) (te := te) (v := v) j0 (by omega) hm (fun Z' H2 x b' I s => hT Z' H2 x b' I (Same.trans (Same.trans k k1) s))).run P1 (b := b) (by omega) fun y H2 P2 k2 r2 => q y H2 P2 (k1.trans k2) (by
    obtain ⟨a, xs, e, g, l0, l1, r⟩ := r2
    exact ⟨a, xs, e, g, Nat.zero_le _, Nat.le_trans l1 (Int.toNat_le_toNat j1), r⟩)
theorem tp_choose {α : Type} {D : α → PyData} {P : α → Prop} {m c : Nat} {v : V} {G : Hp} (h : TpR K m c (fun v G => ∃ y, Dq K G v (D y) ∧ P y) v G) : ∃ ys : List α, Dq K G v (.tuple (ys.map D)) ∧ ys.length ≤ c ∧ ∀ y ∈ ys, P y := by
  obtain ⟨a, xs, rfl, g, _, l1, r⟩ := h
  have key : ∀ xs : List V, (∀ v ∈ xs, ∃ y, Dq K G v (D y) ∧ P y) → ∃ ys : List α, Dqs K G xs (ys.map D) ∧ ys.length = xs.length ∧ ∀ y ∈ ys, P y := by
    intro xs
    induction xs with
    | nil => exact fun _ => ⟨[], .nil, rfl, fun y hy => nomatch hy⟩
    | cons x xs ih =>
      intro h
      obtain ⟨y, hd, hp⟩ := h x List.mem_cons_self
      obtain ⟨ys, a, b, c⟩ := ih fun z hz => h z (List.mem_cons_of_mem _ hz)
      refine ⟨y :: ys, .cons hd a, by simp [b], fun z hz => ?_⟩
      rcases List.mem_cons.mp hz with e | e
      · rw [e]; exact hp
      · exact c z e
  obtain ⟨ys, a, b, c⟩ := key xs r
  exact ⟨ys, .tup g a, by omega, c⟩
theorem q_repr (h : Ev S Z n H0 σ te (DQ K d)) (f : Fine d) : Ev S Z n H0 σ (tCB (rRepr K) (tCons te tNil)) (DQ K (.str d.shown)) := fun H b Q P k q => h H b _ P k fun v H1 P1 k1 r1 => ⟨v, d, rfl, (show Dq K _ _ _ from r1).mono hid_same, f, q _ _ P1 k1 (.str _)⟩
theorem q_neS (h1 : Ev S Z n1 H0 σ ta (DQ K (.str x))) (h2 : Ev S Z n2 H0 σ tb (DQ K (.str x))) : Ev S Z (n1 + n2) H0 σ (tOp rNe ta tb) (fun v _ => v = .bl false) := fun H b Q P k q =>
  h1 H (n2 + b) _ (P.less (by omega)) k fun u H1 P1 k1 r1 => h2 H1 b _ P1 (k.trans k1) fun v H2 P2 k2 r2 => by
    obtain rfl := dq_str r1
    obtain rfl := dq_str r2
    exact ⟨rfl, q _ _ P2 (k1.trans k2) (by rw [decide_eq_true rfl]; rfl)⟩
theorem q_eqS (h1 : Ev S Z n1 H0 σ ta (DQ K (.str x))) (h2 : Ev S Z n2 H0 σ tb (DQ K (.str x))) : Ev S Z (n1 + n2) H0 σ (tOp rEq ta tb) (fun v _ => v = .bl true) := fun H b Q P k q =>
  h1 H (n2 + b) _ (P.less (by omega)) k fun u H1 P1 k1 r1 => h2 H1 b _ P1 (k.trans k1) fun v H2 P2 k2 r2 => by
    obtain rfl := dq_str r1
    obtain rfl := dq_str r2
    exact ⟨rfl, q _ _ P2 (k1.trans k2) (by rw [decide_eq_true rfl])⟩
end
section
variable {K : PySem.W.Frag} {p dl al : Addr} {Z H0 : Hp} {σ : L2.St} {tg : TE} {n : Nat}
def LampV (K : PySem.W.Frag) : VR := fun v G => ∃ y : Lamp, Dq K G v (lampD y) ∧ StayOk y
theorem LampV.mo : Mo (LampV K) := fun _ _ _ s ⟨y, h, a⟩ => ⟨y, h.mono s, a⟩
theorem ev_lampP {i : Nat} (e : σ[i]? = some (some (.ref p))) (h : Ev (pot p dl al) Z n H0 σ tg (IR 1 1000000000)) : Ev (pot p dl al) Z n H0 σ (tCall (sp_lampP K) [] E0 (tCons (tVar i) (tCons tg tNil))) (LampV K) := fun H b Q P k q =>
  ⟨_, e, h H b _ P k fun v H1 P1 k1 ⟨g, eg, g0, g1⟩ => by
    subst eg
    exact ⟨Z, p, dl, al, g, rfl, P1.less (by omega), g0, g1, fun x H' l P' k' d l1 l2 => q x H' ⟨P'.src, P'.zz, P'.zo⟩ (k1.trans k') ⟨l, d, l1, l2⟩⟩⟩
end
/-! ### sizes -/
theorem log_sm2 {ps : List Stt} (h : LogG ps) : Sm (60 * 35 + 3) 2 (logD ps) := by
  refine Sm.tuple (c := 60) (n := 33) (k := 1) (fun d hd => ?_) (by rw [List.length_map]; exact h.1)
  obtain ⟨q, hq, rfl⟩ := List.mem_map.mp hd
  obtain ⟨a, b, c⟩ := logUp_stt h q hq
  exact pD_sm (by omega) (by omega)
theorem run_sm2 {r : Run} (h : RunT r) : Sm (3 * 15 + 3) 1 (runD r) := by
  obtain ⟨⟨⟨a, a1⟩, ⟨b, b1⟩, ⟨c, c1⟩, _⟩, _⟩ := h
  refine Sm.tuple (c := 3) (n := 13) (k := 0) (fun d hd => ?_) (Nat.le_refl 3)
  simp only [List.mem_cons, List.not_mem_nil, or_false] at hd
  rcases hd with e | e | e
  · rw [e]; exact Sm.int (by omega)
  · rw [e]; exact Sm.int (by omega)
  · rw [e]; exact Sm.int (by omega)
theorem runs_sm2 {rs : List Run} (h : RunsG rs) : Sm (360 * (3 * 15 + 3 + 2) + 3) 2 (runsD rs) := by
  refine Sm.tuple (c := 360) (n := 3 * 15 + 3) (k := 1) (fun d hd => ?_) (by rw [List.length_map]; exact h.1)
  obtain ⟨r, hr, rfl⟩ := List.mem_map.mp hd
  exact run_sm2 (h.2.2 r hr)
theorem text_fine {ws : List Str} {d : PyData} (g : ∀ w ∈ ws, Wd w) (hn : ws.length ≤ 400) (h : Sm 200000 2 d) : Fine (.list [.str (wordsT ws), d]) :=
  (two_sm' ((words_sm g hn).wide (Nat.le_refl _) (by decide)) h).fine (by decide) (by decide)
/-! ### the last question -/
def manyR (st : Int) (i : Nat) : Run := if 0 < (0 + (i : Int)).fmod 3 then (60 * (0 + (i : Int)), st, 1 + (0 + (i : Int)).fmod 3) else (60 * (0 + (i : Int)), 1, 1)
theorem runT_mk {f s c : Int} (f0 : 0 ≤ f) (f1 : f ≤ 1000000000) (s0 : 1 ≤ s) (s1 : s ≤ 1000000000) (c0 : 1 ≤ c) (c1 : c ≤ 1000000001) (l : lastM (f, s, c) ≤ 1000000000) (o : c = 1 → s = 1) : RunT (f, s, c) := ⟨⟨⟨f0, f1⟩, ⟨s0, s1⟩, ⟨c0, c1⟩, l⟩, o⟩
theorem many_facts {st : Int} (s0 : 1 ≤ st) (s1 : st ≤ 9) {i : Nat} (hi : i ≤ 400) : (manyR st i).1 = 60 * (i : Int) ∧ lastM (manyR st i) < 60 * ((i : Int) + 1) ∧ RunT (manyR st i) := by
  have b : 0 ≤ (0 + (i : Int)).fmod 3 ∧ (0 + (i : Int)).fmod 3 < 3 := fmodB (by decide)
  have e0 : 60 * (0 + (i : Int)) = 60 * (i : Int) := by omega
  unfold manyR
  by_cases g : 0 < (0 + (i : Int)).fmod 3
  · rw [if_pos g]
    have c : (0 + (i : Int)).fmod 3 = 1 ∨ (0 + (i : Int)).fmod 3 = 2 := by omega
    rcases c with c | c <;> rw [c, e0]
    · have l : lastM (60 * (i : Int), st, 1 + 1) = 60 * (i : Int) + st := by
        show 60 * (i : Int) + st * (1 + 1 - 1) = _
        omega
      exact ⟨rfl, by rw [l]; omega, runT_mk (by omega) (by omega) (by omega) (by omega) (by decide) (by decide) (by rw [l]; omega) (fun z => absurd z (by decide))⟩
    · have l : lastM (60 * (i : Int), st, 1 + 2) = 60 * (i : Int) + st * 2 := by
        show 60 * (i : Int) + st * (1 + 2 - 1) = _
        omega
      exact ⟨rfl, by rw [l]; omega, runT_mk (by omega) (by omega) (by omega) (by omega) (by decide) (by decide) (by rw [l]; omega) (fun z => absurd z (by decide))⟩
  · rw [if_neg g, e0]
    have l : lastM (60 * (i : Int), 1, 1) = 60 * (i : Int) := by
      show 60 * (i : Int) + 1 * (1 - 1) = _
      omega
    exact ⟨rfl, by rw [l]; omega, runT_mk (by omega) (by omega) (by decide) (by decide) (by decide) (by decide) (by rw [l]; omega) (fun _ => rfl)⟩
theorem many_up {st : Int} (s0 : 1 ≤ st) (s1 : st ≤ 9) : ∀ (n j : Nat) (b : Int), j + n ≤ 400 → b < 60 * (j : Int) → RunsUp b ((List.range' j n).map (manyR st))
  | 0, _, _, _, _ => trivial
  | n + 1, j, b, hj, hb => by
    obtain ⟨e, l, r⟩ := many_facts s0 s1 (i := j) (by omega)
    rw [List.range'_succ, List.map_cons]
    exact ⟨by rw [e]; exact hb, r.ok.s.1, r.ok.c.1, many_up s0 s1 n (j + 1) _ (by omega) (by omega)⟩
theorem many_ok {st : Int} (s0 : 1 ≤ st) (s1 : st ≤ 9) : RunsG ((List.range 360).map (manyR st)) := by
  refine ⟨by rw [List.length_map, List.length_range]; exact Nat.le_refl _, ?_, fun r hr => ?_⟩
  · rw [List.range_eq_range']
    exact many_up s0 s1 360 0 (-1) (by decide) (by decide)
  · obtain ⟨i, hi, rfl⟩ := List.mem_map.mp hr
    have := List.mem_range.mp hi
    exact (many_facts s0 s1 (by omega)).2.2
theorem eqv_run (p q : Run) : PyData.eqv (runD p) (runD q) = decide (p = q) := by
  obtain ⟨a, b, c⟩ := p
  obtain ⟨a', b', c'⟩ := q
  show ((a == a') && ((b == b') && ((c == c') && true))) = _
  rw [Bool.eq_iff_iff]
  simp
theorem eqv_runs (a b : List Run) : PyData.eqv (runsD a) (runsD b) = decide (a = b) := eqvAll_map eqv_run a b
end Lg
namespace Lg
open PySem L2
theorem nx_go {D : Ends} {σ : L2.St} {H : Hp} (h : D.nx σ H) : tNext D σ H := h
end Lg

namespace Lg
open PySem PySem.Spec PyProof.Rows L2 Lm TL
/-! ### numbers in any text -/
def digL (l : List Nat) : Bool := l.all fun c => decide (48 ≤ c) && decide (c ≤ 57)
def numO (t : Str) : Option Int := if 20 < t.length ∨ tl t = [] ∨ digL (tl t) = false then none else if (tl t).head? = some 48 ∧ t ≠ "0" then none else some ((NumText.digitsVal (tl t) : Nat) : Int)
def optD : Option Int → PyData
  | none => .none
  | some i => .int i
theorem isDigit128 : ∀ c : Nat, c < 128 → Unicode.isDigit c = (decide (48 ≤ c) && decide (c ≤ 57)) := by decide +kernel
theorem dig_mem {l : List Nat} (h : digL l = true) : ∀ c ∈ l, 48 ≤ c ∧ c ≤ 57 := fun c hc => by
  have z : (decide (48 ≤ c) && decide (c ≤ 57)) = true := List.all_eq_true.mp h c hc
  rw [Bool.and_eq_true, decide_eq_true_eq, decide_eq_true_eq] at z
  exact z
theorem dig_of {l : List Nat} (h : ∀ c ∈ l, 48 ≤ c ∧ c ≤ 57) : digL l = true := List.all_eq_true.mpr fun c hc => by
  rw [Bool.and_eq_true, decide_eq_true_eq, decide_eq_true_eq]
  exact h c hc
theorem all_mem {x : Str} {p : Nat → Bool} (h : x.cps.all p = true) : ∀ c ∈ tl x, p c = true := by
  rw [← Array.all_toList, List.all_eq_true] at h
  exact h
theorem dig_ascii {t : Str} (h : digL (tl t) = true) : Txt.isascii t = true := by
  unfold Txt.isascii
  exact all_tl fun c hc => decide_eq_true (by have := dig_mem h c hc; omega)
theorem dig_isdigit {t : Str} (h : digL (tl t) = true) (n : tl t ≠ []) : Txt.isdigit t = true := by
  unfold Txt.isdigit
  rw [Bool.and_eq_true]
  refine ⟨decide_eq_true ?_, all_tl fun c hc => digit_of (dig_mem h c hc)⟩
  rw [len_tl]
  exact List.length_pos_iff.mpr n
theorem dig_back {t : Str} (h1 : Txt.isascii t = true) (h2 : Txt.isdigit t = true) : digL (tl t) = true ∧ tl t ≠ [] := by
  unfold Txt.isdigit at h2
  rw [Bool.and_eq_true] at h2
  refine ⟨dig_of fun c hc => ?_, fun e => ?_⟩
  · have a : c < 128 := of_decide_eq_true (all_mem h1 c hc)
    have b := all_mem h2.2 c hc
    rw [isDigit128 c a, Bool.and_eq_true, decide_eq_true_eq, decide_eq_true_eq] at b
    exact b
  · have z := of_decide_eq_true h2.1
    rw [len_tl, e] at z
    exact absurd z (by decide)
theorem numO_long {t : Str} (h : 20 < t.length) : numO t = none := if_pos (.inl h)
theorem numO_nodig {t : Str} (h : digL (tl t) = false) : numO t = none := if_pos (.inr (.inr h))
theorem numO_nil {t : Str} (h : tl t = []) : numO t = none := if_pos (.inr (.inl h))
theorem numO_no {t : Str} {c : Nat} (h : c ∈ tl t) (n : c < 48 ∨ 57 < c) : numO t = none := numO_nodig (by
  cases e : digL (tl t) with
  | false => rfl
  | true => have := dig_mem e c h; omega)
theorem numO_ok {t : Str} (h1 : ¬ 20 < t.length) (h2 : tl t ≠ []) (h3 : digL (tl t) = true) : numO t = if (tl t).head? = some 48 ∧ t ≠ "0" then none else some ((NumText.digitsVal (tl t) : Nat) : Int) :=
  if_neg fun h => by
    rcases h with h | h | h
    · exact h1 h
    · exact h2 h
    · rw [h3] at h; cases h
theorem fold_bound : ∀ (l : List Nat) (a : Nat), (∀ c ∈ l, 48 ≤ c ∧ c ≤ 57) → l.foldl (fun acc c => acc * 10 + (c - 48)) a < (a + 1) * 10 ^ l.length
  | [], a, _ => by simp
  | c :: l, a, h => by
    have hc := h c List.mem_cons_self
    have ih := fold_bound l (a * 10 + (c - 48)) fun x hx => h x (List.mem_cons_of_mem _ hx)
    rw [List.foldl_cons, List.length_cons, Nat.pow_succ]
    have : (a * 10 + (c - 48) + 1) * 10 ^ l.length ≤ ((a + 1) * 10) * 10 ^ l.length := Nat.mul_le_mul_right _ (by omega)
    have e : (a + 1) * (10 ^ l.length * 10) = ((a + 1) * 10) * 10 ^ l.length := by rw [Nat.mul_comm (10 ^ l.length) 10, ← Nat.mul_assoc]
    omega
theorem numO_val {t : Str} {n : Int} (h : numO t = some n) : 0 ≤ n ∧ n < 10 ^ 20 ∧ PySem.intText? t = some n ∧ digL (tl t) = true ∧ t.length ≤ 20 ∧ tl t ≠ [] := by
  unfold numO at h
  split at h
  · cases h
  · rename_i g
    have g1 : ¬ 20 < t.length := fun z => g (.inl z)
    have g2 : tl t ≠ [] := fun z => g (.inr (.inl z))
    have g3 : digL (tl t) = true := by
      cases e : digL (tl t) with
      | true => rfl
      | false => exact absurd (.inr (.inr e)) g
    split at h
    · cases h
    · cases h
      have b := fold_bound (tl t) 0 (dig_mem g3)
      have l : (tl t).length ≤ 20 := by rw [← len_tl]; omega
      have p : 10 ^ (tl t).length ≤ 10 ^ 20 := Nat.pow_le_pow_right (by decide) l
      have bb : NumText.digitsVal (tl t) < 10 ^ 20 := by
        show (tl t).foldl (fun acc c => acc * 10 + (c - 48)) 0 < 10 ^ 20
        omega
      refine ⟨by omega, by omega, ?_, g3, by omega, g2⟩
      have e : t = (⟨(tl t).toArray⟩ : Str) := ext_tl rfl
      exact SX.int_S (a := tl t) g3 g2 (by omega)
theorem num_small {t : Str} {n : Int} (h : numO t = some n) : n.natAbs.log2 < 1920 := by
  obtain ⟨a, b, _⟩ := numO_val h
  have e : n.natAbs < 10 ^ 20 := by omega
  by_cases z : n.natAbs = 0
  · rw [z]; decide
  · exact (Nat.log2_lt z).mpr (Nat.lt_trans e (Nat.lt_of_lt_of_le (by decide : 10 ^ 20 < 2 ^ 80) (Nat.pow_le_pow_right (by decide) (by decide))))
/-! ### where a sign stands in a text -/
theorem list_sep {s : Nat} : ∀ l : List Nat, s ∉ l ∨ ∃ p r, l = p ++ s :: r ∧ s ∉ p
  | [] => .inl (by simp)
  | c :: l => by
    by_cases e : c = s
    · exact .inr ⟨[], l, by rw [e]; rfl, by simp⟩
    · rcases list_sep (s := s) l with h | ⟨p, r, h1, h2⟩
      · exact .inl (by simp only [List.mem_cons, not_or]; exact ⟨fun z => e z.symm, h⟩)
      · exact .inr ⟨c :: p, r, by rw [h1]; rfl, by simp only [List.mem_cons, not_or]; exact ⟨fun z => e z.symm, h2⟩⟩
theorem sep_cases {y : Str} {s : Nat} (ey : tl y = [s]) (hk : y.cps.all (· < 256) = true) (w : Str) :
    (s ∉ tl w ∧ Txt.split w y = [w] ∧ Txt.partition w y = (w, Str.empty, Str.empty)) ∨ ∃ a b, w = a ++ y ++ b ∧ s ∉ tl a ∧ Txt.split w y = a :: Txt.split b y ∧ Txt.partition w y = (a, y, b) := by
  have hy : tl y ≠ [] := by rw [ey]; simp
  rcases list_sep (s := s) (tl w) with h | ⟨p, r, h1, h2⟩
  · refine .inl ⟨h, map_tl_inj ?_, partition_none ey h⟩
    rw [split_spl w y hy (kind_ok hk), ey, spl_last1 h]
    simp
  · have e : w = (⟨p.toArray⟩ : Str) ++ y ++ (⟨r.toArray⟩ : Str) := ext_tl (by show tl w = _; rw [tl_append, tl_append, h1, ey]; simp)
    have h2' : s ∉ tl (⟨p.toArray⟩ : Str) := h2
    refine .inr ⟨⟨p.toArray⟩, ⟨r.toArray⟩, e, h2', map_tl_inj ?_, ?_⟩
    · rw [List.map_cons, split_spl w y hy (kind_ok hk), split_spl _ y hy (kind_ok hk), ey, h1, tl_mk, tl_mk]
      have := spl_part1 (s := s) (S := []) (p := p) (rest := r) (acc := []) h2
      simpa using this
    · rw [e]
      exact partition_app ey h2'
theorem split_one {y : Str} {s : Nat} (ey : tl y = [s]) (hk : y.cps.all (· < 256) = true) {w : Str} (h : s ∉ tl w) : Txt.split w y = [w] := by
  rcases sep_cases ey hk w with ⟨_, e, _⟩ | ⟨a, b, e, _⟩
  · exact e
  · exact absurd (by rw [e, tl_append, tl_append, ey]; simp) h
theorem split_two {y : Str} {s : Nat} (ey : tl y = [s]) (hk : y.cps.all (· < 256) = true) {w : Str} (h : s ∈ tl w) : ∃ a b r, Txt.split w y = a :: b :: r := by
  rcases sep_cases ey hk w with ⟨z, _⟩ | ⟨a, b, _, _, e, _⟩
  · exact absurd h z
  · rcases sep_cases ey hk b with ⟨_, e2, _⟩ | ⟨a2, b2, _, _, e2, _⟩
    · exact ⟨a, b, [], by rw [e, e2]⟩
    · exact ⟨a, a2, _, by rw [e, e2]⟩
end Lg

namespace Lg
open PySem PySem.Spec PyProof.Rows L2 Lm TL
/-! ### items of texts, right or wrong -/
def lampP (w : Str) : PyData := let d : PyData := .tuple [.str (Txt.partition w ":").1, optD (numO (Txt.partition w ":").2.2)]; if lampB d then d else .none
def sttP (w : Str) : PyData := .tuple [optD (numO (Txt.partition w "-").1), optD (numO (Txt.partition w "-").2.2)]
def runW (w : Str) : PyData :=
  if (Txt.partition w "+").2.1 = Str.empty then .tuple [optD (numO (Txt.partition w "+").1), .int 1, .int 1]
  else if numO (Txt.partition (Txt.partition w "+").2.2 "x").2.2 = some 1 then .none
  else .tuple [optD (numO (Txt.partition w "+").1), optD (numO (Txt.partition (Txt.partition w "+").2.2 "x").1), optD (numO (Txt.partition (Txt.partition w "+").2.2 "x").2.2)]
def itemP : Nat → Str → PyData
  | 0, w => lampP w
  | 1, w => sttP w
  | _, w => runW w
def okO : Nat → PyData → Option (Int × Int)
  | 0, d => if lampB d then some (0, 0) else none
  | 1, d => stOf d
  | _, d => runOf d
def errIdx (way : Nat) : List PyData → Nat → Int → Option Nat
  | [], _, _ => none
  | d :: r, i, b => match okO way d with
    | none => some i
    | some (on, off) => if way ≠ 0 ∧ on ≤ b then some i else errIdx way r (i + 1) off
def idxO (way lim : Nat) (ds : List PyData) : Option Nat := match errIdx way (ds.take lim) 0 (-1) with
  | some i => some i
  | none => if lim < ds.length then some lim else none
def readGo (way lim : Nat) : List PyData → Nat → Int → Option Nat
  | [], _, _ => none
  | d :: r, k, b => match okO way d with
    | none => some k
    | some (on, off) => if lim ≤ k then some k else if way ≠ 0 ∧ on ≤ b then some k else readGo way lim r (k + 1) off
theorem read_idx' (way lim : Nat) : ∀ (ds : List PyData) (k : Nat) (b : Int), k ≤ lim → readGo way lim ds k b = match errIdx way (ds.take (lim - k)) k b with
    | some i => some i
    | none => if lim < k + ds.length then some lim else none
  | [], k, b, h => by
    simp only [readGo, List.take_nil, errIdx, List.length_nil, Nat.add_zero]
    rw [if_neg (by omega)]
  | d :: r, k, b, h => by
    by_cases e : lim = k
    · subst e
      rw [Nat.sub_self, List.take_zero]
      simp only [errIdx, List.length_cons]
      rw [if_pos (by omega)]
      simp only [readGo]
      cases okO way d with
      | none => rfl
      | some q =>
        obtain ⟨on, off⟩ := q
        simp only
        rw [if_pos (Nat.le_refl _)]
    · have t : lim - k = (lim - (k + 1)) + 1 := by omega
      rw [t, List.take_succ_cons]
      simp only [readGo, errIdx]
      cases okO way d with
      | none => rfl
      | some q =>
        obtain ⟨on, off⟩ := q
        simp only
        rw [if_neg (show ¬ lim ≤ k by omega)]
        by_cases g : way ≠ 0 ∧ on ≤ b
        · rw [if_pos g, if_pos g]
        · rw [if_neg g, if_neg g, read_idx' way lim r (k + 1) off (by omega)]
          simp only [List.length_cons]
          rw [show k + 1 + r.length = k + (r.length + 1) by omega]
theorem read_idx (way lim : Nat) (ds : List PyData) : readGo way lim ds 0 (-1) = idxO way lim ds := by
  rw [read_idx' way lim ds 0 (-1) (Nat.zero_le _), Nat.sub_zero, Nat.zero_add]
  rfl
theorem errIdx_le (way : Nat) : ∀ (ds : List PyData) (k : Nat) (b : Int) (i : Nat), errIdx way ds k b = some i → k ≤ i ∧ i < k + ds.length
  | [], k, b, i, h => by cases h
  | d :: r, k, b, i, h => by
    simp only [errIdx] at h
    simp only [List.length_cons]
    cases e : okO way d with
    | none =>
      rw [e] at h
      cases h
      omega
    | some q =>
      obtain ⟨on, off⟩ := q
      rw [e] at h
      simp only at h
      split at h
      · cases h; omega
      · have := errIdx_le way r (k + 1) off i h
        omega
theorem errIdx_ok (way : Nat) : ∀ (ds : List PyData) (k : Nat) (b : Int), errIdx way ds k b = none → ∀ d ∈ ds, (okO way d).isSome = true
  | [], _, _, _, d, h => nomatch h
  | e :: r, k, b, h, d, hd => by
    simp only [errIdx] at h
    cases q : okO way e with
    | none => rw [q] at h; cases h
    | some p =>
      obtain ⟨on, off⟩ := p
      rw [q] at h
      simp only at h
      split at h
      · cases h
      · rcases List.mem_cons.mp hd with z | z
        · rw [z, q]; rfl
        · exact errIdx_ok way r (k + 1) off h d z
theorem logGo_idx : ∀ (ds : List PyData) (i : Nat) (b : Int), (errIdx 1 ds i b = none → logGo ds i b = .none) ∧ ∀ j, errIdx 1 ds i b = some j → ∃ w, logGo ds i b = two (.int j) (.str w)
  | [], _, _ => ⟨fun _ => rfl, fun _ h => nomatch h⟩
  | d :: r, i, b => by
    simp only [errIdx, logGo, okO]
    cases stOf d with
    | none => exact ⟨(fun h => nomatch h), fun j h => ⟨_, by cases h; rfl⟩⟩
    | some q =>
      obtain ⟨on, off⟩ := q
      simp only
      by_cases g : on ≤ b
      · rw [if_pos ⟨by decide, g⟩, if_pos g]
        exact ⟨(fun h => nomatch h), fun j h => ⟨_, by cases h; rfl⟩⟩
      · rw [if_neg fun z => g z.2, if_neg g]
        exact logGo_idx r (i + 1) off
theorem motGo_idx : ∀ (ds : List PyData) (i : Nat) (b : Int), (errIdx 2 ds i b = none → motGo ds i b = .none) ∧ ∀ j, errIdx 2 ds i b = some j → ∃ w, motGo ds i b = two (.int j) (.str w)
  | [], _, _ => ⟨fun _ => rfl, fun _ h => nomatch h⟩
  | d :: r, i, b => by
    simp only [errIdx, motGo, okO]
    cases runOf d with
    | none => exact ⟨(fun h => nomatch h), fun j h => ⟨_, by cases h; rfl⟩⟩
    | some q =>
      obtain ⟨on, off⟩ := q
      simp only
      by_cases g : on ≤ b
      · rw [if_pos ⟨by decide, g⟩, if_pos g]
        exact ⟨(fun h => nomatch h), fun j h => ⟨_, by cases h; rfl⟩⟩
      · rw [if_neg fun z => g z.2, if_neg g]
        exact motGo_idx r (i + 1) off
end Lg

namespace Lg
open PySem PySem.Spec PyProof.Rows L2 Lm TL
def limOf : Nat → Nat
  | 0 => 6
  | 1 => 60
  | _ => 360
def txtOk (x : Str) : Prop := x.length ≤ 5000 ∧ (Txt.split x " ").length ≤ 900 ∧ ∀ w ∈ Txt.split x " ", w.length ≤ 890
def lenOkS (d : PyData) : Prop := ∀ x, d = .str x → txtOk x
def itemsP (way : Nat) (x : Str) : List PyData := (Txt.split x " ").map (itemP way)
def valP (way : Nat) : PyData → PyData
  | .str x => if x = "none" then .tuple [] else .tuple (itemsP way x)
  | _ => .none
def idxP (way : Nat) : PyData → Option PyData
  | .str x => if x = "none" then none else (idxO way (limOf way) (itemsP way x)).map fun i => .int (i : Nat)
  | _ => some .none
def readD (way : Nat) (d : PyData) : PyData := match idxP way d with
  | some e => .list [e]
  | none => valP way d
def sp_numG (K : PySem.W.Frag) : Sp := sp_f K (fun t : Str => [.str t]) (fun t => t.length ≤ 5000) (fun t => optD (numO t))
def sp_itemG (K : PySem.W.Frag) (way : Nat) : Sp := sp_f K (fun t : Str => [.str t]) (fun t => t.length ≤ 5000) (itemP way)
def sp_errG (K : PySem.W.Frag) (way : Nat) (lim : Nat) : Sp := fun vs H Q _ => ∃ (N : Addr → Prop) (ds : List PyData), Occ N H ∧ Dqs K (cut N H) vs [.tuple ds] ∧ ds.length ≤ lim ∧ (∀ d ∈ ds, d.showable = true) ∧
  (errIdx way ds 0 (-1) = none → ∀ H', Same H H' → Q .non H') ∧ (∀ i, errIdx way ds 0 (-1) = some i → ∀ (t : Addr) (y : V) (H' : Hp), Same H H' → H' t = some (.tup [.int (i : Nat), y]) → Q (.ref t) H')
def sp_pG (K : PySem.W.Frag) (CT fi fe : Addr) (way : Nat) : Sp := fun vs H Q E => ∃ (N : Addr → Prop) (v : V) (d : PyData), vs = [v, .ref fi, .ref fe, .int (limOf way : Nat)] ∧ Occ N H ∧ Dq K (cut N H) v d ∧ lenOkS d ∧
  (idxP way d = none → ∀ r H', Same H H' → Dq K (cut N H') r (valP way d) → Q r H') ∧
  (∀ e, idxP way d = some e → ∀ (dd : Addr) (u : V) (H' : Hp), Same H H' → H dd = none → H' dd = some (.xd [("index", u)]) → Dq K (cut N H') u e → E (.ref CT) (some dd) H')
def sp_parseG (K : PySem.W.Frag) (CT : Addr) (way : Nat) : Sp := sp_fe K (fun d : PyData => [d]) lenOkS (valP way) (fun d => (idxP way d).map fun e => (CT, ("index" : Str), e))
def sp_toldG (K : PySem.W.Frag) : Sp := sp_f K (fun x : Nat × PyData => [.int (x.1 : Nat), x.2]) (fun x => x.1 ≤ 2 ∧ lenOkS x.2) (fun x => readD x.1 x.2)
def itemD (way : Nat) (w : Str) : PyData := if (okO way (itemP way w)).isSome then itemP way w else .none
def sp_lawItem (K : PySem.W.Frag) : Sp := sp_f K (fun x : Nat × Str => [.int (x.1 : Nat), .str x.2]) (fun x => x.1 ≤ 2 ∧ x.2.length ≤ 890) (fun x => itemD x.1 x.2)
def sp_lawRead (K : PySem.W.Frag) : Sp := sp_f K (fun x : Nat × Str => [.int (x.1 : Nat), .str x.2]) (fun x => x.1 ≤ 2 ∧ txtOk x.2) (fun x => readD x.1 (.str x.2))
/-! ### parts of a text -/
theorem part_len {y : Str} {s : Nat} (ey : tl y = [s]) (hk : y.cps.all (· < 256) = true) (w : Str) : (Txt.partition w y).1.length ≤ w.length ∧ (Txt.partition w y).2.2.length ≤ w.length ∧ (Txt.partition w y).2.1.length ≤ 1 := by
  have l1 : y.length = 1 := by rw [len_tl, ey]; rfl
  rcases sep_cases ey hk w with ⟨_, _, e⟩ | ⟨a, b, e1, _, _, e⟩
  · rw [e]
    exact ⟨Nat.le_refl _, Nat.zero_le _, Nat.zero_le _⟩
  · have := congrArg Str.length e1
    rw [len_app, len_app] at this
    rw [e]
    exact ⟨by show a.length ≤ _; omega, by show b.length ≤ _; omega, by show y.length ≤ 1; omega⟩
def optV : Option Int → V
  | none => .non
  | some i => .int i
theorem dq_opt {K : PySem.W.Frag} {G : Hp} {v : V} {o : Option Int} (h : Dq K G v (optD o)) : v = optV o := by
  cases o with
  | none => cases h; rfl
  | some i => cases h; rfl
theorem opt_show {t : Str} : (optD (numO t)).showable = true := by
  cases e : numO t with
  | none => rfl
  | some n =>
    show PyData.showable (.int n) = true
    simp only [PyData.showable, decide_eq_true (num_small e)]
theorem item_show (way : Nat) (w : Str) : (itemP way w).showable = true := by
  match way with
  | 0 =>
    show (lampP w).showable = true
    unfold lampP
    dsimp only
    split
    · simp only [PyData.showable, PyData.showableAll, opt_show, Bool.and_true]
    · rfl
  | 1 =>
    show (sttP w).showable = true
    unfold sttP
    simp only [PyData.showable, PyData.showableAll, opt_show, Bool.and_true]
  | n + 2 =>
    show (runW w).showable = true
    unfold runW
    have h1 : PyData.showable (.int 1) = true := by decide +kernel
    split
    · simp only [PyData.showable, PyData.showableAll, opt_show, Bool.and_true]
      decide +kernel
    · split
      · rfl
      · simp only [PyData.showable, PyData.showableAll, opt_show, Bool.and_true]
end Lg

namespace Lg
open PySem PySem.Spec PyProof.Rows L2 Lm TL
theorem logE2 (K : PySem.W.Frag) (vs : List V) (H : Hp) (Q : VK) (E : XK) (h : sp_errG K 1 60 vs H Q E) : sp_err K logErr vs H Q E := by
  obtain ⟨N, ds, O, hd, hl, hs, q0, q1⟩ := h
  obtain ⟨v, _, rfl, hd1, hd⟩ := dqs_cons hd
  obtain rfl := dqs_nil hd
  refine ⟨v, .tuple ds, rfl, hd1.mono cut_same, fun r H' s fl => ?_⟩
  have e : logErr (.tuple ds) = logGo ds 0 (-1) := if_neg (by omega)
  rw [e] at fl
  obtain ⟨i0, i1⟩ := logGo_idx ds 0 (-1)
  cases g : errIdx 1 ds 0 (-1) with
  | none =>
    rw [i0 g] at fl
    rw [flat_none fl]
    exact q0 g _ s
  | some j =>
    obtain ⟨w, ew⟩ := i1 j g
    rw [ew] at fl
    rcases fl with ⟨_, z⟩ | ⟨t, x, y, dx, dy, rfl, _, gt, z, hx, _⟩
    · cases z
    · cases z
      obtain rfl := dq_int (hx H')
      exact q1 j g t y H' s gt
theorem motE2 (K : PySem.W.Frag) (vs : List V) (H : Hp) (Q : VK) (E : XK) (h : sp_errG K 2 360 vs H Q E) : sp_errS K motErr vs H Q E := by
  obtain ⟨N, ds, O, hd, hl, hs, q0, q1⟩ := h
  obtain ⟨v, _, rfl, hd1, hd⟩ := dqs_cons hd
  obtain rfl := dqs_nil hd
  have sh : ∀ ds : List PyData, (∀ d ∈ ds, d.showable = true) → PyData.showableAll ds = true := by
    intro ds
    induction ds with
    | nil => intro _; rfl
    | cons d r ih =>
      intro h
      simp only [PyData.showableAll, h d List.mem_cons_self, ih fun x hx => h x (List.mem_cons_of_mem _ hx), Bool.and_self]
  refine ⟨v, .tuple ds, rfl, hd1.mono cut_same, by simp only [PyData.showable]; exact sh ds hs, fun r H' s fl => ?_⟩
  have e : motErr (.tuple ds) = motGo ds 0 (-1) := if_neg (by omega)
  rw [e] at fl
  obtain ⟨i0, i1⟩ := motGo_idx ds 0 (-1)
  cases g : errIdx 2 ds 0 (-1) with
  | none =>
    rw [i0 g] at fl
    rw [flat_none fl]
    exact q0 g _ s
  | some j =>
    obtain ⟨w, ew⟩ := i1 j g
    rw [ew] at fl
    rcases fl with ⟨_, z⟩ | ⟨t, x, y, dx, dy, rfl, _, gt, z, hx, _⟩
    · cases z
    · cases z
      obtain rfl := dq_int (hx H')
      exact q1 j g t y H' s gt
theorem call_str_any {X : Cx} : CallR X (.type "str") (fun xs H Q => (∃ a, xs = [.str a] ∧ Q (.str a) H) ∨ ∃ i, xs = [.int i] ∧ i.natAbs.log2 < 1920 ∧ Q (.str (toString i)) H) := by
  intro pins s σ H xs us Q I r h
  rcases h with h | h
  · exact SkE.call_str_str pins s σ H xs us Q I r h
  · exact call_str_int pins s σ H xs us Q I r h
end Lg

namespace Lg
open PySem PySem.Spec PyProof.Rows L2 Lm TL
theorem split_mem {y : Str} {s : Nat} (ey : tl y = [s]) (hk : y.cps.all (· < 256) = true) : ∀ (n : Nat) (x : Str), x.length ≤ n → ∀ w ∈ Txt.split x y, w.length ≤ x.length
  | n, x, hn, w, hw => by
    rcases sep_cases ey hk x with ⟨_, e, _⟩ | ⟨a, b, e1, _, e, _⟩
    · rw [e] at hw
      rw [List.mem_singleton.mp hw]
      exact Nat.le_refl _
    · have l := congrArg Str.length e1
      have l1 : y.length = 1 := by rw [len_tl, ey]; rfl
      rw [len_app, len_app] at l
      rw [e] at hw
      rcases List.mem_cons.mp hw with z | z
      · rw [z]; omega
      · cases n with
        | zero => omega
        | succ n =>
          have := split_mem ey hk n b (by omega) w z
          omega
theorem split_sp {x : Str} : ∀ w ∈ Txt.split x " ", w.length ≤ x.length := split_mem tl_sp (by decide +kernel) x.length x (Nat.le_refl _)
theorem items_len (way : Nat) (x : Str) : (itemsP way x).length = (Txt.split x " ").length := by unfold itemsP; rw [List.length_map]
theorem items_show (way : Nat) (x : Str) : ∀ d ∈ itemsP way x, d.showable = true := fun d hd => by
  obtain ⟨w, _, rfl⟩ := List.mem_map.mp hd
  exact item_show way w
theorem limOf_le (way : Nat) : limOf way ≤ 360 := by
  match way with
  | 0 => decide
  | 1 => decide
  | _ + 2 => exact Nat.le_refl _
theorem idxP_str {way : Nat} {x : Str} (h : x ≠ "none") : idxP way (.str x) = (idxO way (limOf way) (itemsP way x)).map fun i => .int (i : Nat) := if_neg h
theorem valP_str {way : Nat} {x : Str} (h : x ≠ "none") : valP way (.str x) = .tuple (itemsP way x) := if_neg h
theorem idxP_no {way : Nat} {d : PyData} (h : isS d = false) : idxP way d = some .none := by
  cases d <;> first | rfl | cases h
end Lg
namespace Lg
open PySem PySem.Spec PyProof.Rows L2 Lm TL
theorem tl_digits : tl ("0123456789" : Str) = [48, 49, 50, 51, 52, 53, 54, 55, 56, 57] := by decide +kernel
theorem dig_in (c : Nat) : decide (c ∈ (Str.ofString "0123456789").cps.toList) = (decide (48 ≤ c) && decide (c ≤ 57)) := by
  rw [show (Str.ofString "0123456789").cps.toList = [48, 49, 50, 51, 52, 53, 54, 55, 56, 57] from tl_digits]
  rw [Bool.eq_iff_iff]
  simp only [decide_eq_true_eq, Bool.and_eq_true, List.mem_cons, List.not_mem_nil, or_false]
  omega
theorem cps_tl {x : Str} {i c : Nat} (h : x.cps[i]? = some c) : (tl x)[i]? = some c := by
  show x.cps.toList[i]? = some c
  rw [Array.getElem?_toList]
  exact h
theorem digL_take {l : List Nat} {i c : Nat} (h : l[i]? = some c) : digL (l.take (i + 1)) = (digL (l.take i) && (decide (48 ≤ c) && decide (c ≤ 57))) := by
  unfold digL
  rw [List.take_add_one, h, List.all_append]
  simp
end Lg

namespace Lg
open PySem PySem.Spec PyProof.Rows L2 Lm TL
theorem numO_empty : numO Str.empty = none := numO_nil rfl
theorem okO_none (way : Nat) : okO way .none = none := by
  match way with
  | 0 => rfl
  | 1 => rfl
  | _ + 2 => rfl
theorem lampB_none (k : Str) : lampB (.tuple [.str k, .none]) = false := by
  show ((["hold", "pulse"] : List Str).any (strIs (.str k)) && false) = false
  rw [Bool.and_false]
/-- way 0 by the parts -/
def item0b (a : Str) : Option Int → PyData
  | some n => if lampB (.tuple [.str a, .int n]) then .tuple [.str a, .int n] else .none
  | none => .none
def item0 : List Str → PyData
  | [a, b] => item0b a (numO b)
  | _ => .none
theorem itemD0_of {k : Str} {o : Option Int} (x : Str) (h : Txt.partition x ":" = (k, (Txt.partition x ":").2.1, (Txt.partition x ":").2.2)) (ho : numO (Txt.partition x ":").2.2 = o) :
    itemD 0 x = item0b k o := by
  have hk : (Txt.partition x ":").1 = k := by rw [h]
  unfold itemD
  show (if (okO 0 (lampP x)).isSome then lampP x else .none) = _
  unfold lampP
  dsimp only
  rw [hk, ho]
  cases o with
  | none =>
    show (if (okO 0 (if lampB (.tuple [.str k, .none]) then .tuple [.str k, .none] else .none)).isSome then (if lampB (.tuple [.str k, .none]) then .tuple [.str k, .none] else .none) else PyData.none) = .none
    rw [lampB_none]
    rfl
  | some n =>
    show (if (okO 0 (if lampB (.tuple [.str k, .int n]) then .tuple [.str k, .int n] else .none)).isSome then (if lampB (.tuple [.str k, .int n]) then .tuple [.str k, .int n] else .none) else PyData.none) = if lampB (.tuple [.str k, .int n]) then .tuple [.str k, .int n] else .none
    cases g : lampB (.tuple [.str k, .int n]) with
    | true =>
      simp only [if_true, okO]
      rw [g]
      rfl
    | false => rfl
theorem item0_eq (x : Str) : itemD 0 x = item0 (Txt.split x ":") := by
  rcases sep_cases tl_colon (by decide +kernel) x with ⟨_, e1, e2⟩ | ⟨a, b, _, _, e1, e2⟩
  · rw [e1, itemD0_of (k := x) (o := none) x (by rw [e2]) (by rw [e2]; exact numO_empty)]
    rfl
  · by_cases hb : 58 ∈ tl b
    · obtain ⟨c, d, r, e3⟩ := split_two tl_colon (by decide +kernel) hb
      rw [e1, e3, itemD0_of (k := a) (o := none) x (by rw [e2]) (by rw [e2]; exact numO_no hb (by omega))]
      rfl
    · rw [e1, split_one tl_colon (by decide +kernel) hb, itemD0_of (k := a) (o := numO b) x (by rw [e2]) (by rw [e2])]
      rfl
/-- way 1 by the parts -/
def tupO (os : List (Option Int)) : PyData := .tuple (os.map optD)
theorem stOf_lenO {os : List (Option Int)} (h : os.length ≠ 2) : stOf (tupO os) = none := by
  match os, h with
  | [], _ => rfl
  | [a], _ => cases a <;> rfl
  | a :: b :: c :: r, _ => cases a <;> cases b <;> cases c <;> rfl
  | [_, _], h => exact absurd rfl h
theorem stOf_no2 (o : Option Int) : stOf (tupO [o, none]) = none := by cases o <;> rfl
def item1 (bits : List Str) : PyData := if (stOf (tupO (bits.map numO))).isSome then tupO (bits.map numO) else .none
theorem item1_eq (x : Str) : itemD 1 x = item1 (Txt.split x "-") := by
  have u : itemD 1 x = if (stOf (tupO [numO (Txt.partition x "-").1, numO (Txt.partition x "-").2.2])).isSome then tupO [numO (Txt.partition x "-").1, numO (Txt.partition x "-").2.2] else .none := rfl
  unfold item1
  rcases sep_cases tl_dash (by decide +kernel) x with ⟨_, e1, e2⟩ | ⟨a, b, _, _, e1, e2⟩
  · rw [u, e1, e2]
    dsimp only
    rw [numO_empty, stOf_no2, stOf_lenO (by simp)]
    rfl
  · by_cases hb : 45 ∈ tl b
    · obtain ⟨c, d, r, e3⟩ := split_two tl_dash (by decide +kernel) hb
      rw [u, e1, e2, e3]
      dsimp only
      rw [numO_no hb (by omega), stOf_no2, stOf_lenO (by simp)]
      rfl
    · rw [u, e1, e2, split_one tl_dash (by decide +kernel) hb]
      rfl
/-- way 2 by the parts -/
theorem runOf_lenO {os : List (Option Int)} (h : os.length ≠ 3) : runOf (tupO os) = none := by
  match os, h with
  | [], _ => rfl
  | [a], _ => cases a <;> rfl
  | [a, b], _ => cases a <;> cases b <;> rfl
  | a :: b :: c :: d :: r, _ => cases a <;> cases b <;> cases c <;> cases d <;> rfl
  | [_, _, _], h => exact absurd rfl h
theorem runOf_no {a b c : Option Int} (h : a = none ∨ b = none ∨ c = none) : runOf (tupO [a, b, c]) = none := by
  rcases h with rfl | rfl | rfl
  · cases b <;> cases c <;> rfl
  · cases a <;> cases c <;> rfl
  · cases a <;> cases b <;> rfl
theorem numO_one : numO "1" = some 1 := by decide +kernel
theorem split_1x1 : Txt.split "1x1" "x" = [("1" : Str), ("1" : Str)] := by decide +kernel
/-- the numbers of a run's text, its parts at "+" given -/
def run2 (bits : List Str) : List (Option Int) := match bits with
  | a :: b :: _ => numO a :: (Txt.split b "x").map numO
  | _ => []
def third : List (Option Int) → Option Int
  | [_, _, c] => c
  | _ => none
def item2 (bits : List Str) (plus : Bool) : PyData := if bits.length > 2 ∨ (runOf (tupO (run2 bits))).isSome = false ∨ (plus = true ∧ third (run2 bits) = some 1) then .none else tupO (run2 bits)
theorem runOf_c {a b c : Option Int} (h : (runOf (tupO [a, b, c])).isSome = true) : ∃ x y z, a = some x ∧ b = some y ∧ c = some z ∧ 1 ≤ z := by
  match a, b, c with
  | none, b, c => rw [runOf_no (.inl rfl)] at h; cases h
  | some x, none, c => rw [runOf_no (.inr (.inl rfl))] at h; cases h
  | some x, some y, none => rw [runOf_no (.inr (.inr rfl))] at h; cases h
  | some x, some y, some z =>
    refine ⟨x, y, z, rfl, rfl, rfl, ?_⟩
    have h : (if 0 ≤ x ∧ 1 ≤ y ∧ 1 ≤ z ∧ (z = 1 → y = 1) ∧ x + y * (z - 1) ≤ 1000000000 then some (x, x + y * (z - 1)) else none).isSome = true := h
    split at h
    · rename_i g; exact g.2.2.1
    · cases h
end Lg
namespace Lg
open PySem PySem.Spec PyProof.Rows L2 Lm TL
def bits2 (x : Str) : List Str := if (Txt.split x "+").length = 1 then [x, "1x1"] else Txt.split x "+"
theorem item2_no {bits : List Str} {p : Bool} (h : bits.length > 2 ∨ runOf (tupO (run2 bits)) = none) : item2 bits p = .none := by
  unfold item2
  rcases h with h | h
  · exact if_pos (.inl h)
  · exact if_pos (.inr (.inl (by rw [h]; rfl)))
theorem itemD2_tup {x : Str} {os : List (Option Int)} (h : runW x = tupO os) : itemD 2 x = if (runOf (tupO os)).isSome then tupO os else .none := by
  show (if (runOf (runW x)).isSome then runW x else .none) = _
  rw [h]
theorem itemD2_none {x : Str} (h : runW x = .none) : itemD 2 x = .none := by
  show (if (runOf (runW x)).isSome then runW x else .none) = _
  rw [h]
  rfl
theorem runW_sep {x a b : Str} (e : Txt.partition x "+" = (a, ("+" : Str), b)) : runW x = if numO (Txt.partition b "x").2.2 = some 1 then .none else tupO [numO a, numO (Txt.partition b "x").1, numO (Txt.partition b "x").2.2] := by
  unfold runW
  rw [e]
  dsimp only
  rw [if_neg (show ¬ ("+" : Str) = Str.empty from fun z => by
    have := congrArg tl z
    rw [tl_plus] at this
    cases this)]
  rfl
theorem item2_eq (x : Str) : itemD 2 x = item2 (bits2 x) (decide (43 ∈ tl x)) := by
  rcases sep_cases tl_plus (by decide +kernel) x with ⟨hn, e1, e2⟩ | ⟨a, b, ex, _, e1, e2⟩
  · have eb : bits2 x = [x, ("1x1" : Str)] := by unfold bits2; rw [e1]; rfl
    have ew : runW x = tupO [numO x, some 1, some 1] := by
      unfold runW
      rw [e2]
      rfl
    have er : run2 [x, ("1x1" : Str)] = [numO x, some 1, some 1] := by
      show numO x :: (Txt.split ("1x1" : Str) "x").map numO = _
      rw [split_1x1]
      show [numO x, numO "1", numO "1"] = _
      rw [numO_one]
    rw [eb, decide_eq_false hn, itemD2_tup ew]
    unfold item2
    rw [er]
    cases g : (runOf (tupO [numO x, some 1, some 1])).isSome with
    | true => rw [if_pos rfl, if_neg (by simp)]
    | false => rw [if_neg (by simp), if_pos (.inr (.inl rfl))]
  · have hp : decide (43 ∈ tl x) = true := decide_eq_true (by rw [ex, tl_append, tl_append, tl_plus]; simp)
    have ew := runW_sep e2
    rw [hp]
    by_cases hb : 43 ∈ tl b
    · obtain ⟨c, d, r, e3⟩ := split_two tl_plus (by decide +kernel) hb
      have eb : bits2 x = a :: c :: d :: r := by unfold bits2; rw [e1, e3]; exact if_neg (by simp)
      rw [eb, item2_no (.inl (by simp))]
      rcases sep_cases tl_x (by decide +kernel) b with ⟨_, _, e5⟩ | ⟨s, c', eb2, _, _, e5⟩
      · rw [e5] at ew
        dsimp only at ew
        rw [numO_empty, if_neg (by simp)] at ew
        rw [itemD2_tup ew, runOf_no (.inr (.inr rfl))]
        rfl
      · rw [e5] at ew
        dsimp only at ew
        by_cases g : numO c' = some 1
        · rw [if_pos g] at ew
          exact itemD2_none ew
        · rw [if_neg g] at ew
          rw [itemD2_tup ew, runOf_no (.inr ?_)]
          · rfl
          · rw [eb2, tl_append, tl_append, tl_x] at hb
            simp only [List.mem_append, List.mem_singleton] at hb
            rcases hb with (h | h) | h
            · exact .inl (numO_no h (by omega))
            · omega
            · exact .inr (numO_no h (by omega))
    · have eb : bits2 x = [a, b] := by unfold bits2; rw [e1, split_one tl_plus (by decide +kernel) hb]; rfl
      rw [eb]
      have er : run2 [a, b] = numO a :: (Txt.split b "x").map numO := rfl
      rcases sep_cases tl_x (by decide +kernel) b with ⟨_, e4, e5⟩ | ⟨s, c', eb2, _, e4, e5⟩
      · rw [e5] at ew
        dsimp only at ew
        rw [numO_empty, if_neg (by simp)] at ew
        rw [itemD2_tup ew, runOf_no (.inr (.inr rfl)), item2_no (.inr (by rw [er, e4]; exact runOf_lenO (by simp)))]
        rfl
      · rw [e5] at ew
        dsimp only at ew
        by_cases hx : 120 ∈ tl c'
        · obtain ⟨u, v, r, e6⟩ := split_two tl_x (by decide +kernel) hx
          rw [numO_no hx (by omega), if_neg (by simp)] at ew
          rw [itemD2_tup ew, runOf_no (.inr (.inr rfl)), item2_no (.inr (by rw [er, e4, e6]; exact runOf_lenO (by simp)))]
          rfl
        · have er2 : run2 [a, b] = [numO a, numO s, numO c'] := by rw [er, e4, split_one tl_x (by decide +kernel) hx]; rfl
          unfold item2
          rw [er2]
          by_cases g : numO c' = some 1
          · rw [if_pos g] at ew
            rw [itemD2_none ew, if_pos (.inr (.inr ⟨rfl, g⟩))]
          · rw [if_neg g] at ew
            rw [itemD2_tup ew]
            cases g2 : (runOf (tupO [numO a, numO s, numO c'])).isSome with
            | true => rw [if_pos rfl, if_neg (by simp [third, g])]
            | false => rw [if_neg (by simp), if_pos (.inr (.inl rfl))]
end Lg

namespace Lg
open PySem PySem.Spec PyProof.Rows L2 Lm TL
theorem dqs_opts {K : PySem.W.Frag} {G : Hp} : ∀ {vs : List V} {os : List (Option Int)}, Dqs K G vs (os.map optD) → vs = os.map optV
  | vs, [], h => by obtain rfl := dqs_nil h; rfl
  | vs, m :: ms, h => by
    obtain ⟨v, r, rfl, h1, h2⟩ := dqs_cons h
    rw [dq_opt h1, dqs_opts h2]; rfl
theorem opts_flat (os : List (Option Int)) : (os.map optV).all flatV = true := by
  rw [List.all_eq_true]
  intro v hv
  obtain ⟨o, _, rfl⟩ := List.mem_map.mp hv
  cases o <;> rfl
theorem inV_mem : ∀ os : List (Option Int), inV .non (os.map optV) = true → none ∈ os
  | [], h => by cases h
  | none :: r, _ => List.mem_cons_self
  | some n :: r, h => List.mem_cons_of_mem _ (inV_mem r (by
    have h : (eqV (.int n) .non || inV .non (r.map optV)) = true := h
    have e : eqV (.int n) .non = false := rfl
    rw [e, Bool.false_or] at h
    exact h))
theorem stOf_mem : ∀ os : List (Option Int), none ∈ os → stOf (tupO os) = none
  | os, h => by
    by_cases l : os.length = 2
    · match os, l, h with
      | [a, b], _, h =>
        simp only [List.mem_cons, List.not_mem_nil, or_false] at h
        rcases h with rfl | rfl
        · cases b <;> rfl
        · exact stOf_no2 a
    · exact stOf_lenO l
theorem runOf_mem : ∀ os : List (Option Int), none ∈ os → runOf (tupO os) = none
  | os, h => by
    by_cases l : os.length = 3
    · match os, l, h with
      | [a, b, c], _, h =>
        simp only [List.mem_cons, List.not_mem_nil, or_false] at h
        exact runOf_no (by rcases h with h | h | h <;> simp [h])
    · exact runOf_lenO l
theorem item1_mem {bits : List Str} (h : none ∈ bits.map numO) : item1 bits = .none := by
  unfold item1
  rw [stOf_mem _ h]
  rfl
end Lg
namespace Lg
open PySem PySem.Spec PyProof.Rows L2 Lm TL
theorem bits2_two (x : Str) : ∃ a b r, bits2 x = a :: b :: r ∧ a.length ≤ x.length + 3 ∧ b.length ≤ x.length + 3 := by
  rcases sep_cases tl_plus (by decide +kernel) x with ⟨_, e1, _⟩ | ⟨a, b, ex, _, e1, _⟩
  · refine ⟨x, ("1x1" : Str), [], by unfold bits2; rw [e1]; rfl, by omega, ?_⟩
    have : ("1x1" : Str).length = 3 := by decide +kernel
    omega
  · have l := congrArg Str.length ex
    rw [len_app, len_app] at l
    have hs := split_mem tl_plus (by decide +kernel) x.length x (Nat.le_refl _)
    rcases sep_cases tl_plus (by decide +kernel) b with ⟨_, e2, _⟩ | ⟨c, d, _, _, e2, _⟩
    · refine ⟨a, b, [], by unfold bits2; rw [e1, e2]; exact if_neg (by simp), by omega, by omega⟩
    · have := hs c (by rw [e1, e2]; simp)
      refine ⟨a, c, Txt.split d "+", ?_, by omega, by omega⟩
      unfold bits2
      rw [e1, e2]
      refine if_neg ?_
      simp
theorem run_three {os : List (Option Int)} (h : (runOf (tupO os)).isSome = true) : ∃ x y z, os = [some x, some y, some z] ∧ 1 ≤ z := by
  by_cases l : os.length = 3
  · match os, l, h with
    | [a, b, c], _, h =>
      obtain ⟨x, y, z, rfl, rfl, rfl, hz⟩ := runOf_c h
      exact ⟨x, y, z, rfl, hz⟩
  · rw [runOf_lenO l] at h
    cases h
end Lg

namespace Lg
open PySem PySem.Spec PyProof.Rows L2 Lm TL
def wordsOf (x : Str) : List Str := if x = "none" then [] else Txt.split x " "
def readW (way : Nat) (ds : List PyData) : Option Nat → PyData
  | some i => .list [.int (i : Nat)]
  | none => .tuple ds
theorem read_cases (way : Nat) (x : Str) : readD way (.str x) = readW way ((wordsOf x).map (itemP way)) (readGo way (limOf way) ((wordsOf x).map (itemP way)) 0 (-1)) := by
  unfold readD wordsOf
  by_cases e : x = "none"
  · subst e
    rfl
  · rw [idxP_str e, valP_str e, if_neg e]
    have := read_idx way (limOf way) (itemsP way x)
    unfold itemsP at this
    rw [this]
    show _ = readW way _ (idxO way (limOf way) (itemsP way x))
    cases idxO way (limOf way) (itemsP way x) <;> rfl
theorem words_le {x : Str} (h : txtOk x) : (wordsOf x).length ≤ 900 ∧ ∀ w ∈ wordsOf x, w.length ≤ 890 := by
  unfold wordsOf
  split
  · exact ⟨Nat.zero_le _, fun w hw => nomatch hw⟩
  · exact h.2
theorem item_some {way : Nat} {w : Str} {q : Int × Int} (h : okO way (itemP way w) = some q) : itemD way w = itemP way w := by
  unfold itemD
  rw [h]
  rfl
theorem item_none {way : Nat} {w : Str} (h : okO way (itemP way w) = none) : itemD way w = .none := by
  unfold itemD
  rw [h]
  rfl
theorem st_shape {d : PyData} {q : Int × Int} (h : stOf d = some q) : d = .tuple [.int q.1, .int q.2] := by
  unfold stOf at h
  split at h
  · split at h
    · cases h; rfl
    · cases h
  · cases h
theorem run_shape {d : PyData} {q : Int × Int} (h : runOf d = some q) : ∃ a s c, d = .tuple [.int a, .int s, .int c] ∧ q = (a, a + s * (c - 1)) ∧ 0 ≤ a ∧ 1 ≤ s ∧ 1 ≤ c ∧ (c = 1 → s = 1) ∧ a + s * (c - 1) ≤ 1000000000 := by
  unfold runOf at h
  split at h
  · rename_i a s c
    split at h
    · rename_i g
      cases h
      exact ⟨a, s, c, rfl, rfl, g⟩
    · cases h
  · cases h
theorem lamp_shape {d : PyData} (h : lampB d = true) : ∃ k s, d = .tuple [k, s] := by
  unfold lampB at h
  split at h
  · exact ⟨_, _, rfl⟩
  · cases h
theorem run_mul {s c a : Int} (ha : 0 ≤ a) (hs : 1 ≤ s) (hc : 1 ≤ c) (h : a + s * (c - 1) ≤ 1000000000) (o : c = 1 → s = 1) : s ≤ 1000000000 ∧ c - 1 ≤ 1000000000 := by
  by_cases e : c = 1
  · have := o e
    omega
  · have h1 : s * 1 ≤ s * (c - 1) := Int.mul_le_mul_of_nonneg_left (by omega) (by omega)
    have h2 : 1 * (c - 1) ≤ s * (c - 1) := Int.mul_le_mul_of_nonneg_right hs (by omega)
    omega
theorem readGo_some {way lim : Nat} {d : PyData} {r : List PyData} {k : Nat} {b on off : Int} (h : okO way d = some (on, off)) : readGo way lim (d :: r) k b = if lim ≤ k then some k else if way ≠ 0 ∧ on ≤ b then some k else readGo way lim r (k + 1) off := by
  simp only [readGo, h]
theorem readGo_none {way lim : Nat} {d : PyData} {r : List PyData} {k : Nat} {b : Int} (h : okO way d = none) : readGo way lim (d :: r) k b = some k := by
  simp only [readGo, h]
end Lg

namespace Lg
open PySem PySem.Spec PyProof.Rows L2 Lm TL
/-! ### joined texts -/
def textOf : PyData → Str
  | .str s => s
  | .int i => Str.ofString (toString i)
  | _ => Str.empty
def isSI (d : PyData) : Prop := (∃ s : Str, d = .str s ∧ s.length ≤ 900) ∨ ∃ i : Int, d = .int i ∧ 0 ≤ i ∧ i ≤ 1000000
def sp_spaced (K : PySem.W.Frag) : Sp := sp_f K (fun ds : List PyData => [.list ds]) (fun ds => ds.length ≤ 900 ∧ ∀ d ∈ ds, isSI d) (fun ds => .str (Txt.join " " (ds.map textOf)))
theorem si_len {d : PyData} (h : isSI d) : (textOf d).length ≤ 900 := by
  rcases h with ⟨s, rfl, h⟩ | ⟨i, rfl, h0, h1⟩
  · exact h
  · have := num_len (i := i) (k := 7) h0 (by decide) (by omega)
    show (numT i).length ≤ 900
    omega
theorem si_sum {ds : List PyData} (h : ∀ d ∈ ds, isSI d) (hn : ds.length ≤ 900) : ((ds.map textOf).map (·.length)).sum + (ds.map textOf).length * (" " : Str).length ≤ 16777216 := by
  have a : ((ds.map textOf).map (·.length)).sum ≤ ds.length * 900 := by
    clear hn
    induction ds with
    | nil => exact Nat.zero_le _
    | cons d r ih =>
      have h1 := si_len (h d List.mem_cons_self)
      have h2 := ih fun z hz => h z (List.mem_cons_of_mem _ hz)
      rw [List.map_cons, List.map_cons, List.sum_cons, List.length_cons, Nat.add_mul]
      omega
  have b : ((" " : Str)).length = 1 := by decide +kernel
  rw [b, List.length_map]
  omega
/-- each word's length and 1, summed -/
def wtS (ws : List Str) : Nat := (ws.map fun w => w.length + 1).sum
theorem wt_cons (w : Str) (ws : List Str) : wtS (w :: ws) = w.length + 1 + wtS ws := by unfold wtS; rw [List.map_cons, List.sum_cons]
theorem wt_app (a b : List Str) : wtS (a ++ b) = wtS a + wtS b := by unfold wtS; rw [List.map_append, List.sum_append]
theorem wt_split : ∀ (n : Nat) (x : Str), x.length ≤ n → wtS (Txt.split x " ") = x.length + 1
  | n, x, hn => by
    rcases sep_cases tl_sp (by decide +kernel) x with ⟨_, e, _⟩ | ⟨a, b, e1, _, e, _⟩
    · rw [e]
      unfold wtS
      simp
    · have l := congrArg Str.length e1
      have l1 : (" " : Str).length = 1 := by decide +kernel
      rw [len_app, len_app] at l
      cases n with
      | zero => omega
      | succ n =>
        rw [e, wt_cons, wt_split n b (by omega)]
        omega
theorem wt_len (ws : List Str) : ws.length ≤ wtS ws := by
  induction ws with
  | nil => exact Nat.zero_le _
  | cons w r ih => rw [wt_cons, List.length_cons]; omega
theorem wt_take_drop (ws : List Str) (i : Nat) : wtS (ws.take i) + wtS (ws.drop i) = wtS ws := by rw [← wt_app, List.take_append_drop]
theorem wt_drop_le (ws : List Str) (i j : Nat) (h : i ≤ j) : wtS (ws.drop j) ≤ wtS (ws.drop i) := by
  have e : ws.drop j = (ws.drop i).drop (j - i) := by rw [List.drop_drop]; congr 1; omega
  have := wt_take_drop (ws.drop i) (j - i)
  rw [e]
  omega
theorem wt_rev (ws : List Str) : wtS ws.reverse = wtS ws := by
  induction ws with
  | nil => rfl
  | cons w r ih => rw [List.reverse_cons, wt_app, wt_cons, ih, wt_cons]; show wtS r + (w.length + 1 + 0) = _; omega
theorem join_wt : ∀ ws : List Str, (Txt.join " " ws).length ≤ wtS ws := by
  intro ws
  rw [len_tl, join_eq, tl_join, tl_sp]
  induction ws with
  | nil => exact Nat.zero_le _
  | cons w r ih =>
    rw [wt_cons]
    cases r with
    | nil =>
      show (tl w).length ≤ _
      rw [← len_tl]
      omega
    | cons q r =>
      have e : joinL [32] ((w :: q :: r).map tl) = tl w ++ ([32] ++ joinL [32] ((q :: r).map tl)) := by simp only [joinL, List.map_cons, List.append_assoc]
      rw [e, List.length_append, List.length_append, ← len_tl]
      have : ([32] : List Nat).length = 1 := rfl
      omega
/-- text * int -/
theorem op_mulS {X : Cx} : OpR X (binaryOp .Mult) (fun x y H Q => ∃ (z : Str) (n : Int), x = .str z ∧ y = .int n ∧ PySem.MulOk z n ∧ Q (.str (Txt.mul z n)) H) := by
  intro pins s σ H x y v u Q I rx ry h
  obtain ⟨z, n, rfl, rfl, hz, q⟩ := h
  obtain ⟨t, rfl⟩ := rx
  obtain ⟨t', rfl⟩ := ry
  exact PySem.SB.mul hz fun t' k => ⟨.str _, H, I.tok k, ⟨_, rfl⟩, q⟩
end Lg

namespace Lg
open PySem PySem.Spec PyProof.Rows L2 Lm TL
def SR (m : Nat) : VR := fun v _ => ∃ y : Str, v = .str y ∧ y.length ≤ m
theorem SR.mo {m : Nat} : Mo (SR m) := fun _ _ _ _ h => h
def sp_changed (K : PySem.W.Frag) : Sp := fun vs H Q _ => ∃ (Z : Hp) (p dl al : Addr) (x : Str), vs = [.ref p, .str x] ∧ Iv (pot p dl al) Z 0 H ∧ x.length ≤ 400 ∧
  ∀ (y : Str) (H' : Hp), Iv (pot p dl al) Z 0 H' → Kp (pot p dl al) Z H H' → y.length ≤ 850 → Q (.str y) H'
section
variable {K : PySem.W.Frag} {S : Src} {Z H0 : Hp} {σ : L2.St} {te ta tb : TE} {t1 t2 : TO} {n n1 n2 : Nat} {x : Str}
theorem ev_strS {m : Nat} (h : x.length ≤ m) : Ev S Z 0 H0 σ (tC (.str x)) (SR m) := ev_c.imp fun v G e => ⟨x, e, h⟩
theorem ev_varS {i m : Nat} (e : σ[i]? = some (some (.str x))) (h : x.length ≤ m) : Ev S Z 0 H0 σ (tVar i) (SR m) := ev_var e SR.mo ⟨x, rfl, h⟩
theorem ev_lenS {i : Nat} (e : σ[i]? = some (some (.str x))) (h : x.length ≤ 100000) : Ev S Z 0 H0 σ (tCB (fun xs H Q => ∃ z : Str, xs = [.str z] ∧ z.length ≤ sizeLine ∧ Q (.int z.length) H) (tCons (tVar i) tNil)) (IR (x.length : Nat) (x.length : Nat)) := fun H b Q P k q =>
  ⟨.str x, e, x, rfl, szl h, q _ _ (P.less (by omega)) Kp.refl ⟨_, rfl, Int.le_refl _, Int.le_refl _⟩⟩
theorem ev_addS {a b m : Nat} (hm : a + b ≤ m) (hm2 : m ≤ 100000) (h1 : Ev S Z n1 H0 σ ta (SR a)) (h2 : Ev S Z n2 H0 σ tb (SR b)) : Ev S Z (n1 + n2) H0 σ (tOp (fun x y H Q => ∃ i j, x = .str i ∧ y = .str j ∧ i.length + j.length ≤ sizeLine ∧ Q (.str (i ++ j)) H) ta tb) (SR m) := fun H bb Q P k q =>
  h1 H (n2 + bb) _ (P.less (by omega)) k fun u H1 P1 k1 r1 => h2 H1 bb _ P1 (k.trans k1) fun v H2 P2 k2 r2 => by
    obtain ⟨y, rfl, hy⟩ := r1
    obtain ⟨z, rfl, hz⟩ := r2
    exact ⟨y, z, rfl, rfl, szs (by omega), q _ _ P2 (k1.trans k2) ⟨_, rfl, by rw [len_app]; omega⟩⟩
theorem ev_slS {a : Nat} (ha : a ≤ 100000) (h : Ev S Z n H0 σ te (SR a)) (h1 : AnyO S Z H0 σ t1) (h2 : AnyO S Z H0 σ t2) : Ev S Z n H0 σ (tSl rSlS te t1 t2) (SR a) := fun H b Q P k q =>
  h H b _ P k fun v H1 P1 k1 r1 => h1 H1 b _ P1 (k.trans k1) fun lo H2 P2 k2 => h2 H2 b _ P2 ((k.trans k1).trans k2) fun hi H3 P3 k3 => by
    obtain ⟨y, rfl, hy⟩ := r1
    exact ⟨y, rfl, szl (by omega), q _ _ P3 ((k1.trans k2).trans k3) ⟨_, rfl, Nat.le_trans (cutS_length y lo hi) hy⟩⟩
theorem ls_wide {a b m m' : Nat} {v : V} {G : Hp} (h : LsR a b (SR m) v G) (hm : m ≤ m') : LsR a b (SR m') v G := by
  obtain ⟨p, xs, e, g, l0, l1, r⟩ := h
  exact ⟨p, xs, e, g, l0, l1, fun x hx => by
    obtain ⟨y, e, hy⟩ := r x hx
    exact ⟨y, e, Nat.le_trans hy hm⟩⟩
end
end Lg
namespace Lg
open PySem PySem.Spec PyProof.Rows L2 Lm TL
theorem cutV_drop2 (xs : List V) (n : Nat) : cutV xs (some (n : Int)) none = xs.drop n := by
  by_cases h : n ≤ xs.length
  · exact cutV_drop xs h
  · have e : HT.sIx xs.length 0 (some (n : Int)) = xs.length := by
      show (if (n : Int) < 0 then ((n : Int) + (xs.length : Int)).toNat else min (n : Int).toNat xs.length) = _
      rw [if_neg (by omega)]
      omega
    unfold cutV
    rw [e, List.drop_eq_nil_of_le (Nat.le_refl _), List.drop_eq_nil_of_le (by omega)]
    simp
section
variable {K : PySem.W.Frag} {S : Src} {Z H0 : Hp} {σ : L2.St} {te ta tb ti : TE} {tl : TA} {n n1 n2 : Nat} {x : Str} {ws us : List Str}
def LE (ws : List Str) : VR := fun v G => ∃ a, v = .ref a ∧ G a = some (.lst (ws.map V.str))
theorem LE.mo : Mo (LE ws) := fun _ _ _ s ⟨a, e, g⟩ => ⟨a, e, s _ _ g⟩
theorem ev_takeE {i : Nat} (h : Ev S Z n H0 σ te (LE ws)) (h2 : Ev S Z 0 H0 σ ti (IR (i : Nat) (i : Nat))) : Ev S Z n H0 σ (tSl (rSlL K) te tNoPart (tPart ti)) (LE (ws.take i)) := fun H b Q P k q =>
  h H b _ P k fun v H1 P1 k1 r1 => h2 H1 b _ (P1.less (by omega)) (k.trans k1) fun u H2 P2 k2 ⟨j, e, j0, j1⟩ => by
    obtain ⟨a, rfl, g⟩ := LE.mo _ _ _ k2 r1
    subst e
    have e2 : j = (i : Int) := by omega
    subst e2
    refine ⟨_, rfl, a, _, rfl, .inl (.inl (hid_same _ _ g)), fun p np => ?_⟩
    obtain ⟨P4, k4, e4⟩ := laid (o := .lst (cutV (ws.map V.str) none (some (i : Int)))) P2 np
    rw [cutV_take, ← List.map_take] at P4 k4 e4 ⊢
    exact q _ _ P4 ((k1.trans k2).trans k4) ⟨p, rfl, e4⟩
theorem ev_dropE {i : Nat} (h : Ev S Z n H0 σ te (LE ws)) (h2 : Ev S Z 0 H0 σ ti (IR (i : Nat) (i : Nat))) : Ev S Z n H0 σ (tSl (rSlL K) te (tPart ti) tNoPart) (LE (ws.drop i)) := fun H b Q P k q =>
  h H b _ P k fun v H1 P1 k1 r1 => h2 H1 b _ (P1.less (by omega)) (k.trans k1) fun u H2 P2 k2 ⟨j, e, j0, j1⟩ => by
    obtain ⟨a, rfl, g⟩ := LE.mo _ _ _ k2 r1
    subst e
    have e2 : j = (i : Int) := by omega
    subst e2
    refine ⟨_, rfl, a, _, rfl, .inl (.inl (hid_same _ _ g)), fun p np => ?_⟩
    obtain ⟨P4, k4, e4⟩ := laid (o := .lst (cutV (ws.map V.str) (some (i : Int)) none)) P2 np
    rw [cutV_drop2, ← List.map_drop] at P4 k4 e4 ⊢
    exact q _ _ P4 ((k1.trans k2).trans k4) ⟨p, rfl, e4⟩
theorem ev_revE (h : Ev S Z n H0 σ te (LE ws)) : Ev S Z n H0 σ (tRevL K te) (LE ws.reverse) := fun H b Q P k q => h H b _ P k fun v H1 P1 k1 r1 => by
    obtain ⟨a, rfl, g⟩ := r1
    refine ⟨a, _, rfl, .inl (.inl (hid_same _ _ g)), fun p np => ?_⟩
    obtain ⟨P4, k4, e4⟩ := laid (o := .lst (ws.map V.str).reverse) P1 np
    rw [← List.map_reverse] at P4 k4 e4 ⊢
    exact q _ _ P4 (k1.trans k4) ⟨p, rfl, e4⟩
theorem ev_catE (hl : ws.length + us.length ≤ 100000) (h1 : Ev S Z n1 H0 σ ta (LE ws)) (h2 : Ev S Z n2 H0 σ tb (LE us)) : Ev S Z (n1 + n2) H0 σ (tOp rCat ta tb) (LE (ws ++ us)) := fun H bb Q P k q =>
  h1 H (n2 + bb) _ (P.less (by omega)) k fun u H1 P1 k1 r1 => h2 H1 bb _ P1 (k.trans k1) fun v H2 P2 k2 r2 => by
    obtain ⟨a, rfl, g⟩ := LE.mo _ _ _ k2 r1
    obtain ⟨b, rfl, g2⟩ := r2
    refine ⟨a, b, _, _, rfl, rfl, hid_same _ _ g, hid_same _ _ g2, szs (by rw [List.length_map, List.length_map]; exact hl), fun p np => ?_⟩
    obtain ⟨P4, k4, e4⟩ := laid (o := .lst (ws.map V.str ++ us.map V.str)) P2 np
    rw [← List.map_append] at P4 k4 e4 ⊢
    exact q _ _ P4 ((k1.trans k2).trans k4) ⟨p, rfl, e4⟩
theorem ev_oneE {i : Nat} (e : σ[i]? = some (some (.str x))) : Ev S Z 0 H0 σ (tLst (tCons (tVar i) tNil)) (LE [x]) := fun H b Q P k q =>
  ⟨.str x, e, Nat.le_of_lt (small1000 (Nat.le_add_left 1 999)), fun p np => by
    obtain ⟨P4, k4, e4⟩ := laid (o := .lst [.str x]) (P.less (c := b) (by omega)) np
    exact q _ _ P4 k4 ⟨p, rfl, e4⟩⟩
theorem wt_mem {w : Str} : ∀ {ws : List Str}, w ∈ ws → w.length + 1 ≤ wtS ws
  | [], h => nomatch h
  | u :: r, h => by
    rw [wt_cons]
    rcases List.mem_cons.mp h with e | e
    · rw [e]; omega
    · have := wt_mem e
      omega
theorem ev_spacedE (hw : wtS ws ≤ 850) (h : Ev S Z n H0 σ te (LE ws)) : Ev S Z n H0 σ (tCall (sp_spaced K) [] E0 (tCons te tNil)) (SR 850) := fun H b Q P k q => h H b _ P k fun v H1 P1 k1 r1 => by
    obtain ⟨a, rfl, g⟩ := r1
    have hl := wt_len ws
    refine ⟨NZ S Z, ws.map .str, P1.occ, .cons (.lst (.inl (.inl g)) strs_dqs) .nil, ⟨by rw [List.length_map]; omega, fun d hd => ?_⟩, fun r H2 s2 d2 => ?_⟩
    · obtain ⟨w, hw2, rfl⟩ := List.mem_map.mp hd
      have := wt_mem hw2
      exact .inl ⟨w, rfl, by omega⟩
    · have d2 : Dq K _ r (.str (Txt.join " " ((ws.map PyData.str).map textOf))) := d2
      obtain rfl := dq_str d2
      refine q _ _ (P1.keep s2) (k1.trans (Kp.of s2)) ⟨_, rfl, ?_⟩
      have e : (ws.map PyData.str).map textOf = ws := by rw [List.map_map]; exact List.map_id' ws
      rw [e]
      exact Nat.le_trans (join_wt ws) hw
end
end Lg

namespace Lg
open PySem PySem.Spec PyProof.Rows L2 Lm TL
theorem ev_mul21 {S : Src} {Z H0 : Hp} {σ : L2.St} {m : Nat} (h : 21 ≤ m := by decide) : Ev S Z 0 H0 σ (tOp (fun x y H Q => ∃ (z : Str) (n : Int), x = .str z ∧ y = .int n ∧ PySem.MulOk z n ∧ Q (.str (Txt.mul z n)) H) (tC (.str (Str.ofString "1"))) (tC (.int 21))) (SR m) := fun H b Q P k q =>
  ⟨Str.ofString "1", 21, rfl, rfl, by unfold PySem.MulOk; decide +kernel, q _ _ (P.less (by omega)) Kp.refl ⟨_, rfl, Nat.le_trans (by decide +kernel : (Txt.mul (Str.ofString "1") 21).length ≤ 21) h⟩⟩
end Lg

namespace Lg
open PySem PySem.Spec PyProof.Rows L2 Lm TL
def TxR : VR := fun v _ => ∃ x : Str, v = .str x ∧ txtOk x
theorem TxR.mo : Mo TxR := fun _ _ _ _ h => h
theorem txt_850 {x : Str} (h : x.length ≤ 850) : txtOk x := by
  have a := PyProof.Rows.split_le x (Str.ofString " ")
  exact ⟨by omega, by omega, fun w hw => by have := split_sp w hw; omega⟩
theorem txt_words {ws : List Str} (h : ws ≠ []) (g : ∀ w ∈ ws, Wd w) (hw : wtS ws ≤ 5000) (hn : ws.length ≤ 900) : txtOk (Txt.join " " ws) := by
  have e := split_words h g
  rw [wordsT_cons h] at e
  refine ⟨Nat.le_trans (join_wt ws) hw, by rw [e]; exact hn, fun w hw => ?_⟩
  rw [e] at hw
  have := (g w hw).len
  omega
theorem wt_wd : ∀ {ws : List Str}, (∀ w ∈ ws, Wd w) → wtS ws ≤ ws.length * 36
  | [], _ => Nat.le_refl _
  | w :: r, g => by
    have h1 := (g w List.mem_cons_self).len
    have h2 := wt_wd fun z hz => g z (List.mem_cons_of_mem _ hz)
    rw [wt_cons, List.length_cons, Nat.add_mul]
    omega
theorem txt_wordsT {ws : List Str} (g : ∀ w ∈ ws, Wd w) (hn : ws.length ≤ 100) : txtOk (wordsT ws) := by
  by_cases h : ws = []
  · subst h
    exact txt_850 (by decide +kernel)
  · rw [wordsT_cons h]
    exact txt_words h g (by have := wt_wd g; omega) (by omega)
/-- sizes of what is read -/
theorem strIs_eq {d : PyData} {z : Str} (h : strIs d z = true) : d = .str z := by
  cases d <;> simp_all [strIs]
theorem item_smv {way : Nat} {w : Str} {q : Int × Int} (h : okO way (itemP way w) = some q) : Sm 50 1 (itemP way w) := by
  match way, h with
  | 0, h =>
    have h : (if lampB (itemP 0 w) then some ((0 : Int), (0 : Int)) else none) = some q := h
    split at h
    · rename_i g
      obtain ⟨k, s, e⟩ := lamp_shape g
      rw [e] at g ⊢
      have g : ((["hold", "pulse"] : List Str).any (strIs k) && inW 1 1000000000 s) = true := g
      rw [Bool.and_eq_true] at g
      obtain ⟨i, rfl, a, b⟩ := inW_int g.2
      have g1 : (strIs k (Str.ofString "hold") || (strIs k (Str.ofString "pulse") || false)) = true := g.1
      rw [Bool.or_false, Bool.or_eq_true] at g1
      have hk : Sm 13 0 k := by
        rcases g1 with g1 | g1
        · rw [strIs_eq g1]
          exact sm_chk (by decide +kernel)
        · rw [strIs_eq g1]
          exact sm_chk (by decide +kernel)
      refine (Sm.tuple (c := 2) (n := 13) (k := 0) (ds := [k, .int i]) (fun d hd => ?_) (Nat.le_refl 2)).wide (by decide) (by decide)
      rcases List.mem_cons.mp hd with e | e
      · rw [e]; exact hk
      · rw [List.mem_singleton.mp e]; exact Sm.int (by omega)
    · cases h
  | 1, h =>
    have e := st_shape (d := itemP 1 w) h
    have h2 : stOf (itemP 1 w) = some q := h
    rw [e] at h2 ⊢
    have h2 : (if 0 ≤ q.1 ∧ q.1 < q.2 ∧ q.2 ≤ 2000000000 then some (q.1, q.2) else none) = some q := h2
    split at h2
    · rename_i g
      exact (pD_sm (q := q) (by omega) (by omega)).wide (by decide) (by decide)
    · cases h2
  | n + 2, h =>
    obtain ⟨a, s, c, e, _, h0, h1, h2, h3, h4⟩ := run_shape (d := itemP (n + 2) w) h
    obtain ⟨m1, m2⟩ := run_mul h0 h1 h2 h4 h3
    rw [e]
    have hm : 0 ≤ s * (c - 1) := Int.mul_nonneg (by omega) (by omega)
    refine (Sm.tuple (c := 3) (n := 13) (k := 0) (ds := [.int a, .int s, .int c]) (fun d hd => ?_) (Nat.le_refl 3)).wide (by decide) (by decide)
    simp only [List.mem_cons, List.not_mem_nil, or_false] at hd
    rcases hd with e | e | e
    · rw [e]; exact Sm.int (by omega)
    · rw [e]; exact Sm.int (by omega)
    · rw [e]; exact Sm.int (by omega)
theorem read_sm {way : Nat} {x : Str} (h : txtOk x) : Sm 20000 2 (readD way (.str x)) := by
  rw [read_cases]
  have hl := words_le h
  have L := limOf_le way
  rw [read_idx]
  cases g : idxO way (limOf way) ((wordsOf x).map (itemP way)) with
  | some i =>
    refine (Sm.list (c := 1) (n := 13) (k := 0) (ds := [.int (i : Nat)]) (fun d hd => ?_) (Nat.le_refl 1)).wide (by decide) (by decide)
    rw [List.mem_singleton.mp hd]
    refine Sm.int ?_
    unfold idxO at g
    cases e : errIdx way (((wordsOf x).map (itemP way)).take (limOf way)) 0 (-1) with
    | some j =>
      rw [e] at g
      cases g
      have := errIdx_le way _ 0 (-1) _ e
      rw [List.length_take] at this
      omega
    | none =>
      rw [e] at g
      simp only at g
      split at g
      · cases g; omega
      · cases g
  | none =>
    unfold idxO at g
    cases e : errIdx way (((wordsOf x).map (itemP way)).take (limOf way)) 0 (-1) with
    | some j => rw [e] at g; cases g
    | none =>
      rw [e] at g
      simp only at g
      split at g
      · cases g
      · rename_i hn
        rw [List.take_of_length_le (by omega)] at e
        refine (Sm.tuple (c := 360) (n := 50) (k := 1) (fun d hd => ?_) (by omega)).wide (by decide) (by decide)
        obtain ⟨w, _, rfl⟩ := List.mem_map.mp hd
        have ok := errIdx_ok way _ 0 (-1) e _ hd
        cases ho : okO way (itemP way w) with
        | none => rw [ho] at ok; cases ok
        | some q => exact item_smv ho
end Lg

namespace Lg
open PySem PySem.Spec PyProof.Rows L2 Lm TL
section
variable {K : PySem.W.Frag} {S : Src} {Z H0 : Hp} {σ : L2.St} {te ta tb : TE} {tl : TA} {n n1 n2 : Nat} {x : Str} {ws : List Str}
theorem ev_tx (h : Ev S Z n H0 σ te (SR 850)) : Ev S Z n H0 σ te TxR := h.imp fun v G ⟨y, e, hy⟩ => ⟨y, e, txt_850 hy⟩
theorem ev_txS (h : x.length ≤ 850) : Ev S Z 0 H0 σ (tC (.str x)) TxR := ev_tx (ev_strS h)
theorem ev_txQ (h : Ev S Z n H0 σ te (DQ K (.str x))) (t : txtOk x) : Ev S Z n H0 σ te TxR := h.imp fun v G r => ⟨x, dq_str r, t⟩
def w61 : List Str := (List.range 61).map fun (k : Nat) => sttT (3 * (0 + (k : Int)), 3 * (0 + (k : Int)) + 1)
theorem w61_wd : ∀ w ∈ w61, Wd w := fun w hw => by
  obtain ⟨k, hk, rfl⟩ := List.mem_map.mp hw
  have := List.mem_range.mp hk
  exact stt_wd ⟨by show 0 ≤ 3 * (0 + (k : Int)); omega, by show 3 * (0 + (k : Int)) < 3 * (0 + (k : Int)) + 1; omega, by show 3 * (0 + (k : Int)) + 1 ≤ _; omega⟩
theorem w61_len : w61.length = 61 := by unfold w61; rw [List.length_map, List.length_range]
theorem ev_61 {te : TE} (h : ∀ (Z' H1 : Hp) (i : Nat), i < 61 → Ev S Z' 0 H1 ((wipe σ [3]).set 3 (some (.int (0 + (i : Int))))) te (DQ K (.str (sttT (3 * (0 + (i : Int)), 3 * (0 + (i : Int)) + 1))))) :
    Ev S Z 0 H0 σ (tCall (sp_spaced K) [] E0 (tCons (tLc (iRng1 (tCons (tC (.int 61)) tNil)) (gName 3) tYes te [3]) tNil)) TxR := by
  have e : ((List.range (61 : Int).toNat).map fun (k : Nat) => PyData.str (sttT (3 * (0 + (k : Int)), 3 * (0 + (k : Int)) + 1))) = w61.map .str := by unfold w61; rw [List.map_map]; rfl
  have q1 := q_lcr (K := K) (S := S) (Z := Z) (H0 := H0) (σ := σ) (te := te) (v := 3) (j := 61) (F := fun (k : Nat) => .str (sttT (3 * (0 + (k : Int)), 3 * (0 + (k : Int)) + 1))) (by decide) (by decide) (fun Z' H1 i hi s => h Z' H1 i hi)
  rw [e] at q1
  have q2 := q_fn (K := K) (A := fun ds : List PyData => [.list ds]) (P := fun ds => ds.length ≤ 900 ∧ ∀ d ∈ ds, isSI d) (F := fun ds => .str (Txt.join " " (ds.map textOf))) (w61.map .str) (qa_cons q1 qa_nil) ⟨by rw [List.length_map, w61_len]; decide, fun d hd => by
    obtain ⟨w, hw, rfl⟩ := List.mem_map.mp hd
    exact .inl ⟨w, rfl, by have := (w61_wd w hw).len; omega⟩⟩
  refine ev_txQ q2 ?_
  rw [List.map_map, show (textOf ∘ PyData.str) = id from rfl, List.map_id]
  exact txt_words (by intro z; have := w61_len; rw [z] at this; cases this) w61_wd (by have := wt_wd w61_wd; rw [w61_len] at this; omega) (by rw [w61_len]; decide)
theorem ev_rep7 : Ev S Z 0 H0 σ (tOp rRep (tLst (tCons (tC (.str (Str.ofString "hold:1"))) tNil)) (tC (.int 7))) (LE (List.replicate 7 (Str.ofString "hold:1"))) := fun H b Q P k q =>
  ⟨Nat.le_of_lt (small1000 (Nat.le_add_left 1 999)), fun l nl => by
    obtain ⟨P1, k1, e1⟩ := laid (o := .lst [.str (Str.ofString "hold:1")]) (P.less (c := b) (by omega)) nl
    refine ⟨l, 7, [.str (Str.ofString "hold:1")], rfl, rfl, upd_same, by decide, by decide, szs (by decide), fun p np => ?_⟩
    obtain ⟨P2, k2, e2⟩ := laid (o := .lst (List.replicate (7 : Int).toNat [V.str (Str.ofString "hold:1")]).flatten) P1 np
    exact q _ _ P2 (k1.trans k2) ⟨p, rfl, e2⟩⟩
theorem ev_7 : Ev S Z 0 H0 σ (tCall (sp_spaced K) [] E0 (tCons (tOp rRep (tLst (tCons (tC (.str (Str.ofString "hold:1"))) tNil)) (tC (.int 7))) tNil)) TxR := ev_tx (ev_spacedE (by decide +kernel) ev_rep7)
def w361 : List Str := (List.range 361).map fun (k : Nat) => numT (0 + (k : Int))
theorem w361_facts : ∀ w ∈ w361, Wd w ∧ w.length ≤ 3 := fun w hw => by
  obtain ⟨k, hk, rfl⟩ := List.mem_map.mp hw
  have hk := List.mem_range.mp hk
  have h0 : 0 ≤ 0 + (k : Int) := by omega
  obtain ⟨d, m1, m2, m3⟩ := num_some h0
  have l3 := num_len (k := 3) h0 (by decide) (by omega)
  exact ⟨⟨num_free h0 (by omega), ne_none m1 (by simp only [List.mem_cons, List.not_mem_nil, or_false]; omega), by omega, num_lo h0⟩, l3⟩
theorem w361_len : w361.length = 361 := by unfold w361; rw [List.length_map, List.length_range]
theorem wt_three : ∀ {ws : List Str}, (∀ w ∈ ws, w.length ≤ 3) → wtS ws ≤ ws.length * 4
  | [], _ => Nat.le_refl _
  | w :: r, g => by
    have h1 := g w List.mem_cons_self
    have h2 := wt_three fun z hz => g z (List.mem_cons_of_mem _ hz)
    rw [wt_cons, List.length_cons, Nat.add_mul]
    omega
theorem ev_361 : Ev S Z 0 H0 σ (tCall (sp_spaced K) [] E0 (tCons (tLstRg (tRg1 (tC (.int 361)))) tNil)) TxR := by
  have q1 : Ev S Z 0 H0 σ (tLstRg (tRg1 (tC (.int 361)))) (DQ K (.list ((List.range 361).map fun (k : Nat) => .int (0 + (k : Int))))) := fun H b Q P k q => by
    refine ⟨361, rfl, RgOk.of_le (by decide) (by decide) (by decide) (by decide), fun p np => ?_⟩
    obtain ⟨P1, k1, e1⟩ := laid (o := .lst (rgV 0 361)) (P.less (c := b) (by omega)) np
    refine q _ _ P1 k1 (Dq.lst (.inl (.inl e1)) ?_)
    have er : rgV 0 361 = ((List.range 361).map fun (k : Nat) => 0 + (k : Int)).map V.int := by rw [List.map_map]; rfl
    have ed : ((List.range 361).map fun (k : Nat) => PyData.int (0 + (k : Int))) = ((List.range 361).map fun (k : Nat) => 0 + (k : Int)).map .int := by rw [List.map_map]; rfl
    rw [er, ed]
    exact ints_dqs
  have q2 := q_fn (K := K) (A := fun ds : List PyData => [.list ds]) (P := fun ds => ds.length ≤ 900 ∧ ∀ d ∈ ds, isSI d) (F := fun ds => .str (Txt.join " " (ds.map textOf))) _ (qa_cons q1 qa_nil) ⟨by rw [List.length_map, List.length_range]; decide, fun d hd => by
    obtain ⟨k, hk, rfl⟩ := List.mem_map.mp hd
    have := List.mem_range.mp hk
    exact .inr ⟨_, rfl, by omega, by omega⟩⟩
  refine ev_txQ q2 ?_
  have e : ((List.range 361).map fun (k : Nat) => PyData.int (0 + (k : Int))).map textOf = w361 := by unfold w361; rw [List.map_map]; rfl
  rw [e]
  exact txt_words (by intro z; have := w361_len; rw [z] at this; cases this) (fun w hw => (w361_facts w hw).1) (by have := wt_three fun w hw => (w361_facts w hw).2; rw [w361_len] at this; omega) (by rw [w361_len]; decide)
/-- a list of texts with the word for none among them -/
def TN (m : Nat) : VR := fun v G => ∃ a xs, v = .ref a ∧ G a = some (.lst xs) ∧ xs.length ≤ m ∧ (∀ x ∈ xs, ∃ y : Str, x = .str y ∧ txtOk y) ∧ V.str (Str.ofString "none") ∈ xs
theorem TN.mo {m : Nat} : Mo (TN m) := fun _ _ _ s ⟨a, xs, e, g, r⟩ => ⟨a, xs, e, s _ _ g, r⟩
theorem ev_catN {a b c : Nat} (hn : a + c ≤ 1000) (h1 : Ev S Z n1 H0 σ ta (TN a)) (h2 : Ev S Z n2 H0 σ tb (LsR b c TxR)) : Ev S Z (n1 + n2) H0 σ (tOp rCat ta tb) (TN (a + c)) := fun H bb Q P k q =>
  h1 H (n2 + bb) _ (P.less (by omega)) k fun u H1 P1 k1 r1 => h2 H1 bb _ P1 (k.trans k1) fun v H2 P2 k2 r2 => by
    obtain ⟨l, xs, rfl, g1, a1, a2, a3⟩ := TN.mo _ _ _ k2 r1
    obtain ⟨l2, ys, rfl, g2, b0, b1, b2⟩ := r2
    refine ⟨l, l2, _, _, rfl, rfl, hid_same _ _ g1, hid_same _ _ g2, szs (by omega), fun p np => ?_⟩
    obtain ⟨P4, k4, e4⟩ := laid (o := .lst (xs ++ ys)) P2 np
    exact q _ _ P4 ((k1.trans k2).trans k4) ⟨p, _, rfl, e4, by rw [List.length_append]; omega, fun x hx => by
      rcases List.mem_append.mp hx with h | h
      · exact a2 x h
      · exact b2 x h, List.mem_append.mpr (.inl a3)⟩
end
end Lg
namespace Lg
open PySem PySem.Spec PyProof.Rows L2 Lm TL
def sp_farH (K : PySem.W.Frag) : Sp := fun vs H Q _ => ∃ (Z : Hp) (p dl al : Addr) (u : Int), vs = [.ref p, .int u] ∧ Iv (pot p dl al) Z 0 H ∧ 0 ≤ u ∧ u ≤ 60 ∧
  ∀ (x : V) (H' : Hp) (rs : List Run), Iv (pot p dl al) Z 0 H' → Kp (pot p dl al) Z H H' → Dq K (hid (pot p dl al) Z H') x (runsD rs) → RunsG rs → (rs.length : Int) ≤ u → Q x H'
section
variable {K : PySem.W.Frag} {S : Src} {Z H0 : Hp} {σ : L2.St} {te ta tb : TE} {tl : TA} {n n1 n2 : Nat} {x : Str} {ws : List Str}
theorem ea_nil : EvA S Z 0 H0 σ tNil (fun vs _ => vs = ([] : List Str).map V.str) := eva_nil.imp fun vs G e => e
theorem ea_cons {n : Nat} (h : EvA S Z n H0 σ tl (fun vs _ => vs = ws.map V.str)) : EvA S Z n H0 σ (tCons (tC (.str x)) tl) (fun vs _ => vs = (x :: ws).map V.str) := fun H b Q P k q => h H b _ P k fun vs H1 P1 k1 e => q _ _ P1 k1 (by rw [e]; rfl)
theorem ev_lstE (hl : ws.length ≤ 1000) (h : EvA S Z n H0 σ tl (fun vs _ => vs = ws.map V.str)) : Ev S Z n H0 σ (tLst tl) (LE ws) := fun H b Q P k q => h H b _ P k fun vs H1 P1 k1 e => by
  subst e
  refine ⟨Nat.le_of_lt (small1000 (by rw [List.length_map]; exact hl)), fun p np => ?_⟩
  obtain ⟨P4, k4, e4⟩ := laid (o := .lst (ws.map V.str)) P1 np
  exact q _ _ P4 (k1.trans k4) ⟨p, rfl, e4⟩
end
section
variable {K : PySem.W.Frag} {p dl al : Addr} {Z H0 : Hp} {σ : L2.St} {te : TE} {n : Nat}
theorem ev_logT {i : Nat} (e : σ[i]? = some (some (.ref p))) : Ev (pot p dl al) Z 0 H0 σ (tCall (sp_logT K) [] E0 (tCons (tCall (sp_logP K) [] E0 (tCons (tVar i) (tCons (tC (.int 9)) (tCons (tC (.int 100)) tNil)))) tNil)) TxR := fun H b Q P k q =>
  ⟨_, e, Z, p, dl, al, 9, 100, rfl, P.less (by omega), by decide, by decide, by decide, by decide, fun x H' ps P' k' d g => ⟨NZ (pot p dl al) Z, ps, P'.occ, .cons d .nil, g, fun r H2 s2 d2 => by
    have d2 : Dq K _ r (.str (wordsT (ps.map sttT))) := d2
    refine q r H2 ⟨(P'.keep s2).src, (P'.keep s2).zz, P'.zo⟩ (k'.trans (Kp.of s2)) ⟨_, dq_str d2, txt_wordsT (good_log.words g) (by rw [List.length_map]; have := g.1; omega)⟩⟩⟩
theorem ev_runsT {i : Nat} (e : σ[i]? = some (some (.ref p))) : Ev (pot p dl al) Z 0 H0 σ (tCall (sp_runsT K) [] E0 (tCons (tCall (sp_farH K) [] E0 (tCons (tVar i) (tCons (tC (.int 9)) tNil))) tNil)) TxR := fun H b Q P k q =>
  ⟨_, e, Z, p, dl, al, 9, rfl, P.less (by omega), by decide, by decide, fun x H' rs P' k' d g l => ⟨NZ (pot p dl al) Z, rs, P'.occ, .cons d .nil, g, fun r H2 s2 d2 => by
    have d2 : Dq K _ r (.str (wordsT (rs.map runT))) := d2
    refine q r H2 ⟨(P'.keep s2).src, (P'.keep s2).zz, P'.zo⟩ (k'.trans (Kp.of s2)) ⟨_, dq_str d2, txt_wordsT (good_runs.words g) (by rw [List.length_map]; omega)⟩⟩⟩
theorem ev_changed {i : Nat} (e : σ[i]? = some (some (.ref p))) (h : Ev (pot p dl al) Z n H0 σ te (SR 400)) : Ev (pot p dl al) Z n H0 σ (tCall (sp_changed K) [] E0 (tCons (tVar i) (tCons te tNil))) TxR := fun H b Q P k q =>
  ⟨_, e, h H b _ P k fun v H1 P1 k1 ⟨x, ev, hx⟩ => by
    subst ev
    exact ⟨Z, p, dl, al, x, rfl, P1.less (by omega), hx, fun y H' P' k' hy => q _ H' ⟨P'.src, P'.zz, P'.zo⟩ (k1.trans k') ⟨y, rfl, txt_850 hy⟩⟩⟩
end
/-- a value that is no text -/
def NSR (K : PySem.W.Frag) : VR := fun v G => ∃ d, Dq K G v d ∧ isS d = false
theorem NSR.mo {K : PySem.W.Frag} : Mo (NSR K) := fun _ _ _ s ⟨d, h, i⟩ => ⟨d, h.mono s, i⟩
theorem ev_ns {K : PySem.W.Frag} {S : Src} {Z H0 : Hp} {σ : L2.St} {te : TE} {n : Nat} {d : PyData} (h : Ev S Z n H0 σ te (DQ K d)) (i : isS d = false) : Ev S Z n H0 σ te (NSR K) := h.imp fun v G r => ⟨d, r, i⟩
theorem readD_ns {way : Nat} {d : PyData} (h : isS d = false) : readD way d = .list [.none] := by
  unfold readD
  rw [idxP_no h]
theorem told_none : (PyData.list [.list [.none], .list [.none], .list [.none]]).shown = Str.ofString "[[None], [None], [None]]" := by decide +kernel
end Lg

namespace Lg
open PySem PySem.Spec PyProof.Rows L2 Lm
def topS (i : Nat) : Stmt := PySem.Challenge.pw_lampstays_k72_other_texts_refused.main.body.getD i (.Pass ⟨0, 0, 0, 0⟩)
abbrev s_is_whole : Stmt := topS 13
abbrev n_is_whole : List Str := ["value"]
theorem sc_is_whole : FnScope n_is_whole ["value"] (defScope s_is_whole) := ⟨rfl, rfl, rfl, by decide +kernel, rfl, by decide +kernel, by decide +kernel⟩
abbrev s_is_whole_tuple : Stmt := topS 14
abbrev n_is_whole_tuple : List Str := ["value", "many", "item"]
theorem sc_is_whole_tuple : FnScope n_is_whole_tuple ["value", "many"] (defScope s_is_whole_tuple) := ⟨rfl, rfl, rfl, by decide +kernel, rfl, by decide +kernel, by decide +kernel⟩
abbrev s_is_stay : Stmt := topS 15
abbrev n_is_stay : List Str := ["value"]
theorem sc_is_stay : FnScope n_is_stay ["value"] (defScope s_is_stay) := ⟨rfl, rfl, rfl, by decide +kernel, rfl, by decide +kernel, by decide +kernel⟩
abbrev s_last_minute : Stmt := topS 16
abbrev n_last_minute : List Str := ["run", "first", "step", "count"]
theorem sc_last_minute : FnScope n_last_minute ["run"] (defScope s_last_minute) := ⟨rfl, rfl, rfl, by decide +kernel, rfl, by decide +kernel, by decide +kernel⟩
abbrev s_is_run : Stmt := topS 17
abbrev n_is_run : List Str := ["value", "first", "step", "count"]
theorem sc_is_run : FnScope n_is_run ["value"] (defScope s_is_run) := ⟨rfl, rfl, rfl, by decide +kernel, rfl, by decide +kernel, by decide +kernel⟩
abbrev s_is_stretch : Stmt := topS 18
abbrev n_is_stretch : List Str := ["value", "on", "off"]
theorem sc_is_stretch : FnScope n_is_stretch ["value"] (defScope s_is_stretch) := ⟨rfl, rfl, rfl, by decide +kernel, rfl, by decide +kernel, by decide +kernel⟩
abbrev s_is_lamp : Stmt := topS 21
abbrev n_is_lamp : List Str := ["value", "kind", "stay"]
theorem sc_is_lamp : FnScope n_is_lamp ["value"] (defScope s_is_lamp) := ⟨rfl, rfl, rfl, by decide +kernel, rfl, by decide +kernel, by decide +kernel⟩
abbrev s_motions_error : Stmt := topS 22
abbrev n_motions_error : List Str := ["value", "before", "index", "item"]
theorem sc_motions_error : FnScope n_motions_error ["value"] (defScope s_motions_error) := ⟨rfl, rfl, rfl, by decide +kernel, rfl, by decide +kernel, by decide +kernel⟩
abbrev s_log_error : Stmt := topS 23
abbrev n_log_error : List Str := ["value", "before", "index", "item", "on", "off"]
theorem sc_log_error : FnScope n_log_error ["value"] (defScope s_log_error) := ⟨rfl, rfl, rfl, by decide +kernel, rfl, by decide +kernel, by decide +kernel⟩
abbrev s_number_of : Stmt := topS 27
abbrev n_number_of : List Str := ["text"]
theorem sc_number_of : FnScope n_number_of ["text"] (defScope s_number_of) := ⟨rfl, rfl, rfl, by decide +kernel, rfl, by decide +kernel, by decide +kernel⟩
abbrev s_lamp_of : Stmt := topS 28
abbrev n_lamp_of : List Str := ["text", "kind", "_", "stay", "lamp"]
theorem sc_lamp_of : FnScope n_lamp_of ["text"] (defScope s_lamp_of) := ⟨rfl, rfl, rfl, by decide +kernel, rfl, by decide +kernel, by decide +kernel⟩
abbrev s_stretch_of : Stmt := topS 29
abbrev n_stretch_of : List Str := ["text", "on", "_", "off"]
theorem sc_stretch_of : FnScope n_stretch_of ["text"] (defScope s_stretch_of) := ⟨rfl, rfl, rfl, by decide +kernel, rfl, by decide +kernel, by decide +kernel⟩
abbrev s_run_of : Stmt := topS 30
abbrev n_run_of : List Str := ["text", "first", "plus", "rest", "step", "_", "count", "run"]
theorem sc_run_of : FnScope n_run_of ["text"] (defScope s_run_of) := ⟨rfl, rfl, rfl, by decide +kernel, rfl, by decide +kernel, by decide +kernel⟩
abbrev s_lamps_error : Stmt := topS 31
abbrev n_lamps_error : List Str := ["lamps", "index", "lamp"]
theorem sc_lamps_error : FnScope n_lamps_error ["lamps"] (defScope s_lamps_error) := ⟨rfl, rfl, rfl, by decide +kernel, rfl, by decide +kernel, by decide +kernel⟩
abbrev s_parse_lamps : Stmt := topS 32
abbrev n_parse_lamps : List Str := ["value"]
theorem sc_parse_lamps : FnScope n_parse_lamps ["value"] (defScope s_parse_lamps) := ⟨rfl, rfl, rfl, by decide +kernel, rfl, by decide +kernel, by decide +kernel⟩
abbrev s_parse_log : Stmt := topS 33
abbrev n_parse_log : List Str := ["value"]
theorem sc_parse_log : FnScope n_parse_log ["value"] (defScope s_parse_log) := ⟨rfl, rfl, rfl, by decide +kernel, rfl, by decide +kernel, by decide +kernel⟩
abbrev s_parse_motions : Stmt := topS 34
abbrev n_parse_motions : List Str := ["value"]
theorem sc_parse_motions : FnScope n_parse_motions ["value"] (defScope s_parse_motions) := ⟨rfl, rfl, rfl, by decide +kernel, rfl, by decide +kernel, by decide +kernel⟩
abbrev s_parsed : Stmt := topS 35
abbrev n_parsed : List Str := ["value", "item_of", "error_of", "limit", "word", "items", "error", "index", "_"]
theorem sc_parsed : FnScope n_parsed ["value", "item_of", "error_of", "limit"] (defScope s_parsed) := ⟨rfl, rfl, rfl, by decide +kernel, rfl, by decide +kernel, by decide +kernel⟩
abbrev s_l_opened : Stmt := topS 37
abbrev n_l_opened : List Str := ["script", "cell", "cells"]
theorem sc_l_opened : FnScope n_l_opened ["script"] (defScope s_l_opened) := ⟨rfl, rfl, rfl, by decide +kernel, rfl, by decide +kernel, by decide +kernel⟩
abbrev s_l_draw : Stmt := topS 38
abbrev n_l_draw : List Str := ["pot", "many", "rest", "times", "cells", "seed"]
theorem sc_l_draw : FnScope n_l_draw ["pot", "many"] (defScope s_l_draw) := ⟨rfl, rfl, rfl, by decide +kernel, rfl, by decide +kernel, by decide +kernel⟩
abbrev s_l_one : Stmt := topS 39
abbrev n_l_one : List Str := ["pot", "items"]
theorem sc_l_one : FnScope n_l_one ["pot", "items"] (defScope s_l_one) := ⟨rfl, rfl, rfl, by decide +kernel, rfl, by decide +kernel, by decide +kernel⟩
abbrev s_l_lamp : Stmt := topS 40
abbrev n_l_lamp : List Str := ["pot", "great", "stay"]
theorem sc_l_lamp : FnScope n_l_lamp ["pot", "great"] (defScope s_l_lamp) := ⟨rfl, rfl, rfl, by decide +kernel, rfl, by decide +kernel, by decide +kernel⟩
abbrev s_l_far_runs : Stmt := topS 41
abbrev n_l_far_runs : List Str := ["pot", "upto", "found", "here", "most", "k", "step", "count", "pause"]
theorem sc_l_far_runs : FnScope n_l_far_runs ["pot", "upto"] (defScope s_l_far_runs) := ⟨rfl, rfl, rfl, by decide +kernel, rfl, by decide +kernel, by decide +kernel⟩
abbrev s_l_log : Stmt := topS 42
abbrev n_l_log : List Str := ["pot", "upto", "great", "found", "here", "k", "size", "part"]
theorem sc_l_log : FnScope n_l_log ["pot", "upto", "great"] (defScope s_l_log) := ⟨rfl, rfl, rfl, by decide +kernel, rfl, by decide +kernel, by decide +kernel⟩
abbrev s_l_number : Stmt := topS 44
abbrev n_l_number : List Str := ["part", "sign"]
theorem sc_l_number : FnScope n_l_number ["part"] (defScope s_l_number) := ⟨rfl, rfl, rfl, by decide +kernel, rfl, by decide +kernel, by decide +kernel⟩
abbrev s_l_spaced : Stmt := topS 45
abbrev n_l_spaced : List Str := ["items", "item"]
theorem sc_l_spaced : FnScope n_l_spaced ["items"] (defScope s_l_spaced) := ⟨rfl, rfl, rfl, by decide +kernel, rfl, by decide +kernel, by decide +kernel⟩
abbrev s_l_is_run : Stmt := topS 46
abbrev n_l_is_run : List Str := ["value", "k", "first", "step", "count"]
theorem sc_l_is_run : FnScope n_l_is_run ["value"] (defScope s_l_is_run) := ⟨rfl, rfl, rfl, by decide +kernel, rfl, by decide +kernel, by decide +kernel⟩
abbrev s_l_whole : Stmt := topS 47
abbrev n_l_whole : List Str := ["value", "low", "high"]
theorem sc_l_whole : FnScope n_l_whole ["value", "low", "high"] (defScope s_l_whole) := ⟨rfl, rfl, rfl, by decide +kernel, rfl, by decide +kernel, by decide +kernel⟩
abbrev s_l_is_part : Stmt := topS 48
abbrev n_l_is_part : List Str := ["value", "k"]
theorem sc_l_is_part : FnScope n_l_is_part ["value"] (defScope s_l_is_part) := ⟨rfl, rfl, rfl, by decide +kernel, rfl, by decide +kernel, by decide +kernel⟩
abbrev s_l_lamps_text : Stmt := topS 49
abbrev n_l_lamps_text : List Str := ["lamps", "lamp"]
theorem sc_l_lamps_text : FnScope n_l_lamps_text ["lamps"] (defScope s_l_lamps_text) := ⟨rfl, rfl, rfl, by decide +kernel, rfl, by decide +kernel, by decide +kernel⟩
abbrev s_l_log_text : Stmt := topS 50
abbrev n_l_log_text : List Str := ["log", "on", "off"]
theorem sc_l_log_text : FnScope n_l_log_text ["log"] (defScope s_l_log_text) := ⟨rfl, rfl, rfl, by decide +kernel, rfl, by decide +kernel, by decide +kernel⟩
abbrev s_l_runs_text : Stmt := topS 51
abbrev n_l_runs_text : List Str := ["runs", "found", "first", "step", "count"]
theorem sc_l_runs_text : FnScope n_l_runs_text ["runs"] (defScope s_l_runs_text) := ⟨rfl, rfl, rfl, by decide +kernel, rfl, by decide +kernel, by decide +kernel⟩
abbrev s_l_item : Stmt := topS 52
abbrev n_l_item : List Str := ["way", "part", "bits", "stay", "is_right", "bit", "pair", "rest", "run"]
theorem sc_l_item : FnScope n_l_item ["way", "part"] (defScope s_l_item) := ⟨rfl, rfl, rfl, by decide +kernel, rfl, by decide +kernel, by decide +kernel⟩
abbrev s_l_read : Stmt := topS 53
abbrev n_l_read : List Str := ["way", "text", "found", "last", "k", "part", "item"]
theorem sc_l_read : FnScope n_l_read ["way", "text"] (defScope s_l_read) := ⟨rfl, rfl, rfl, by decide +kernel, rfl, by decide +kernel, by decide +kernel⟩
abbrev s_l_told : Stmt := topS 54
abbrev n_l_told : List Str := ["way", "value", "found", "error", "alone"]
theorem sc_l_told : FnScope n_l_told ["way", "value"] (defScope s_l_told) := ⟨rfl, rfl, rfl, by decide +kernel, rfl, by decide +kernel, by decide +kernel⟩
abbrev s_l_changed : Stmt := topS 55
abbrev n_l_changed : List Str := ["pot", "text", "at", "words", "spot", "sign", "some", "part", "texts"]
theorem sc_l_changed : FnScope n_l_changed ["pot", "text"] (defScope s_l_changed) := ⟨rfl, rfl, rfl, by decide +kernel, rfl, by decide +kernel, by decide +kernel⟩
abbrev s_law : Stmt := topS 56
abbrev n_law : List Str := ["script", "pot", "turn", "k", "lamps", "texts", "text", "short", "value", "way", "due", "other"]
theorem sc_law : FnScope n_law ["script"] (defScope s_law) := ⟨rfl, rfl, rfl, by decide +kernel, rfl, by decide +kernel, by decide +kernel⟩
abbrev s_X_BadLamp : Stmt := inClass (topS 7) 0
abbrev n_X_BadLamp : List Str := ["self", "value"]
theorem sc_X_BadLamp : FnScope n_X_BadLamp ["self", "value"] (defScope s_X_BadLamp) := ⟨rfl, rfl, rfl, by decide +kernel, rfl, by decide +kernel, by decide +kernel⟩
abbrev s_X_BadLog : Stmt := inClass (topS 8) 0
abbrev n_X_BadLog : List Str := ["self", "error"]
theorem sc_X_BadLog : FnScope n_X_BadLog ["self", "error"] (defScope s_X_BadLog) := ⟨rfl, rfl, rfl, by decide +kernel, rfl, by decide +kernel, by decide +kernel⟩
abbrev s_X_BadMotions : Stmt := inClass (topS 9) 0
abbrev n_X_BadMotions : List Str := ["self", "error"]
theorem sc_X_BadMotions : FnScope n_X_BadMotions ["self", "error"] (defScope s_X_BadMotions) := ⟨rfl, rfl, rfl, by decide +kernel, rfl, by decide +kernel, by decide +kernel⟩
abbrev s_X_BadText : Stmt := inClass (topS 10) 0
abbrev n_X_BadText : List Str := ["self", "index"]
theorem sc_X_BadText : FnScope n_X_BadText ["self", "index"] (defScope s_X_BadText) := ⟨rfl, rfl, rfl, by decide +kernel, rfl, by decide +kernel, by decide +kernel⟩
abbrev s_X_NoIndex : Stmt := inClass (topS 11) 0
abbrev n_X_NoIndex : List Str := ["self", "index"]
theorem sc_X_NoIndex : FnScope n_X_NoIndex ["self", "index"] (defScope s_X_NoIndex) := ⟨rfl, rfl, rfl, by decide +kernel, rfl, by decide +kernel, by decide +kernel⟩
structure All (K : PySem.W.Frag) (mg : Str → Option Value) where
  f_is_whole : Addr
  fd_is_whole : FuncData
  D_is_whole : Def K mg "is_whole" s_is_whole ["value"] f_is_whole fd_is_whole
  f_is_whole_tuple : Addr
  fd_is_whole_tuple : FuncData
  D_is_whole_tuple : Def K mg "is_whole_tuple" s_is_whole_tuple ["value", "many"] f_is_whole_tuple fd_is_whole_tuple
  f_is_stay : Addr
  fd_is_stay : FuncData
  D_is_stay : Def K mg "is_stay" s_is_stay ["value"] f_is_stay fd_is_stay
  f_last_minute : Addr
  fd_last_minute : FuncData
  D_last_minute : Def K mg "last_minute" s_last_minute ["run"] f_last_minute fd_last_minute
  f_is_run : Addr
  fd_is_run : FuncData
  D_is_run : Def K mg "is_run" s_is_run ["value"] f_is_run fd_is_run
  f_is_stretch : Addr
  fd_is_stretch : FuncData
  D_is_stretch : Def K mg "is_stretch" s_is_stretch ["value"] f_is_stretch fd_is_stretch
  f_is_lamp : Addr
  fd_is_lamp : FuncData
  D_is_lamp : Def K mg "is_lamp" s_is_lamp ["value"] f_is_lamp fd_is_lamp
  f_motions_error : Addr
  fd_motions_error : FuncData
  D_motions_error : Def K mg "motions_error" s_motions_error ["value"] f_motions_error fd_motions_error
  f_log_error : Addr
  fd_log_error : FuncData
  D_log_error : Def K mg "log_error" s_log_error ["value"] f_log_error fd_log_error
  f_number_of : Addr
  fd_number_of : FuncData
  D_number_of : Def K mg "number_of" s_number_of ["text"] f_number_of fd_number_of
  f_lamp_of : Addr
  fd_lamp_of : FuncData
  D_lamp_of : Def K mg "lamp_of" s_lamp_of ["text"] f_lamp_of fd_lamp_of
  f_stretch_of : Addr
  fd_stretch_of : FuncData
  D_stretch_of : Def K mg "stretch_of" s_stretch_of ["text"] f_stretch_of fd_stretch_of
  f_run_of : Addr
  fd_run_of : FuncData
  D_run_of : Def K mg "run_of" s_run_of ["text"] f_run_of fd_run_of
  f_lamps_error : Addr
  fd_lamps_error : FuncData
  D_lamps_error : Def K mg "lamps_error" s_lamps_error ["lamps"] f_lamps_error fd_lamps_error
  f_parse_lamps : Addr
  fd_parse_lamps : FuncData
  D_parse_lamps : Def K mg "parse_lamps" s_parse_lamps ["value"] f_parse_lamps fd_parse_lamps
  f_parse_log : Addr
  fd_parse_log : FuncData
  D_parse_log : Def K mg "parse_log" s_parse_log ["value"] f_parse_log fd_parse_log
  f_parse_motions : Addr
  fd_parse_motions : FuncData
  D_parse_motions : Def K mg "parse_motions" s_parse_motions ["value"] f_parse_motions fd_parse_motions
  f_parsed : Addr
  fd_parsed : FuncData
  D_parsed : Def K mg "parsed" s_parsed ["value", "item_of", "error_of", "limit"] f_parsed fd_parsed
  f_l_opened : Addr
  fd_l_opened : FuncData
  D_l_opened : Def K mg "_law_opened" s_l_opened ["script"] f_l_opened fd_l_opened
  f_l_draw : Addr
  fd_l_draw : FuncData
  D_l_draw : Def K mg "_law_draw" s_l_draw ["pot", "many"] f_l_draw fd_l_draw
  f_l_one : Addr
  fd_l_one : FuncData
  D_l_one : Def K mg "_law_one" s_l_one ["pot", "items"] f_l_one fd_l_one
  f_l_lamp : Addr
  fd_l_lamp : FuncData
  D_l_lamp : Def K mg "_law_lamp" s_l_lamp ["pot", "great"] f_l_lamp fd_l_lamp
  f_l_far_runs : Addr
  fd_l_far_runs : FuncData
  D_l_far_runs : Def K mg "_law_far_runs" s_l_far_runs ["pot", "upto"] f_l_far_runs fd_l_far_runs
  f_l_log : Addr
  fd_l_log : FuncData
  D_l_log : Def K mg "_law_log" s_l_log ["pot", "upto", "great"] f_l_log fd_l_log
  f_l_number : Addr
  fd_l_number : FuncData
  D_l_number : Def K mg "_law_number" s_l_number ["part"] f_l_number fd_l_number
  f_l_spaced : Addr
  fd_l_spaced : FuncData
  D_l_spaced : Def K mg "_law_spaced" s_l_spaced ["items"] f_l_spaced fd_l_spaced
  f_l_is_run : Addr
  fd_l_is_run : FuncData
  D_l_is_run : Def K mg "_law_is_run" s_l_is_run ["value"] f_l_is_run fd_l_is_run
  f_l_whole : Addr
  fd_l_whole : FuncData
  D_l_whole : Def K mg "_law_whole" s_l_whole ["value", "low", "high"] f_l_whole fd_l_whole
  f_l_is_part : Addr
  fd_l_is_part : FuncData
  D_l_is_part : Def K mg "_law_is_part" s_l_is_part ["value"] f_l_is_part fd_l_is_part
  f_l_lamps_text : Addr
  fd_l_lamps_text : FuncData
  D_l_lamps_text : Def K mg "_law_lamps_text" s_l_lamps_text ["lamps"] f_l_lamps_text fd_l_lamps_text
  f_l_log_text : Addr
  fd_l_log_text : FuncData
  D_l_log_text : Def K mg "_law_log_text" s_l_log_text ["log"] f_l_log_text fd_l_log_text
  f_l_runs_text : Addr
  fd_l_runs_text : FuncData
  D_l_runs_text : Def K mg "_law_runs_text" s_l_runs_text ["runs"] f_l_runs_text fd_l_runs_text
  f_l_item : Addr
  fd_l_item : FuncData
  D_l_item : Def K mg "_law_item" s_l_item ["way", "part"] f_l_item fd_l_item
  f_l_read : Addr
  fd_l_read : FuncData
  D_l_read : Def K mg "_law_read" s_l_read ["way", "text"] f_l_read fd_l_read
  f_l_told : Addr
  fd_l_told : FuncData
  D_l_told : Def K mg "_law_told" s_l_told ["way", "value"] f_l_told fd_l_told
  f_l_changed : Addr
  fd_l_changed : FuncData
  D_l_changed : Def K mg "_law_changed" s_l_changed ["pot", "text"] f_l_changed fd_l_changed
  f_law : Addr
  fd_law : FuncData
  D_law : Def K mg "law" s_law ["script"] f_law fd_law
  C_LampError : Addr
  g_LampError : mg "LampError" = some (.ref C_LampError)
  C_BadLamp : Addr
  g_BadLamp : mg "BadLamp" = some (.ref C_BadLamp)
  fI_BadLamp : Addr
  fdI_BadLamp : FuncData
  X_BadLamp : ExC K mg "BadLamp" "BadLamp.__init__" "value" C_BadLamp fI_BadLamp fdI_BadLamp s_X_BadLamp
  C_BadLog : Addr
  g_BadLog : mg "BadLog" = some (.ref C_BadLog)
  fI_BadLog : Addr
  fdI_BadLog : FuncData
  X_BadLog : ExC K mg "BadLog" "BadLog.__init__" "error" C_BadLog fI_BadLog fdI_BadLog s_X_BadLog
  C_BadMotions : Addr
  g_BadMotions : mg "BadMotions" = some (.ref C_BadMotions)
  fI_BadMotions : Addr
  fdI_BadMotions : FuncData
  X_BadMotions : ExC K mg "BadMotions" "BadMotions.__init__" "error" C_BadMotions fI_BadMotions fdI_BadMotions s_X_BadMotions
  C_BadText : Addr
  g_BadText : mg "BadText" = some (.ref C_BadText)
  fI_BadText : Addr
  fdI_BadText : FuncData
  X_BadText : ExC K mg "BadText" "BadText.__init__" "index" C_BadText fI_BadText fdI_BadText s_X_BadText
  C_NoIndex : Addr
  g_NoIndex : mg "NoIndex" = some (.ref C_NoIndex)
  fI_NoIndex : Addr
  fdI_NoIndex : FuncData
  X_NoIndex : ExC K mg "NoIndex" "NoIndex.__init__" "index" C_NoIndex fI_NoIndex fdI_NoIndex s_X_NoIndex
  kit0 : PySem.W.exmOne K (.ref C_BadText) (.ref C_LampError) = some true
  kit1 : PySem.W.kitOne K (.ref C_BadText) (.type "ValueError") = some true
  kit2 : PySem.W.kitAny K (.ref C_BadText) ([C_BadLamp, C_BadLog, C_BadMotions, C_NoIndex].map Value.ref) = some false
  kit3 : PySem.W.kitOne K (.ref C_BadText) (.ref C_BadText) = some true
  z_ValueError : mg "ValueError" = none
  z_abs : mg "abs" = none
  z_all : mg "all" = none
  z_bool : mg "bool" = none
  z_enumerate : mg "enumerate" = none
  z_int : mg "int" = none
  z_isinstance : mg "isinstance" = none
  z_len : mg "len" = none
  z_list : mg "list" = none
  z_min : mg "min" = none
  z_range : mg "range" = none
  z_repr : mg "repr" = none
  z_str : mg "str" = none
  z_tuple : mg "tuple" = none
  t_DIGITS : Tok
  c_DIGITS : mg "DIGITS" = some (.int 20 t_DIGITS)
  a_KINDS : Addr
  c_KINDS : mg "KINDS" = some (.ref a_KINDS)
  s_KINDS : ∀ H : Hp, SqT K H a_KINDS ((["hold", "pulse"] : List Str).map V.str)
  t_LIMIT : Tok
  c_LIMIT : mg "LIMIT" = some (.int 2000000000 t_LIMIT)
  t_MAX_LAMPS : Tok
  c_MAX_LAMPS : mg "MAX_LAMPS" = some (.int 6 t_MAX_LAMPS)
  t_MAX_MINUTE : Tok
  c_MAX_MINUTE : mg "MAX_MINUTE" = some (.int 1000000000 t_MAX_MINUTE)
  t_MAX_RUNS : Tok
  c_MAX_RUNS : mg "MAX_RUNS" = some (.int 360 t_MAX_RUNS)
  t_MAX_STRETCHES : Tok
  c_MAX_STRETCHES : mg "MAX_STRETCHES" = some (.int 60 t_MAX_STRETCHES)
  t_NONE : Tok
  c_NONE : mg "NONE" = some (.str "none" t_NONE)
section
variable {P : Program} {w : World} {K : PySem.W.Frag} {mg : Str → Option Value} {base : Heap}
theorem ok_X_BadLamp (T : All K mg) : FnOk P w K mg base CX0 1 T.fI_BadLamp T.fdI_BadLamp ["self", "value"] (sp_init K "value") := by
  have nd := sc_X_BadLamp.nd
  refine T.X_BadLamp.F.ok sc_X_BadLamp (fun vs H Q E h => ?_) (fun cdv A outer s H vs Q E hr h => ?_)
  · obtain ⟨a, C, v, rfl, _⟩ := h
    rfl
  · obtain ⟨a, C, v, rfl, ox, no, ha, q⟩ := h
    refine ⟨_, pss_one (ps_ost (pv 0) (pv 1)), ?_⟩
    exact ⟨v, rfl, .ref a, rfl, a, C, rfl, ox, no, .inl ⟨ha, fun dx n ne => q dx n ne⟩⟩
theorem ok_X_BadLog (T : All K mg) : FnOk P w K mg base CX0 1 T.fI_BadLog T.fdI_BadLog ["self", "error"] (sp_init K "error") := by
  have nd := sc_X_BadLog.nd
  refine T.X_BadLog.F.ok sc_X_BadLog (fun vs H Q E h => ?_) (fun cdv A outer s H vs Q E hr h => ?_)
  · obtain ⟨a, C, v, rfl, _⟩ := h
    rfl
  · obtain ⟨a, C, v, rfl, ox, no, ha, q⟩ := h
    refine ⟨_, pss_one (ps_ost (pv 0) (pv 1)), ?_⟩
    exact ⟨v, rfl, .ref a, rfl, a, C, rfl, ox, no, .inl ⟨ha, fun dx n ne => q dx n ne⟩⟩
theorem ok_X_BadMotions (T : All K mg) : FnOk P w K mg base CX0 1 T.fI_BadMotions T.fdI_BadMotions ["self", "error"] (sp_init K "error") := by
  have nd := sc_X_BadMotions.nd
  refine T.X_BadMotions.F.ok sc_X_BadMotions (fun vs H Q E h => ?_) (fun cdv A outer s H vs Q E hr h => ?_)
  · obtain ⟨a, C, v, rfl, _⟩ := h
    rfl
  · obtain ⟨a, C, v, rfl, ox, no, ha, q⟩ := h
    refine ⟨_, pss_one (ps_ost (pv 0) (pv 1)), ?_⟩
    exact ⟨v, rfl, .ref a, rfl, a, C, rfl, ox, no, .inl ⟨ha, fun dx n ne => q dx n ne⟩⟩
theorem ok_X_BadText (T : All K mg) : FnOk P w K mg base CX0 1 T.fI_BadText T.fdI_BadText ["self", "index"] (sp_init K "index") := by
  have nd := sc_X_BadText.nd
  refine T.X_BadText.F.ok sc_X_BadText (fun vs H Q E h => ?_) (fun cdv A outer s H vs Q E hr h => ?_)
  · obtain ⟨a, C, v, rfl, _⟩ := h
    rfl
  · obtain ⟨a, C, v, rfl, ox, no, ha, q⟩ := h
    refine ⟨_, pss_one (ps_ost (pv 0) (pv 1)), ?_⟩
    exact ⟨v, rfl, .ref a, rfl, a, C, rfl, ox, no, .inl ⟨ha, fun dx n ne => q dx n ne⟩⟩
theorem ok_X_NoIndex (T : All K mg) : FnOk P w K mg base CX0 1 T.fI_NoIndex T.fdI_NoIndex ["self", "index"] (sp_init K "index") := by
  have nd := sc_X_NoIndex.nd
  refine T.X_NoIndex.F.ok sc_X_NoIndex (fun vs H Q E h => ?_) (fun cdv A outer s H vs Q E hr h => ?_)
  · obtain ⟨a, C, v, rfl, _⟩ := h
    rfl
  · obtain ⟨a, C, v, rfl, ox, no, ha, q⟩ := h
    refine ⟨_, pss_one (ps_ost (pv 0) (pv 1)), ?_⟩
    exact ⟨v, rfl, .ref a, rfl, a, C, rfl, ox, no, .inl ⟨ha, fun dx n ne => q dx n ne⟩⟩
theorem ok_is_whole (T : All K mg) : FnOk P w K mg base CX0 1 T.f_is_whole T.fd_is_whole ["value"] (sp_is_whole K) := by
  have nd := sc_is_whole.nd
  refine T.D_is_whole.F.ok sc_is_whole (fun vs H Q E h => ?_) (fun cdv A outer s H vs Q E hr h => ?_)
  · obtain ⟨v, d, rfl, _⟩ := h
    rfl
  · obtain ⟨v, d, rfl, hd, q⟩ := h
    refine ⟨_, (pss_one (ps_ret (pe_and (pe_callB call_isi (by rfl) T.z_isinstance (by decide +kernel) (pa_cons (pv 0) (pa_cons (pe_bltn (v := .ty "int") (by rfl) T.z_int (by decide +kernel) rfl) pa_nil))) (pe_one (pe_not (pe_callB call_isi (by rfl) T.z_isinstance (by decide +kernel) (pa_cons (pv 0) (pa_cons (pe_bltn (v := .ty "bool") (by rfl) T.z_bool (by decide +kernel) rfl) pa_nil)))))))), ?_⟩
    rw [wh_eq] at q
    refine ⟨v, rfl, v, .ty "int", _, _, _, rfl, .ty "int", hd.ty, kit_ty (kit_i d), _, rfl, ?_⟩
    cases hi : isI d with
    | false =>
      rw [hi] at q
      exact iteF q
    | true =>
      refine iteT ⟨v, rfl, v, .ty "bool", _, _, _, rfl, .ty "bool", hd.ty, kit_ty (kit_b d), _, rfl, ?_⟩
      rw [hi, Bool.true_and] at q
      exact q
theorem ok_is_whole_tuple (T : All K mg) : FnOk P w K mg base CX0 2 T.f_is_whole_tuple T.fd_is_whole_tuple ["value", "many"] (sp_is_whole_tuple K) := by
  have nd := sc_is_whole_tuple.nd
  refine T.D_is_whole_tuple.F.ok sc_is_whole_tuple (fun vs H Q E h => ?_) (fun cdv A outer s H vs Q E hr h => ?_)
  · obtain ⟨v, d, m, rfl, _⟩ := h
    rfl
  · obtain ⟨v, d, m, rfl, hd, hm1000, q⟩ := h
    refine ⟨_, (pss_one (ps_ret (pe_and (pe_callB call_isi (by rfl) T.z_isinstance (by decide +kernel) (pa_cons (pv 0) (pa_cons (pe_bltn (v := .ty "tuple") (by rfl) T.z_tuple (by decide +kernel) rfl) pa_nil))) (pe_and (pe_cmpR op_eq (pe_callB call_len_seq (by rfl) T.z_len (by decide +kernel) (pa_cons (pv 0) pa_nil)) (pv 1) (nomark _)) (pe_one (pe_callB (cr_all rfl) (by rfl) T.z_all (by decide +kernel) (pa_cons (pe_lc (own := [("item", 2)]) rfl nd (pi_tup (pv 0)) (blkOk_by (own := [("item", 2)]) (N := n_is_whole_tuple) (sc := defScope s_is_whole_tuple) (by decide +kernel)) (fun _ _ _ _ _ => (pg_name (i := 2) nd rfl (by first | exact Or.inl rfl | exact Or.inr rfl))) (fun _ _ _ _ _ => pts_nil) (fun _ _ _ _ _ => (pe_call (ok_is_whole T) (hr.mono (by decide)) (by rfl) T.D_is_whole.g T.D_is_whole.F.kp T.D_is_whole.b .nil pass0 (pa_cons (pv 2) pa_nil)))) pa_nil))))))), ?_⟩
    refine ⟨v, rfl, v, .ty "tuple", _, _, _, rfl, .ty "tuple", hd.ty, kit_ty (kit_t d), _, rfl, ?_⟩
    cases hd with
    | @tup a xs ds hs ha =>
      refine iteT ⟨.ref a, rfl, a, xs, rfl, .inr hs, .int m, rfl, rfl, _, rfl, ?_⟩
      have hl := ha.len
      by_cases hm : (xs.length : Int) = m
      · rw [decide_eq_true (show V.int (xs.length : Int) = V.int m by rw [hm])]
        refine iteT ⟨.ref a, rfl, a, rfl, ⟨_, hs⟩, fun D nD => ?_⟩
        refine lc_tup (K := K) (a := a) (xs := xs) (fun i H1 => H1 D = some (.lst (((ds.take i).map wh).map V.bl)) ∧ Same H H1) ⟨upd_same, same_new nD⟩ (fun i H1 _ h => Same.seqT h.2 hs) ?_ ?_
        · rintro i x H1 hx ⟨eD, s1⟩
          obtain ⟨e, he, hq⟩ := ha.get hx
          have hi : i < ds.length := (List.getElem?_eq_some_iff.mp he).1
          refine ⟨rfl, yes_if ?_⟩
          refine ⟨x, rfl, x, e, rfl, hq.mono s1, _, eD, ?_, ?_, same_upd2 s1 nD⟩
          · exact small1000 (by rw [List.length_map, List.length_map, List.length_take]; omega)
          · rw [upd_same, List.take_add_one, he, List.map_append, List.map_append]
            rfl
        · rintro H1 ⟨eD, s1⟩
          rw [hl, List.take_length] at eD
          refine ⟨D, _, rfl, .inl (.inl eD), ?_⟩
          have e : wt (.tuple ds) m = ((ds.map wh).all id) := by
            show (decide ((ds.length : Int) = m) && ds.all wh) = _
            rw [decide_eq_true (by rw [← hl]; exact hm), Bool.true_and, List.all_map]
            rfl
          rw [← e]
          exact q H1 s1
      · rw [decide_eq_false (show ¬ V.int (xs.length : Int) = V.int m from fun z => hm (V.int.inj z))]
        refine iteF ?_
        have e : wt (.tuple ds) m = false := by
          show (decide ((ds.length : Int) = m) && ds.all wh) = false
          rw [decide_eq_false (by rw [← hl]; exact hm), Bool.false_and]
        rw [← e]
        exact q H (Same.refl H)
    | _ => exact iteF (q H (Same.refl H))
theorem ok_is_stay (T : All K mg) : FnOk P w K mg base CX0 2 T.f_is_stay T.fd_is_stay ["value"] (sp_bool K (inW 1 1000000000)) := by
  have nd := sc_is_stay.nd
  refine T.D_is_stay.F.ok sc_is_stay (fun vs H Q E h => ?_) (fun cdv A outer s H vs Q E hr h => ?_)
  · obtain ⟨v, d, rfl, _⟩ := h
    rfl
  · obtain ⟨v, d, rfl, hd, q⟩ := h
    refine ⟨_, (pss_one (ps_ret (pe_and (pe_call (ok_is_whole T) (hr.mono (by decide)) (by rfl) T.D_is_whole.g T.D_is_whole.F.kp T.D_is_whole.b .nil pass0 (pa_cons (pv 0) pa_nil)) (pe_one (pe_chain op_le op_le pe_int (pv 0) (pe_glob (v := .int 1000000000) (by rfl) T.c_MAX_MINUTE ⟨_, rfl⟩)))))), ?_⟩
    refine ⟨v, rfl, v, d, rfl, hd, _, rfl, ?_⟩
    cases d with
    | int i =>
      cases hd
      refine iteT ⟨.int i, rfl, 1, i, rfl, rfl, _, rfl, ?_⟩
      have e2 : inW 1 1000000000 (.int i) = (decide (1 ≤ i) && decide (i ≤ 1000000000)) := rfl
      rw [e2] at q
      cases g : decide (1 ≤ i) with
      | true =>
        rw [g] at q
        exact iteT ⟨i, 1000000000, rfl, rfl, q H (Same.refl H)⟩
      | false =>
        rw [g] at q
        exact iteF (q H (Same.refl H))
    | _ => exact iteF (q H (Same.refl H))
theorem ok_last_minute (T : All K mg) : FnOk P w K mg base CX0 1 T.f_last_minute T.fd_last_minute ["run"] (sp_last K) := by
  have nd := sc_last_minute.nd
  refine T.D_last_minute.F.ok sc_last_minute (fun vs H Q E h => ?_) (fun cdv A outer s H vs Q E hr h => ?_)
  · obtain ⟨t, a, st, c, rfl, _⟩ := h
    rfl
  · obtain ⟨t, a, st, c, rfl, hs, hc, q⟩ := h
    refine ⟨_, (pss_cons (ps_asg (pv 0) (pg_tup rfl (pgs_cons (pg_name (i := 1) nd rfl (by first | exact Or.inl rfl | exact Or.inr rfl)) (pgs_cons (pg_name (i := 2) nd rfl (by first | exact Or.inl rfl | exact Or.inr rfl)) (pgs_cons (pg_name (i := 3) nd rfl (by first | exact Or.inl rfl | exact Or.inr rfl)) pgs_nil)))))
  (pss_one (ps_ret (pe_op op_add (pv 1) (pe_op op_mulW (pv 2) (pe_op op_sub (pv 3) pe_int)))))), ?_⟩
    refine ⟨.ref t, rfl, t, _, rfl, hs, rfl, _, _, rfl, _, _, rfl, _, _, rfl, rfl, ?_⟩
    exact ⟨.int a, rfl, .int st, rfl, .int c, rfl, c, 1, rfl, rfl, st, _, rfl, rfl, hc, a, _, rfl, rfl, q⟩
theorem ok_is_run (T : All K mg) : FnOk P w K mg base CX0 3 T.f_is_run T.fd_is_run ["value"] (sp_boolS K fun d => (runOf d).isSome) := by
  have nd := sc_is_run.nd
  refine T.D_is_run.F.ok sc_is_run (fun vs H Q E h => ?_) (fun cdv A outer s H vs Q E hr h => ?_)
  · obtain ⟨v, d, rfl, _⟩ := h
    rfl
  · obtain ⟨v, d, rfl, hd, hsh, q⟩ := h
    dsimp only at q
    refine ⟨_, (pss_cons (ps_if (pt_not (pt_val (pe_call (ok_is_whole_tuple T) (hr.mono (by decide)) (by rfl) T.D_is_whole_tuple.g T.D_is_whole_tuple.F.kp T.D_is_whole_tuple.b .nil pass0 (pa_cons (pv 0) (pa_cons pe_int pa_nil)))))
    (pss_one (ps_ret pe_bl))
    pss_nil)
  (pss_cons (ps_asg (pv 0) (pg_tup rfl (pgs_cons (pg_name (i := 1) nd rfl (by first | exact Or.inl rfl | exact Or.inr rfl)) (pgs_cons (pg_name (i := 2) nd rfl (by first | exact Or.inl rfl | exact Or.inr rfl)) (pgs_cons (pg_name (i := 3) nd rfl (by first | exact Or.inl rfl | exact Or.inr rfl)) pgs_nil)))))
  (pss_cons (ps_if (PW.pt (pw_or (pt_cmpR op_lt (pv 1) pe_int (nomark _)) (pw_or (pt_cmpR op_lt (pv 2) pe_int (nomark _)) (pw_or1 (pt_cmpR op_lt (pv 3) pe_int (nomark _))))))
    (pss_one (ps_ret pe_bl))
    pss_nil)
  (pss_cons (ps_if (PW.pt (pw_and (pt_cmpR op_eq (pv 3) pe_int (nomark _)) (pw_and1 (pt_cmpR op_ne (pv 2) pe_int (nomark _)))))
    (pss_one (ps_ret pe_bl))
    pss_nil)
  (pss_one (ps_ret (pe_cmpR op_le (pe_call (ok_last_minute T) (hr.mono (by decide)) (by rfl) T.D_last_minute.g T.D_last_minute.F.kp T.D_last_minute.b .nil pass0 (pa_cons (pv 0) pa_nil)) (pe_glob (v := .int 1000000000) (by rfl) T.c_MAX_MINUTE ⟨_, rfl⟩) (nomark _)))))))), ?_⟩
    refine ⟨v, rfl, v, d, 3, rfl, hd, by decide, fun H1 s1 => ⟨_, rfl, ?_⟩⟩
    cases hw : wt d 3 with
    | false =>
      rw [wt3_no hw] at q
      exact iteT (q H1 s1)
    | true =>
      obtain ⟨a, st, c, rfl⟩ := wt3 hw
      have hm := run_mulW hsh
      rw [runOf_eq] at q
      cases hd with
      | @tup ad xs _ hs ha =>
        cases ha with
        | cons h1 h2 =>
          cases h2 with
          | cons h3 h4 =>
            cases h4 with
            | cons h5 h6 =>
              cases h6
              cases h1
              cases h3
              cases h5
              refine iteF ⟨.ref ad, rfl, ad, _, rfl, Same.seqT s1 hs, rfl, _, _, rfl, _, _, rfl, _, _, rfl, rfl, ?_⟩
              refine ⟨.int a, rfl, a, 0, rfl, rfl, _, rfl, ?_⟩
              have no : ¬ (0 ≤ a ∧ 1 ≤ st ∧ 1 ≤ c ∧ (c = 1 → st = 1) ∧ a + st * (c - 1) ≤ 1000000000) → Q (.bl false) H1 := fun n => by
                rw [decide_eq_false n] at q
                exact q H1 s1
              by_cases g1 : a < 0
              · rw [decide_eq_true g1]
                exact iteT (no (by omega))
              · rw [decide_eq_false g1]
                refine iteF ⟨.int st, rfl, st, 1, rfl, rfl, _, rfl, ?_⟩
                by_cases g2 : st < 1
                · rw [decide_eq_true g2]
                  exact iteT (no (by omega))
                · rw [decide_eq_false g2]
                  refine iteF ⟨.int c, rfl, c, 1, rfl, rfl, _, rfl, ?_⟩
                  by_cases g3 : c < 1
                  · rw [decide_eq_true g3]
                    exact iteT (no (by omega))
                  · rw [decide_eq_false g3]
                    have fin : (c = 1 → st = 1) → ∃ i j, V.int (a + st * (c - 1)) = .int i ∧ V.int 1000000000 = .int j ∧ Q (.bl (decide (i ≤ j))) H1 := fun g => by
                      refine ⟨_, _, rfl, rfl, ?_⟩
                      have e : decide (0 ≤ a ∧ 1 ≤ st ∧ 1 ≤ c ∧ (c = 1 → st = 1) ∧ a + st * (c - 1) ≤ 1000000000) = decide (a + st * (c - 1) ≤ 1000000000) := by
                        rw [decide_eq_decide]
                        exact ⟨fun h => h.2.2.2.2, fun h => ⟨by omega, by omega, by omega, g, h⟩⟩
                      rw [e] at q
                      exact q H1 s1
                    refine iteF ⟨.int c, rfl, rfl, _, rfl, ?_⟩
                    by_cases g4 : c = 1
                    · rw [show decide (V.int c = V.int 1) = true from by rw [g4]; rfl]
                      refine iteT ⟨.int st, rfl, rfl, _, rfl, ?_⟩
                      by_cases g5 : st = 1
                      · rw [show (!decide (V.int st = V.int 1)) = false from by rw [g5]; rfl]
                        exact iteF ⟨.ref ad, rfl, ad, a, st, c, rfl, Same.seqT s1 hs, hm, fin fun _ => g5⟩
                      · rw [show (!decide (V.int st = V.int 1)) = true from by rw [decide_eq_false fun z => g5 (V.int.inj z)]; rfl]
                        exact iteT (no (by omega))
                    · rw [show decide (V.int c = V.int 1) = false from decide_eq_false fun z => g4 (V.int.inj z)]
                      exact iteF ⟨.ref ad, rfl, ad, a, st, c, rfl, Same.seqT s1 hs, hm, fin fun g => absurd g g4⟩
theorem ok_is_stretch (T : All K mg) : FnOk P w K mg base CX0 3 T.f_is_stretch T.fd_is_stretch ["value"] (sp_is_stretch K) := by
  have nd := sc_is_stretch.nd
  refine T.D_is_stretch.F.ok sc_is_stretch (fun vs H Q E h => ?_) (fun cdv A outer s H vs Q E hr h => ?_)
  · obtain ⟨v, d, rfl, _⟩ := h
    rfl
  · obtain ⟨v, d, rfl, hd, q⟩ := h
    refine ⟨_, (pss_cons (ps_if (pt_not (pt_val (pe_call (ok_is_whole_tuple T) (hr.mono (by decide)) (by rfl) T.D_is_whole_tuple.g T.D_is_whole_tuple.F.kp T.D_is_whole_tuple.b .nil pass0 (pa_cons (pv 0) (pa_cons pe_int pa_nil)))))
    (pss_one (ps_ret pe_bl))
    pss_nil)
  (pss_cons (ps_asg (pv 0) (pg_tup rfl (pgs_cons (pg_name (i := 1) nd rfl (by first | exact Or.inl rfl | exact Or.inr rfl)) (pgs_cons (pg_name (i := 2) nd rfl (by first | exact Or.inl rfl | exact Or.inr rfl)) pgs_nil))))
  (pss_one (ps_ret (pe_chain3 op_le op_lt op_le pe_int (pv 1) (pv 2) (pe_glob (v := .int 2000000000) (by rfl) T.c_LIMIT ⟨_, rfl⟩)))))), ?_⟩
    refine ⟨v, rfl, v, d, 2, rfl, hd, by decide, fun H1 s1 => ⟨_, rfl, ?_⟩⟩
    cases hw : wt d 2 with
    | false =>
      have e := wt2_no hw
      rw [e] at q
      exact iteT (q H1 s1)
    | true =>
      obtain ⟨a, b, rfl⟩ := wt2 hw
      cases hd with
      | @tup ad xs _ hs ha =>
        cases ha with
        | cons h1 h2 =>
          cases h2 with
          | cons h3 h4 =>
            cases h4
            cases h1
            cases h3
            refine iteF ⟨.ref ad, rfl, ad, _, rfl, Same.seqT s1 hs, rfl, _, _, rfl, _, _, rfl, rfl, ?_⟩
            refine ⟨_, rfl, 0, a, rfl, rfl, _, rfl, ?_⟩
            by_cases g1 : 0 ≤ a
            · rw [decide_eq_true g1]
              refine iteT ⟨_, rfl, a, b, rfl, rfl, _, rfl, ?_⟩
              by_cases g2 : a < b
              · rw [decide_eq_true g2]
                refine iteT ⟨b, 2000000000, rfl, rfl, ?_⟩
                have e : (stOf (.tuple [.int a, .int b])).isSome = decide (b ≤ 2000000000) := by
                  show (if 0 ≤ a ∧ a < b ∧ b ≤ 2000000000 then some (a, b) else none).isSome = _
                  by_cases g3 : b ≤ 2000000000
                  · rw [if_pos ⟨g1, g2, g3⟩, decide_eq_true g3]
                    rfl
                  · rw [if_neg fun z => g3 z.2.2, decide_eq_false g3]
                    rfl
                rw [e] at q
                exact q H1 s1
              · rw [decide_eq_false g2]
                have e : (stOf (.tuple [.int a, .int b])).isSome = false := by
                  show (if 0 ≤ a ∧ a < b ∧ b ≤ 2000000000 then some (a, b) else none).isSome = _
                  rw [if_neg fun z => g2 z.2.1]
                  rfl
                rw [e] at q
                exact iteF (q H1 s1)
            · rw [decide_eq_false g1]
              have e : (stOf (.tuple [.int a, .int b])).isSome = false := by
                show (if 0 ≤ a ∧ a < b ∧ b ≤ 2000000000 then some (a, b) else none).isSome = _
                rw [if_neg fun z => g1 z.1]
                rfl
              rw [e] at q
              exact iteF (q H1 s1)
theorem ok_is_lamp (T : All K mg) : FnOk P w K mg base CX0 3 T.f_is_lamp T.fd_is_lamp ["value"] (sp_bool K lampB) := by
  have nd := sc_is_lamp.nd
  refine T.D_is_lamp.F.ok sc_is_lamp (fun vs H Q E h => ?_) (fun cdv A outer s H vs Q E hr h => ?_)
  · obtain ⟨v, d, rfl, _⟩ := h
    rfl
  · obtain ⟨v, d, rfl, hd, q⟩ := h
    refine ⟨_, (pss_cons (ps_if (PW.pt (pw_or (pt_not (pt_val (pe_callB call_isi (by rfl) T.z_isinstance (by decide +kernel) (pa_cons (pv 0) (pa_cons (pe_bltn (v := .ty "tuple") (by rfl) T.z_tuple (by decide +kernel) rfl) pa_nil))))) (pw_or1 (pt_cmpR op_ne (pe_callB call_len_seq (by rfl) T.z_len (by decide +kernel) (pa_cons (pv 0) pa_nil)) pe_int (nomark _)))))
    (pss_one (ps_ret pe_bl))
    pss_nil)
  (pss_cons (ps_asg (pv 0) (pg_tup rfl (pgs_cons (pg_name (i := 1) nd rfl (by first | exact Or.inl rfl | exact Or.inr rfl)) (pgs_cons (pg_name (i := 2) nd rfl (by first | exact Or.inl rfl | exact Or.inr rfl)) pgs_nil))))
  (pss_one (ps_ret (pe_and (pe_cmpR (op_inStr (in1_units hr.units)) (pv 1) (pe_glob (v := .ref T.a_KINDS) (by rfl) T.c_KINDS rfl) (by rfl)) (pe_one (pe_call (ok_is_stay T) (hr.mono (by decide)) (by rfl) T.D_is_stay.g T.D_is_stay.F.kp T.D_is_stay.b .nil pass0 (pa_cons (pv 2) pa_nil)))))))), ?_⟩
    refine s_if ?_
    refine ⟨v, rfl, v, .ty "tuple", _, _, _, rfl, .ty "tuple", hd.ty, kit_ty (kit_t d), _, rfl, ?_⟩
    cases hd with
    | @tup a xs ds hs ha =>
      have hl := ha.len
      refine iteF ⟨.ref a, rfl, a, xs, rfl, .inr hs, rfl, _, rfl, ?_⟩
      by_cases h2 : (xs.length : Int) = 2
      · rw [show (!decide (V.int (xs.length : Int) = V.int 2)) = false from by rw [decide_eq_true (by rw [h2])]; rfl]
        match ds, ha, hl with
        | [dk, dz], ha, hl =>
          cases ha with
          | @cons k _ _ _ h1 h3 =>
            cases h3 with
            | @cons z _ _ _ h3 h4 =>
              cases h4
              refine iteF ⟨.ref a, rfl, a, _, rfl, hs, rfl, _, _, rfl, _, _, rfl, rfl, ?_⟩
              refine ⟨k, rfl, dk, _, ["hold", "pulse"], h1, rfl, .inr (T.s_KINDS _), _, rfl, ?_⟩
              cases hb : (["hold", "pulse"] : List Str).any (strIs dk) with
              | false =>
                have e : lampB (.tuple [dk, dz]) = false := by
                  show ((["hold", "pulse"] : List Str).any (strIs dk) && inW 1 1000000000 dz) = false
                  rw [hb]; rfl
                rw [e] at q
                exact iteF (q H (Same.refl H))
              | true =>
                have e : lampB (.tuple [dk, dz]) = inW 1 1000000000 dz := by
                  show ((["hold", "pulse"] : List Str).any (strIs dk) && inW 1 1000000000 dz) = _
                  rw [hb]; rfl
                rw [e] at q
                exact iteT ⟨z, rfl, z, dz, rfl, h3, fun H1 s1 => q H1 s1⟩
        | [], _, hl => exact absurd h2 (by rw [hl]; simp)
        | [_], _, hl => exact absurd h2 (by rw [hl]; simp)
        | _ :: _ :: _ :: _, _, hl => exact absurd h2 (by rw [hl]; simp only [List.length_cons]; omega)
      · rw [show (!decide (V.int (xs.length : Int) = V.int 2)) = true from by rw [decide_eq_false fun z => h2 (V.int.inj z)]; rfl]
        have e : lampB (.tuple ds) = false := by
          match ds, hl with
          | [_, _], hl => exact absurd (by rw [hl]; rfl) h2
          | [], _ => rfl
          | [_], _ => rfl
          | _ :: _ :: _ :: _, _ => rfl
        rw [e] at q
        exact iteT (q H (Same.refl H))
    | _ => exact iteT (q H (Same.refl H))
theorem ok_motions_error (T : All K mg) : FnOk P w K mg base CX0 4 T.f_motions_error T.fd_motions_error ["value"] (sp_errS K motErr) := by
  have nd := sc_motions_error.nd
  refine T.D_motions_error.F.ok sc_motions_error (fun vs H Q E h => ?_) (fun cdv A outer s H vs Q E hr h => ?_)
  · obtain ⟨v, d, rfl, _⟩ := h
    rfl
  · obtain ⟨v, d, rfl, hd, hsh, q⟩ := h
    refine ⟨_, (pss_cons (ps_if (PW.pt (pw_or (pt_not (pt_val (pe_callB call_isi (by rfl) T.z_isinstance (by decide +kernel) (pa_cons (pv 0) (pa_cons (pe_bltn (v := .ty "tuple") (by rfl) T.z_tuple (by decide +kernel) rfl) pa_nil))))) (pw_or1 (pt_cmpR op_gt (pe_callB call_len_seq (by rfl) T.z_len (by decide +kernel) (pa_cons (pv 0) pa_nil)) (pe_glob (v := .int 360) (by rfl) T.c_MAX_RUNS ⟨_, rfl⟩) (nomark _)))))
    (pss_one (ps_ret (pe_tup (pa_cons pe_non (pa_cons pe_str pa_nil)))))
    pss_nil)
  (pss_cons (ps_set (i := 1) nd rfl (by first | exact Or.inl rfl | exact Or.inr rfl) (pe_un un_neg pe_int))
  (pss_cons (ps_for PassesOwn.never rfl (pi_enumT (by rfl) T.z_enumerate (pa_cons (pv 0) pa_nil)) (pg_tup rfl (pgs_cons (pg_name (i := 2) nd rfl (by first | exact Or.inl rfl | exact Or.inr rfl)) (pgs_cons (pg_name (i := 3) nd rfl (by first | exact Or.inl rfl | exact Or.inr rfl)) pgs_nil)))
    (pss_cons (ps_if (pt_not (pt_val (pe_call (ok_is_run T) (hr.mono (by decide)) (by rfl) T.D_is_run.g T.D_is_run.F.kp T.D_is_run.b .nil pass0 (pa_cons (pv 3) pa_nil))))
    (pss_one (ps_ret (pe_tup (pa_cons (pv 2) (pa_cons pe_str pa_nil)))))
    pss_nil)
  (pss_cons (ps_if (pt_cmpR op_le (pe_ix ix_tup (pv 3) pe_int (fun _ _ => rfl)) (pv 1) (nomark _))
    (pss_one (ps_ret (pe_tup (pa_cons (pv 2) (pa_cons pe_str pa_nil)))))
    pss_nil)
  (pss_one (ps_set (i := 1) nd rfl (by first | exact Or.inl rfl | exact Or.inr rfl) (pe_call (ok_last_minute T) (hr.mono (by decide)) (by rfl) T.D_last_minute.g T.D_last_minute.F.kp T.D_last_minute.b .nil pass0 (pa_cons (pv 3) pa_nil)))))))
  (pss_one (ps_ret pe_non))))), ?_⟩
    have no : motErr d = two .none (.str "motions") → ∀ t, H t = none → Q (.ref t) (upd H t (.tup [.non, .str "motions"])) := fun e t nt =>
      q _ _ (same_new nt) (.inr ⟨t, _, _, _, _, rfl, nt, upd_same, e, fun _ => .non, fun _ => .str _⟩)
    refine s_if ?_
    refine ⟨v, rfl, v, .ty "tuple", _, _, _, rfl, .ty "tuple", hd.ty, kit_ty (kit_t d), _, rfl, ?_⟩
    cases hd with
    | @tup a xs ds hs ha =>
      have hl := ha.len
      have hsa : PyData.showableAll ds = true := by simpa only [PyData.showable] using hsh
      refine iteF ⟨.ref a, rfl, a, xs, rfl, .inr hs, _, 360, rfl, rfl, _, rfl, ite2 (fun g => ?_) (fun g => ?_)⟩
      · have g' : (360 : Int) < (xs.length : Int) := of_decide_eq_true g
        exact ⟨sz2, no (by show (if 360 < ds.length then _ else _) = _; rw [if_pos (by omega)])⟩
      · have g' : ¬ (360 : Int) < (xs.length : Int) := fun z => g (decide_eq_true z)
        have e0 : motErr (.tuple ds) = motGo ds 0 (-1) := by
          show (if 360 < ds.length then _ else _) = _
          rw [if_neg (by omega)]
        rw [e0] at q
        refine ⟨1, rfl, ?_⟩
        refine ⟨.ref a, rfl, a, xs, rfl, hs, for_it walk_enumT (fun i σ H1 => (∃ b y2 y3, σ = [some (.ref a), some (.int b), y2, y3] ∧ motGo ds 0 (-1) = motGo (ds.drop i) i b) ∧ Same H H1) ⟨⟨-1, _, _, rfl, rfl⟩, Same.refl H⟩ (fun i σ H1 _ h => Same.seqT h.2 hs) ?_ ?_⟩
        · rintro i x σ H1 H2 hi ⟨⟨b, y2, y3, rfl, eg⟩, s1⟩ ⟨t, z, rfl, nt, rfl, hz⟩
          obtain ⟨e, he, hq⟩ := ha.get hz
          have she := show_get hsa he
          have s2 : Same H (upd H1 t (.tup [.int (i : Nat), z])) := s1.trans (same_new nt)
          rw [motGo_cons he] at eg
          refine ⟨t, _, rfl, .inl (.inl upd_same), rfl, _, _, rfl, _, _, rfl, rfl, ?_⟩
          refine s_if ?_
          refine ⟨z, rfl, z, e, rfl, hq.mono s2, she, fun H3 s3 => ⟨(runOf e).isSome, rfl, ?_⟩⟩
          have s4 := s2.trans s3
          cases hst : runOf e with
          | none =>
            have eg' : motGo ds 0 (-1) = two (.int i) (.str "run") := by
              rw [eg]
              simp only [motGo, hst]
            refine iteT ⟨.int i, rfl, sz2, fun u nu => ?_⟩
            exact q _ _ (s4.trans (same_new nu)) (.inr ⟨u, _, _, _, _, rfl, s4.free nu, upd_same, eg', fun _ => .int _, fun _ => .str _⟩)
          | some ab =>
            obtain ⟨on, st, c, rfl, est, _⟩ := runOf_wt (d := e) (by rw [hst]; rfl)
            have hm := run_mulW she
            rw [hst] at est
            cases est
            cases hq with
            | @tup ad ys _ hs2 ha2 =>
              cases ha2 with
              | cons h1 h2 =>
                cases h2 with
                | cons h3 h4 =>
                  cases h4 with
                  | cons h5 h6 =>
                    cases h6
                    cases h1
                    cases h3
                    cases h5
                    refine iteF ⟨.ref ad, rfl, ad, _, 0, .int on, rfl, rfl, Same.seqT s4 hs2, atI_nat (j := 0) rfl, .int b, rfl, on, b, rfl, rfl, _, rfl, ite2 (fun g => ?_) (fun g => ?_)⟩
                    · have g' : on ≤ b := of_decide_eq_true g
                      have eg' : motGo ds 0 (-1) = two (.int i) (.str "order") := by
                        rw [eg]
                        simp only [motGo, hst, if_pos g']
                      refine ⟨.int i, rfl, sz2, fun u nu => ?_⟩
                      exact q _ _ (s4.trans (same_new nu)) (.inr ⟨u, _, _, _, _, rfl, s4.free nu, upd_same, eg', fun _ => .int _, fun _ => .str _⟩)
                    · have g' : ¬ on ≤ b := fun z => g (decide_eq_true z)
                      refine ⟨.ref ad, rfl, ad, on, st, c, rfl, Same.seqT s4 hs2, hm, ⟨_, _, _, rfl, ?_⟩, s4⟩
                      rw [eg]
                      simp only [motGo, hst, if_neg g']
        · rintro σ H1 ⟨⟨b, y2, y3, rfl, eg⟩, s1⟩
          rw [hl, List.drop_length] at eg
          exact q _ _ s1 (.inl ⟨rfl, eg⟩)
    | _ => exact iteT ⟨sz2, no rfl⟩
theorem ok_log_error (T : All K mg) : FnOk P w K mg base CX0 4 T.f_log_error T.fd_log_error ["value"] (sp_err K logErr) := by
  have nd := sc_log_error.nd
  refine T.D_log_error.F.ok sc_log_error (fun vs H Q E h => ?_) (fun cdv A outer s H vs Q E hr h => ?_)
  · obtain ⟨v, d, rfl, _⟩ := h
    rfl
  · obtain ⟨v, d, rfl, hd, q⟩ := h
    refine ⟨_, (pss_cons (ps_if (PW.pt (pw_or (pt_not (pt_val (pe_callB call_isi (by rfl) T.z_isinstance (by decide +kernel) (pa_cons (pv 0) (pa_cons (pe_bltn (v := .ty "tuple") (by rfl) T.z_tuple (by decide +kernel) rfl) pa_nil))))) (pw_or1 (pt_cmpR op_gt (pe_callB call_len_seq (by rfl) T.z_len (by decide +kernel) (pa_cons (pv 0) pa_nil)) (pe_glob (v := .int 60) (by rfl) T.c_MAX_STRETCHES ⟨_, rfl⟩) (nomark _)))))
    (pss_one (ps_ret (pe_tup (pa_cons pe_non (pa_cons pe_str pa_nil)))))
    pss_nil)
  (pss_cons (ps_set (i := 1) nd rfl (by first | exact Or.inl rfl | exact Or.inr rfl) (pe_un un_neg pe_int))
  (pss_cons (ps_for PassesOwn.never rfl (pi_enumT (by rfl) T.z_enumerate (pa_cons (pv 0) pa_nil)) (pg_tup rfl (pgs_cons (pg_name (i := 2) nd rfl (by first | exact Or.inl rfl | exact Or.inr rfl)) (pgs_cons (pg_name (i := 3) nd rfl (by first | exact Or.inl rfl | exact Or.inr rfl)) pgs_nil)))
    (pss_cons (ps_if (pt_not (pt_val (pe_call (ok_is_stretch T) (hr.mono (by decide)) (by rfl) T.D_is_stretch.g T.D_is_stretch.F.kp T.D_is_stretch.b .nil pass0 (pa_cons (pv 3) pa_nil))))
    (pss_one (ps_ret (pe_tup (pa_cons (pv 2) (pa_cons pe_str pa_nil)))))
    pss_nil)
  (pss_cons (ps_asg (pv 3) (pg_tup rfl (pgs_cons (pg_name (i := 4) nd rfl (by first | exact Or.inl rfl | exact Or.inr rfl)) (pgs_cons (pg_name (i := 5) nd rfl (by first | exact Or.inl rfl | exact Or.inr rfl)) pgs_nil))))
  (pss_cons (ps_if (pt_cmpR op_le (pv 4) (pv 1) (nomark _))
    (pss_one (ps_ret (pe_tup (pa_cons (pv 2) (pa_cons pe_str pa_nil)))))
    pss_nil)
  (pss_one (ps_set (i := 1) nd rfl (by first | exact Or.inl rfl | exact Or.inr rfl) (pv 5)))))))
  (pss_one (ps_ret pe_non))))), ?_⟩
    have no : logErr d = two .none (.str "log") → ∀ t, H t = none → Q (.ref t) (upd H t (.tup [.non, .str "log"])) := fun e t nt =>
      q _ _ (same_new nt) (.inr ⟨t, _, _, _, _, rfl, nt, upd_same, e, fun _ => .non, fun _ => .str _⟩)
    refine s_if ?_
    refine ⟨v, rfl, v, .ty "tuple", _, _, _, rfl, .ty "tuple", hd.ty, kit_ty (kit_t d), _, rfl, ?_⟩
    cases hd with
    | @tup a xs ds hs ha =>
      have hl := ha.len
      refine iteF ⟨.ref a, rfl, a, xs, rfl, .inr hs, _, 60, rfl, rfl, _, rfl, ite2 (fun g => ?_) (fun g => ?_)⟩
      · have g' : (60 : Int) < (xs.length : Int) := of_decide_eq_true g
        exact ⟨sz2, no (by show (if 60 < ds.length then _ else _) = _; rw [if_pos (by omega)])⟩
      · have g' : ¬ (60 : Int) < (xs.length : Int) := fun z => g (decide_eq_true z)
        have e0 : logErr (.tuple ds) = logGo ds 0 (-1) := by
          show (if 60 < ds.length then _ else _) = _
          rw [if_neg (by omega)]
        rw [e0] at q
        refine ⟨1, rfl, ?_⟩
        refine ⟨.ref a, rfl, a, xs, rfl, hs, for_it walk_enumT (fun i σ H1 => (∃ b y2 y3 y4 y5, σ = [some (.ref a), some (.int b), y2, y3, y4, y5] ∧ logGo ds 0 (-1) = logGo (ds.drop i) i b) ∧ Same H H1) ⟨⟨-1, _, _, _, _, rfl, rfl⟩, Same.refl H⟩ (fun i σ H1 _ h => Same.seqT h.2 hs) ?_ ?_⟩
        · rintro i x σ H1 H2 hi ⟨⟨b, y2, y3, y4, y5, rfl, eg⟩, s1⟩ ⟨t, z, rfl, nt, rfl, hz⟩
          obtain ⟨e, he, hq⟩ := ha.get hz
          have s2 : Same H (upd H1 t (.tup [.int (i : Nat), z])) := s1.trans (same_new nt)
          rw [logGo_cons he] at eg
          refine ⟨t, _, rfl, .inl (.inl upd_same), rfl, _, _, rfl, _, _, rfl, rfl, ?_⟩
          refine s_if ?_
          refine ⟨z, rfl, z, e, rfl, hq.mono s2, fun H3 s3 => ⟨_, rfl, ?_⟩⟩
          have s4 := s2.trans s3
          cases hst : stOf e with
          | none =>
            have eg' : logGo ds 0 (-1) = two (.int i) (.str "stretch") := by
              rw [eg]
              simp only [logGo, hst]
            refine iteT ⟨.int i, rfl, sz2, fun u nu => ?_⟩
            exact q _ _ (s4.trans (same_new nu)) (.inr ⟨u, _, _, _, _, rfl, s4.free nu, upd_same, eg', fun _ => .int _, fun _ => .str _⟩)
          | some ab =>
            obtain ⟨on, off, rfl, est, _⟩ := stOf_wt (d := e) (by rw [hst]; rfl)
            rw [hst] at est
            cases est
            cases hq with
            | @tup ad ys _ hs2 ha2 =>
              cases ha2 with
              | cons h1 h2 =>
                cases h2 with
                | cons h3 h4 =>
                  cases h4
                  cases h1
                  cases h3
                  refine iteF ⟨.ref ad, rfl, ad, _, rfl, Same.seqT s4 hs2, rfl, _, _, rfl, _, _, rfl, rfl, ?_⟩
                  refine ⟨.int on, rfl, .int b, rfl, on, b, rfl, rfl, _, rfl, ite2 (fun g => ?_) (fun g => ?_)⟩
                  · have g' : on ≤ b := of_decide_eq_true g
                    have eg' : logGo ds 0 (-1) = two (.int i) (.str "order") := by
                      rw [eg]
                      simp only [logGo, hst, if_pos g']
                    refine ⟨.int i, rfl, sz2, fun u nu => ?_⟩
                    exact q _ _ (s4.trans (same_new nu)) (.inr ⟨u, _, _, _, _, rfl, s4.free nu, upd_same, eg', fun _ => .int _, fun _ => .str _⟩)
                  · have g' : ¬ on ≤ b := fun z => g (decide_eq_true z)
                    refine ⟨.int off, rfl, ⟨off, _, _, _, _, rfl, ?_⟩, s4⟩
                    rw [eg]
                    simp only [logGo, hst, if_neg g']
        · rintro σ H1 ⟨⟨b, y2, y3, y4, y5, rfl, eg⟩, s1⟩
          rw [hl, List.drop_length] at eg
          exact q _ _ s1 (.inl ⟨rfl, eg⟩)
    | _ => exact iteT ⟨sz2, no rfl⟩
theorem ok_number_of (T : All K mg) : FnOk P w K mg base CX0 1 T.f_number_of T.fd_number_of ["text"] (sp_numG K) := by
  have nd := sc_number_of.nd
  refine T.D_number_of.F.ok sc_number_of (fun vs H Q E h => ?_) (fun cdv A outer s H vs Q E hr h => ?_)
  · obtain ⟨N, x, _, hd, _⟩ := h
    exact hd.len
  · obtain ⟨N, x, O, hd, hl, qq⟩ := h
    have hl : x.length ≤ 5000 := hl
    obtain ⟨v1, _, rfl, hd1, hd⟩ := dqs_cons hd
    obtain rfl := dqs_nil hd
    obtain rfl := dq_str hd1
    have no : numO x = none → Q .non H := fun e => qq _ H (Same.refl _) (by show Dq K _ _ (optD (numO x)); rw [e]; exact .non)
    refine ⟨_, (pss_cons (ps_if (PW.pt (pw_or (pt_cmpR op_gt (pe_callB call_len_str (by rfl) T.z_len (by decide +kernel) (pa_cons (pv 0) pa_nil)) (pe_glob (v := .int 20) (by rfl) T.c_DIGITS ⟨_, rfl⟩) (nomark _)) (pw_or (pt_not (pt_val (pe_m0 PySem.F.slot_str_isascii PySem.F.type_str_isascii mt_isascii (pv 0)))) (pw_or1 (pt_not (pt_val (pe_m0 PySem.F.slot_str_isdigit PySem.F.type_str_isdigit mt_isdigit (pv 0))))))))
    (pss_one (ps_ret pe_non))
    pss_nil)
  (pss_one (ps_ret (pe_ifExp (PW.pt (pw_and (pt_cmpR op_eq (pe_ix ix_str (pv 0) pe_int (fun _ _ => rfl)) pe_str (nomark _)) (pw_and1 (pt_cmpR op_ne (pv 0) pe_str (nomark _))))) pe_non (pe_callTy call_int_str (by rfl) T.z_int (by decide +kernel) (pa_cons (pv 0) pa_nil)))))), ?_⟩
    refine s_if ?_
    refine ⟨.str x, rfl, x, rfl, szl (by omega), _, _, rfl, rfl, _, rfl, ?_⟩
    by_cases g1 : 20 < x.length
    · rw [decide_eq_true (show (20 : Int) < ((x.length : Nat) : Int) by omega)]
      exact iteT (iteT (no (numO_long g1)))
    rw [decide_eq_false (show ¬ (20 : Int) < ((x.length : Nat) : Int) by omega)]
    refine iteF ⟨.str x, rfl, ⟨_, rfl⟩, _, rfl, rfl, trivial, _, rfl, ?_⟩
    cases g2 : Txt.isascii x with
    | false =>
      refine iteT (iteT (no (numO_nodig ?_)))
      cases e : digL (TL.tl x) with
      | false => rfl
      | true => rw [dig_ascii e] at g2; cases g2
    | true =>
      refine iteF ⟨.str x, rfl, ⟨_, rfl⟩, _, rfl, rfl, trivial, _, rfl, ?_⟩
      cases g3 : Txt.isdigit x with
      | false =>
        refine iteT (no ?_)
        by_cases e : TL.tl x = []
        · exact numO_nil e
        · refine numO_nodig ?_
          cases e2 : digL (TL.tl x) with
          | false => rfl
          | true => rw [dig_isdigit e2 e] at g3; cases g3
      | true =>
        refine iteF ?_
        obtain ⟨g4, g5⟩ := dig_back g2 g3
        have ok := numO_ok g1 g5 g4
        obtain ⟨c, r, hc⟩ : ∃ c r, TL.tl x = c :: r := by
          cases e : TL.tl x with
          | nil => exact absurd e g5
          | cons c r => exact ⟨c, r, rfl⟩
        have at0 : x.cps.toList[0]? = some c := by
          rw [show x.cps.toList = c :: r from hc]
          rfl
        refine ⟨.str x, rfl, x, 0, c, rfl, rfl, szl (by omega), atI_nat (j := 0) at0, rfl, _, rfl, ?_⟩
        have fin2 : ∀ n, numO x = some n → tCB (fun xs H Q => ∃ a n, xs = [V.str a] ∧ PySem.intText? a = some n ∧ a.length ≤ 640 ∧ Q (V.int n) H) (tCons (tVar 0) tNil) (L2.start n_number_of [V.str x]) H Q := fun n e => by
          obtain ⟨b0, b1, b2, b3, b4, b5⟩ := numO_val e
          exact ⟨.str x, rfl, x, n, rfl, b2, by omega, qq _ H (Same.refl _) (by show Dq K _ _ (optD (numO x)); rw [e]; exact .int n)⟩
        rw [hc] at ok
        by_cases e : c = 48
        · rw [show decide (V.str ⟨#[c]⟩ = V.str (Str.ofString "0")) = true from by rw [e]; exact decide_eq_true rfl]
          refine iteT ⟨.str x, rfl, rfl, _, rfl, ?_⟩
          by_cases e2 : x = "0"
          · rw [show (!decide (V.str x = V.str (Str.ofString "0"))) = false from by rw [e2, decide_eq_true rfl]; rfl]
            rw [if_neg (fun z => z.2 e2)] at ok
            exact iteF (fin2 _ ok)
          · rw [show (!decide (V.str x = V.str (Str.ofString "0"))) = true from by rw [decide_eq_false fun z => e2 (V.str.inj z)]; rfl]
            rw [if_pos ⟨by rw [e]; rfl, e2⟩] at ok
            exact iteT (no ok)
        · rw [show decide (V.str ⟨#[c]⟩ = V.str (Str.ofString "0")) = false from decide_eq_false fun z => by
            have z1 : (⟨#[c]⟩ : Str) = Str.ofString "0" := V.str.inj z
            have z2 := congrArg TL.tl z1
            have z3 : TL.tl (Str.ofString "0") = [48] := by decide +kernel
            rw [z3] at z2
            exact e (List.cons.inj z2).1]
          rw [if_neg (fun z => e (Option.some.inj z.1))] at ok
          exact iteF (iteF (fin2 _ ok))
theorem ok_lamp_of (T : All K mg) : FnOk P w K mg base CX0 4 T.f_lamp_of T.fd_lamp_of ["text"] (sp_itemG K 0) := by
  have nd := sc_lamp_of.nd
  refine T.D_lamp_of.F.ok sc_lamp_of (fun vs H Q E h => ?_) (fun cdv A outer s H vs Q E hr h => ?_)
  · obtain ⟨N, x, _, hd, _⟩ := h
    exact hd.len
  · obtain ⟨N, x, O, hd, hl, qq⟩ := h
    have hl : x.length ≤ 5000 := hl
    obtain ⟨v1, _, rfl, hd1, hd⟩ := dqs_cons hd
    obtain rfl := dqs_nil hd
    obtain rfl := dq_str hd1
    obtain ⟨p1, p2, p3⟩ := part_len tl_colon (by decide +kernel) x
    have hF : itemP 0 x = if lampB (.tuple [.str (Txt.partition x ":").1, optD (numO (Txt.partition x ":").2.2)]) then .tuple [.str (Txt.partition x ":").1, optD (numO (Txt.partition x ":").2.2)] else .none := rfl
    refine ⟨_, (pss_cons (ps_asg (pe_partition (pv 0) pe_str) (pg_tup rfl (pgs_cons (pg_name (i := 1) nd rfl (by first | exact Or.inl rfl | exact Or.inr rfl)) (pgs_cons (pg_name (i := 2) nd rfl (by first | exact Or.inl rfl | exact Or.inr rfl)) (pgs_cons (pg_name (i := 3) nd rfl (by first | exact Or.inl rfl | exact Or.inr rfl)) pgs_nil)))))
  (pss_cons (ps_set (i := 4) nd rfl (by first | exact Or.inl rfl | exact Or.inr rfl) (pe_tup (pa_cons (pv 1) (pa_cons (pe_call (ok_number_of T) (hr.mono (by decide)) (by rfl) T.D_number_of.g T.D_number_of.F.kp T.D_number_of.b .nil pass0 (pa_cons (pv 3) pa_nil)) pa_nil))))
  (pss_one (ps_ret (pe_ifExp (pt_val (pe_call (ok_is_lamp T) (hr.mono (by decide)) (by rfl) T.D_is_lamp.g T.D_is_lamp.F.kp T.D_is_lamp.b .nil pass0 (pa_cons (pv 4) pa_nil))) (pv 4) pe_non))))), ?_⟩
    refine ⟨.str _, rfl, ⟨_, rfl⟩, x, (":" : Str), rfl, rfl, by decide +kernel, szl (by omega), fun t nt => ?_⟩
    generalize Txt.partition x ":" = q at p1 p2 p3 hF nt ⊢
    obtain ⟨k, m, st⟩ := q
    have p2 : st.length ≤ x.length := p2
    have s1 := same_new (o := .tup [.str k, .str m, .str st]) nt
    refine ⟨t, _, rfl, .inl (.inl upd_same), rfl, _, _, rfl, _, _, rfl, _, _, rfl, rfl, ?_⟩
    dsimp only
    refine s_set ⟨.str k, rfl, .str st, rfl, N, st, O.keep s1, .cons (.str _) .nil, (by show st.length ≤ 5000; omega), fun r H2 s2 d2 => ?_⟩
    refine ⟨sz2, fun u nu => ?_⟩
    have s12 := s1.trans s2
    have s3 := s12.trans (same_new (o := .tup [.str k, r]) nu)
    have du : Dq K (cut N (upd H2 u (.tup [.str k, r]))) (.ref u) (.tuple [.str k, optD (numO st)]) := .tup (.inl (.inl (cut_new (O.keep s12) nu))) (.cons (.str _) (.cons (d2.mono (cut_mono (same_new nu))) .nil))
    refine ⟨.ref u, rfl, .ref u, .tuple [.str k, optD (numO st)], rfl, du.mono cut_same, fun H4 s4 => ⟨_, rfl, ?_⟩⟩
    have hF : itemP 0 x = if lampB (.tuple [.str k, optD (numO st)]) then .tuple [.str k, optD (numO st)] else .none := hF
    cases g : lampB (.tuple [.str k, optD (numO st)]) with
    | true =>
      rw [g] at hF
      exact iteT ⟨.ref u, rfl, qq _ _ (s3.trans s4) (by rw [hF]; exact du.mono (cut_mono s4))⟩
    | false =>
      rw [g] at hF
      exact iteF (qq _ _ (s3.trans s4) (by rw [hF]; exact .non))
theorem ok_stretch_of (T : All K mg) : FnOk P w K mg base CX0 2 T.f_stretch_of T.fd_stretch_of ["text"] (sp_itemG K 1) := by
  have nd := sc_stretch_of.nd
  refine T.D_stretch_of.F.ok sc_stretch_of (fun vs H Q E h => ?_) (fun cdv A outer s H vs Q E hr h => ?_)
  · obtain ⟨N, x, _, hd, _⟩ := h
    exact hd.len
  · obtain ⟨N, x, O, hd, hl, qq⟩ := h
    have hl : x.length ≤ 5000 := hl
    obtain ⟨v1, _, rfl, hd1, hd⟩ := dqs_cons hd
    obtain rfl := dqs_nil hd
    obtain rfl := dq_str hd1
    obtain ⟨p1, p2, p3⟩ := part_len tl_dash (by decide +kernel) x
    have hF : itemP 1 x = .tuple [optD (numO (Txt.partition x "-").1), optD (numO (Txt.partition x "-").2.2)] := rfl
    refine ⟨_, (pss_cons (ps_asg (pe_partition (pv 0) pe_str) (pg_tup rfl (pgs_cons (pg_name (i := 1) nd rfl (by first | exact Or.inl rfl | exact Or.inr rfl)) (pgs_cons (pg_name (i := 2) nd rfl (by first | exact Or.inl rfl | exact Or.inr rfl)) (pgs_cons (pg_name (i := 3) nd rfl (by first | exact Or.inl rfl | exact Or.inr rfl)) pgs_nil)))))
  (pss_one (ps_ret (pe_tup (pa_cons (pe_call (ok_number_of T) (hr.mono (by decide)) (by rfl) T.D_number_of.g T.D_number_of.F.kp T.D_number_of.b .nil pass0 (pa_cons (pv 1) pa_nil)) (pa_cons (pe_call (ok_number_of T) (hr.mono (by decide)) (by rfl) T.D_number_of.g T.D_number_of.F.kp T.D_number_of.b .nil pass0 (pa_cons (pv 3) pa_nil)) pa_nil)))))), ?_⟩
    refine ⟨.str _, rfl, ⟨_, rfl⟩, x, ("-" : Str), rfl, rfl, by decide +kernel, szl (by omega), fun t nt => ?_⟩
    generalize Txt.partition x "-" = q at p1 p2 p3 hF nt ⊢
    obtain ⟨k, m, st⟩ := q
    have p1 : k.length ≤ x.length := p1
    have p2 : st.length ≤ x.length := p2
    have s1 := same_new (o := .tup [.str k, .str m, .str st]) nt
    refine ⟨t, _, rfl, .inl (.inl upd_same), rfl, _, _, rfl, _, _, rfl, _, _, rfl, rfl, ?_⟩
    refine ⟨.str k, rfl, N, k, O.keep s1, .cons (.str _) .nil, (by show k.length ≤ 5000; omega), fun r H2 s2 d2 => ?_⟩
    refine ⟨.str st, rfl, N, st, O.keep (s1.trans s2), .cons (.str _) .nil, (by show st.length ≤ 5000; omega), fun r3 H3 s3 d3 => ?_⟩
    refine ⟨sz2, fun u nu => ?_⟩
    have s4 := (s1.trans s2).trans s3
    refine qq _ _ (s4.trans (same_new nu)) ?_
    rw [hF]
    exact .tup (.inl (.inl (cut_new (O.keep s4) nu))) (.cons ((d2.mono (cut_mono s3)).mono (cut_mono (same_new nu))) (.cons (d3.mono (cut_mono (same_new nu))) .nil))
theorem ok_run_of (T : All K mg) : FnOk P w K mg base CX0 2 T.f_run_of T.fd_run_of ["text"] (sp_itemG K 2) := by
  have nd := sc_run_of.nd
  refine T.D_run_of.F.ok sc_run_of (fun vs H Q E h => ?_) (fun cdv A outer s H vs Q E hr h => ?_)
  · obtain ⟨N, x, _, hd, _⟩ := h
    exact hd.len
  · obtain ⟨N, x, O, hd, hl, qq⟩ := h
    have hl : x.length ≤ 5000 := hl
    obtain ⟨v1, _, rfl, hd1, hd⟩ := dqs_cons hd
    obtain rfl := dqs_nil hd
    obtain rfl := dq_str hd1
    obtain ⟨p1, p2, p3⟩ := part_len tl_plus (by decide +kernel) x
    have hF : itemP 2 x = runW x := rfl
    unfold runW at hF
    refine ⟨_, (pss_cons (ps_asg (pe_partition (pv 0) pe_str) (pg_tup rfl (pgs_cons (pg_name (i := 1) nd rfl (by first | exact Or.inl rfl | exact Or.inr rfl)) (pgs_cons (pg_name (i := 2) nd rfl (by first | exact Or.inl rfl | exact Or.inr rfl)) (pgs_cons (pg_name (i := 3) nd rfl (by first | exact Or.inl rfl | exact Or.inr rfl)) pgs_nil)))))
  (pss_cons (ps_if (pt_cmpR op_eq (pv 2) pe_str (nomark _))
    (pss_one (ps_ret (pe_tup (pa_cons (pe_call (ok_number_of T) (hr.mono (by decide)) (by rfl) T.D_number_of.g T.D_number_of.F.kp T.D_number_of.b .nil pass0 (pa_cons (pv 1) pa_nil)) (pa_cons pe_int (pa_cons pe_int pa_nil))))))
    pss_nil)
  (pss_cons (ps_asg (pe_partition (pv 3) pe_str) (pg_tup rfl (pgs_cons (pg_name (i := 4) nd rfl (by first | exact Or.inl rfl | exact Or.inr rfl)) (pgs_cons (pg_name (i := 5) nd rfl (by first | exact Or.inl rfl | exact Or.inr rfl)) (pgs_cons (pg_name (i := 6) nd rfl (by first | exact Or.inl rfl | exact Or.inr rfl)) pgs_nil)))))
  (pss_cons (ps_set (i := 7) nd rfl (by first | exact Or.inl rfl | exact Or.inr rfl) (pe_tup (pa_cons (pe_call (ok_number_of T) (hr.mono (by decide)) (by rfl) T.D_number_of.g T.D_number_of.F.kp T.D_number_of.b .nil pass0 (pa_cons (pv 1) pa_nil)) (pa_cons (pe_call (ok_number_of T) (hr.mono (by decide)) (by rfl) T.D_number_of.g T.D_number_of.F.kp T.D_number_of.b .nil pass0 (pa_cons (pv 4) pa_nil)) (pa_cons (pe_call (ok_number_of T) (hr.mono (by decide)) (by rfl) T.D_number_of.g T.D_number_of.F.kp T.D_number_of.b .nil pass0 (pa_cons (pv 6) pa_nil)) pa_nil)))))
  (pss_one (ps_ret (pe_ifExp (pt_cmpR op_eq (pe_ix ix_tup (pv 7) pe_int (fun _ _ => rfl)) pe_int (nomark _)) pe_non (pv 7)))))))), ?_⟩
    refine ⟨.str _, rfl, ⟨_, rfl⟩, x, ("+" : Str), rfl, rfl, by decide +kernel, szl (by omega), fun t nt => ?_⟩
    generalize Txt.partition x "+" = q at p1 p2 p3 hF nt ⊢
    obtain ⟨f, pl, rest⟩ := q
    have p1 : f.length ≤ x.length := p1
    have p2 : rest.length ≤ x.length := p2
    have s1 := same_new (o := .tup [.str f, .str pl, .str rest]) nt
    refine ⟨t, _, rfl, .inl (.inl upd_same), rfl, _, _, rfl, _, _, rfl, _, _, rfl, rfl, ?_⟩
    dsimp only at hF ⊢
    refine s_if ⟨.str pl, rfl, rfl, _, rfl, ?_⟩
    by_cases g : pl = Str.empty
    · rw [if_pos g] at hF
      rw [decide_eq_true (show V.str pl = V.str (Str.ofString "") by rw [g]; rfl)]
      refine iteT ?_
      refine ⟨.str f, rfl, N, f, O.keep s1, .cons (.str _) .nil, (by show f.length ≤ 5000; omega), fun r H3 s3 d3 => ?_⟩
      have s3 := s1.trans s3
      refine ⟨Nat.le_of_lt (small1000 (show 3 ≤ 1000 by decide)), fun u nu => ?_⟩
      refine qq _ _ (s3.trans (same_new nu)) ?_
      rw [hF]
      exact .tup (.inl (.inl (cut_new (O.keep s3) nu))) (.cons (d3.mono (cut_mono (same_new nu))) (.cons (.int _) (.cons (.int _) .nil)))
    · rw [if_neg g] at hF
      rw [decide_eq_false (show ¬ V.str pl = V.str (Str.ofString "") from fun z => g (V.str.inj z))]
      obtain ⟨q1, q2, q3⟩ := part_len tl_x (by decide +kernel) rest
      refine iteF ?_
      refine ⟨.str rest, rfl, ⟨_, rfl⟩, rest, ("x" : Str), rfl, rfl, by decide +kernel, szl (by omega), fun t2 nt2 => ?_⟩
      generalize Txt.partition rest "x" = z at q1 q2 q3 hF nt2 ⊢
      obtain ⟨st, m, c⟩ := z
      have q1 : st.length ≤ rest.length := q1
      have q2 : c.length ≤ rest.length := q2
      have s2 := s1.trans (same_new (o := .tup [.str st, .str m, .str c]) nt2)
      refine ⟨t2, _, rfl, .inl (.inl upd_same), rfl, _, _, rfl, _, _, rfl, _, _, rfl, rfl, ?_⟩
      dsimp only at hF ⊢
      refine s_set ⟨.str f, rfl, N, f, O.keep s2, .cons (.str _) .nil, (by show f.length ≤ 5000; omega), fun r3 H3 s3 d3 => ?_⟩
      have s3' := s2.trans s3
      refine ⟨.str st, rfl, N, st, O.keep s3', .cons (.str _) .nil, (by show st.length ≤ 5000; omega), fun r4 H4 s4 d4 => ?_⟩
      have s4' := s3'.trans s4
      refine ⟨.str c, rfl, N, c, O.keep s4', .cons (.str _) .nil, (by show c.length ≤ 5000; omega), fun r5 H5 s5 d5 => ?_⟩
      have s5' := s4'.trans s5
      refine ⟨Nat.le_of_lt (small1000 (show 3 ≤ 1000 by decide)), fun u nu => ?_⟩
      have du : Dq K (cut N (upd H5 u (.tup [r3, r4, r5]))) (.ref u) (.tuple [optD (numO f), optD (numO st), optD (numO c)]) := .tup (.inl (.inl (cut_new (O.keep s5') nu))) (.cons ((d3.mono (cut_mono (s4.trans s5))).mono (cut_mono (same_new nu))) (.cons ((d4.mono (cut_mono s5)).mono (cut_mono (same_new nu))) (.cons (d5.mono (cut_mono (same_new nu))) .nil)))
      have e5 := dq_opt d5
      refine ⟨.ref u, rfl, u, _, 2, r5, rfl, rfl, .inl (.inl upd_same), atI_nat (j := 2) rfl, ?_⟩
      by_cases g2 : numO c = some 1
      · rw [if_pos g2] at hF
        rw [g2] at e5
        subst e5
        refine ⟨rfl, _, rfl, ?_⟩
        exact iteT (qq _ _ (s5'.trans (same_new nu)) (by rw [hF]; exact .non))
      · rw [if_neg g2] at hF
        have ne : decide (r5 = V.int 1) = false := decide_eq_false fun z => by
          rw [e5] at z
          cases h : numO c with
          | none => rw [h] at z; cases z
          | some n => rw [h] at z; exact g2 (by rw [h, V.int.inj z])
        refine ⟨by rw [e5]; cases numO c <;> rfl, _, rfl, ?_⟩
        rw [ne]
        exact iteF ⟨.ref u, rfl, qq _ _ (s5'.trans (same_new nu)) (by rw [hF]; exact du)⟩
theorem ok_lamps_error (T : All K mg) : FnOk P w K mg base CX0 4 T.f_lamps_error T.fd_lamps_error ["lamps"] (sp_errG K 0 6) := by
  have nd := sc_lamps_error.nd
  refine T.D_lamps_error.F.ok sc_lamps_error (fun vs H Q E h => ?_) (fun cdv A outer s H vs Q E hr h => ?_)
  · obtain ⟨N, x, _, hd, _⟩ := h
    exact hd.len
  · obtain ⟨N, ds, O, hd, hl, hs, q0, q1⟩ := h
    obtain ⟨v1, _, rfl, hd1, hd⟩ := dqs_cons hd
    obtain rfl := dqs_nil hd
    obtain ⟨a, xs, rfl, g, hx⟩ := dq_tup hd1
    have gt : SqT K H a xs := Same.seqT cut_same g
    have ll := hx.len
    refine ⟨_, (pss_cons (ps_for PassesOwn.never rfl (pi_enumT (by rfl) T.z_enumerate (pa_cons (pv 0) pa_nil)) (pg_tup rfl (pgs_cons (pg_name (i := 1) nd rfl (by first | exact Or.inl rfl | exact Or.inr rfl)) (pgs_cons (pg_name (i := 2) nd rfl (by first | exact Or.inl rfl | exact Or.inr rfl)) pgs_nil)))
    (pss_one (ps_if (pt_not (pt_val (pe_call (ok_is_lamp T) (hr.mono (by decide)) (by rfl) T.D_is_lamp.g T.D_is_lamp.F.kp T.D_is_lamp.b .nil pass0 (pa_cons (pv 2) pa_nil))))
    (pss_one (ps_ret (pe_tup (pa_cons (pv 1) (pa_cons pe_str pa_nil)))))
    pss_nil)))
  (pss_one (ps_ret pe_non))), ?_⟩
    refine ⟨.ref a, rfl, a, xs, rfl, gt, for_it walk_enumT (fun i σ H1 => (∃ y1 y2, σ = [some (.ref a), y1, y2]) ∧ Same H H1 ∧ ∃ b, errIdx 0 ds 0 (-1) = errIdx 0 (ds.drop i) i b) ⟨⟨_, _, rfl⟩, Same.refl H, -1, rfl⟩ (fun i σ H1 _ h => Same.seqT h.2.1 gt) ?_ ?_⟩
    · rintro i x σ H1 H2 hi ⟨⟨y1, y2, rfl⟩, s1, b, eg⟩ ⟨t, z, rfl, nt, rfl, hz⟩
      obtain ⟨l, hl', hq⟩ := hx.get hz
      have s2 : Same H (upd H1 t (.tup [.int (i : Nat), z])) := s1.trans (same_new nt)
      have ed : ds.drop i = l :: ds.drop (i + 1) := drop_get hl'
      rw [ed] at eg
      simp only [errIdx, okO] at eg
      refine ⟨t, _, rfl, .inl (.inl upd_same), rfl, _, _, rfl, _, _, rfl, rfl, ?_⟩
      refine s_if1 ?_
      refine ⟨z, rfl, z, l, rfl, (hq.mono cut_same).mono s2, fun H3 s3 => ⟨_, rfl, ?_⟩⟩
      cases gl : lampB l with
      | true =>
        rw [gl] at eg
        exact iteF ⟨⟨_, _, rfl⟩, s2.trans s3, 0, by rw [eg]; simp⟩
      | false =>
        rw [gl] at eg
        exact iteT ⟨.int i, rfl, sz2, fun u nu => q1 i eg u _ _ ((s2.trans s3).trans (same_new nu)) upd_same⟩
    · rintro σ H1 ⟨⟨y1, y2, rfl⟩, s1, b, eg⟩
      rw [ll, List.drop_length] at eg
      exact q0 eg _ s1
theorem ok_parsed {way : Nat} {fi fe : Addr} {fdi fde : FuncData} {psi pse : List Str} {ki ke : Nat} (T : All K mg)
    (Fi : FnOk P w K mg base CX0 ki fi fdi psi (sp_itemG K way)) (Ki : PySem.W.keepIn K (.ref fi) = true) (Bi : Binds K fdi psi []) (Fe : FnOk P w K mg base CX0 ke fe fde pse (sp_errG K way (limOf way))) (Ke : PySem.W.keepIn K (.ref fe) = true) (Be : Binds K fde pse [])
    (hki : ki ≤ 4) (hke : ke ≤ 4) : FnOk P w K mg base (L2.CX P w) 5 T.f_parsed T.fd_parsed ["value", "item_of", "error_of", "limit"] (sp_pG K T.C_BadText fi fe way) := by
  have nd := sc_parsed.nd
  refine T.D_parsed.F.okX sc_parsed (fun vs H Q E h => ?_) (fun cdv A outer s H vs Q E hr h => ?_)
  · obtain ⟨N, v, d, rfl, _⟩ := h
    rfl
  · obtain ⟨N, v, d, rfl, O, hd, hl, q1, q2⟩ := h
    have l360 := limOf_le way
    refine ⟨_, (pss_cons (ps_if (pt_not (pt_val (pe_callB call_isi (by rfl) T.z_isinstance (by decide +kernel) (pa_cons (pv 0) (pa_cons (pe_bltn (v := .ty "str") (by rfl) T.z_str (by decide +kernel) rfl) pa_nil)))))
    (pss_one (ps_raise rfl (takes_of rfl rfl rfl rfl) (pmk_oex T.X_BadText.ox T.X_BadText.iC T.X_BadText.tI (ok_X_BadText T) (hr.mono (by decide)) T.X_BadText.b .nil pass0 (by rfl) T.X_BadText.g (pa_cons pe_non pa_nil))))
    pss_nil)
  (pss_cons (ps_if (pt_cmpR op_eq (pv 0) (pe_glob (v := .str "none") (by rfl) T.c_NONE ⟨_, rfl⟩) (nomark _))
    (pss_one (ps_ret (pe_tup pa_nil)))
    pss_nil)
  (pss_cons (ps_set (i := 5) nd rfl (by first | exact Or.inl rfl | exact Or.inr rfl) (pe_callTy call_tuple_of (by rfl) T.z_tuple (by decide +kernel) (pa_cons (pe_lc (own := [("word", 4)]) rfl nd (pi_list (pe_split (pv 0) pe_str)) (blkOk_by (own := [("word", 4)]) (N := n_parsed) (sc := defScope s_parsed) (by decide +kernel)) (fun _ _ _ _ _ => (pg_name (i := 4) nd rfl (by first | exact Or.inl rfl | exact Or.inr rfl))) (fun _ _ _ _ _ => pts_nil) (fun _ _ _ _ _ => (pe_callV (i := 1) Fi (hr.mono (by omega)) rfl (by first | exact .inl rfl | exact .inr (.inl rfl)) Ki Bi (pa_cons (pv 4) pa_nil)))) pa_nil)))
  (pss_cons (ps_set (i := 6) nd rfl (by first | exact Or.inl rfl | exact Or.inr rfl) (pe_callV (i := 2) Fe (hr.mono (by omega)) rfl (by first | exact .inl rfl | exact .inr (.inl rfl)) Ke Be (pa_cons (pe_slice sl_tupA (pv 5) po_none (po_some (pv 3))) pa_nil)))
  (pss_cons (ps_if (pt_cmpR op_notN (pv 6) pe_non (nomark _))
    (pss_cons (ps_asg (pv 6) (pg_tup rfl (pgs_cons (pg_name (i := 7) nd rfl (by first | exact Or.inl rfl | exact Or.inr rfl)) (pgs_cons (pg_name (i := 8) nd rfl (by first | exact Or.inl rfl | exact Or.inr rfl)) pgs_nil))))
  (pss_one (ps_raise rfl (takes_of rfl rfl rfl rfl) (pmk_oex T.X_BadText.ox T.X_BadText.iC T.X_BadText.tI (ok_X_BadText T) (hr.mono (by decide)) T.X_BadText.b .nil pass0 (by rfl) T.X_BadText.g (pa_cons (pv 7) pa_nil)))))
    pss_nil)
  (pss_cons (ps_if (pt_cmpR op_gt (pe_callB call_len_seq (by rfl) T.z_len (by decide +kernel) (pa_cons (pv 5) pa_nil)) (pv 3) (nomark _))
    (pss_one (ps_raise rfl (takes_of rfl rfl rfl rfl) (pmk_oex T.X_BadText.ox T.X_BadText.iC T.X_BadText.tI (ok_X_BadText T) (hr.mono (by decide)) T.X_BadText.b .nil pass0 (by rfl) T.X_BadText.g (pa_cons (pv 3) pa_nil))))
    pss_nil)
  (pss_one (ps_ret (pv 5))))))))), ?_⟩
    refine s_if ?_
    refine ⟨v, rfl, v, .ty "str", _, _, _, rfl, .ty "str", (hd.mono cut_same).ty, kit_ty (kit_s d), _, rfl, ?_⟩
    cases hi : isS d with
    | false =>
      exact iteT (mkO_run T.X_BadText.ox T.X_BadText.no fun dd H' s1 nd hd => q2 _ (idxP_no hi) dd _ H' s1 nd hd .non)
    | true =>
      refine iteF ?_
      obtain ⟨x, rfl⟩ : ∃ x, d = .str x := by
        cases d <;> first | exact ⟨_, rfl⟩ | cases hi
      obtain rfl := dq_str hd
      obtain ⟨hx, hn, _⟩ := hl x rfl
      refine ⟨.str x, rfl, rfl, _, rfl, ?_⟩
      by_cases e : x = "none"
      · subst e
        exact iteT ⟨Nat.zero_le _, fun t nt => q1 rfl _ _ (same_new nt) (.tup (.inl (.inl (cut_new O nt))) .nil)⟩
      rw [show decide (V.str x = V.str (Str.ofString "none")) = false from decide_eq_false fun z => e (V.str.inj z)]
      rw [idxP_str e, valP_str e] at q1
      simp only [idxP_str e] at q2
      refine iteF ⟨.str x, rfl, ⟨_, rfl⟩, x, (" " : Str), rfl, rfl, by decide +kernel, ?_, fun B nB => ?_⟩
      · rw [PySem.sizeLine_eq]
        omega
      have sB := same_new (o := .lst ((Txt.split x " ").map V.str)) nB
      refine ⟨B, rfl, ⟨_, .inl (.inl upd_same)⟩, fun D nD => ?_⟩
      refine lc_map (K := K) (D := PyData.str) (F := itemP way) (as := Txt.split x " ") (N := N) (walk_list (K := K) (a := B) (xs := (Txt.split x " ").map V.str)) (fun H' s => .inl (.inl (s _ _ upd_same))) nD (O.keep sB) strs_dqs hn ?_ ?_
      · intro G u y Q' hy OG sG sH hu q'
        exact ⟨rfl, u, rfl, _, y, OG, .cons hu .nil, (by have := split_sp y hy; show y.length ≤ 5000; omega), q'⟩
      · intro H' acc s e2 OH' hacc
        refine ⟨D, acc, rfl, .inl ⟨.inl (.inl e2), fun t nt => ?_⟩⟩
        have s1 := s.trans (same_new (o := .tup acc) nt)
        have s2 := sB.trans s1
        have dt : Dqs K (cut N (upd H' t (.tup acc))) acc (itemsP way x) := hacc.mono (np_le.trans (cut_mono (same_new nt)))
        have gt : SqT K (cut N (upd H' t (.tup acc))) t acc := .inl (.inl (cut_new (O.keep (sB.trans s)) nt))
        have gH : upd H' t (.tup acc) t = some (.tup acc) := upd_same
        generalize upd H' t (.tup acc) = H2 at s1 s2 dt gt gH ⊢
        have la := dt.len
        dsimp only
        refine s_set ?_
        refine te_of (fun v G => Same H2 G ∧ ((errIdx way ((itemsP way x).take (limOf way)) 0 (-1) = none ∧ v = .non) ∨ ∃ i t y, errIdx way ((itemsP way x).take (limOf way)) 0 (-1) = some i ∧ v = .ref t ∧ G t = some (.tup [.int (i : Nat), y]))) ?rest ?ways
        case ways =>
          intro Q' hQ
          have fin : ∀ (b : Addr) (H5 : Hp), Same H2 H5 → Dq K (cut N H5) (.ref b) (.tuple ((itemsP way x).take (limOf way))) → sp_errG K way (limOf way) [.ref b] H5 Q' E0 := fun b H5 s5 d5 =>
            ⟨N, _, O.keep (s2.trans s5), .cons d5 .nil, by rw [List.length_take]; omega, fun d hd => items_show way x d (List.mem_of_mem_take hd), fun z H6 s6 => hQ _ _ ⟨s5.trans s6, .inl ⟨z, rfl⟩⟩, fun i z t' y H6 s6 g6 => hQ _ _ ⟨s5.trans s6, .inr ⟨i, t', y, z, rfl, g6⟩⟩⟩
          refine ⟨rfl, .ref t, rfl, .int (limOf way : Nat), rfl, _, rfl, t, acc, rfl, .inl (.inl gH), ?_⟩
          refine ⟨fun z => fin t H2 (Same.refl _) ?_, fun z b nb => fin b _ (same_new nb) ?_⟩
          · have z2 : min (limOf way) acc.length = acc.length := by
              have z2 := z.2
              rw [show HT.sIx acc.length acc.length (some ((limOf way : Nat) : Int)) = min (limOf way) acc.length from by
                show (if ((limOf way : Nat) : Int) < 0 then (((limOf way : Nat) : Int) + (acc.length : Int)).toNat else min ((limOf way : Nat) : Int).toNat acc.length) = _
                rw [if_neg (by omega), Int.toNat_natCast]] at z2
              exact z2
            rw [List.take_of_length_le (by omega)]
            exact .tup gt dt
          · rw [cutV_take]
            exact .tup (.inl (.inl (cut_new (O.keep s2) nb))) ((dt.take _).mono (cut_mono (same_new nb)))
        case rest =>
          rintro v G ⟨s5, ⟨z, rfl⟩ | ⟨i, t', y, z, rfl, g'⟩⟩
          · refine s_if ⟨.non, rfl, rfl, _, rfl, ?_⟩
            rw [show (!decide (V.non = V.non)) = false from by rw [decide_eq_true rfl]; rfl]
            have g5 : SqT K G t acc := .inl (.inl (s5 _ _ gH))
            refine iteF ⟨.ref t, rfl, t, acc, rfl, .inr g5, .int (limOf way : Nat), rfl, _, _, rfl, rfl, _, rfl, ?_⟩
            by_cases gl : limOf way < (itemsP way x).length
            · have ei : idxO way (limOf way) (itemsP way x) = some (limOf way) := by
                unfold idxO
                rw [z]
                exact if_pos gl
              rw [ei] at q2
              rw [decide_eq_true (show ((limOf way : Nat) : Int) < ((acc.length : Nat) : Int) by omega)]
              exact iteT ⟨.int (limOf way : Nat), rfl, mkO_run T.X_BadText.ox T.X_BadText.no fun dd H' s1 nd hd => q2 _ rfl dd _ H' ((s2.trans s5).trans s1) ((s2.trans s5).free nd) hd (.int _)⟩
            · have ei : idxO way (limOf way) (itemsP way x) = none := by
                unfold idxO
                rw [z]
                exact if_neg gl
              rw [ei] at q1
              rw [decide_eq_false (show ¬ ((limOf way : Nat) : Int) < ((acc.length : Nat) : Int) by omega)]
              exact iteF ⟨.ref t, rfl, q1 rfl _ _ (s2.trans s5) (.tup (Same.seqT (cut_mono s5) gt) (dt.mono (cut_mono s5)))⟩
          · refine s_if ⟨.ref t', rfl, rfl, _, rfl, ?_⟩
            rw [show (!decide (V.ref t' = V.non)) = true from by rw [decide_eq_false (fun z => nomatch z)]; rfl]
            have ei : idxO way (limOf way) (itemsP way x) = some i := by
              unfold idxO
              rw [z]
            rw [ei] at q2
            refine iteT ⟨.ref t', rfl, t', _, rfl, .inl (.inl g'), rfl, _, _, rfl, _, _, rfl, rfl, ?_⟩
            exact ⟨.int (i : Nat), rfl, mkO_run T.X_BadText.ox T.X_BadText.no fun dd H' s1 nd hd => q2 _ rfl dd _ H' ((s2.trans s5).trans s1) ((s2.trans s5).free nd) hd (.int _)⟩
theorem ok_parse_lamps (T : All K mg) : FnOk P w K mg base (L2.CX P w) 6 T.f_parse_lamps T.fd_parse_lamps ["value"] (sp_parseG K T.C_BadText 0) := by
  have nd := sc_parse_lamps.nd
  refine T.D_parse_lamps.F.okX sc_parse_lamps (fun vs H Q E h => ?_) (fun cdv A outer s H vs Q E hr h => ?_)
  · obtain ⟨N, x, _, hd, _⟩ := h
    exact hd.len
  · obtain ⟨N, d, O, hd, hl, q1, q2⟩ := h
    obtain ⟨v1, _, rfl, hd1, hd⟩ := dqs_cons hd
    obtain rfl := dqs_nil hd
    refine ⟨_, (pss_one (ps_ret (pe_call (E := E) (ok_parsed (way := 0) T (ok_lamp_of T) T.D_lamp_of.F.kp T.D_lamp_of.b (ok_lamps_error T) T.D_lamps_error.F.kp T.D_lamps_error.b (by decide) (by decide)) (hr.mono (by decide)) (by rfl) T.D_parsed.g T.D_parsed.F.kp T.D_parsed.b .nil (passes_call (takes_of rfl rfl rfl rfl) (fun _ _ _ _ h => h)) (pa_cons (pv 0) (pa_cons (pe_glob (v := .ref T.f_lamp_of) (by rfl) T.D_lamp_of.g rfl) (pa_cons (pe_glob (v := .ref T.f_lamps_error) (by rfl) T.D_lamps_error.g rfl) (pa_cons (pe_glob (v := .int 6) (by rfl) T.c_MAX_LAMPS ⟨_, rfl⟩) pa_nil))))))), ?_⟩
    exact ⟨v1, rfl, N, v1, d, rfl, O, hd1, hl, fun e r H' s1 dr => q1 (by show Option.map _ (idxP 0 d) = none; rw [e]; rfl) r H' s1 dr, fun e he dd u H' s1 nd hx du => q2 _ _ _ (by show Option.map _ (idxP 0 d) = _; rw [he]; rfl) dd u H' s1 nd hx du⟩
theorem ok_parse_log (T : All K mg) : FnOk P w K mg base (L2.CX P w) 6 T.f_parse_log T.fd_parse_log ["value"] (sp_parseG K T.C_BadText 1) := by
  have nd := sc_parse_log.nd
  refine T.D_parse_log.F.okX sc_parse_log (fun vs H Q E h => ?_) (fun cdv A outer s H vs Q E hr h => ?_)
  · obtain ⟨N, x, _, hd, _⟩ := h
    exact hd.len
  · obtain ⟨N, d, O, hd, hl, q1, q2⟩ := h
    obtain ⟨v1, _, rfl, hd1, hd⟩ := dqs_cons hd
    obtain rfl := dqs_nil hd
    refine ⟨_, (pss_one (ps_ret (pe_call (E := E) (ok_parsed (way := 1) T (ok_stretch_of T) T.D_stretch_of.F.kp T.D_stretch_of.b ((ok_log_error T).imp (logE2 K)) T.D_log_error.F.kp T.D_log_error.b (by decide) (by decide)) (hr.mono (by decide)) (by rfl) T.D_parsed.g T.D_parsed.F.kp T.D_parsed.b .nil (passes_call (takes_of rfl rfl rfl rfl) (fun _ _ _ _ h => h)) (pa_cons (pv 0) (pa_cons (pe_glob (v := .ref T.f_stretch_of) (by rfl) T.D_stretch_of.g rfl) (pa_cons (pe_glob (v := .ref T.f_log_error) (by rfl) T.D_log_error.g rfl) (pa_cons (pe_glob (v := .int 60) (by rfl) T.c_MAX_STRETCHES ⟨_, rfl⟩) pa_nil))))))), ?_⟩
    exact ⟨v1, rfl, N, v1, d, rfl, O, hd1, hl, fun e r H' s1 dr => q1 (by show Option.map _ (idxP 1 d) = none; rw [e]; rfl) r H' s1 dr, fun e he dd u H' s1 nd hx du => q2 _ _ _ (by show Option.map _ (idxP 1 d) = _; rw [he]; rfl) dd u H' s1 nd hx du⟩
theorem ok_parse_motions (T : All K mg) : FnOk P w K mg base (L2.CX P w) 6 T.f_parse_motions T.fd_parse_motions ["value"] (sp_parseG K T.C_BadText 2) := by
  have nd := sc_parse_motions.nd
  refine T.D_parse_motions.F.okX sc_parse_motions (fun vs H Q E h => ?_) (fun cdv A outer s H vs Q E hr h => ?_)
  · obtain ⟨N, x, _, hd, _⟩ := h
    exact hd.len
  · obtain ⟨N, d, O, hd, hl, q1, q2⟩ := h
    obtain ⟨v1, _, rfl, hd1, hd⟩ := dqs_cons hd
    obtain rfl := dqs_nil hd
    refine ⟨_, (pss_one (ps_ret (pe_call (E := E) (ok_parsed (way := 2) T (ok_run_of T) T.D_run_of.F.kp T.D_run_of.b ((ok_motions_error T).imp (motE2 K)) T.D_motions_error.F.kp T.D_motions_error.b (by decide) (by decide)) (hr.mono (by decide)) (by rfl) T.D_parsed.g T.D_parsed.F.kp T.D_parsed.b .nil (passes_call (takes_of rfl rfl rfl rfl) (fun _ _ _ _ h => h)) (pa_cons (pv 0) (pa_cons (pe_glob (v := .ref T.f_run_of) (by rfl) T.D_run_of.g rfl) (pa_cons (pe_glob (v := .ref T.f_motions_error) (by rfl) T.D_motions_error.g rfl) (pa_cons (pe_glob (v := .int 360) (by rfl) T.c_MAX_RUNS ⟨_, rfl⟩) pa_nil))))))), ?_⟩
    exact ⟨v1, rfl, N, v1, d, rfl, O, hd1, hl, fun e r H' s1 dr => q1 (by show Option.map _ (idxP 2 d) = none; rw [e]; rfl) r H' s1 dr, fun e he dd u H' s1 nd hx du => q2 _ _ _ (by show Option.map _ (idxP 2 d) = _; rw [he]; rfl) dd u H' s1 nd hx du⟩
theorem ok_l_opened0 (T : All K mg) : FnOk P w K mg base CX0 1 T.f_l_opened T.fd_l_opened ["script"] (Lm.sp_opened K) := by
  have nd := sc_l_opened.nd
  refine T.D_l_opened.F.ok sc_l_opened (fun vs H Q E h => ?_) (fun cdv A outer s H vs Q E hr h => ?_)
  · obtain ⟨a, ns, rfl, _⟩ := h
    rfl
  · obtain ⟨a, ns, rfl, hS, hl, q⟩ := h
    refine ⟨_, (pss_cons (ps_setLc (i := 2) (own := [("cell", 1)]) rfl nd rfl rfl (sw_true rfl rfl rfl (by decide +kernel)) (pi_list (pe_slice sl_list (pv 0) po_none (po_some pe_int))) (blkOk_by (own := [("cell", 1)]) (N := n_l_opened) (sc := defScope s_l_opened) (by decide +kernel)) (fun _ _ _ _ _ => (pg_name (i := 1) nd rfl (by first | exact Or.inl rfl | exact Or.inr rfl))) (fun _ _ _ _ _ => pts_nil) (fun _ _ _ _ _ => (pe_callB call_abs (by rfl) T.z_abs (by decide +kernel) (pa_cons (pv 1) pa_nil))))
  (pss_one (ps_ret (pe_disp (pps_cons pe_str (pe_lc (own := [("cell", 1)]) rfl nd (pi_list (pv 2)) (blkOk_by (own := [("cell", 1)]) (N := n_l_opened) (sc := defScope s_l_opened) (by decide +kernel)) (fun _ _ _ _ _ => (pg_name (i := 1) nd rfl (by first | exact Or.inl rfl | exact Or.inr rfl))) (fun _ _ _ _ _ => (pts_one (pt_cmpR op_ge (pv 1) (pe_op op_pow pe_int pe_int) (nomark _)))) (fun _ _ _ _ _ => (pv 1))) (pps_cons pe_str (pe_op op_cat (pv 2) (pe_op op_rep (pe_lst (pa_cons pe_int pa_nil)) (pe_callTy call_int1 (by rfl) T.z_int (by decide +kernel) (pa_cons (pe_cmpR (op_eqE hr.units0) (pv 2) (pe_lst pa_nil) (nomark _)) pa_nil)))) (pps_cons pe_str pe_int pps_nil))) (by rfl) (by rfl) (fun z => by cases z) (by decide))))), ?_⟩
    have cut : cutV (ns.map V.int) none (some 64) = ns.map V.int := cut_all (by rw [List.length_map]; omega)
    -- cells
    refine ⟨.ref a, rfl, 64, rfl, a, _, rfl, hS, fun c nc => ⟨c, rfl, ⟨_, .inl (.inl upd_same)⟩, fun D nD => ?_⟩⟩
    rw [cut] at nD ⊢
    have nDc : D ≠ c := (ne_of_none upd_same nD).symm
    have nD0 : H D = none := (Lm.same_new (o := .lst (ns.map V.int)) nc).free nD
    refine lc_list (K := K) (a := c) (xs := ns.map V.int) (fun i H1 => H1 D = some (.lst ((ns.take i).map fun n => V.int (if n < 0 then -n else n))) ∧ H1 c = some (.lst (ns.map V.int)) ∧ Same H H1)
      ⟨upd_same, by rw [upd_ne nDc.symm]; exact upd_same, same_upd2 (Lm.same_new nc) nD0⟩ (fun i H1 _ h => .inl (.inl h.2.1)) ?_ ?_
    · rintro i x H1 hx ⟨eD, ec, s1⟩
      obtain ⟨n, hn, rfl⟩ : ∃ n, ns[i]? = some n ∧ x = V.int n := by
        rw [List.getElem?_map] at hx
        cases e : ns[i]? with
        | none => rw [e] at hx; cases hx
        | some n => rw [e] at hx; exact ⟨n, rfl, (Option.some.inj hx).symm⟩
      have hi : i < ns.length := (List.getElem?_eq_some_iff.mp hn).1
      refine ⟨rfl, yes_if ?_⟩
      refine ⟨.int n, rfl, n, rfl, _, eD, small1000 (by simp; omega), ?_, ?_, same_upd2 s1 nD0⟩
      · rw [upd_same, List.take_add_one, hn, List.map_append]
        rfl
      · rw [upd_ne nDc.symm]
        exact ec
    · rintro H1 ⟨eD, ec, s1⟩
      rw [List.length_map, List.take_length] at eD
      generalize hcs : (ns.map fun n => if n < 0 then -n else n) = cs
      have eD : H1 D = some (.lst (cs.map V.int)) := by
        rw [eD, ← hcs, List.map_map]
        rfl
      have lcs : cs.length ≤ 63 := by rw [← hcs, List.length_map]; exact hl
      -- {'deep': .., 'all': .., 'times': 0}
      intro pp np
      have nDp : D ≠ pp := ne_of_none eD np
      have np0 : H pp = none := s1.free np
      -- [cell for cell in cells if ..]
      refine ⟨.ref D, rfl, D, rfl, ⟨cs.map V.int, .inl (.inl (by rw [upd_ne nDp]; exact eD))⟩, fun E2 nE => ?_⟩
      have nEp : E2 ≠ pp := (ne_of_none upd_same nE).symm
      have nE1 : H1 E2 = none := (Lm.same_new (o := .dK []) np).free nE
      have nED : E2 ≠ D := (ne_of_none eD nE1).symm
      have nE0 : H E2 = none := s1.free nE1
      refine lc_list (K := K) (a := D) (xs := cs.map V.int) (fun i H2 => (∃ ds : List Int, H2 E2 = some (.lst (ds.map V.int)) ∧ ds.length ≤ i) ∧ H2 D = some (.lst (cs.map V.int)) ∧ H2 pp = some (.dK []) ∧ Same H H2)
        ⟨⟨[], upd_same, Nat.le_refl _⟩, by rw [upd_ne nED.symm, upd_ne nDp]; exact eD, by rw [upd_ne nEp.symm]; exact upd_same, same_upd2 (same_upd2 s1 np0) nE0⟩ (fun i H2 _ h => .inl (.inl h.2.1)) ?_ ?_
      · rintro i x H2 hx ⟨⟨ds, eE, ld⟩, eD2, ep2, s2⟩
        obtain ⟨n, hn, rfl⟩ : ∃ n, cs[i]? = some n ∧ x = V.int n := by
          rw [List.getElem?_map] at hx
          cases e : cs[i]? with
          | none => rw [e] at hx; cases hx
          | some n => rw [e] at hx; exact ⟨n, rfl, (Option.some.inj hx).symm⟩
        have hi : i < cs.length := (List.getElem?_eq_some_iff.mp hn).1
        refine ⟨rfl, .int n, rfl, 10, 18, rfl, rfl, ⟨by decide, by decide, by decide⟩, n, _, rfl, rfl, _, rfl, ite2 (fun _ => ?_) (fun _ => ?_)⟩
        · refine ⟨.int n, rfl, _, eE, small1000 (by simp; omega), ⟨ds ++ [n], ?_, by simp; omega⟩, ?_, ?_, same_upd2 s2 nE0⟩
          · rw [upd_same, List.map_append]
            rfl
          · rw [upd_ne nED.symm]; exact eD2
          · rw [upd_ne nEp.symm]; exact ep2
        · exact ⟨⟨ds, eE, by omega⟩, eD2, ep2, s2⟩
      · rintro H2 ⟨⟨ds, eE, ld⟩, eD2, ep2, s2⟩
        rw [List.length_map] at ld
        -- cells + [53] * int(cells == [])
        refine ⟨.ref D, rfl, Nat.le_of_lt (small1000 (by decide)), fun f nf => ⟨.ref D, rfl, Nat.zero_le _, fun g ng => ?_⟩⟩
        have s3 : Same H2 (upd H2 f (.lst [V.int 53])) := Lm.same_new nf
        have s4 : Same (upd H2 f (.lst [V.int 53])) (upd (upd H2 f (.lst [V.int 53])) g (.lst [])) := Lm.same_new ng
        have ef : (upd (upd H2 f (.lst [V.int 53])) g (.lst [])) f = some (.lst [V.int 53]) := s4 _ _ upd_same
        have eD4 : (upd (upd H2 f (.lst [V.int 53])) g (.lst [])) D = some (.lst (cs.map V.int)) := s4 _ _ (s3 _ _ eD2)
        refine ⟨D, g, _, rfl, rfl, .inl (.inl eD4), .inl (.inl upd_same), .inr ⟨_, rfl, f, _, [V.int 53], rfl, rfl, ef, ?_, ?_, ?_, fun r nr => ?_⟩⟩
        · split <;> decide
        · split <;> decide
        · split <;> exact Nat.le_of_lt (small1000 (by decide))
        have s5 := Lm.same_new (o := .lst (List.replicate (if (cs.map V.int).isEmpty = true then (1 : Int) else 0).toNat [V.int 53]).flatten) nr
        refine ⟨D, r, _, _, rfl, rfl, s5 _ _ eD4, upd_same, Nat.le_of_lt (small1000 ?_), fun al na => ?_⟩
        · cases cs with
          | nil => decide
          | cons x xs => simp at lcs ⊢; omega
        have s6 := Lm.same_new (o := .lst (cs.map V.int ++ (List.replicate (if (cs.map V.int).isEmpty = true then (1 : Int) else 0).toNat [V.int 53]).flatten)) na
        have s7 : Same H2 _ := ((s3.trans s4).trans s5).trans s6
        refine ⟨s7 _ _ ep2, [(Sum.inr "deep", V.ref E2), (Sum.inr "all", V.ref al), (Sum.inr "times", V.int 0)], rfl, Nat.le_add_left 3 12, ?_⟩
        have nal : al ≠ pp := (ne_of_none (((s3.trans s4).trans s5) _ _ ep2) na).symm
        have nalE : al ≠ E2 := (ne_of_none (((s3.trans s4).trans s5) _ _ eE) na).symm
        refine q pp E2 al _ ⟨⟨0, upd_same⟩, ⟨ds, by rw [upd_ne nEp]; exact s7 _ _ eE, by omega⟩, ?_, nalE, (fun b x e => nomatch e), rfl, rfl⟩ (same_upd2 (s2.trans s7) np0)
        cases cs with
        | nil => exact ⟨[53], by rw [upd_ne nal, upd_same]; rfl, by simp, by decide⟩
        | cons x xs =>
          refine ⟨x :: xs, by rw [upd_ne nal, upd_same]; simp, by simp, by simp at lcs ⊢; omega⟩
theorem ok_l_opened (T : All K mg) : FnOk P w K mg base CX0 1 T.f_l_opened T.fd_l_opened ["script"] (sp_opened K) := (ok_l_opened0 T).imp (opened_imp K)
theorem ok_l_draw0 (T : All K mg) : FnOk P w K mg base CX0 1 T.f_l_draw T.fd_l_draw ["pot", "many"] Lm.sp_draw := by
  have nd := sc_l_draw.nd
  refine T.D_l_draw.F.ok sc_l_draw (fun vs H Q E h => ?_) (fun cdv A outer s H vs Q E hr h => ?_)
  · obtain ⟨Z, p, dl, al, n, rfl, _⟩ := h
    rfl
  · obtain ⟨Z, p, dl, al, n, rfl, hP, n0, n1, q⟩ := h
    have hu := hu_of hr
    refine ⟨_, (pss_cons (ps_while PassesOwn.never (pt_cmpR (op_neE hr.units0) (pe_dget hu (pv 0) pe_str (fun _ _ => rfl)) (pe_lst pa_nil) (nomark _))
    (pss_cons (ps_set (i := 2) nd rfl (by first | exact Or.inl rfl | exact Or.inr rfl) (pe_bm PySem.F.plainAttrs_list PySem.F.slot_list_pop PySem.F.type_list_pop mt_popAt (pe_dget hu (pv 0) pe_str (fun _ _ => rfl)) (pa_cons pe_int pa_nil)))
  (pss_one (ps_if (pt_cmpR op_gt (pv 2) pe_int (nomark _))
    (pss_cons (ps_expr (pe_bm PySem.F.plainAttrs_list PySem.F.slot_list_insert PySem.F.type_list_insert mt_insert (pe_dget hu (pv 0) pe_str (fun _ _ => rfl)) (pa_cons pe_int (pa_cons (pe_op op_fdivN (pv 2) (pv 1)) pa_nil))))
  (pss_one (ps_ret (pe_op op_modN (pv 2) (pv 1)))))
    pss_nil))))
  (pss_cons (ps_par (i := 3) (j := 4) (by rfl) nd rfl rfl (by decide) rfl rfl (pa_cons (pe_dget hu (pv 0) pe_str (fun _ _ => rfl)) (pa_cons (pe_dget hu (pv 0) pe_str (fun _ _ => rfl)) pa_nil)) (by rfl))
  (pss_cons (ps_dput hu (pv 0) pe_str (pe_op op_add (pv 3) pe_int) rfl)
  (pss_cons (ps_set (i := 5) nd rfl (by first | exact Or.inl rfl | exact Or.inr rfl) (pe_op op_add (pe_op op_modN (pe_ix ix_list (pv 4) (pe_op op_modN (pv 3) (pe_callB call_len_seq (by rfl) T.z_len (by decide +kernel) (pa_cons (pv 4) pa_nil))) (fun _ _ => rfl)) pe_int) (pe_op op_mul pe_int (pe_op op_add (pv 3) pe_int))))
  (pss_cons (ps_set (i := 5) nd rfl (by first | exact Or.inl rfl | exact Or.inr rfl) (pe_op op_modN (pe_op op_mul (pe_op op_modN (pv 5) pe_int) (pe_op op_add (pe_op op_modN (pv 5) pe_int) pe_int)) pe_int))
  (pss_cons (ps_set (i := 5) nd rfl (by first | exact Or.inl rfl | exact Or.inr rfl) (pe_op op_modN (pe_op op_mul (pe_op op_modN (pe_op op_add (pe_op op_mul (pv 5) (pv 5)) (pe_op op_mul pe_int (pv 3))) pe_int) pe_int) pe_int))
  (pss_one (ps_ret (pe_op op_modN (pe_op op_fdivN (pv 5) pe_int) (pv 1)))))))))), ?_⟩
    refine ⟨fun m σ H' => (∃ y2, σ = [some (.ref p), some (.int n), y2, none, none, none]) ∧ PotAt Z H' p dl al ∧ (∃ ns : List Int, H' dl = some (.lst (ns.map V.int)) ∧ ns.length = m) ∧ Lm.Kp Z p dl H H', ?_, ?_⟩
    · obtain ⟨ns, e, _⟩ := hP.de
      exact ⟨ns.length, ⟨_, rfl⟩, hP, ⟨ns, e, rfl⟩, Lm.Kp.refl _ _ _⟩
    · rintro m σ H1 ⟨⟨y2, rfl⟩, P1, ⟨ns, ed, em⟩, k1⟩
      obtain ⟨t, ep⟩ := P1.ob
      have npd := P1.pd
      refine ⟨_, rfl, p, .ref dl, rfl, DGet.k (k := Sum.inr "deep") ep, Nat.zero_le _, fun l nl => ?_⟩
      have fr := P1.free nl
      have ed1 : (upd H1 l (.lst [])) dl = some (.lst (ns.map V.int)) := by rw [upd_ne fr.2.1.symm]; exact ed
      have ep1 : (upd H1 l (.lst [])) p = some (.dK [(.inr "deep", .ref dl), (.inr "all", .ref al), (.inr "times", .int t)]) := by rw [upd_ne fr.1.symm]; exact ep
      have P2 := P1.new (o := .lst []) nl
      have k2 : Lm.Kp Z p dl H (upd H1 l (.lst [])) := k1.trans (Lm.Kp.new nl)
      refine ⟨dl, l, _, rfl, rfl, .inl (.inl ed1), .inl (.inl upd_same), _, rfl, ?_⟩
      cases ns with
      | cons x r =>
        refine iteT ⟨_, fun σ' H' z => z, ?_⟩
        have eP : ∀ o, (upd (upd H1 l (.lst [])) dl o) p = some (.dK [(.inr "deep", .ref dl), (.inr "all", .ref al), (.inr "times", .int t)]) := fun o => by rw [upd_ne npd]; exact ep1
        obtain ⟨ns2, e2, l2⟩ := P1.de
        have lr : r.length ≤ 63 := by
          rw [ed] at e2
          have q2 : (x :: r).map V.int = ns2.map V.int := HO.lst.inj (Option.some.inj e2)
          have q3 := congrArg List.length q2
          simp at q3
          omega
        have P3 : ∀ r' : List Int, r'.length ≤ 64 → PotAt Z (upd (upd H1 l (.lst [])) dl (.lst (r'.map V.int))) p dl al := fun r' hr' => by
          obtain ⟨ns3, e3, h3⟩ := P2.li
          exact ⟨⟨t, eP _⟩, ⟨r', upd_same, hr'⟩, ⟨ns3, by rw [upd_ne P1.ne]; exact e3, h3⟩, P1.ne, Lm.zz_upd P2.zz P2.zd, P2.zp, P2.zd⟩
        have k3 : ∀ H2 o, Lm.Kp Z p dl H2 (upd H2 dl o) := fun H2 o b u e => by
          have nn := Lm.hid_some e
          rw [Lm.hid_at nn.1 nn.2] at e ⊢
          rw [upd_ne nn.2.1]
          exact e
        refine ⟨_, rfl, p, .ref dl, rfl, DGet.k (k := Sum.inr "deep") ep1, .inl ⟨rfl, _, .inl (.inl ed1)⟩, dl, _, 0, 0, .int x, rfl, rfl, ed1, by decide, by decide, seq0 (by simp), rfl, ?_⟩
        refine ⟨_, rfl, x, 0, rfl, rfl, _, rfl, ite2 (fun gx => ?_) (fun gx => ?_)⟩
        · refine ⟨_, rfl, p, .ref dl, rfl, DGet.k (k := Sum.inr "deep") (eP _), .inl ⟨rfl, _, .inl (.inl upd_same)⟩, _, rfl, _, rfl, x, n, rfl, rfl, ⟨by omega, by omega⟩, dl, _, 0, _, rfl, rfl, upd_same, small1000 (by simp; omega), by decide, by decide, ?_⟩
          refine ⟨_, rfl, _, rfl, x, n, rfl, rfl, by omega, ?_⟩
          rw [upd_upd]
          refine q _ _ ?_ (k2.trans (k3 _ _)) (fmodB n0).1 (fmodB n0).2
          exact P3 (x.fdiv n :: r) (by simp; omega)
        · refine ⟨r.length, by rw [← em]; exact Nat.lt_succ_self _, ⟨_, rfl⟩, P3 r (by omega), ⟨r, upd_same, rfl⟩, k2.trans (k3 _ _)⟩
      | nil =>
        refine iteF ?_
        obtain ⟨cs, ec, nc, lc⟩ := P2.li
        have nal : al ≠ p := P1.pa
        refine ⟨_, rfl, p, .int t, rfl, DGet.k (k := Sum.inr "times") ep1, _, rfl, p, .ref al, rfl, DGet.k (k := Sum.inr "all") ep1, _, _, rfl, ?_⟩
        refine ⟨_, rfl, t, 1, rfl, rfl, _, rfl, p, _, rfl, DPut.k (k := Sum.inr "times") ep1 (small1000 (by simp)), ?_⟩
        have eal : ∀ o, (upd (upd H1 l (.lst [])) p o) al = some (.lst (cs.map V.int)) := fun o => by rw [upd_ne nal]; exact ec
        have lpos : (0 : Int) < ((cs.map V.int).length : Int) := by
          cases cs with
          | nil => exact absurd rfl nc
          | cons c r => simp
        have bx := fmodB (a := t) lpos
        obtain ⟨c, hc⟩ : ∃ c, cs[(t.fmod ((cs.map V.int).length : Int)).toNat]? = some c := by
          have hb : (t.fmod ((cs.map V.int).length : Int)).toNat < cs.length := by
            rw [List.length_map] at bx ⊢
            omega
          exact ⟨_, List.getElem?_eq_getElem hb⟩
        refine ⟨_, rfl, _, rfl, _, rfl, al, _, rfl, .inl (.inl (.inl (eal _))), t, _, rfl, rfl, by omega, al, _, _, .int c, rfl, rfl, .inl (.inl (eal _)), at_of (j := (t.fmod ((cs.map V.int).length : Int)).toNat) (by omega) (by rw [List.getElem?_map, hc]; rfl), c, 4294967291, rfl, rfl, (show (4294967291 : Int) ≠ 0 by decide), ?_⟩
        have m2 : ∀ z : Int, 0 ≤ z.fmod 4294967291 ∧ z.fmod 4294967291 < 4294967291 := fun z => fmodB (by decide)
        refine ⟨_, rfl, t, 1, rfl, rfl, 2246822519, _, rfl, rfl, .inl ⟨by decide, by decide⟩, _, _, rfl, rfl, ?_⟩
        have w1 : (4294967291 : Int) ≠ 0 := by decide
        have w2 : (50021 : Int) ≠ 0 := by decide
        refine ⟨_, rfl, _, _, rfl, rfl, w1, _, rfl, _, _, rfl, rfl, w2, _, _, rfl, rfl, _, _, rfl, rfl, .inl ⟨by have := (m2 (c.fmod 4294967291 + 2246822519 * (t + 1))).1; omega, by have := (m2 (c.fmod 4294967291 + 2246822519 * (t + 1))).2; omega⟩, _, _, rfl, rfl, w1, ?_⟩
        dsimp only [gName, List.set]
        generalize hz : ((c.fmod 4294967291 + 2246822519 * (t + 1)).fmod 4294967291 * ((c.fmod 4294967291 + 2246822519 * (t + 1)).fmod 50021 + 13)).fmod 4294967291 = z
        have bz : 0 ≤ z ∧ z < 4294967291 := by rw [← hz]; exact m2 _
        refine ⟨_, rfl, _, rfl, z, z, rfl, rfl, .inl ⟨by omega, by omega⟩, _, rfl, 668265263, t, rfl, rfl, .inl ⟨by decide, by decide⟩, _, _, rfl, rfl, _, _, rfl, rfl, w1, _, _, rfl, rfl, .inr ⟨by decide, by decide⟩, _, _, rfl, rfl, w1, ?_⟩
        refine ⟨_, rfl, _, _, rfl, rfl, ⟨by decide, by decide⟩, _, rfl, _, _, rfl, rfl, by omega, ?_⟩
        refine q _ _ ?_ ?_ (fmodB n0).1 (fmodB n0).2
        · exact ⟨⟨t + 1, upd_same⟩, ⟨[], by rw [upd_ne npd.symm]; exact ed1, by decide⟩, ⟨cs, eal _, nc, lc⟩, P1.ne, Lm.zz_upd P2.zz P2.zp, P2.zp, P2.zd⟩
        · refine k2.trans fun b u e => ?_
          have nn := Lm.hid_some e
          rw [Lm.hid_at nn.1 nn.2] at e ⊢
          rw [upd_ne nn.1]
          exact e
theorem ok_l_draw (T : All K mg) : FnOk P w K mg base CX0 1 T.f_l_draw T.fd_l_draw ["pot", "many"] sp_draw := (ok_l_draw0 T).imp draw_imp
theorem ok_l_one0 (T : All K mg) : FnOk P w K mg base CX0 2 T.f_l_one T.fd_l_one ["pot", "items"] Lm.sp_one := by
  have nd := sc_l_one.nd
  refine T.D_l_one.F.ok sc_l_one (fun vs H Q E h => ?_) (fun cdv A outer s H vs Q E hr h => ?_)
  · obtain ⟨Z, p, dl, al, l, xs, rfl, _⟩ := h
    rfl
  · obtain ⟨Z, p, dl, al, l, xs, rfl, hP, hl, ne, hn, q⟩ := h
    refine ⟨_, (pss_one (ps_ret (pe_ix ix_list (pv 1) (pe_call (ok_l_draw0 T) (hr.mono (by decide)) (by rfl) T.D_l_draw.g T.D_l_draw.F.kp T.D_l_draw.b .nil pass0 (pa_cons (pv 0) (pa_cons (pe_callB call_len_seq (by rfl) T.z_len (by decide +kernel) (pa_cons (pv 1) pa_nil)) pa_nil))) (fun _ _ => rfl)))), ?_⟩
    have pos : 0 < xs.length := by
      cases xs with
      | nil => exact absurd rfl ne
      | cons x r => simp
    refine ⟨.ref l, rfl, .ref p, rfl, .ref l, rfl, l, xs, rfl, .inl (.inl (.inl (Lm.hid_same _ _ _ _ _ hl))), Z, p, dl, al, (xs.length : Int), rfl, hP, by omega, by omega, fun r H2 P2 k2 r0 r1 => ?_⟩
    have hb : r.toNat < xs.length := by omega
    refine ⟨l, xs, r, xs[r.toNat], rfl, rfl, .inl (.inl (Lm.hid_same _ _ _ _ _ (k2 _ _ hl))), at_of (j := r.toNat) (by omega) (List.getElem?_eq_getElem hb), ?_⟩
    exact q _ _ (List.getElem_mem hb) P2 k2
theorem ok_l_one (T : All K mg) : FnOk P w K mg base CX0 2 T.f_l_one T.fd_l_one ["pot", "items"] sp_one := (ok_l_one0 T).imp one_imp
theorem ok_l_lamp (T : All K mg) : FnOk P w K mg base CX0 3 T.f_l_lamp T.fd_l_lamp ["pot", "great"] (sp_lampP K) := by
  have nd := sc_l_lamp.nd
  refine T.D_l_lamp.F.ok sc_l_lamp (fun vs H Q E h => ?_) (fun cdv A outer s H vs Q E hr h => ?_)
  · obtain ⟨Z, p, dl, al, g, rfl, _⟩ := h
    rfl
  · obtain ⟨Z, p, dl, al, g, rfl, hP, g0, g1, q⟩ := h
    refine ⟨_, (pss_cons (ps_set (i := 2) nd rfl (by first | exact Or.inl rfl | exact Or.inr rfl) (pe_call (ok_l_one T) (hr.mono (by decide)) (by rfl) T.D_l_one.g T.D_l_one.F.kp T.D_l_one.b .nil pass0 (pa_cons (pv 0) (pa_cons (pe_lst (pa_cons pe_int (pa_cons pe_int (pa_cons (pe_op op_add pe_int (pe_call (ok_l_draw T) (hr.mono (by decide)) (by rfl) T.D_l_draw.g T.D_l_draw.F.kp T.D_l_draw.b .nil pass0 (pa_cons (pv 0) (pa_cons pe_int pa_nil)))) (pa_cons (pe_op op_add pe_int (pe_call (ok_l_draw T) (hr.mono (by decide)) (by rfl) T.D_l_draw.g T.D_l_draw.F.kp T.D_l_draw.b .nil pass0 (pa_cons (pv 0) (pa_cons pe_int pa_nil)))) (pa_cons (pe_op op_add pe_int (pe_call (ok_l_draw T) (hr.mono (by decide)) (by rfl) T.D_l_draw.g T.D_l_draw.F.kp T.D_l_draw.b .nil pass0 (pa_cons (pv 0) (pa_cons (pv 1) pa_nil)))) (pa_cons (pv 1) pa_nil))))))) pa_nil))))
  (pss_one (ps_ret (pe_tup (pa_cons (pe_call (ok_l_one T) (hr.mono (by decide)) (by rfl) T.D_l_one.g T.D_l_one.F.kp T.D_l_one.b .nil pass0 (pa_cons (pv 0) (pa_cons (pe_lst (pa_cons pe_str (pa_cons pe_str pa_nil))) pa_nil))) (pa_cons (pv 2) pa_nil)))))), ?_⟩
    refine s_set ?_
    refine (ev_one (m0 := 5) (m := 6) (R := IR 1 1000000000) (by rfl) (by decide) IR.mo (ev_lst (by decide) IR.mo
      (eall_cons IR.mo (ev_int.wide (by decide) (by decide)) (eall_cons IR.mo (ev_int.wide (by decide) (by decide))
      (eall_cons IR.mo ((ev_add (a := 1) (b := 1) ev_int (ev_drawC (m := 12))).wide (by decide) (by decide))
      (eall_cons IR.mo ((ev_add (a := 1) (b := 1) ev_int (ev_drawC (m := 40))).wide (by decide) (by decide))
      (eall_cons IR.mo ((ev_add (a := 1) (b := 1) ev_int (ev_draw (b := g) (by rfl) (by omega) (ev_ivar (by rfl) g0 (Int.le_refl _)))).wide (by omega) (by omega))
      (eall_cons IR.mo (ev_ivar (by rfl) g0 g1) eall_nil)))))))).run hP (b := 0) (by omega) fun v H1 P1 k1 r1 => ?_
    obtain ⟨st, rfl, s0, s1⟩ := r1
    refine s_ret (r_tup ?_)
    refine (eva_pair KS.mo EI_mo (ev_one (m0 := 1) (m := 2) (by rfl) (by decide) KS.mo ev_kinds) (ev_iv (g := st) (by rfl))).run P1 (b := 0) (by omega) fun vs H2 P2 k2 r2 => ?_
    obtain ⟨_, _, rfl, ⟨kd, rfl⟩, rfl⟩ := r2
    refine ⟨sz2, fun t nt => ?_⟩
    obtain ⟨P3, k3, e3⟩ := laid (o := .tup [.str (kindS kd), .int st]) P2 nt
    exact q _ _ (kd, st) P3 (k1.trans (k2.trans k3)) (dq_lampT (.inl (.inl e3))) s0 s1
theorem ok_l_far_runs (T : All K mg) : FnOk P w K mg base CX0 3 T.f_l_far_runs T.fd_l_far_runs ["pot", "upto"] (sp_farH K) := by
  have nd := sc_l_far_runs.nd
  refine T.D_l_far_runs.F.ok sc_l_far_runs (fun vs H Q E h => ?_) (fun cdv A outer s H vs Q E hr h => ?_)
  · obtain ⟨Z, p, dl, al, u, rfl, _⟩ := h
    rfl
  · obtain ⟨Z, p, dl, al, u, rfl, hP, u0, u1, q⟩ := h
    refine ⟨_, (pss_cons (ps_par3 (i := 2) (j := 3) (l := 4) (by rfl) nd rfl rfl rfl (by decide) (by decide) (by decide) rfl rfl rfl (pa_cons (pe_lst pa_nil) (pa_cons (pe_call (ok_l_one T) (hr.mono (by decide)) (by rfl) T.D_l_one.g T.D_l_one.F.kp T.D_l_one.b .nil pass0 (pa_cons (pv 0) (pa_cons (pe_lst (pa_cons pe_int (pa_cons (pe_call (ok_l_draw T) (hr.mono (by decide)) (by rfl) T.D_l_draw.g T.D_l_draw.F.kp T.D_l_draw.b .nil pass0 (pa_cons (pv 0) (pa_cons pe_int pa_nil))) (pa_cons (pe_call (ok_l_draw T) (hr.mono (by decide)) (by rfl) T.D_l_draw.g T.D_l_draw.F.kp T.D_l_draw.b .nil pass0 (pa_cons (pv 0) (pa_cons (pe_op op_pow pe_int pe_int) pa_nil))) pa_nil)))) pa_nil))) (pa_cons (pe_op op_pow pe_int pe_int) pa_nil))) (by rfl))
  (pss_cons (ps_for PassesOwn.never rfl (pi_range1 (by rfl) T.z_range (pa_cons (pe_call (ok_l_draw T) (hr.mono (by decide)) (by rfl) T.D_l_draw.g T.D_l_draw.F.kp T.D_l_draw.b .nil pass0 (pa_cons (pv 0) (pa_cons (pe_op op_add (pv 1) pe_int) pa_nil))) pa_nil)) (pg_name (i := 5) nd rfl (by first | exact Or.inl rfl | exact Or.inr rfl))
    (pss_cons (ps_set (i := 6) nd rfl (by first | exact Or.inl rfl | exact Or.inr rfl) (pe_call (ok_l_one T) (hr.mono (by decide)) (by rfl) T.D_l_one.g T.D_l_one.F.kp T.D_l_one.b .nil pass0 (pa_cons (pv 0) (pa_cons (pe_lst (pa_cons pe_int (pa_cons pe_int (pa_cons (pe_op op_add pe_int (pe_call (ok_l_draw T) (hr.mono (by decide)) (by rfl) T.D_l_draw.g T.D_l_draw.F.kp T.D_l_draw.b .nil pass0 (pa_cons (pv 0) (pa_cons pe_int pa_nil)))) (pa_cons (pe_op op_add pe_int (pe_call (ok_l_draw T) (hr.mono (by decide)) (by rfl) T.D_l_draw.g T.D_l_draw.F.kp T.D_l_draw.b .nil pass0 (pa_cons (pv 0) (pa_cons (pe_op op_pow pe_int pe_int) pa_nil)))) (pa_cons (pe_op op_pow pe_int pe_int) pa_nil)))))) pa_nil))))
  (pss_cons (ps_set (i := 7) nd rfl (by first | exact Or.inl rfl | exact Or.inr rfl) (pe_op op_add pe_int (pe_callB (call_min2 rfl) (by rfl) T.z_min (by decide +kernel) (pa_cons (pe_op op_fdivN (pe_op op_sub (pv 4) (pv 3)) (pv 6)) (pa_cons (pe_call (ok_l_one T) (hr.mono (by decide)) (by rfl) T.D_l_one.g T.D_l_one.F.kp T.D_l_one.b .nil pass0 (pa_cons (pv 0) (pa_cons (pe_lst (pa_cons pe_int (pa_cons pe_int (pa_cons (pe_call (ok_l_draw T) (hr.mono (by decide)) (by rfl) T.D_l_draw.g T.D_l_draw.F.kp T.D_l_draw.b .nil pass0 (pa_cons (pv 0) (pa_cons pe_int pa_nil))) (pa_cons (pe_call (ok_l_draw T) (hr.mono (by decide)) (by rfl) T.D_l_draw.g T.D_l_draw.F.kp T.D_l_draw.b .nil pass0 (pa_cons (pv 0) (pa_cons (pe_op op_pow pe_int pe_int) pa_nil))) (pa_cons (pv 4) pa_nil)))))) pa_nil))) pa_nil)))))
  (pss_one (ps_if (pt_cmpR op_le (pv 3) (pv 4) (nomark _))
    (pss_cons (ps_expr (pe_bm PySem.F.plainAttrs_list PySem.F.slot_list_append PySem.F.type_list_append mt_append (pv 2) (pa_cons (pe_tup (pa_cons (pv 3) (pa_cons (pe_ifExp (pt_cmpR op_gt (pv 7) pe_int (nomark _)) (pv 6) pe_int) (pa_cons (pv 7) pa_nil)))) pa_nil)))
  (pss_cons (ps_set (i := 8) nd rfl (by first | exact Or.inl rfl | exact Or.inr rfl) (pe_call (ok_l_one T) (hr.mono (by decide)) (by rfl) T.D_l_one.g T.D_l_one.F.kp T.D_l_one.b .nil pass0 (pa_cons (pv 0) (pa_cons (pe_lst (pa_cons pe_int (pa_cons pe_int (pa_cons (pe_op op_add pe_int (pe_call (ok_l_draw T) (hr.mono (by decide)) (by rfl) T.D_l_draw.g T.D_l_draw.F.kp T.D_l_draw.b .nil pass0 (pa_cons (pv 0) (pa_cons pe_int pa_nil)))) (pa_cons (pe_op op_add pe_int (pe_call (ok_l_draw T) (hr.mono (by decide)) (by rfl) T.D_l_draw.g T.D_l_draw.F.kp T.D_l_draw.b .nil pass0 (pa_cons (pv 0) (pa_cons (pe_op op_pow pe_int pe_int) pa_nil)))) pa_nil))))) pa_nil))))
  (pss_one (ps_set (i := 3) nd rfl (by first | exact Or.inl rfl | exact Or.inr rfl) (pe_op op_add (pe_op op_add (pv 3) (pe_op op_mul (pv 6) (pe_op op_sub (pv 7) pe_int))) (pv 8))))))
    pss_nil)))))
  (pss_one (ps_ret (pe_callTy call_tuple_of (by rfl) T.z_tuple (by decide +kernel) (pa_cons (pv 2) pa_nil)))))), ?_⟩
    refine s_par3 ⟨Nat.zero_le _, fun f nf => ?_⟩
    obtain ⟨P1, k1, e1⟩ := laid (o := .lst []) hP nf
    have ff := hP.free nf
    refine (eva_cons IR.mo (ev_one (m0 := 2) (m := 3) (R := IR 0 100000000) (by rfl) (by decide) IR.mo (ev_lst (by decide) IR.mo (eall_cons IR.mo (ev_int.wide (by decide) (by decide)) (eall_cons IR.mo ((ev_drawC (m := 100)).wide (by decide) (by decide))
      (eall_cons IR.mo ((ev_draw (b := 100000000) (by rfl) (by decide) ((ev_pow (by decide)).wide (by decide) (by decide))).wide (by decide) (by decide)) eall_nil))))) (eva_cons IR.mo (ev_pow (by decide)) eva_nil)).run P1 (b := 0) (by omega) fun vs H2 P2 k2 r2 => ?_
    obtain ⟨_, _, rfl, ⟨b, rfl, b0, b1⟩, _, _, rfl, ⟨mm, rfl, m0, m1⟩, rfl⟩ := r2
    have em : mm = 1000000000 := by
      have a : (10 : Int) ^ (9 : Int).toNat = 1000000000 := by decide
      omega
    subst em
    clear m0 m1
    refine ⟨_, _, _, rfl, ?_⟩
    refine s_rng ?_
    refine (eva_cons IR.mo (ev_draw (b := u + 1) (by rfl) (by omega) ((ev_add (ev_ivar (lo := u) (hi := u) (by rfl) (Int.le_refl _) (Int.le_refl _)) (ev_int (i := 1))).wide (by omega) (by omega))) eva_nil).run P2 (b := 0) (by omega) fun vs H3 P3 k3 r3 => ?_
    obtain ⟨_, _, rfl, ⟨n, rfl, n0, n1⟩, rfl⟩ := r3
    refine ⟨n, rfl, by omega, by omega, for_it walk_range (fun i σ Hi => ∃ rs xs b y5 y6 y7 y8, σ = [some (.ref p), some (.int u), some (.ref f), some (.int b), some (.int 1000000000), y5, y6, y7, y8] ∧ Iv (pot p dl al) Z 0 Hi ∧ Kp (pot p dl al) Z H Hi ∧ Hi f = some (.lst xs) ∧ Dqs K (cut1 f (hid (pot p dl al) Z Hi)) xs (rs.map runD) ∧
      rs.length ≤ i ∧ 0 ≤ b ∧ b ≤ 1010000000 ∧ RunsUp (-1) rs ∧ endL (-1) rs < b ∧ ∀ r ∈ rs, RunT r) ⟨[], [], b, _, _, _, _, rfl, P3, (k1.trans k2).trans k3, k3.at_ ff (k2.at_ ff upd_same), .nil, Nat.le_refl _, b0, by omega, trivial, by show (-1 : Int) < b; omega, (fun r hr => nomatch hr)⟩ (fun i σ H1 _ h => trivial) ?_ ?_⟩
    · rintro i x σ Hi H' hi ⟨rs, xs, b, y5, y6, y7, y8, rfl, Pi, ki, ei, hx, la, b0, b1, up, eb, ok⟩ ⟨rfl, rfl⟩
      have hi' : i < 60 := by
        have : i < n.toNat := hi
        omega
      refine s_set ?_
      refine (ev_one (m0 := 4) (m := 5) (R := IR 1 100000000) (by rfl) (by decide) IR.mo (ev_lst (by decide) IR.mo (eall_cons IR.mo (ev_int.wide (by decide) (by decide)) (eall_cons IR.mo (ev_int.wide (by decide) (by decide))
        (eall_cons IR.mo ((ev_add (a := 1) (b := 1) ev_int (ev_drawC (m := 30))).wide (by decide) (by decide))
        (eall_cons IR.mo ((ev_add (a := 1) (b := 1) ev_int (ev_draw (b := 1000000) (by rfl) (by decide) ((ev_pow (by decide)).wide (by decide) (by decide)))).wide (by decide) (by decide))
        (eall_cons IR.mo ((ev_pow (by decide)).wide (by decide) (by decide)) eall_nil))))))).run Pi (b := 0) (by omega) fun v H4 P4 k4 r4 => ?_
      obtain ⟨st, rfl, s0, s1⟩ := r4
      refine s_set ⟨.int 1000000000, rfl, .int b, rfl, _, _, rfl, rfl, .int st, rfl, _, _, rfl, rfl, ⟨by omega, by omega⟩, ?_⟩
      refine (eva_cons IR.mo (ev_one (m0 := 4) (m := 5) (R := IR 0 1000000000) (by rfl) (by decide) IR.mo (ev_lst (by decide) IR.mo (eall_cons IR.mo (ev_int.wide (by decide) (by decide)) (eall_cons IR.mo (ev_int.wide (by decide) (by decide))
        (eall_cons IR.mo ((ev_drawC (m := 6)).wide (by decide) (by decide))
        (eall_cons IR.mo ((ev_draw (b := 10000000) (by rfl) (by decide) ((ev_pow (by decide)).wide (by decide) (by decide))).wide (by decide) (by decide))
        (eall_cons IR.mo (ev_ivar (g := 1000000000) (lo := 0) (hi := 1000000000) (by rfl) (by decide) (Int.le_refl _)) eall_nil))))))) eva_nil).run P4 (b := 0) (by omega) fun vs H5 P5 k5 r5 => ?_
      obtain ⟨_, _, rfl, ⟨x, rfl, x0, x1⟩, rfl⟩ := r5
      refine ⟨_, _, rfl, 1, _, rfl, rfl, ?_⟩
      have f5 := k5.at_ ff (k4.at_ ff ei)
      have k45 : Kp (pot p dl al) Z H' H5 := Kp.trans k4 k5
      have hx5 : Dqs K (cut1 f (hid (pot p dl al) Z H5)) xs (rs.map runD) := hx.mono (cut_mono k45)
      have k05 := ki.trans k45
      refine s_if1 ?_
      refine ⟨.int b, rfl, .int 1000000000, rfl, _, _, rfl, rfl, _, rfl, ite2 (fun g => ?_) (fun g => ?_)⟩
      · have g' : b ≤ 1000000000 := of_decide_eq_true g
        have F := far_step (m := 1000000000 - b) (st := st) (x := x) (by omega) s0 x0
        generalize (if x < (1000000000 - b).fdiv st then x else (1000000000 - b).fdiv st) = kk at F ⊢
        obtain ⟨F0, F1, F2, F3⟩ := F
        refine s_expr ⟨.ref f, rfl, .inl ⟨rfl, _, .inl (.inl f5)⟩, ?_⟩
        refine r_cons (r_tup ⟨.int b, rfl, ?_⟩)
        refine te_of (fun v G => G = H5 ∧ ∃ s2 : Int, v = .int s2 ∧ 1 ≤ s2 ∧ s2 ≤ 100000000 ∧ s2 * kk = st * kk ∧ (kk = 0 → s2 = 1)) ?_ ?_
        · rintro _ G ⟨eG, s2, rfl, s20, s21, s22, s23⟩
          subst eG
          refine ⟨.int (1 + kk), rfl, Nat.le_of_lt (small1000 (show 3 ≤ 1000 by decide)), fun t nt => ?_⟩
          have tf : f ≠ t := fun e => by rw [← e, f5] at nt; cases nt
          have lx := hx5.len
          rw [List.length_map] at lx
          refine ⟨f, xs, _, rfl, rfl, by rw [upd_ne tf]; exact f5, small1000 (by omega), ?_⟩
          obtain ⟨P6, k6⟩ := app_iv (vs := [.int b, .int s2, .int (1 + kk)]) (o := .lst (xs ++ [.ref t])) hP nf P5 k05 nt
          obtain ⟨s5, e5⟩ := app_cut (vs := [.int b, .int s2, .int (1 + kk)]) (o' := .lst (xs ++ [.ref t])) P5.occ f5 nt
          have f6 : (upd (upd G t (.tup [.int b, .int s2, .int (1 + kk)])) f (.lst (xs ++ [.ref t]))) f = some (.lst (xs ++ [.ref t])) := upd_same
          have hx6 : Dqs K (cut1 f (hid (pot p dl al) Z (upd (upd G t (.tup [.int b, .int s2, .int (1 + kk)])) f (.lst (xs ++ [.ref t]))))) (xs ++ [.ref t]) ((rs ++ [(b, s2, 1 + kk)]).map runD) := by
            rw [List.map_append]
            exact dqs_snoc (hx5.mono s5) (dq_runT (q := (b, s2, 1 + kk)) (.inl (.inl e5)))
          generalize upd (upd G t (.tup [.int b, .int s2, .int (1 + kk)])) f (.lst (xs ++ [.ref t])) = H6 at P6 k6 f6 hx6 ⊢
          refine s_set ?_
          refine (ev_one (m0 := 3) (m := 4) (R := IR 1 10000000) (by rfl) (by decide) IR.mo (ev_lst (by decide) IR.mo (eall_cons IR.mo (ev_int.wide (by decide) (by decide)) (eall_cons IR.mo (ev_int.wide (by decide) (by decide))
            (eall_cons IR.mo ((ev_add (a := 1) (b := 1) ev_int (ev_drawC (m := 99))).wide (by decide) (by decide))
            (eall_cons IR.mo ((ev_add (a := 1) (b := 1) ev_int (ev_draw (b := 10000000) (by rfl) (by decide) ((ev_pow (by decide)).wide (by decide) (by decide)))).wide (by decide) (by decide)) eall_nil)))))).run P6 (b := 0) (by omega) fun v H8 P8 k8 r8 => ?_
          obtain ⟨pz, rfl, z0, z1⟩ := r8
          have ek : (1 + kk - 1) = kk := by omega
          have eL : lastM (b, s2, 1 + kk) = b + st * kk := by
            unfold lastM
            show b + s2 * (1 + kk - 1) = _
            rw [ek, s22]
          obtain ⟨up2, eb2⟩ := runsUp_snoc (x := (b, s2, 1 + kk)) up eb s20 (by show 1 ≤ 1 + kk; omega)
          refine s_set1 ⟨.int b, rfl, .int st, rfl, .int (1 + kk), rfl, _, _, rfl, rfl, st, _, rfl, rfl, .inl ⟨by omega, by omega⟩, b, _, rfl, rfl, .int pz, rfl, _, _, rfl, rfl, rs ++ [(b, s2, 1 + kk)], xs ++ [.ref t], _, _, _, _, _, rfl, P8, k6.trans k8, k8.at_ ff f6, hx6.mono (cut_mono k8), ?_, ?_, ?_, up2, ?_, ?_⟩
          · rw [List.length_append]; show rs.length + 1 ≤ i + 1; omega
          · rw [ek]; omega
          · rw [ek]; omega
          · rw [eb2, eL, ek]; omega
          · intro r hr
            rcases List.mem_append.mp hr with h | h
            · exact ok r h
            · rw [List.mem_singleton.mp h]
              exact ⟨⟨⟨b0, g'⟩, ⟨s20, by show s2 ≤ 1000000000; omega⟩, ⟨by show 1 ≤ 1 + kk; omega, by show 1 + kk ≤ 1000000001; omega⟩, by rw [eL]; omega⟩, fun z => s23 (by have z : 1 + kk = 1 := z; omega)⟩
        · intro Q' hQ
          refine ⟨.int (1 + kk), rfl, _, 1, rfl, rfl, _, rfl, ite2 (fun g2 => ?_) (fun g2 => ?_)⟩
          · have g2' : 1 < 1 + kk := of_decide_eq_true g2
            exact ⟨.int st, rfl, hQ _ _ ⟨rfl, st, rfl, s0, s1, rfl, fun z => by omega⟩⟩
          · have g2' : ¬ 1 < 1 + kk := fun z => g2 (decide_eq_true z)
            obtain rfl : kk = 0 := by omega
            exact hQ _ _ ⟨rfl, 1, rfl, by decide, by decide, by simp, fun _ => rfl⟩
      · exact ⟨rs, xs, b, _, _, _, _, rfl, P5, k05, f5, hx5, by omega, b0, b1, up, eb, ok⟩
    · rintro σ Hi ⟨rs, xs, b, y5, y6, y7, y8, rfl, Pi, ki, ei, hx, la, b0, b1, up, eb, ok⟩
      refine ⟨.ref f, rfl, f, xs, rfl, .inl ⟨.inl (.inl ei), fun t nt => ?_⟩⟩
      obtain ⟨P7, k7, e7⟩ := laid (o := .tup xs) Pi nt
      exact q _ _ rs P7 (ki.trans k7) (.tup (.inl (.inl e7)) (hx.mono (cut_same.trans k7))) ⟨by omega, up, ok⟩ (by omega)
end
end Lg
namespace Lm
open PySem PySem.Spec PyProof.Rows L2 Lg
section
variable {P : Program} {w : World} {K : PySem.W.Frag} {mg : Str → Option Value} {base : Heap}
theorem ok_l_log0 (T : All K mg) : FnOk P w K mg base CX0 3 T.f_l_log T.fd_l_log ["pot", "upto", "great"] (Lm.sp_log K) := by
  have nd := sc_l_log.nd
  refine T.D_l_log.F.ok sc_l_log (fun vs H Q E h => ?_) (fun cdv A outer s H vs Q E hr h => ?_)
  · obtain ⟨Z, p, dl, al, u, g, rfl, _⟩ := h
    rfl
  · obtain ⟨Z, p, dl, al, u, g, rfl, hP, u0, u1, g0, g1, q⟩ := h
    refine ⟨_, (pss_cons (ps_par (i := 3) (j := 4) (by rfl) nd rfl rfl (by decide) rfl rfl (pa_cons (pe_lst pa_nil) (pa_cons (pe_call (ok_l_one0 T) (hr.mono (by decide)) (by rfl) T.D_l_one.g T.D_l_one.F.kp T.D_l_one.b .nil pass0 (pa_cons (pv 0) (pa_cons (pe_lst (pa_cons pe_int (pa_cons pe_int (pa_cons (pe_call (ok_l_draw0 T) (hr.mono (by decide)) (by rfl) T.D_l_draw.g T.D_l_draw.F.kp T.D_l_draw.b .nil pass0 (pa_cons (pv 0) (pa_cons (pv 2) pa_nil))) pa_nil)))) pa_nil))) pa_nil)) (by rfl))
  (pss_cons (ps_for PassesOwn.never rfl (pi_range1 (by rfl) T.z_range (pa_cons (pe_call (ok_l_draw0 T) (hr.mono (by decide)) (by rfl) T.D_l_draw.g T.D_l_draw.F.kp T.D_l_draw.b .nil pass0 (pa_cons (pv 0) (pa_cons (pe_op op_add (pv 1) pe_int) pa_nil))) pa_nil)) (pg_name (i := 5) nd rfl (by first | exact Or.inl rfl | exact Or.inr rfl))
    (pss_cons (ps_set (i := 6) nd rfl (by first | exact Or.inl rfl | exact Or.inr rfl) (pe_call (ok_l_one0 T) (hr.mono (by decide)) (by rfl) T.D_l_one.g T.D_l_one.F.kp T.D_l_one.b .nil pass0 (pa_cons (pv 0) (pa_cons (pe_lst (pa_cons pe_int (pa_cons pe_int (pa_cons (pe_op op_add pe_int (pe_call (ok_l_draw0 T) (hr.mono (by decide)) (by rfl) T.D_l_draw.g T.D_l_draw.F.kp T.D_l_draw.b .nil pass0 (pa_cons (pv 0) (pa_cons pe_int pa_nil)))) (pa_cons (pe_op op_add pe_int (pe_call (ok_l_draw0 T) (hr.mono (by decide)) (by rfl) T.D_l_draw.g T.D_l_draw.F.kp T.D_l_draw.b .nil pass0 (pa_cons (pv 0) (pa_cons (pv 2) pa_nil)))) pa_nil))))) pa_nil))))
  (pss_cons (ps_expr (pe_bm PySem.F.plainAttrs_list PySem.F.slot_list_append PySem.F.type_list_append mt_append (pv 3) (pa_cons (pe_tup (pa_cons (pv 4) (pa_cons (pe_op op_add (pv 4) (pv 6)) pa_nil))) pa_nil)))
  (pss_one (ps_set (i := 4) nd rfl (by first | exact Or.inl rfl | exact Or.inr rfl) (pe_op op_add (pe_op op_add (pv 4) (pv 6)) (pe_call (ok_l_one0 T) (hr.mono (by decide)) (by rfl) T.D_l_one.g T.D_l_one.F.kp T.D_l_one.b .nil pass0 (pa_cons (pv 0) (pa_cons (pe_lst (pa_cons pe_int (pa_cons pe_int (pa_cons (pe_op op_add pe_int (pe_call (ok_l_draw0 T) (hr.mono (by decide)) (by rfl) T.D_l_draw.g T.D_l_draw.F.kp T.D_l_draw.b .nil pass0 (pa_cons (pv 0) (pa_cons pe_int pa_nil)))) (pa_cons (pe_op op_add pe_int (pe_call (ok_l_draw0 T) (hr.mono (by decide)) (by rfl) T.D_l_draw.g T.D_l_draw.F.kp T.D_l_draw.b .nil pass0 (pa_cons (pv 0) (pa_cons (pv 2) pa_nil)))) pa_nil))))) pa_nil)))))))))
  (pss_one (ps_ret (pe_callTy call_tuple_of (by rfl) T.z_tuple (by decide +kernel) (pa_cons (pe_lc (own := [("part", 7)]) rfl nd (pi_list (pv 3)) (blkOk_by (own := [("part", 7)]) (N := n_l_log) (sc := defScope s_l_log) (by decide +kernel)) (fun _ _ _ _ _ => (pg_name (i := 7) nd rfl (by first | exact Or.inl rfl | exact Or.inr rfl))) (fun _ _ _ _ _ => (pts_one (pt_cmpR op_le (pe_ix (ixK (K := K) rfl) (pv 7) pe_int (fun _ _ => rfl)) (pe_op op_mul pe_int (pe_op op_pow pe_int pe_int)) (nomark _)))) (fun _ _ _ _ _ => (pv 7))) pa_nil)))))), ?_⟩
    refine s_par ⟨Nat.zero_le _, fun f nf => ?_⟩
    obtain ⟨P1, k1, e1⟩ := laid (o := .lst []) hP nf
    have ff := hP.free nf
    refine (eva_cons IR.mo (ev_start (by rfl) (by rfl) g0 g1) eva_nil) _ _ P1 (Kp.refl _ _ _) fun vs H2 P2 k2 r2 => ?_
    obtain ⟨h, r, rfl, ⟨b, rfl, b0, b1⟩, rfl⟩ := r2
    refine ⟨_, _, rfl, ?_⟩
    have e2 : H2 f = some (.lst []) := hid_same _ _ _ _ _ (k2 _ _ e1)
    refine s_rng ?_
    refine (eva_cons IR.mo (ev_upto (by rfl) (by rfl) u0 u1) eva_nil) _ _ P2 (Kp.refl _ _ _) fun vs H3 P3 k3 r3 => ?_
    obtain ⟨nn, r, rfl, ⟨n, rfl, n0, n1⟩, rfl⟩ := r3
    refine ⟨n, rfl, by omega, by omega, for_it walk_range (fun i σ Hi => ∃ ps xs b y5 y6, σ = [some (.ref p), some (.int u), some (.int g), some (.ref f), some (.int b), y5, y6, none] ∧ PotAt Z Hi p dl al ∧ Kp Z p dl H Hi ∧ Hi f = some (.lst xs) ∧ Prs (hid Z p dl Hi) xs ps ∧ ps.length = i ∧
      LogUp (-1) ps ∧ fin (-1) ps < b ∧ b ≤ (2 * (i : Int) + 1) * 10000000 ∧ ∀ q ∈ ps, q.2 ≤ 2000000000) ⟨[], [], b, _, _, rfl, P3, k1.trans (k2.trans k3), hid_same _ _ _ _ _ (k3 _ _ (k2 _ _ e1)), .nil, rfl, trivial, by show (-1 : Int) < b; omega, by omega, fun q hq => nomatch hq⟩ (fun i σ H1 _ h => trivial) ?_ ?_⟩
    · rintro i x σ Hi H' hi ⟨ps, xs, b, y5, y6, rfl, Pi, ki, ei, hp, hl, hup, hfin, hb, hbd⟩ ⟨rfl, rfl⟩
      refine s_set ?_
      refine (ev_size (by rfl) (by rfl) g0 g1) _ _ Pi (Kp.refl _ _ _) fun v H4 P4 k4 r4 => ?_
      obtain ⟨sz, rfl, s0, s1⟩ := r4
      have f4 := hid_same _ _ _ _ _ (k4 _ _ (hid_get ff.1 ff.2 ei))
      refine s_expr ⟨.ref f, rfl, .inl ⟨rfl, _, .inl (.inl f4)⟩, .int b, rfl, .int b, rfl, .int sz, rfl, b, sz, rfl, rfl, sz2, fun t nt => ?_⟩
      obtain ⟨P5, k5, f5, p5⟩ := app_pair (a := b) (b := b + sz) hP nf P4 (ki.trans k4) f4 (hp.keep (.of k4)) nt
      have tf : f ≠ t := fun e => by rw [← e, f4] at nt; cases nt
      have lx : xs.length ≤ 1000 := by rw [hp.len, hl]; omega
      refine ⟨f, xs, _, rfl, rfl, by rw [upd_ne tf]; exact f4, small1000 lx, ?_⟩
      refine s_set1 ⟨.int b, rfl, .int sz, rfl, b, sz, rfl, rfl, ?_⟩
      refine (ev_size (by rfl) (by rfl) g0 g1) _ _ P5 (Kp.refl _ _ _) fun v H6 P6 k6 r6 => ?_
      obtain ⟨r, rfl, r0, r1⟩ := r6
      obtain ⟨l1, l2⟩ := LogUp.app (q := (b, b + sz)) hup hfin (by show b < b + sz; omega)
      refine ⟨b + sz, r, rfl, rfl, ps ++ [(b, b + sz)], _, b + sz + r, _, _, rfl, P6, k5.trans k6, hid_same _ _ _ _ _ (k6 _ _ (hid_get ff.1 ff.2 f5)), p5.keep (.of k6), by rw [List.length_append, hl]; rfl, l1, ?_, ?_, fun q hq => ?_⟩
      · rw [l2]; show b + sz < b + sz + r; omega
      · omega
      · rcases List.mem_append.mp hq with e | e
        · exact hbd q e
        · rw [List.mem_singleton.mp e]
          show b + sz ≤ 2000000000
          omega
    · rintro σ Hi ⟨ps, xs, b, y5, y6, rfl, Pi, ki, ei, hp, hl, hup, hfin, hb, hbd⟩
      have hx := hp.len
      refine ⟨.ref f, rfl, f, rfl, ⟨_, .inl (.inl ei)⟩, fun D nD => ?_⟩
      have fD : f ≠ D := fun e => by rw [← e, ei] at nD; cases nD
      refine lc_list (K := K) (a := f) (xs := xs) (fun i Hj => Same Hi Hj ∧ Hj D = some (.lst (xs.take i))) ⟨same_new nD, upd_same⟩ (fun i Hj _ h => .inl (.inl (h.1 _ _ ei))) ?_ ?_
      · rintro i x Hj hx' ⟨sj, eD⟩
        obtain ⟨qq, hq, t, rfl, gt⟩ := hp.get hx'
        have gt' := sj _ _ (hid_same _ _ _ _ _ gt)
        have le : i < xs.length := (List.getElem?_eq_some_iff.mp hx').1
        refine ⟨rfl, .ref t, rfl, t, _, 1, .int qq.2, rfl, rfl, .inl (.inl gt'), atI_nat (j := 1) rfl, 10, 9, rfl, rfl, ⟨by decide, by decide, by decide⟩, 2, _, rfl, rfl, .inl ⟨by decide, by decide⟩, qq.2, 2000000000, rfl, rfl, _, rfl, ?_⟩
        rw [decide_eq_true (hbd qq (List.mem_of_getElem? hq))]
        refine iteT ⟨.ref t, rfl, _, eD, small1000 ?_, same_upd2 sj nD, ?_⟩
        · rw [List.length_take]; omega
        · rw [upd_same, List.take_add_one, hx']; rfl
      · rintro Hj ⟨sj, eD⟩
        rw [List.take_length] at eD
        refine ⟨D, xs, rfl, .inl ⟨.inl (.inl eD), fun t nt => ?_⟩⟩
        have Pj := Pi.keep sj
        obtain ⟨P7, k7, e7⟩ := laid (o := .tup xs) Pj nt
        have kj : Kp Z p dl Hi Hj := Kp.of sj
        refine q _ _ P7 (ki.trans (kj.trans k7)) ⟨ps, ⟨t, xs, rfl, e7, hp.keep (.of (kj.trans k7))⟩, by omega, hup.less (Int.le_refl _), hbd⟩
end
end Lm
namespace Lg
open PySem PySem.Spec PyProof.Rows L2 Lm
section
variable {P : Program} {w : World} {K : PySem.W.Frag} {mg : Str → Option Value} {base : Heap}
theorem ok_l_log (T : All K mg) : FnOk P w K mg base CX0 3 T.f_l_log T.fd_l_log ["pot", "upto", "great"] (sp_logP K) := (Lm.ok_l_log0 T).imp (log_imp K)
theorem ok_l_number (T : All K mg) : FnOk P w K mg base CX0 1 T.f_l_number T.fd_l_number ["part"] (sp_numG K) := by
  have nd := sc_l_number.nd
  refine T.D_l_number.F.ok sc_l_number (fun vs H Q E h => ?_) (fun cdv A outer s H vs Q E hr h => ?_)
  · obtain ⟨N, x, _, hd, _⟩ := h
    exact hd.len
  · obtain ⟨N, x, O, hd, hl, qq⟩ := h
    have hl : x.length ≤ 5000 := hl
    obtain ⟨v1, _, rfl, hd1, hd⟩ := dqs_cons hd
    obtain rfl := dqs_nil hd
    obtain rfl := dq_str hd1
    have no : ∀ H', Same H H' → numO x = none → Q .non H' := fun H' s e => qq _ H' s (by show Dq K _ _ (optD (numO x)); rw [e]; exact .non)
    refine ⟨_, (pss_cons (ps_if (PW.pt (pw_or (pt_cmpR op_eq (pv 0) pe_str (nomark _)) (pw_or (pt_cmpR op_gt (pe_callB call_len_str (by rfl) T.z_len (by decide +kernel) (pa_cons (pv 0) pa_nil)) pe_int (nomark _)) (pw_or1 (pt_cmpR (op_neE hr.units0) (pe_lc (own := [("sign", 1)]) rfl nd (pi_str (pv 0)) (blkOk_by (own := [("sign", 1)]) (N := n_l_number) (sc := defScope s_l_number) (by decide +kernel)) (fun _ _ _ _ _ => (pg_name (i := 1) nd rfl (by first | exact Or.inl rfl | exact Or.inr rfl))) (fun _ _ _ _ _ => (pts_one (pt_cmpR op_notIn_sign (pv 1) pe_str (by rfl)))) (fun _ _ _ _ _ => (pv 1))) (pe_lst pa_nil) (nomark _))))))
    (pss_one (ps_ret pe_non))
    pss_nil)
  (pss_one (ps_ret (pe_ifExp (PW.pt (pw_and (pt_cmpR op_eq (pe_ix ix_str (pv 0) pe_int (fun _ _ => rfl)) pe_str (nomark _)) (pw_and1 (pt_cmpR op_ne (pv 0) pe_str (nomark _))))) pe_non (pe_callTy call_int_str (by rfl) T.z_int (by decide +kernel) (pa_cons (pv 0) pa_nil)))))), ?_⟩
    refine s_if ?_
    refine ⟨.str x, rfl, rfl, _, rfl, ?_⟩
    by_cases e0 : x = Str.empty
    · subst e0
      rw [decide_eq_true (show V.str Str.empty = V.str (Str.ofString "") from rfl)]
      exact iteT (iteT (no _ (Same.refl H) (numO_nil rfl)))
    rw [decide_eq_false (show ¬ V.str x = V.str (Str.ofString "") from fun z => e0 (V.str.inj z))]
    refine iteF ⟨.str x, rfl, x, rfl, szl (by omega), _, _, rfl, rfl, _, rfl, ?_⟩
    by_cases g1 : 20 < x.length
    · rw [decide_eq_true (show (20 : Int) < ((x.length : Nat) : Int) by omega)]
      exact iteT (iteT (no _ (Same.refl H) (numO_long g1)))
    rw [decide_eq_false (show ¬ (20 : Int) < ((x.length : Nat) : Int) by omega)]
    refine iteF ⟨.str x, rfl, x, rfl, fun D nD => ?_⟩
    have sz : x.cps.size ≤ 20 := by have : x.cps.size = x.length := rfl; omega
    refine lc_it (walk_str (z := x)) (fun i Hj => ∃ acc, Same H Hj ∧ Hj D = some (.lst acc) ∧ acc.length ≤ i ∧ acc.isEmpty = digL ((TL.tl x).take i)) ⟨[], same_new nD, upd_same, Nat.le_refl _, rfl⟩ (fun _ _ _ _ => trivial) ?_ ?_
    · rintro i v Hj H' hi ⟨acc, sj, ej, la, ea⟩ ⟨rfl, c, hc, rfl⟩
      have et := digL_take (cps_tl hc)
      refine ⟨rfl, .str ⟨#[c]⟩, rfl, c, Str.ofString "0123456789", rfl, rfl, _, rfl, ?_⟩
      rw [dig_in]
      cases g : (decide (48 ≤ c) && decide (c ≤ 57)) with
      | true =>
        rw [g, Bool.and_true] at et
        exact iteF ⟨acc, sj, ej, by omega, by rw [et]; exact ea⟩
      | false =>
        rw [g, Bool.and_false] at et
        exact iteT ⟨.str ⟨#[c]⟩, rfl, acc, ej, small1000 (by omega), acc ++ [.str ⟨#[c]⟩], same_upd sj nD, upd_same, by rw [List.length_append]; show acc.length + 1 ≤ i + 1; omega, by rw [et]; simp⟩
    · rintro Hn ⟨acc, sn, en, la, ea⟩
      have ea : acc.isEmpty = digL (TL.tl x) := by
        rw [ea, show x.cps.size = (TL.tl x).length from TL.len_tl x, List.take_length]
      refine ⟨Nat.zero_le _, fun l nl => ?_⟩
      have s2 := same_new (o := .lst []) nl
      refine ⟨D, l, acc, rfl, rfl, .inl (.inl (s2 _ _ en)), .inl (.inl upd_same), _, rfl, ?_⟩
      have ss := sn.trans s2
      generalize upd Hn l (.lst []) = H5 at ss ⊢
      rw [ea]
      cases g4 : digL (TL.tl x) with
      | false => exact iteT (no _ ss (numO_nodig g4))
      | true =>
        have g5 : TL.tl x ≠ [] := fun z => e0 (TL.ext_tl z)
        have ok := numO_ok g1 g5 g4
        refine iteF ?_
        obtain ⟨c, r, hc⟩ : ∃ c r, TL.tl x = c :: r := by
          cases e : TL.tl x with
          | nil => exact absurd e g5
          | cons c r => exact ⟨c, r, rfl⟩
        have at0 : x.cps.toList[0]? = some c := by
          rw [show x.cps.toList = c :: r from hc]
          rfl
        refine ⟨.str x, rfl, x, 0, c, rfl, rfl, szl (by omega), atI_nat (j := 0) at0, rfl, _, rfl, ?_⟩
        have fin2 : ∀ n, numO x = some n → tCB (fun xs H Q => ∃ a n, xs = [V.str a] ∧ PySem.intText? a = some n ∧ a.length ≤ 640 ∧ Q (V.int n) H) (tCons (tVar 0) tNil) (L2.start n_l_number [V.str x]) H5 Q := fun n e => by
          obtain ⟨b0, b1, b2, b3, b4, b5⟩ := numO_val e
          exact ⟨.str x, rfl, x, n, rfl, b2, by omega, qq _ H5 ss (by show Dq K _ _ (optD (numO x)); rw [e]; exact .int n)⟩
        rw [hc] at ok
        by_cases e : c = 48
        · rw [show decide (V.str ⟨#[c]⟩ = V.str (Str.ofString "0")) = true from by rw [e]; exact decide_eq_true rfl]
          refine iteT ⟨.str x, rfl, rfl, _, rfl, ?_⟩
          by_cases e2 : x = "0"
          · rw [show (!decide (V.str x = V.str (Str.ofString "0"))) = false from by rw [e2, decide_eq_true rfl]; rfl]
            rw [if_neg (fun z => z.2 e2)] at ok
            exact iteF (fin2 _ ok)
          · rw [show (!decide (V.str x = V.str (Str.ofString "0"))) = true from by rw [decide_eq_false fun z => e2 (V.str.inj z)]; rfl]
            rw [if_pos ⟨by rw [e]; rfl, e2⟩] at ok
            exact iteT (no _ ss ok)
        · rw [show decide (V.str ⟨#[c]⟩ = V.str (Str.ofString "0")) = false from decide_eq_false fun z => by
            have z1 : (⟨#[c]⟩ : Str) = Str.ofString "0" := V.str.inj z
            have z2 := congrArg TL.tl z1
            have z3 : TL.tl (Str.ofString "0") = [48] := by decide +kernel
            rw [z3] at z2
            exact e (List.cons.inj z2).1]
          rw [if_neg (fun z => e (Option.some.inj z.1))] at ok
          exact iteF (iteF (fin2 _ ok))
theorem ok_l_spaced (T : All K mg) : FnOk P w K mg base CX0 1 T.f_l_spaced T.fd_l_spaced ["items"] (sp_spaced K) := by
  have nd := sc_l_spaced.nd
  refine T.D_l_spaced.F.ok sc_l_spaced (fun vs H Q E h => ?_) (fun cdv A outer s H vs Q E hr h => ?_)
  · obtain ⟨N, x, _, hd, _⟩ := h
    exact hd.len
  · obtain ⟨N, ds, O, hd, ⟨hn, hs⟩, qq⟩ := h
    have hn : ds.length ≤ 900 := hn
    obtain ⟨v1, _, rfl, hd1, hd⟩ := dqs_cons hd
    obtain rfl := dqs_nil hd
    obtain ⟨a, ys, rfl, g, hy⟩ := dq_lst hd1
    have gl : SqL K H a ys := Same.seqL cut_same g
    refine ⟨_, (pss_one (ps_ret (pe_join pe_str (pe_lc (own := [("item", 1)]) rfl nd (pi_list (pv 0)) (blkOk_by (own := [("item", 1)]) (N := n_l_spaced) (sc := defScope s_l_spaced) (by decide +kernel)) (fun _ _ _ _ _ => (pg_name (i := 1) nd rfl (by first | exact Or.inl rfl | exact Or.inr rfl))) (fun _ _ _ _ _ => pts_nil) (fun _ _ _ _ _ => (pe_callTy call_str_any (by rfl) T.z_str (by decide +kernel) (pa_cons (pv 1) pa_nil))))))), ?_⟩
    refine ⟨⟨_, rfl⟩, .ref a, rfl, a, rfl, ⟨_, gl⟩, fun D nD => ?_⟩
    refine lc_map (K := K) (D := fun d => d) (F := fun d => .str (textOf d)) (as := ds) (N := N) (walk_list (K := K) (a := a) (xs := ys)) (fun H' s => Same.seqL s gl) nD O (by rw [List.map_id']; exact hy) hn ?_ ?_
    · intro G u d Q' hm OG sG sH hu q'
      rcases hs d hm with ⟨s, rfl, _⟩ | ⟨i, rfl, h0, h1⟩
      · obtain rfl := dq_str hu
        exact ⟨.str s, rfl, .inl ⟨s, rfl, q' _ _ (Same.refl _) (.str s)⟩⟩
      · obtain rfl := dq_int hu
        exact ⟨.int i, rfl, .inr ⟨i, rfl, num_log h0 (by omega), q' _ _ (Same.refl _) (.str _)⟩⟩
    · intro H' acc s e OH' hacc
      have em : (ds.map fun d => PyData.str (textOf d)) = (ds.map textOf).map .str := by rw [List.map_map]; rfl
      rw [em] at hacc
      obtain rfl := dqs_strs hacc
      exact ⟨_, D, ds.map textOf, rfl, rfl, .inl (.inl (.inl e)), si_sum hs hn, qq _ _ s (.str _)⟩
theorem ok_l_whole (T : All K mg) : FnOk P w K mg base CX0 1 T.f_l_whole T.fd_l_whole ["value", "low", "high"] (sp_whole K) := by
  have nd := sc_l_whole.nd
  refine T.D_l_whole.F.ok sc_l_whole (fun vs H Q E h => ?_) (fun cdv A outer s H vs Q E hr h => ?_)
  · obtain ⟨v, d, lo, hi, rfl, _⟩ := h
    rfl
  · obtain ⟨v, d, lo, hi, rfl, hd, q⟩ := h
    refine ⟨_, (pss_one (ps_ret (pe_and (pe_callB call_isi (by rfl) T.z_isinstance (by decide +kernel) (pa_cons (pv 0) (pa_cons (pe_bltn (v := .ty "int") (by rfl) T.z_int (by decide +kernel) rfl) pa_nil))) (pe_and (pe_not (pe_callB call_isi (by rfl) T.z_isinstance (by decide +kernel) (pa_cons (pv 0) (pa_cons (pe_bltn (v := .ty "bool") (by rfl) T.z_bool (by decide +kernel) rfl) pa_nil)))) (pe_one (pe_chain op_le op_le (pv 1) (pv 0) (pv 2))))))), ?_⟩
    refine ⟨v, rfl, v, .ty "int", _, _, _, rfl, .ty "int", hd.ty, kit_ty (kit_i d), _, rfl, ?_⟩
    cases hd with
    | int i =>
      have q : Q (.bl (decide (lo ≤ i) && decide (i ≤ hi))) H := q
      refine iteT ⟨_, rfl, _, .ty "bool", _, _, _, rfl, .ty "bool", (Dq.int (K := K) (H := H) i).ty, kit_ty (kit_b _), _, rfl, _, rfl, iteT ?_⟩
      refine ⟨_, rfl, _, rfl, lo, i, rfl, rfl, _, rfl, ?_⟩
      by_cases h1 : lo ≤ i
      · rw [decide_eq_true h1] at q ⊢
        refine iteT ⟨_, rfl, i, hi, rfl, rfl, ?_⟩
        rw [Bool.true_and] at q
        exact q
      · rw [decide_eq_false h1] at q ⊢
        exact iteF q
    | bl b => exact iteT ⟨_, rfl, _, .ty "bool", _, _, _, rfl, .ty "bool", (Dq.bl (K := K) (H := H) b).ty, kit_ty (kit_b _), _, rfl, _, rfl, iteF q⟩
    | _ => exact iteF q
theorem ok_l_is_run (T : All K mg) : FnOk P w K mg base CX0 2 T.f_l_is_run T.fd_l_is_run ["value"] (sp_bool K fun d => (runOf d).isSome) := by
  have nd := sc_l_is_run.nd
  refine T.D_l_is_run.F.ok sc_l_is_run (fun vs H Q E h => ?_) (fun cdv A outer s H vs Q E hr h => ?_)
  · obtain ⟨v, d, rfl, _⟩ := h
    rfl
  · obtain ⟨v, d, rfl, hd, q⟩ := h
    dsimp only at q
    refine ⟨_, (pss_cons (ps_if (PW.pt (pw_or (pt_not (pt_val (pe_callB call_isi (by rfl) T.z_isinstance (by decide +kernel) (pa_cons (pv 0) (pa_cons (pe_bltn (v := .ty "tuple") (by rfl) T.z_tuple (by decide +kernel) rfl) pa_nil))))) (pw_or (pt_cmpR op_ne (pe_callB call_len_seq (by rfl) T.z_len (by decide +kernel) (pa_cons (pv 0) pa_nil)) pe_int (nomark _)) (pw_or1 (pt_cmpR (op_neE hr.units0) (pe_lc (own := [("k", 1)]) rfl nd (pi_tup (pv 0)) (blkOk_by (own := [("k", 1)]) (N := n_l_is_run) (sc := defScope s_l_is_run) (by decide +kernel)) (fun _ _ _ _ _ => (pg_name (i := 1) nd rfl (by first | exact Or.inl rfl | exact Or.inr rfl))) (fun _ _ _ _ _ => (pts_one (pt_not (pt_val (pe_call (ok_l_whole T) (hr.mono (by decide)) (by rfl) T.D_l_whole.g T.D_l_whole.F.kp T.D_l_whole.b .nil pass0 (pa_cons (pv 1) (pa_cons pe_int (pa_cons (pe_op op_add (pe_op op_pow pe_int pe_int) pe_int) pa_nil)))))))) (fun _ _ _ _ _ => (pv 1))) (pe_lst pa_nil) (nomark _))))))
    (pss_one (ps_ret pe_bl))
    pss_nil)
  (pss_cons (ps_asg (pv 0) (pg_tup rfl (pgs_cons (pg_name (i := 2) nd rfl (by first | exact Or.inl rfl | exact Or.inr rfl)) (pgs_cons (pg_name (i := 3) nd rfl (by first | exact Or.inl rfl | exact Or.inr rfl)) (pgs_cons (pg_name (i := 4) nd rfl (by first | exact Or.inl rfl | exact Or.inr rfl)) pgs_nil)))))
  (pss_cons (ps_if (PW.pt (pw_or (pt_cmpR op_eq (pv 3) pe_int (nomark _)) (pw_or (pt_cmpR op_eq (pv 4) pe_int (nomark _)) (pw_or1 (PW.pt (pw_and (pt_cmpR op_eq (pv 4) pe_int (nomark _)) (pw_and1 (pt_cmpR op_gt (pv 3) pe_int (nomark _)))))))))
    (pss_one (ps_ret pe_bl))
    pss_nil)
  (pss_one (ps_ret (pe_cmpR op_le (pe_op op_add (pv 2) (pe_op op_mul (pv 3) (pe_op op_sub (pv 4) pe_int))) (pe_op op_pow pe_int pe_int) (nomark _))))))), ?_⟩
    refine s_if ?_
    refine ⟨v, rfl, v, .ty "tuple", _, _, _, rfl, .ty "tuple", hd.ty, kit_ty (kit_t d), _, rfl, ?_⟩
    cases hd with
    | @tup a xs ds hs ha =>
      have hl := ha.len
      refine iteF ⟨.ref a, rfl, a, xs, rfl, .inr hs, rfl, _, rfl, ?_⟩
      by_cases h2 : (xs.length : Int) = 3
      · rw [show (!decide (V.int (xs.length : Int) = V.int 3)) = false from by rw [decide_eq_true (by rw [h2])]; rfl]
        refine iteF ⟨.ref a, rfl, a, rfl, ⟨_, hs⟩, fun D nD => ?_⟩
        refine lc_tup (K := K) (a := a) (xs := xs) (fun i H1 => (∃ acc, H1 D = some (.lst acc) ∧ acc.length ≤ i ∧ acc.isEmpty = (ds.take i).all (inW 0 1000000001)) ∧ Same H H1) ⟨⟨[], upd_same, Nat.le_refl _, rfl⟩, same_new nD⟩ (fun i H1 _ h => Same.seqT h.2 hs) ?_ ?_
        · rintro i x H1 hx ⟨⟨acc, eD, la, ea⟩, s1⟩
          obtain ⟨e, he, hq⟩ := ha.get hx
          have hi : i < ds.length := (List.getElem?_eq_some_iff.mp he).1
          refine ⟨rfl, x, rfl, 10, 9, rfl, rfl, ⟨by decide, by decide, by decide⟩, _, 1, rfl, rfl, x, e, 0, 1000000001, rfl, hq.mono s1, _, rfl, ?_⟩
          cases hw : inW 0 1000000001 e with
          | true =>
            refine iteF ⟨⟨acc, eD, by omega, ?_⟩, s1⟩
            rw [List.take_add_one, he, List.all_append, ea]
            simp [hw]
          | false =>
            refine iteT ⟨x, rfl, acc, eD, small1000 (by omega), ⟨acc ++ [x], upd_same, by simp; omega, ?_⟩, same_upd2 s1 nD⟩
            rw [List.take_add_one, he, List.all_append]
            simp [hw]
        · rintro H1 ⟨⟨acc, eD, la, ea⟩, s1⟩
          rw [hl, List.take_length] at ea
          refine ⟨Nat.zero_le _, fun l nl => ?_⟩
          have s2 := same_new (o := .lst []) nl
          refine ⟨D, l, acc, rfl, rfl, .inl (.inl (s2 _ _ eD)), .inl (.inl upd_same), _, rfl, ?_⟩
          cases hw : ds.all (inW 0 1000000001) with
          | false =>
            rw [ea, hw]
            have e := runOf_out hw
            rw [e] at q
            exact iteT (q _ (s1.trans s2))
          | true =>
            rw [ea, hw]
            refine iteF ?_
            match ds, ha, hl, hw with
            | [d1, d2, d3], ha, hl, hw =>
              simp only [List.all_cons, List.all_nil, Bool.and_true, Bool.and_eq_true] at hw
              obtain ⟨a', rfl, a1, a2⟩ := inW_int hw.1
              obtain ⟨st, rfl, b1, b2⟩ := inW_int hw.2.1
              obtain ⟨c, rfl, c1, c2⟩ := inW_int hw.2.2
              cases ha with
              | cons h1 h2 =>
                cases h2 with
                | cons h3 h4 =>
                  cases h4 with
                  | cons h5 h6 =>
                    cases h6
                    cases h1
                    cases h3
                    cases h5
                    have hs2 := Same.seqT (s1.trans s2) hs
                    have ss := s1.trans s2
                    rw [runOf_eq] at q
                    have q' := q _ ss
                    clear q
                    generalize upd H1 l (.lst []) = H5 at hs2 q' ⊢
                    have no : ¬ (0 ≤ a' ∧ 1 ≤ st ∧ 1 ≤ c ∧ (c = 1 → st = 1) ∧ a' + st * (c - 1) ≤ 1000000000) → Q (.bl false) H5 := fun n => by
                      rw [decide_eq_false n] at q'
                      exact q'
                    refine ⟨.ref a, rfl, a, _, rfl, hs2, rfl, _, _, rfl, _, _, rfl, _, _, rfl, rfl, ?_⟩
                    refine ⟨.int st, rfl, rfl, _, rfl, ?_⟩
                    by_cases g2 : st = 0
                    · rw [show decide (V.int st = V.int 0) = true from by rw [g2]; rfl]
                      exact iteT (no (by omega))
                    · rw [show decide (V.int st = V.int 0) = false from decide_eq_false fun z => g2 (V.int.inj z)]
                      refine iteF ⟨.int c, rfl, rfl, _, rfl, ?_⟩
                      by_cases g3 : c = 0
                      · rw [show decide (V.int c = V.int 0) = true from by rw [g3]; rfl]
                        exact iteT (no (by omega))
                      · rw [show decide (V.int c = V.int 0) = false from decide_eq_false fun z => g3 (V.int.inj z)]
                        have fin : (c = 1 → st = 1) → ∃ i j, V.int (a' + st * (c - 1)) = .int i ∧ V.int 1000000000 = .int j ∧ Q (.bl (decide (i ≤ j))) H5 := fun g => by
                          refine ⟨_, _, rfl, rfl, ?_⟩
                          have e : decide (0 ≤ a' ∧ 1 ≤ st ∧ 1 ≤ c ∧ (c = 1 → st = 1) ∧ a' + st * (c - 1) ≤ 1000000000) = decide (a' + st * (c - 1) ≤ 1000000000) := by
                            rw [decide_eq_decide]
                            exact ⟨fun h => h.2.2.2.2, fun h => ⟨by omega, by omega, by omega, g, h⟩⟩
                          rw [e] at q'
                          exact q'
                        refine iteF ⟨.int c, rfl, rfl, _, rfl, ?_⟩
                        by_cases g4 : c = 1
                        · rw [show decide (V.int c = V.int 1) = true from by rw [g4]; rfl]
                          refine iteT ⟨.int st, rfl, st, 1, rfl, rfl, _, rfl, ?_⟩
                          by_cases g5 : 1 < st
                          · rw [decide_eq_true g5]
                            exact iteT (no (by omega))
                          · rw [decide_eq_false g5]
                            exact iteF ⟨.int a', rfl, .int st, rfl, .int c, rfl, c, 1, rfl, rfl, st, _, rfl, rfl, .inl ⟨by omega, by omega⟩, a', _, rfl, rfl, 10, 9, rfl, rfl, ⟨by decide, by decide, by decide⟩, fin fun _ => by omega⟩
                        · rw [show decide (V.int c = V.int 1) = false from decide_eq_false fun z => g4 (V.int.inj z)]
                          exact iteF ⟨.int a', rfl, .int st, rfl, .int c, rfl, c, 1, rfl, rfl, st, _, rfl, rfl, .inl ⟨by omega, by omega⟩, a', _, rfl, rfl, 10, 9, rfl, rfl, ⟨by decide, by decide, by decide⟩, fin fun g => absurd g g4⟩
            | [], _, hl, _ => exact absurd h2 (by rw [hl]; simp)
            | [_], _, hl, _ => exact absurd h2 (by rw [hl]; simp)
            | [_, _], _, hl, _ => exact absurd h2 (by rw [hl]; simp)
            | _ :: _ :: _ :: _ :: _, _, hl, _ => exact absurd h2 (by rw [hl]; simp only [List.length_cons]; omega)
      · rw [show (!decide (V.int (xs.length : Int) = V.int 3)) = true from by rw [decide_eq_false fun z => h2 (V.int.inj z)]; rfl]
        rw [hl] at h2
        rw [runOf_len h2] at q
        exact iteT (q H (Same.refl H))
    | _ => exact iteT (q H (Same.refl H))
theorem ok_l_is_part (T : All K mg) : FnOk P w K mg base CX0 2 T.f_l_is_part T.fd_l_is_part ["value"] (sp_bool K fun d => (stOf d).isSome) := by
  have nd := sc_l_is_part.nd
  refine T.D_l_is_part.F.ok sc_l_is_part (fun vs H Q E h => ?_) (fun cdv A outer s H vs Q E hr h => ?_)
  · obtain ⟨v, d, rfl, _⟩ := h
    rfl
  · obtain ⟨v, d, rfl, hd, q⟩ := h
    dsimp only at q
    refine ⟨_, (pss_cons (ps_if (PW.pt (pw_or (pt_not (pt_val (pe_callB call_isi (by rfl) T.z_isinstance (by decide +kernel) (pa_cons (pv 0) (pa_cons (pe_bltn (v := .ty "tuple") (by rfl) T.z_tuple (by decide +kernel) rfl) pa_nil))))) (pw_or (pt_cmpR op_ne (pe_callB call_len_seq (by rfl) T.z_len (by decide +kernel) (pa_cons (pv 0) pa_nil)) pe_int (nomark _)) (pw_or1 (pt_cmpR (op_neE hr.units0) (pe_lc (own := [("k", 1)]) rfl nd (pi_tup (pv 0)) (blkOk_by (own := [("k", 1)]) (N := n_l_is_part) (sc := defScope s_l_is_part) (by decide +kernel)) (fun _ _ _ _ _ => (pg_name (i := 1) nd rfl (by first | exact Or.inl rfl | exact Or.inr rfl))) (fun _ _ _ _ _ => (pts_one (pt_not (pt_val (pe_call (ok_l_whole T) (hr.mono (by decide)) (by rfl) T.D_l_whole.g T.D_l_whole.F.kp T.D_l_whole.b .nil pass0 (pa_cons (pv 1) (pa_cons pe_int (pa_cons (pe_op op_mul pe_int (pe_op op_pow pe_int pe_int)) pa_nil)))))))) (fun _ _ _ _ _ => (pv 1))) (pe_lst pa_nil) (nomark _))))))
    (pss_one (ps_ret pe_bl))
    pss_nil)
  (pss_one (ps_ret (pe_cmpR op_lt (pe_ix ix_tup (pv 0) pe_int (fun _ _ => rfl)) (pe_ix ix_tup (pv 0) pe_int (fun _ _ => rfl)) (nomark _))))), ?_⟩
    refine s_if ?_
    refine ⟨v, rfl, v, .ty "tuple", _, _, _, rfl, .ty "tuple", hd.ty, kit_ty (kit_t d), _, rfl, ?_⟩
    cases hd with
    | @tup a xs ds hs ha =>
      have hl := ha.len
      refine iteF ⟨.ref a, rfl, a, xs, rfl, .inr hs, rfl, _, rfl, ?_⟩
      by_cases h2 : (xs.length : Int) = 2
      · have e2 : (!decide (V.int (xs.length : Int) = V.int 2)) = false := by rw [decide_eq_true (by rw [h2])]; rfl
        rw [e2]
        refine iteF ⟨.ref a, rfl, a, rfl, ⟨_, hs⟩, fun D nD => ?_⟩
        refine lc_tup (K := K) (a := a) (xs := xs) (fun i H1 => (∃ acc, H1 D = some (.lst acc) ∧ acc.length ≤ i ∧ acc.isEmpty = (ds.take i).all (inW 0 2000000000)) ∧ Same H H1) ⟨⟨[], upd_same, Nat.le_refl _, rfl⟩, same_new nD⟩ (fun i H1 _ h => Same.seqT h.2 hs) ?_ ?_
        · rintro i x H1 hx ⟨⟨acc, eD, la, ea⟩, s1⟩
          obtain ⟨e, he, hq⟩ := ha.get hx
          have hi : i < ds.length := (List.getElem?_eq_some_iff.mp he).1
          refine ⟨rfl, x, rfl, 10, 9, rfl, rfl, ⟨by decide, by decide, by decide⟩, 2, _, rfl, rfl, .inl ⟨by decide, by decide⟩, x, e, 0, 2000000000, rfl, hq.mono s1, _, rfl, ?_⟩
          cases hw : inW 0 2000000000 e with
          | true =>
            refine iteF ⟨⟨acc, eD, by omega, ?_⟩, s1⟩
            rw [List.take_add_one, he, List.all_append, ea]
            simp [hw]
          | false =>
            refine iteT ⟨x, rfl, acc, eD, small1000 (by omega), ⟨acc ++ [x], upd_same, by simp; omega, ?_⟩, same_upd2 s1 nD⟩
            rw [List.take_add_one, he, List.all_append]
            simp [hw]
        · rintro H1 ⟨⟨acc, eD, la, ea⟩, s1⟩
          rw [hl, List.take_length] at ea
          refine ⟨Nat.zero_le _, fun l nl => ?_⟩
          have s2 := same_new (o := .lst []) nl
          refine ⟨D, l, acc, rfl, rfl, .inl (.inl (s2 _ _ eD)), .inl (.inl upd_same), _, rfl, ?_⟩
          cases hw : ds.all (inW 0 2000000000) with
          | false =>
            rw [ea, hw]
            have e := stOf_out hw
            rw [e] at q
            exact iteT (q _ (s1.trans s2))
          | true =>
            rw [ea, hw]
            refine iteF ?_
            match ds, ha, hl, hw with
            | [d1, d2], ha, hl, hw =>
              simp only [List.all_cons, List.all_nil, Bool.and_true, Bool.and_eq_true] at hw
              obtain ⟨i1, rfl, a1, a2⟩ := inW_int hw.1
              obtain ⟨i2, rfl, b1, b2⟩ := inW_int hw.2
              cases ha with
              | cons h1 h2 =>
                cases h2 with
                | cons h3 h4 =>
                  cases h4
                  cases h1
                  cases h3
                  have hs2 := Same.seqT (s1.trans s2) hs
                  rw [stOf_in a1 b2] at q
                  exact ⟨.ref a, rfl, a, _, 0, .int i1, rfl, rfl, hs2, atI_nat (j := 0) rfl, .ref a, rfl, a, _, 1, .int i2, rfl, rfl, hs2, atI_nat (j := 1) rfl, i1, i2, rfl, rfl, q _ (s1.trans s2)⟩
            | [], _, hl, _ => exact absurd h2 (by rw [hl]; simp)
            | [_], _, hl, _ => exact absurd h2 (by rw [hl]; simp)
            | _ :: _ :: _ :: _, _, hl, _ => exact absurd h2 (by rw [hl]; simp only [List.length_cons]; omega)
      · have e2 : (!decide (V.int (xs.length : Int) = V.int 2)) = true := by rw [decide_eq_false fun z => h2 (V.int.inj z)]; rfl
        rw [e2]
        rw [hl] at h2
        rw [stOf_len h2] at q
        exact iteT (q H (Same.refl H))
    | _ => exact iteT (q H (Same.refl H))
theorem ok_l_lamps_text (T : All K mg) : FnOk P w K mg base CX0 2 T.f_l_lamps_text T.fd_l_lamps_text ["lamps"] (sp_lampsT K) := by
  have nd := sc_l_lamps_text.nd
  refine T.D_l_lamps_text.F.ok sc_l_lamps_text (fun vs H Q E h => ?_) (fun cdv A outer s H vs Q E hr h => ?_)
  · obtain ⟨N, x, _, hd, _⟩ := h
    exact hd.len
  · obtain ⟨N, xs, O, hd, hxs, qq⟩ := h
    obtain ⟨v1, _, rfl, hd1, hd⟩ := dqs_cons hd
    obtain rfl := dqs_nil hd
    have hd1 := hd1
    obtain ⟨a, ys, rfl, g, hy⟩ := dq_tup hd1
    have gt : SqT K H a ys := Same.seqT cut_same g
    have W := good_lamps.words hxs
    have n := good_lamps.n hxs (by decide)
    have n2 := n
    rw [List.length_map] at n2
    have em : (xs.map fun x => PyData.str (lampT x)) = (xs.map lampT).map .str := by rw [List.map_map]; rfl
    have fl := lamps_flat xs
    have dd : Dq K H (.ref a) (.tuple (xs.map lampD)) := hd1.mono cut_same
    refine ⟨_, (pss_one (ps_ret (pe_ifExp (pt_cmpR (op_neD hr.units) (pv 0) (pe_tup pa_nil) (nomark _)) (pe_join pe_str (pe_lc (own := [("lamp", 1)]) rfl nd (pi_tup (pv 0)) (blkOk_by (own := [("lamp", 1)]) (N := n_l_lamps_text) (sc := defScope s_l_lamps_text) (by decide +kernel)) (fun _ _ _ _ _ => (pg_name (i := 1) nd rfl (by first | exact Or.inl rfl | exact Or.inr rfl))) (fun _ _ _ _ _ => pts_nil) (fun _ _ _ _ _ => (pe_op op_add_str (pe_op op_add_str (pe_ix (ixK (K := K) rfl) (pv 1) pe_int (fun _ _ => rfl)) pe_str) (pe_callTy call_str_int (by rfl) T.z_str (by decide +kernel) (pa_cons (pe_ix (ixK (K := K) rfl) (pv 1) pe_int (fun _ _ => rfl)) pa_nil)))))) pe_str))), ?_⟩
    refine ⟨.ref a, rfl, Nat.zero_le _, fun t nt => ⟨.tuple (xs.map lampD), .tuple [], dq_dp _ fl.1 (dd.mono (same_new nt)), .tup (.inl (.inl upd_same)) .nil, fl.2, rfl, _, rfl, ?_⟩⟩
    rw [isTE_eqv]
    by_cases e : xs = []
    · subst e
      exact iteF (qq _ _ (same_new nt) (.str _))
    · have z : isTE (.tuple (xs.map lampD)) = false := by
        cases xs with
        | nil => exact absurd rfl e
        | cons x r => rfl
      rw [z]
      have e2 : xs.map lampT ≠ [] := fun q => e (List.map_eq_nil_iff.mp q)
      have s1 := same_new (o := .tup []) nt
      refine iteT ⟨⟨_, rfl⟩, .ref a, rfl, a, rfl, ⟨_, Same.seqT s1 gt⟩, fun D nD => ?_⟩
      refine lc_map (K := K) (D := lampD) (F := fun x => .str (lampT x)) (as := xs) (N := N) (walk_tup (K := K) (a := a) (xs := ys)) (fun H' s => Same.seqT (s1.trans s) gt) nD (O.keep s1) (hy.mono (cut_mono s1)) (by omega) ?_ ?_
      · intro G x y Q' hm OG sG sH hx q'
        obtain ⟨b, rfl, gb⟩ := dq_lamp hx
        have gb2 := Same.seqT cut_same gb
        obtain ⟨h0, h1⟩ := good_lamps.ok xs hxs y hm
        have n1 : (numT y.2).length ≤ 10 := num_len (by omega) (by decide) (by omega)
        have k1 := kindS_len y.1
        have c1 := len_colon
        have fin := q' _ _ (Same.refl _) (.str (lampT y))
        exact ⟨.ref b, rfl, b, _, 0, .str (kindS y.1), rfl, rfl, gb2, atI_nat (j := 0) rfl, _, _, rfl, rfl, szs (by omega), .ref b, rfl, b, _, 1, .int y.2, rfl, rfl, gb2, atI_nat (j := 1) rfl, y.2, rfl, num_log (by omega) (by omega), _, _, rfl, rfl, szs (by rw [len_app]; show _ + (numT y.2).length ≤ _; omega), fin⟩
      · intro H' acc s e OH' hacc
        rw [em] at hacc
        obtain rfl := dqs_strs hacc
        have fin := qq _ _ (s1.trans s) (.str (wordsT (xs.map lampT)))
        rw [wordsT_cons e2] at fin
        exact ⟨_, D, xs.map lampT, rfl, rfl, .inl (.inl (.inl e)), words_sum W n, fin⟩
theorem ok_l_log_text (T : All K mg) : FnOk P w K mg base CX0 2 T.f_l_log_text T.fd_l_log_text ["log"] (sp_logT K) := by
  have nd := sc_l_log_text.nd
  refine T.D_l_log_text.F.ok sc_l_log_text (fun vs H Q E h => ?_) (fun cdv A outer s H vs Q E hr h => ?_)
  · obtain ⟨N, x, _, hd, _⟩ := h
    exact hd.len
  · obtain ⟨N, xs, O, hd, hxs, qq⟩ := h
    obtain ⟨v1, _, rfl, hd1, hd⟩ := dqs_cons hd
    obtain rfl := dqs_nil hd
    have hd1 := hd1
    obtain ⟨a, ys, rfl, g, hy⟩ := dq_tup hd1
    have gt : SqT K H a ys := Same.seqT cut_same g
    have W := good_log.words hxs
    have n := good_log.n hxs (by decide)
    have n2 := n
    rw [List.length_map] at n2
    have em : (xs.map fun x => PyData.str (sttT x)) = (xs.map sttT).map .str := by rw [List.map_map]; rfl
    have fl := log_flat xs
    have dd : Dq K H (.ref a) (.tuple (xs.map pD)) := hd1.mono cut_same
    refine ⟨_, (pss_one (ps_ret (pe_ifExp (pt_cmpR (op_neD hr.units) (pv 0) (pe_tup pa_nil) (nomark _)) (pe_join pe_str (pe_lc (own := [("on", 1), ("off", 2)]) rfl nd (pi_tup (pv 0)) (blkOk_by (own := [("on", 1), ("off", 2)]) (N := n_l_log_text) (sc := defScope s_l_log_text) (by decide +kernel)) (fun _ _ _ _ _ => (pg_tupK (K := K) (n := 2) rfl rfl (pgs_cons (pg_name (i := 1) nd rfl (by first | exact Or.inl rfl | exact Or.inr rfl)) (pgs_cons (pg_name (i := 2) nd rfl (by first | exact Or.inl rfl | exact Or.inr rfl)) pgs_nil)))) (fun _ _ _ _ _ => pts_nil) (fun _ _ _ _ _ => (pe_op op_add_str (pe_op op_add_str (pe_callTy call_str_int (by rfl) T.z_str (by decide +kernel) (pa_cons (pv 1) pa_nil)) pe_str) (pe_callTy call_str_int (by rfl) T.z_str (by decide +kernel) (pa_cons (pv 2) pa_nil)))))) pe_str))), ?_⟩
    refine ⟨.ref a, rfl, Nat.zero_le _, fun t nt => ⟨.tuple (xs.map pD), .tuple [], dq_dp _ fl.1 (dd.mono (same_new nt)), .tup (.inl (.inl upd_same)) .nil, fl.2, rfl, _, rfl, ?_⟩⟩
    rw [isTE_eqv]
    by_cases e : xs = []
    · subst e
      exact iteF (qq _ _ (same_new nt) (.str _))
    · have z : isTE (.tuple (xs.map pD)) = false := by
        cases xs with
        | nil => exact absurd rfl e
        | cons x r => rfl
      rw [z]
      have e2 : xs.map sttT ≠ [] := fun q => e (List.map_eq_nil_iff.mp q)
      have s1 := same_new (o := .tup []) nt
      refine iteT ⟨⟨_, rfl⟩, .ref a, rfl, a, rfl, ⟨_, Same.seqT s1 gt⟩, fun D nD => ?_⟩
      refine lc_mapG (K := K) (D := pD) (F := fun x => .str (sttT x)) (as := xs) (N := N) (walk_tup (K := K) (a := a) (xs := ys)) (fun H' s => Same.seqT (s1.trans s) gt) nD (O.keep s1) (hy.mono (cut_mono s1)) (by omega) ?_ ?_
      · intro G x y Q' hm OG sG sH hx q'
        obtain ⟨b, rfl, gb⟩ := dq_pair hx
        have gb2 := Same.seqT cut_same gb
        obtain ⟨h0, h1, h2⟩ := good_log.ok xs hxs y hm
        have n1 : (numT y.1).length ≤ 10 := num_len (by omega) (by decide) (by omega)
        have n2 : (numT y.2).length ≤ 10 := num_len (by omega) (by decide) (by omega)
        have c1 := len_dash
        have fin := q' _ _ (Same.refl _) (.str (sttT y))
        refine ⟨b, _, rfl, gb2, rfl, _, _, rfl, _, _, rfl, rfl, rfl, ?_⟩
        exact ⟨.int y.1, rfl, y.1, rfl, num_log (by omega) (by omega), _, _, rfl, rfl, szs (by show (numT y.1).length + _ ≤ _; omega), .int y.2, rfl, y.2, rfl, num_log (by omega) (by omega), _, _, rfl, rfl, szs (by rw [len_app]; show (numT y.1).length + _ + (numT y.2).length ≤ _; omega), fin⟩
      · intro H' acc s e OH' hacc
        rw [em] at hacc
        obtain rfl := dqs_strs hacc
        have fin := qq _ _ (s1.trans s) (.str (wordsT (xs.map sttT)))
        rw [wordsT_cons e2] at fin
        exact ⟨_, D, xs.map sttT, rfl, rfl, .inl (.inl (.inl e)), words_sum W n, fin⟩
theorem ok_l_runs_text (T : All K mg) : FnOk P w K mg base CX0 2 T.f_l_runs_text T.fd_l_runs_text ["runs"] (sp_runsT K) := by
  have nd := sc_l_runs_text.nd
  refine T.D_l_runs_text.F.ok sc_l_runs_text (fun vs H Q E h => ?_) (fun cdv A outer s H vs Q E hr h => ?_)
  · obtain ⟨N, x, _, hd, _⟩ := h
    exact hd.len
  · obtain ⟨N, xs, O, hd, hxs, qq⟩ := h
    obtain ⟨v1, _, rfl, hd1, hd⟩ := dqs_cons hd
    obtain rfl := dqs_nil hd
    have hd1 := hd1
    obtain ⟨a, ys, rfl, g, hy⟩ := dq_tup hd1
    have gt : SqT K H a ys := Same.seqT cut_same g
    have W := good_runs.words hxs
    have n := good_runs.n hxs (by decide)
    have n2 := n
    rw [List.length_map] at n2
    have em : (xs.map fun x => PyData.str (runT x)) = (xs.map runT).map .str := by rw [List.map_map]; rfl
    have fl := runs_flat xs
    have dd : Dq K H (.ref a) (.tuple (xs.map runD)) := hd1.mono cut_same
    refine ⟨_, (pss_cons (ps_set (i := 1) nd rfl (by first | exact Or.inl rfl | exact Or.inr rfl) (pe_lst pa_nil))
  (pss_cons (ps_for PassesOwn.never rfl (pi_tup (pv 0)) (pg_tup rfl (pgs_cons (pg_name (i := 2) nd rfl (by first | exact Or.inl rfl | exact Or.inr rfl)) (pgs_cons (pg_name (i := 3) nd rfl (by first | exact Or.inl rfl | exact Or.inr rfl)) (pgs_cons (pg_name (i := 4) nd rfl (by first | exact Or.inl rfl | exact Or.inr rfl)) pgs_nil))))
    (pss_one (ps_expr (pe_bm PySem.F.plainAttrs_list PySem.F.slot_list_append PySem.F.type_list_append mt_append (pv 1) (pa_cons (pe_op op_add_str (pe_callTy call_str_int (by rfl) T.z_str (by decide +kernel) (pa_cons (pv 2) pa_nil)) (pe_ifExp (pt_cmpR op_gt (pv 4) pe_int (nomark _)) (pe_op op_add_str (pe_op op_add_str (pe_op op_add_str pe_str (pe_callTy call_str_int (by rfl) T.z_str (by decide +kernel) (pa_cons (pv 3) pa_nil))) pe_str) (pe_callTy call_str_int (by rfl) T.z_str (by decide +kernel) (pa_cons (pv 4) pa_nil))) pe_str)) pa_nil)))))
  (pss_one (ps_ret (pe_ifExp (pt_cmpR (op_neD hr.units) (pv 0) (pe_tup pa_nil) (nomark _)) (pe_join pe_str (pv 1)) pe_str))))), ?_⟩
    refine s_set ⟨Nat.zero_le _, fun fo nf => ?_⟩
    have s0 := same_new (o := .lst []) nf
    have hl := hy.len
    rw [List.length_map] at hl
    refine ⟨.ref a, rfl, a, rfl, ⟨_, Same.seqT s0 gt⟩, for_it (walk_tup (K := K) (a := a) (xs := ys)) (fun i σ Hi => ∃ y2 y3 y4, σ = [some (.ref a), some (.ref fo), y2, y3, y4] ∧ Same H Hi ∧ Hi fo = some (.lst (((xs.take i).map runT).map V.str))) ⟨_, _, _, rfl, s0, upd_same⟩ (fun i σ H1 _ h => by
      obtain ⟨_, _, _, _, s, _⟩ := h
      exact Same.seqT s gt) ?_ ?_⟩
    · rintro i x σ H1 H2 hi ⟨y2, y3, y4, rfl, s1, ef⟩ ⟨rfl, hx⟩
      obtain ⟨r, hr', hq⟩ := dqs_get hy hx
      obtain ⟨b, rfl, gb⟩ := dq_run hq
      have gb2 := Same.seqT (cut_same.trans s1) gb
      have rt := good_runs.ok xs hxs r (List.mem_of_getElem? hr')
      obtain ⟨⟨⟨f0, f1⟩, ⟨t0, t1⟩, ⟨c0, c1⟩, _⟩, _⟩ := rt
      have n1 : (numT r.1).length ≤ 10 := num_len (by omega) (by decide) (by omega)
      have n3 : (numT r.2.1).length ≤ 10 := num_len (by omega) (by decide) (by omega)
      have n4 : (numT r.2.2).length ≤ 10 := num_len (by omega) (by decide) (by omega)
      have p1 := len_plus
      have p2 := len_x
      have li : i < xs.length := by rw [← hl]; exact hi
      have next : ∀ z : Str, z = runT r → (((xs.take i).map runT).map V.str ++ [V.str z]) = ((xs.take (i + 1)).map runT).map V.str := fun z e => by
        rw [map_take_snoc runT hr', List.map_append, e]; rfl
      have sm : (((xs.take i).map runT).map V.str).length ≤ 1000 := by
        rw [List.length_map, List.length_map, List.length_take]
        omega
      refine ⟨b, _, rfl, gb2, rfl, _, _, rfl, _, _, rfl, _, _, rfl, rfl, ?_⟩
      refine ⟨.ref fo, rfl, .inl ⟨rfl, _, .inl (.inl ef)⟩, .int r.1, rfl, r.1, rfl, num_log (by omega) (by omega), .int r.2.2, rfl, r.2.2, 1, rfl, rfl, _, rfl, ?_⟩
      by_cases g : r.2.2 > 1
      · rw [decide_eq_true (show (1 : Int) < r.2.2 from g)]
        have e : numT r.1 ++ (("+" : Str) ++ numT r.2.1 ++ ("x" : Str) ++ numT r.2.2) = runT r := by
          unfold runT
          rw [if_pos g]
          simp only [app_assoc]
        refine iteT ⟨.int r.2.1, rfl, r.2.1, rfl, num_log (by omega) (by omega), _, _, rfl, rfl, szs (by show _ + (numT r.2.1).length ≤ _; omega), _, _, rfl, rfl, szs (by rw [len_app]; show _ + (numT r.2.1).length + _ ≤ _; omega), .int r.2.2, rfl, r.2.2, rfl, num_log (by omega) (by omega), _, _, rfl, rfl,
          szs (by rw [len_app, len_app]; show _ + (numT r.2.1).length + _ + (numT r.2.2).length ≤ _; omega), _, _, rfl, rfl, szs (by rw [len_app, len_app, len_app]; show (numT r.1).length + (_ + (numT r.2.1).length + _ + (numT r.2.2).length) ≤ _; omega), fo, _, _, rfl, rfl, ef, small1000 sm, ?_⟩
        exact ⟨_, _, _, rfl, same_upd s1 nf, by rw [upd_same]; exact congrArg (fun l => some (HO.lst l)) (next _ e)⟩
      · rw [decide_eq_false (show ¬ (1 : Int) < r.2.2 from g)]
        have e : numT r.1 ++ (Str.ofString "") = runT r := by
          rw [run_tl1 g]
          exact app_empty _
        refine iteF ⟨_, _, rfl, rfl, szs (by show (numT r.1).length + _ ≤ _; rw [show (Str.ofString "").length = 0 from rfl]; omega), fo, _, _, rfl, rfl, ef, small1000 sm, ?_⟩
        exact ⟨_, _, _, rfl, same_upd s1 nf, by rw [upd_same]; exact congrArg (fun l => some (HO.lst l)) (next _ e)⟩
    rintro σ H1 ⟨y2, y3, y4, rfl, s1, ef⟩
    rw [hl, List.take_length] at ef
    refine ⟨.ref a, rfl, Nat.zero_le _, fun t nt => ⟨.tuple (xs.map runD), .tuple [], dq_dp _ fl.1 (dd.mono (s1.trans (same_new nt))), .tup (.inl (.inl upd_same)) .nil, fl.2, rfl, _, rfl, ?_⟩⟩
    rw [isTE_eqv]
    by_cases e : xs = []
    · subst e
      exact iteF (qq _ _ (s1.trans (same_new nt)) (.str _))
    · have z : isTE (.tuple (xs.map runD)) = false := by
        cases xs with
        | nil => exact absurd rfl e
        | cons x r => rfl
      rw [z]
      have e2 : xs.map runT ≠ [] := fun q => e (List.map_eq_nil_iff.mp q)
      have fin := qq _ _ (s1.trans (same_new (o := .tup []) nt)) (.str (wordsT (xs.map runT)))
      rw [wordsT_cons e2] at fin
      exact iteT ⟨⟨_, rfl⟩, .ref fo, rfl, _, fo, xs.map runT, rfl, rfl, .inl (.inl (.inl (same_new nt _ _ ef))), words_sum W n, fin⟩
theorem ok_l_item (T : All K mg) : FnOk P w K mg base CX0 3 T.f_l_item T.fd_l_item ["way", "part"] (sp_lawItem K) := by
  have nd := sc_l_item.nd
  refine T.D_l_item.F.ok sc_l_item (fun vs H Q E h => ?_) (fun cdv A outer s H vs Q E hr h => ?_)
  · obtain ⟨N, x, _, hd, _⟩ := h
    exact hd.len
  · obtain ⟨N, ⟨way, x⟩, O, hd, ⟨hw, hl⟩, qq⟩ := h
    have hw : way ≤ 2 := hw
    have hl : x.length ≤ 890 := hl
    obtain ⟨v1, _, rfl, hd1, hd⟩ := dqs_cons hd
    obtain ⟨v2, _, rfl, hd2, hd⟩ := dqs_cons hd
    obtain rfl := dqs_nil hd
    obtain rfl := dq_int hd1
    obtain rfl := dq_str hd2
    refine ⟨_, (pss_cons (ps_if (pt_cmpR op_eq (pv 0) pe_int (nomark _))
    (pss_cons (ps_set (i := 2) nd rfl (by first | exact Or.inl rfl | exact Or.inr rfl) (pe_split (pv 1) pe_str))
  (pss_cons (ps_set (i := 3) nd rfl (by first | exact Or.inl rfl | exact Or.inr rfl) (pe_ifExp (pt_cmpR op_eq (pe_callB call_len_seq (by rfl) T.z_len (by decide +kernel) (pa_cons (pv 2) pa_nil)) pe_int (nomark _)) (pe_call (ok_l_number T) (hr.mono (by decide)) (by rfl) T.D_l_number.g T.D_l_number.F.kp T.D_l_number.b .nil pass0 (pa_cons (pe_ix ix_list (pv 2) pe_int (fun _ _ => rfl)) pa_nil)) pe_non))
  (pss_cons (ps_set (i := 4) nd rfl (by first | exact Or.inl rfl | exact Or.inr rfl) (pe_and (pe_cmpR op_notN (pv 3) pe_non (nomark _)) (pe_and (pe_chain op_le op_le pe_int (pv 3) (pe_op op_pow pe_int pe_int)) (pe_one (pe_cmpR (op_inStr (in1_units hr.units)) (pe_ix ix_list (pv 2) pe_int (fun _ _ => rfl)) (pe_lst (pa_cons pe_str (pa_cons pe_str pa_nil))) (by rfl))))))
  (pss_one (ps_ret (pe_ifExp (pt_val (pv 4)) (pe_tup (pa_cons (pe_ix ix_list (pv 2) pe_int (fun _ _ => rfl)) (pa_cons (pv 3) pa_nil))) pe_non))))))
    pss_nil)
  (pss_cons (ps_if (pt_cmpR op_eq (pv 0) pe_int (nomark _))
    (pss_cons (ps_set (i := 6) nd rfl (by first | exact Or.inl rfl | exact Or.inr rfl) (pe_callTy call_tuple_of (by rfl) T.z_tuple (by decide +kernel) (pa_cons (pe_lc (own := [("bit", 5)]) rfl nd (pi_list (pe_split (pv 1) pe_str)) (blkOk_by (own := [("bit", 5)]) (N := n_l_item) (sc := defScope s_l_item) (by decide +kernel)) (fun _ _ _ _ _ => (pg_name (i := 5) nd rfl (by first | exact Or.inl rfl | exact Or.inr rfl))) (fun _ _ _ _ _ => pts_nil) (fun _ _ _ _ _ => (pe_call (ok_l_number T) (hr.mono (by decide)) (by rfl) T.D_l_number.g T.D_l_number.F.kp T.D_l_number.b .nil pass0 (pa_cons (pv 5) pa_nil)))) pa_nil)))
  (pss_one (ps_ret (pe_ifExp (PW.pt (pw_and (pt_cmpR op_notIn_seq pe_non (pv 6) (by rfl)) (pw_and1 (pt_val (pe_call (ok_l_is_part T) (hr.mono (by decide)) (by rfl) T.D_l_is_part.g T.D_l_is_part.F.kp T.D_l_is_part.b .nil pass0 (pa_cons (pv 6) pa_nil)))))) (pv 6) pe_non))))
    pss_nil)
  (pss_cons (ps_set (i := 2) nd rfl (by first | exact Or.inl rfl | exact Or.inr rfl) (pe_split (pv 1) pe_str))
  (pss_cons (ps_if (pt_cmpR op_eq (pe_callB call_len_seq (by rfl) T.z_len (by decide +kernel) (pa_cons (pv 2) pa_nil)) pe_int (nomark _))
    (pss_one (ps_set (i := 2) nd rfl (by first | exact Or.inl rfl | exact Or.inr rfl) (pe_lst (pa_cons (pv 1) (pa_cons pe_str pa_nil)))))
    pss_nil)
  (pss_cons (ps_setLc (i := 7) (own := [("bit", 5)]) rfl nd rfl rfl (sw_true rfl rfl rfl (by decide +kernel)) (pi_list (pe_split (pe_ix ix_list (pv 2) pe_int (fun _ _ => rfl)) pe_str)) (blkOk_by (own := [("bit", 5)]) (N := n_l_item) (sc := defScope s_l_item) (by decide +kernel)) (fun _ _ _ _ _ => (pg_name (i := 5) nd rfl (by first | exact Or.inl rfl | exact Or.inr rfl))) (fun _ _ _ _ _ => pts_nil) (fun _ _ _ _ _ => (pe_call (ok_l_number T) (hr.mono (by decide)) (by rfl) T.D_l_number.g T.D_l_number.F.kp T.D_l_number.b .nil pass0 (pa_cons (pv 5) pa_nil))))
  (pss_cons (ps_set (i := 8) nd rfl (by first | exact Or.inl rfl | exact Or.inr rfl) (pe_callTy call_tuple_of (by rfl) T.z_tuple (by decide +kernel) (pa_cons (pe_op op_cat (pe_lst (pa_cons (pe_call (ok_l_number T) (hr.mono (by decide)) (by rfl) T.D_l_number.g T.D_l_number.F.kp T.D_l_number.b .nil pass0 (pa_cons (pe_ix ix_list (pv 2) pe_int (fun _ _ => rfl)) pa_nil)) pa_nil)) (pv 7)) pa_nil)))
  (pss_cons (ps_if (PW.pt (pw_or (pt_cmpR op_gt (pe_callB call_len_seq (by rfl) T.z_len (by decide +kernel) (pa_cons (pv 2) pa_nil)) pe_int (nomark _)) (pw_or (pt_cmpR op_in_seq pe_non (pv 8) (by rfl)) (pw_or (pt_not (pt_val (pe_call (ok_l_is_run T) (hr.mono (by decide)) (by rfl) T.D_l_is_run.g T.D_l_is_run.F.kp T.D_l_is_run.b .nil pass0 (pa_cons (pv 8) pa_nil)))) (pw_or1 (PW.pt (pw_and (pt_cmpR op_in_sign pe_str (pv 1) (by rfl)) (pw_and1 (pt_cmpR op_lt (pe_ix ix_tup (pv 8) pe_int (fun _ _ => rfl)) pe_int (nomark _))))))))))
    (pss_one (ps_ret pe_non))
    pss_nil)
  (pss_one (ps_ret (pv 8)))))))))), ?_⟩
    have hw3 : way = 0 ∨ way = 1 ∨ way = 2 := by omega
    have sz : x.length + 2 ≤ sizeLine := szs (by omega)
    refine s_if ⟨.int (way : Nat), rfl, rfl, _, rfl, ?_⟩
    rcases hw3 with rfl | rfl | rfl
    · refine iteT_e (decide_eq_true rfl) ?_
      have qq : ∀ r H', Same H H' → Dq K (cut N H') r (item0 (Txt.split x ":")) → Q r H' := fun r H' s h => qq r H' s (by show Dq K _ r (itemD 0 x); rw [item0_eq]; exact h)
      have bl := split_mem tl_colon (by decide +kernel) x.length x (Nat.le_refl _)
      refine s_set ⟨.str x, rfl, ⟨_, rfl⟩, x, (":" : Str), rfl, rfl, by decide +kernel, sz, fun B nB => ?_⟩
      generalize Txt.split x ":" = bits at qq bl nB ⊢
      have s1 := same_new (o := .lst (bits.map V.str)) nB
      have gB : (upd H B (.lst (bits.map V.str))) B = some (.lst (bits.map V.str)) := upd_same
      generalize upd H B (.lst (bits.map V.str)) = H1 at s1 gB ⊢
      refine s_set ⟨.ref B, rfl, B, _, rfl, .inl (.inl (.inl gB)), rfl, _, rfl, ?_⟩
      by_cases l2 : bits.length = 2
      · obtain ⟨a, b, rfl⟩ : ∃ a b, bits = [a, b] := by
          match bits, l2 with
          | [a, b], _ => exact ⟨a, b, rfl⟩
        refine iteT_e (decide_eq_true rfl) ?_
        refine ⟨.ref B, rfl, B, _, 1, .str b, rfl, rfl, .inl (.inl gB), atI_nat (j := 1) rfl, N, b, O.keep s1, .cons (.str _) .nil, (by have := bl b (by simp); show b.length ≤ 5000; omega), fun r H2 s2 d2 => ?_⟩
        have s12 := s1.trans s2
        have gB2 := s2 _ _ gB
        have d2 : Dq K (cut N H2) r (optD (numO b)) := d2
        have qq : ∀ r H', Same H H' → Dq K (cut N H') r (item0b a (numO b)) → Q r H' := qq
        cases hb : numO b with
        | none =>
          rw [hb] at d2 qq
          cases d2
          refine s_set ⟨.non, rfl, rfl, _, rfl, iteF_e (by rw [decide_eq_true rfl]; rfl) ?_⟩
          exact ⟨.bl false, rfl, false, rfl, iteF (qq _ _ s12 .non)⟩
        | some n =>
          rw [hb] at d2 qq
          cases d2
          refine s_set ?_
          refine te_of (fun v G => v = .bl (lampB (.tuple [.str a, .int n])) ∧ Same H2 G) ?rest0 ?ways0
          case ways0 =>
            intro Q' hQ
            refine ⟨.int n, rfl, rfl, _, rfl, iteT_e (by rw [decide_eq_false (fun z => nomatch z)]; rfl) ?_⟩
            refine ⟨.int n, rfl, 1, n, rfl, rfl, _, rfl, ?_⟩
            have eL : lampB (.tuple [.str a, .int n]) = ((["hold", "pulse"] : List Str).any (strIs (.str a)) && (decide (1 ≤ n) && decide (n ≤ 1000000000))) := rfl
            by_cases g1 : 1 ≤ n
            · rw [decide_eq_true g1]
              refine iteT ⟨10, 9, rfl, rfl, ⟨by decide, by decide, by decide⟩, n, _, rfl, rfl, _, rfl, ?_⟩
              by_cases g2 : n ≤ 1000000000
              · refine iteT_e (decide_eq_true g2) ?_
                refine ⟨.ref B, rfl, B, _, 0, .str a, rfl, rfl, .inl (.inl gB2), atI_nat (j := 0) rfl, sz2, fun l nl => ?_⟩
                refine ⟨.str a, l, ["hold", "pulse"], .str a, rfl, .inl (.inl (.inl upd_same)), hQ _ _ ⟨?_, same_new nl⟩⟩
                rw [eL, decide_eq_true g1, decide_eq_true g2, Bool.true_and, Bool.and_true]
              · refine iteF_e (decide_eq_false g2) (hQ _ _ ⟨?_, Same.refl _⟩)
                rw [eL, decide_eq_false g2, Bool.and_false, Bool.and_false]
            · rw [decide_eq_false g1]
              refine iteF ⟨false, rfl, iteF (hQ _ _ ⟨?_, Same.refl _⟩)⟩
              rw [eL, decide_eq_false g1, Bool.false_and, Bool.and_false]
          case rest0 =>
            rintro v G ⟨rfl, s3⟩
            have s13 := s12.trans s3
            have qq : ∀ r H', Same H H' → Dq K (cut N H') r (if lampB (.tuple [.str a, .int n]) then .tuple [.str a, .int n] else .none) → Q r H' := qq
            refine ⟨_, rfl, _, rfl, ?_⟩
            cases g : lampB (.tuple [.str a, .int n]) with
            | true =>
              rw [g] at qq
              refine iteT ⟨.ref B, rfl, B, _, 0, .str a, rfl, rfl, .inl (.inl (s3 _ _ gB2)), atI_nat (j := 0) rfl, .int n, rfl, sz2, fun u nu => ?_⟩
              exact qq _ _ (s13.trans (same_new nu)) (.tup (.inl (.inl (cut_new (O.keep s13) nu))) (.cons (.str _) (.cons (.int _) .nil)))
            | false =>
              rw [g] at qq
              exact iteF (qq _ _ s13 .non)
      · have e0 : item0 bits = .none := by
          match bits, l2 with
          | [], _ => rfl
          | [_], _ => rfl
          | _ :: _ :: _ :: _, _ => rfl
          | [_, _], h => exact absurd rfl h
        rw [e0] at qq
        refine iteF_e (decide_eq_false fun z => l2 (by have := V.int.inj z; rw [List.length_map] at this; omega)) ?_
        refine s_set ⟨.non, rfl, rfl, _, rfl, iteF_e (by rw [decide_eq_true rfl]; rfl) ?_⟩
        exact ⟨.bl false, rfl, false, rfl, iteF (qq _ _ s1 .non)⟩
    · refine iteF_e (decide_eq_false (by decide)) ?_
      refine ⟨.int (1 : Nat), rfl, rfl, _, rfl, iteT_e (decide_eq_true rfl) ?_⟩
      have qq : ∀ r H', Same H H' → Dq K (cut N H') r (item1 (Txt.split x "-")) → Q r H' := fun r H' s h => qq r H' s (by show Dq K _ r (itemD 1 x); rw [item1_eq]; exact h)
      have bl := split_mem tl_dash (by decide +kernel) x.length x (Nat.le_refl _)
      have bn := PyProof.Rows.split_le x (Str.ofString "-")
      refine s_set ⟨.str x, rfl, ⟨_, rfl⟩, x, ("-" : Str), rfl, rfl, by decide +kernel, sz, fun B nB => ?_⟩
      generalize Txt.split x (Str.ofString "-") = bits at qq bl bn nB ⊢
      have s1 := same_new (o := .lst (bits.map V.str)) nB
      have gB : (upd H B (.lst (bits.map V.str))) B = some (.lst (bits.map V.str)) := upd_same
      generalize upd H B (.lst (bits.map V.str)) = H1 at s1 gB ⊢
      refine ⟨B, rfl, ⟨_, .inl (.inl gB)⟩, fun D nD => ?_⟩
      refine lc_map (K := K) (D := PyData.str) (F := fun w => optD (numO w)) (as := bits) (N := N) (walk_list (K := K) (a := B) (xs := bits.map V.str)) (fun H' s => .inl (.inl (s _ _ gB))) nD (O.keep s1) strs_dqs (by omega) ?_ ?_
      · intro G u y Q' hy OG sG sH hu q'
        exact ⟨u, rfl, _, y, OG, .cons hu .nil, (by have := bl y hy; show y.length ≤ 5000; omega), q'⟩
      · intro H' acc s e OH' hacc
        have em : (bits.map fun w => optD (numO w)) = (bits.map numO).map optD := by rw [List.map_map]; rfl
        rw [em] at hacc
        obtain rfl := dqs_opts hacc
        refine ⟨D, _, rfl, .inl ⟨.inl (.inl e), fun t nt => ?_⟩⟩
        have s3 := (s1.trans s).trans (same_new (o := .tup ((bits.map numO).map optV)) nt)
        have dt : Dq K (cut N (upd H' t (.tup ((bits.map numO).map optV)))) (.ref t) (tupO (bits.map numO)) := .tup (.inl (.inl (cut_new (O.keep (s1.trans s)) nt))) (hacc.mono (np_le.trans (cut_mono (same_new nt))))
        have gt : (upd H' t (.tup ((bits.map numO).map optV))) t = some (.tup ((bits.map numO).map optV)) := upd_same
        generalize upd H' t (.tup ((bits.map numO).map optV)) = H2 at s3 dt gt ⊢
        refine ⟨.ref t, rfl, t, _, rfl, .inr (.inl (.inl gt)), rfl, opts_flat _, _, rfl, ?_⟩
        cases g : inV .non ((bits.map numO).map optV) with
        | true => exact iteF_e (by rfl) (iteF (qq _ _ s3 (by rw [item1_mem (inV_mem _ g)]; exact .non)))
        | false =>
          refine iteT_e (by rfl) ⟨.ref t, rfl, .ref t, tupO (bits.map numO), rfl, dt.mono cut_same, fun H3 s4 => ⟨_, rfl, ?_⟩⟩
          refine ite2 (fun g2 => ?_) (fun g2 => ?_)
          · have g2 : (stOf (tupO (bits.map numO))).isSome = true := g2
            exact ⟨.ref t, rfl, qq _ _ (s3.trans s4) (by unfold item1; rw [if_pos g2]; exact dt.mono (cut_mono s4))⟩
          · have g2 : ¬ (stOf (tupO (bits.map numO))).isSome = true := g2
            exact qq _ _ (s3.trans s4) (by unfold item1; rw [if_neg g2]; exact .non)
    · refine iteF_e (decide_eq_false (by decide)) ?_
      refine ⟨.int (2 : Nat), rfl, rfl, _, rfl, iteF_e (decide_eq_false (by decide)) ?_⟩
      have qq : ∀ r H', Same H H' → Dq K (cut N H') r (item2 (bits2 x) (decide (43 ∈ TL.tl x))) → Q r H' := fun r H' s h => qq r H' s (by show Dq K _ r (itemD 2 x); rw [item2_eq]; exact h)
      refine nx_go ?_
      dsimp only
      refine s_set ⟨.str x, rfl, ⟨_, rfl⟩, x, ("+" : Str), rfl, rfl, by decide +kernel, sz, fun B nB => ?_⟩
      have s1 := same_new (o := .lst ((Txt.split x (Str.ofString "+")).map V.str)) nB
      have gB : (upd H B (.lst ((Txt.split x (Str.ofString "+")).map V.str))) B = some (.lst ((Txt.split x (Str.ofString "+")).map V.str)) := upd_same
      generalize upd H B (.lst ((Txt.split x (Str.ofString "+")).map V.str)) = H1 at s1 gB ⊢
      refine s_ifn' (fun σ G => ∃ Bb, σ = [some (.int (2 : Nat)), some (.str x), some (.ref Bb), none, none, none, none, none, none] ∧ Same H G ∧ G Bb = some (.lst ((bits2 x).map V.str))) ?rest ?h
      case h =>
        intro X hX
        refine ⟨.ref B, rfl, B, _, rfl, .inl (.inl (.inl gB)), rfl, _, rfl, ?_⟩
        by_cases l1 : (Txt.split x (Str.ofString "+")).length = 1
        · refine iteT_e (decide_eq_true (by rw [List.length_map, l1]; rfl)) ⟨.str x, rfl, sz2, fun l nl => hX _ _ ⟨l, rfl, s1.trans (same_new nl), ?_⟩⟩
          rw [upd_same]
          unfold bits2
          rw [if_pos l1]
          rfl
        · refine iteF_e (decide_eq_false fun z => l1 (by have := V.int.inj z; rw [List.length_map] at this; omega)) (hX _ _ ⟨B, rfl, s1, ?_⟩)
          unfold bits2
          rw [if_neg l1]
          exact gB
      case rest =>
        rintro σ G ⟨Bb, rfl, sG, gb⟩
        obtain ⟨a, b, r0, eb, la, lb⟩ := bits2_two x
        have gb' := gb
        rw [eb] at gb
        have bl := split_mem tl_x (by decide +kernel) b.length b (Nat.le_refl _)
        have bn := PyProof.Rows.split_le b (Str.ofString "x")
        have er : run2 (bits2 x) = numO a :: (Txt.split b (Str.ofString "x")).map numO := by rw [eb]; rfl
        refine s_set ⟨.ref Bb, rfl, Bb, _, 1, .str b, rfl, rfl, .inl (.inl gb), atI_nat (j := 1) rfl, ⟨_, rfl⟩, b, ("x" : Str), rfl, rfl, by decide +kernel, szs (by omega), fun B2 nB2 => ?_⟩
        generalize Txt.split b (Str.ofString "x") = bits at er bl bn nB2 ⊢
        have s2 := same_new (o := .lst (bits.map V.str)) nB2
        have gB2 : (upd G B2 (.lst (bits.map V.str))) B2 = some (.lst (bits.map V.str)) := upd_same
        generalize upd G B2 (.lst (bits.map V.str)) = G1 at s2 gB2 ⊢
        refine ⟨B2, rfl, ⟨_, .inl (.inl gB2)⟩, fun D nD => ?_⟩
        refine lc_map (K := K) (D := PyData.str) (F := fun w => optD (numO w)) (as := bits) (N := N) (walk_list (K := K) (a := B2) (xs := bits.map V.str)) (fun H' s => .inl (.inl (s _ _ gB2))) nD (O.keep (sG.trans s2)) strs_dqs (by omega) ?_ ?_
        · intro G u y Q' hy OG sG sH hu q'
          exact ⟨u, rfl, _, y, OG, .cons hu .nil, (by have := bl y hy; show y.length ≤ 5000; omega), q'⟩
        · intro H' acc s e OH' hacc
          have em : (bits.map fun w => optD (numO w)) = (bits.map numO).map optD := by rw [List.map_map]; rfl
          rw [em] at hacc
          obtain rfl := dqs_opts hacc
          have s4 := (sG.trans s2).trans s
          have gb4 := s _ _ (s2 _ _ gb)
          dsimp only
          refine s_set ⟨.ref Bb, rfl, Bb, _, 0, .str a, rfl, rfl, .inl (.inl gb4), atI_nat (j := 0) rfl, N, a, O.keep s4, .cons (.str _) .nil, (by show a.length ≤ 5000; omega), fun r H3 s5 d5 => ?_⟩
          have e5 := dq_opt (show Dq K _ r (optD (numO a)) from d5)
          subst e5
          refine ⟨Nat.le_of_lt (small1000 (Nat.le_add_left 1 999)), fun l nl => ?_⟩
          have s6 := s5.trans (same_new (o := .lst [optV (numO a)]) nl)
          refine ⟨.ref D, rfl, l, D, _, _, rfl, rfl, upd_same, s6 _ _ e, ?_, fun p np => ?_⟩
          · rw [List.length_map, List.length_map]
            exact szs (by simp only [List.length_cons, List.length_nil]; omega)
          refine ⟨p, _, rfl, .inl ⟨.inl (.inl upd_same), fun t nt => ?_⟩⟩
          have ev : ([optV (numO a)] ++ (bits.map numO).map optV) = (run2 (bits2 x)).map optV := by rw [er]; rfl
          have s7 := (s4.trans s6).trans ((same_new (o := .lst ([optV (numO a)] ++ (bits.map numO).map optV)) np).trans (same_new (o := .tup ([optV (numO a)] ++ (bits.map numO).map optV)) nt))
          have gt : (upd (upd (upd H3 l (.lst [optV (numO a)])) p (.lst ([optV (numO a)] ++ (bits.map numO).map optV))) t (.tup ([optV (numO a)] ++ (bits.map numO).map optV))) t = some (.tup ((run2 (bits2 x)).map optV)) := by rw [upd_same, ev]
          have gb7 : (upd (upd (upd H3 l (.lst [optV (numO a)])) p (.lst ([optV (numO a)] ++ (bits.map numO).map optV))) t (.tup ([optV (numO a)] ++ (bits.map numO).map optV))) Bb = some (.lst ((a :: b :: r0).map V.str)) := same_new nt _ _ (same_new np _ _ (s6 _ _ gb4))
          have ot : (cut N (upd (upd (upd H3 l (.lst [optV (numO a)])) p (.lst ([optV (numO a)] ++ (bits.map numO).map optV))) t (.tup ([optV (numO a)] ++ (bits.map numO).map optV)))) t = some (.tup ((run2 (bits2 x)).map optV)) := by
            rw [← ev]
            exact cut_new (O.keep ((s4.trans s6).trans (same_new np))) nt
          generalize upd (upd (upd H3 l (.lst [optV (numO a)])) p (.lst ([optV (numO a)] ++ (bits.map numO).map optV))) t (.tup ([optV (numO a)] ++ (bits.map numO).map optV)) = H8 at s7 gt gb7 ot ⊢
          have opts : ∀ os : List (Option Int), Dqs K (cut N H8) (os.map optV) (os.map optD) := by
            intro os
            induction os with
            | nil => exact .nil
            | cons o r ih => exact .cons (by cases o <;> first | exact .non | exact .int _) ih
          have dt : Dq K (cut N H8) (.ref t) (tupO (run2 (bits2 x))) := .tup (.inl (.inl ot)) (opts _)
          have ln : ((a :: b :: r0).map V.str).length = (bits2 x).length := by rw [List.length_map, eb]
          refine s_if ⟨.ref Bb, rfl, Bb, _, rfl, .inl (.inl (.inl gb7)), _, 2, rfl, rfl, _, rfl, ?_⟩
          by_cases g1 : (bits2 x).length > 2
          · exact iteT_e (decide_eq_true (by omega)) (iteT (qq _ _ s7 (by rw [item2_no (.inl g1)]; exact .non)))
          refine iteF_e (decide_eq_false (by omega)) ⟨.ref t, rfl, t, _, rfl, .inr (.inl (.inl gt)), rfl, opts_flat _, _, rfl, ?_⟩
          cases g : inV .non ((run2 (bits2 x)).map optV) with
          | true => exact iteT_e (by rfl) (iteT (qq _ _ s7 (by rw [item2_no (.inr (runOf_mem _ (inV_mem _ g)))]; exact .non)))
          | false =>
            refine iteF_e (by rfl) ⟨.ref t, rfl, .ref t, tupO (run2 (bits2 x)), rfl, dt.mono cut_same, fun H9 s9 => ⟨_, rfl, ?_⟩⟩
            have s79 := s7.trans s9
            have dt9 := dt.mono (cut_mono s9)
            by_cases g2 : (runOf (tupO (run2 (bits2 x)))).isSome = true
            · refine iteF_e (by show (!(runOf (tupO (run2 (bits2 x)))).isSome) = false; rw [g2]; rfl) ?_
              obtain ⟨i, j, z, eo, hz⟩ := run_three g2
              have gt9 : H9 t = some (.tup [.int i, .int j, .int z]) := by
                rw [eo] at gt
                exact s9 _ _ gt
              have good : ¬ (decide (43 ∈ TL.tl x) = true ∧ third (run2 (bits2 x)) = some 1) → Q (.ref t) H9 := fun n => qq _ _ s79 (by
                unfold item2
                rw [if_neg (fun h => by
                  rcases h with h | h | h
                  · exact g1 h
                  · rw [g2] at h; cases h
                  · exact n h)]
                exact dt9)
              refine ⟨.str x, rfl, 43, x, rfl, rfl, _, rfl, ?_⟩
              by_cases g3 : 43 ∈ TL.tl x
              · refine iteT_e (decide_eq_true g3) ⟨.ref t, rfl, t, _, 2, .int z, rfl, rfl, .inl (.inl gt9), atI_nat (j := 2) rfl, z, 2, rfl, rfl, _, rfl, ?_⟩
                by_cases g4 : z < 2
                · refine iteT_e (decide_eq_true g4) (qq _ _ s79 ?_)
                  have e1 : z = 1 := by omega
                  unfold item2
                  rw [if_pos (.inr (.inr ⟨decide_eq_true g3, by rw [eo, e1]; rfl⟩))]
                  exact .non
                · refine iteF_e (decide_eq_false g4) ⟨.ref t, rfl, good fun h => ?_⟩
                  have h2 := h.2
                  rw [eo] at h2
                  have h3 : z = 1 := Option.some.inj h2
                  omega
              · exact iteF_e (decide_eq_false g3) (iteF ⟨.ref t, rfl, good fun h => g3 (of_decide_eq_true h.1)⟩)
            · exact iteT_e (by show (!(runOf (tupO (run2 (bits2 x)))).isSome) = true; rw [Bool.not_eq_true] at g2; rw [g2]; rfl) (iteT (qq _ _ s79 (by
                rw [item2_no (.inr ?_)]
                · exact .non
                · cases h : runOf (tupO (run2 (bits2 x))) with
                  | none => rfl
                  | some q => rw [h] at g2; exact absurd rfl g2)))
theorem ok_l_read (T : All K mg) : FnOk P w K mg base CX0 4 T.f_l_read T.fd_l_read ["way", "text"] (sp_lawRead K) := by
  have nd := sc_l_read.nd
  refine T.D_l_read.F.ok sc_l_read (fun vs H Q E h => ?_) (fun cdv A outer s H vs Q E hr h => ?_)
  · obtain ⟨N, x, _, hd, _⟩ := h
    exact hd.len
  · obtain ⟨N, ⟨way, x⟩, O, hd, ⟨hw, hx⟩, qq⟩ := h
    have hw : way ≤ 2 := hw
    have hx : txtOk x := hx
    obtain ⟨v1, _, rfl, hd1, hd⟩ := dqs_cons hd
    obtain ⟨v2, _, rfl, hd2, hd⟩ := dqs_cons hd
    obtain rfl := dqs_nil hd
    obtain rfl := dq_int hd1
    obtain rfl := dq_str hd2
    obtain ⟨wl, ww⟩ := words_le hx
    have qq : ∀ r H', Same H H' → Dq K (cut N H') r (readW way ((wordsOf x).map (itemP way)) (readGo way (limOf way) ((wordsOf x).map (itemP way)) 0 (-1))) → Q r H' := fun r H' s h => qq r H' s (by show Dq K _ r (readD way (.str x)); rw [read_cases]; exact h)
    refine ⟨_, (pss_cons (ps_par (i := 2) (j := 3) (by rfl) nd rfl rfl (by decide) rfl rfl (pa_cons (pe_lst pa_nil) (pa_cons (pe_un un_neg pe_int) pa_nil)) (by rfl))
  (pss_cons (ps_for PassesOwn.never rfl (pi_enum (by rfl) T.z_enumerate (pa_cons (pe_ifExp (pt_cmpR op_eq (pv 1) pe_str (nomark _)) (pe_lst pa_nil) (pe_split (pv 1) pe_str)) pa_nil)) (pg_tup rfl (pgs_cons (pg_name (i := 4) nd rfl (by first | exact Or.inl rfl | exact Or.inr rfl)) (pgs_cons (pg_name (i := 5) nd rfl (by first | exact Or.inl rfl | exact Or.inr rfl)) pgs_nil)))
    (pss_cons (ps_set (i := 6) nd rfl (by first | exact Or.inl rfl | exact Or.inr rfl) (pe_call (ok_l_item T) (hr.mono (by decide)) (by rfl) T.D_l_item.g T.D_l_item.F.kp T.D_l_item.b .nil pass0 (pa_cons (pv 0) (pa_cons (pv 5) pa_nil))))
  (pss_cons (ps_if (PW.pt (pw_or (pt_cmpR op_isN (pv 6) pe_non (nomark _)) (pw_or1 (pt_cmpR op_ge (pv 4) (pe_ix ix_list (pe_lst (pa_cons pe_int (pa_cons pe_int (pa_cons pe_int pa_nil)))) (pv 0) (fun _ _ => rfl)) (nomark _)))))
    (pss_one (ps_ret (pe_lst (pa_cons (pv 4) pa_nil))))
    pss_nil)
  (pss_cons (ps_if (PW.pt (pw_and (pt_cmpR op_gt (pv 0) pe_int (nomark _)) (pw_and1 (pt_cmpR op_le (pe_ix ix_tup (pv 6) pe_int (fun _ _ => rfl)) (pv 3) (nomark _)))))
    (pss_one (ps_ret (pe_lst (pa_cons (pv 4) pa_nil))))
    pss_nil)
  (pss_cons (ps_if (pt_cmpR op_gt (pv 0) pe_int (nomark _))
    (pss_one (ps_set (i := 3) nd rfl (by first | exact Or.inl rfl | exact Or.inr rfl) (pe_ifExp (pt_cmpR op_eq (pv 0) pe_int (nomark _)) (pe_ix ix_tup (pv 6) pe_int (fun _ _ => rfl)) (pe_op op_add (pe_ix ix_tup (pv 6) pe_int (fun _ _ => rfl)) (pe_op op_mul (pe_ix ix_tup (pv 6) pe_int (fun _ _ => rfl)) (pe_op op_sub (pe_ix ix_tup (pv 6) pe_int (fun _ _ => rfl)) pe_int))))))
    pss_nil)
  (pss_one (ps_expr (pe_bm PySem.F.plainAttrs_list PySem.F.slot_list_append PySem.F.type_list_append mt_append (pv 2) (pa_cons (pv 6) pa_nil)))))))))
  (pss_one (ps_ret (pe_callTy call_tuple_of (by rfl) T.z_tuple (by decide +kernel) (pa_cons (pv 2) pa_nil)))))), ?_⟩
    refine s_par ⟨Nat.zero_le _, fun f nf => ⟨1, rfl, _, _, rfl, ?_⟩⟩
    have s0 := same_new (o := .lst []) nf
    have ef : (upd H f (.lst [])) f = some (.lst []) := upd_same
    have nP : ∀ b, H b ≠ none → b ≠ f := ne_of_new nf
    generalize upd H f (.lst []) = H0 at s0 ef ⊢
    dsimp only
    refine te_of (t := tIf _ _ _) (fun v G => ∃ B, v = .ref B ∧ Same H0 G ∧ B ≠ f ∧ G B = some (.lst ((wordsOf x).map V.str))) ?rest ?ways
    case ways =>
      intro Q' hQ
      refine ⟨.str x, rfl, rfl, _, rfl, ?_⟩
      have nf2 : ∀ l, H0 l = none → l ≠ f := fun l nl e => by rw [e, ef] at nl; cases nl
      by_cases e : x = "none"
      · refine iteT_e (decide_eq_true (by rw [e])) ⟨Nat.zero_le _, fun l nl => hQ _ _ ⟨l, rfl, same_new nl, nf2 l nl, ?_⟩⟩
        rw [upd_same]
        unfold wordsOf
        rw [if_pos e]
        rfl
      · refine iteF_e (decide_eq_false fun z => e (V.str.inj z)) ⟨.str x, rfl, ⟨_, rfl⟩, x, (" " : Str), rfl, rfl, by decide +kernel, szs (by have := hx.1; omega), fun l nl => hQ _ _ ⟨l, rfl, same_new nl, nf2 l nl, ?_⟩⟩
        rw [upd_same]
        unfold wordsOf
        rw [if_neg e]
    case rest =>
      rintro v G ⟨B, rfl, sG, hBf, gB⟩
      have sHG := s0.trans sG
      have efG := sG _ _ ef
      refine ⟨B, _, rfl, .inl (.inl gB), for_it (walk_enum (K := K) (a := B) (xs := (wordsOf x).map V.str)) (fun i σ Hi => ∃ acc last y4 y5 y6 b, σ = [some (.int (way : Nat)), some (.str x), some (.ref f), some (.int last), y4, y5, y6] ∧ Same H Hi ∧ Hi f = some (.lst acc) ∧ Hi B = some (.lst ((wordsOf x).map V.str)) ∧
        Dqs K (cut (NP N f) Hi) acc (((wordsOf x).take i).map (itemP way)) ∧ readGo way (limOf way) ((wordsOf x).map (itemP way)) 0 (-1) = readGo way (limOf way) (((wordsOf x).drop i).map (itemP way)) i b ∧ (way ≠ 0 → last = b)) ⟨[], -1, _, _, _, -1, rfl, sHG, efG, gB, .nil, rfl, fun _ => rfl⟩ (fun i σ H1 _ h => by
          obtain ⟨_, _, _, _, _, _, _, _, _, g, _⟩ := h
          exact .inl (.inl g)) ?_ ?_⟩
      · rintro i u σ Hi H2 hi ⟨acc, last, y4, y5, y6, b, rfl, si, ei, gi, hacc, er, hlb⟩ yy
        obtain ⟨t, a0, z, rfl, nt, rfl, ha, hz⟩ := yy
        cases ha
        have hz : ((wordsOf x).map V.str)[i]? = some z := hz
        rw [List.getElem?_map] at hz
        obtain ⟨w0, hw0, rfl⟩ : ∃ w0, (wordsOf x)[i]? = some w0 ∧ V.str w0 = z := by
          cases e : (wordsOf x)[i]? with
          | none => rw [e] at hz; cases hz
          | some w0 => rw [e] at hz; exact ⟨w0, rfl, Option.some.inj hz⟩
        have li : i < (wordsOf x).length := (List.getElem?_eq_some_iff.mp hw0).1
        have wl0 := ww w0 (List.mem_of_getElem? hw0)
        rw [drop_get hw0, List.map_cons] at er
        have s2 := same_new (o := .tup [.int (i : Nat), .str w0]) nt
        have la := hacc.len
        rw [List.length_map, List.length_take] at la
        refine ⟨t, _, rfl, .inl (.inl upd_same), rfl, _, _, rfl, _, _, rfl, rfl, ?_⟩
        dsimp only
        refine s_set ⟨.int (way : Nat), rfl, .str w0, rfl, NP N f, (way, w0), np_occ (O.keep (si.trans s2)) (s2 _ _ ei), .cons (.int _) (.cons (.str _) .nil), ⟨hw, wl0⟩, fun r H3 s3 d3 => ?_⟩
        have d3 : Dq K (cut (NP N f) H3) r (itemD way w0) := d3
        have s23 := s2.trans s3
        have si3 := si.trans s23
        cases ok : okO way (itemP way w0) with
        | none =>
          rw [item_none ok] at d3
          cases d3
          rw [readGo_none ok] at er
          rw [er] at qq
          refine s_if ⟨.non, rfl, rfl, _, rfl, iteT_e (decide_eq_true rfl) (iteT ⟨.int (i : Nat), rfl, Nat.le_of_lt (small1000 (Nat.le_add_left 1 999)), fun l nl => ?_⟩)⟩
          exact qq _ _ (si3.trans (same_new nl)) (.lst (.inl (.inl (cut_new (O.keep si3) nl))) (.cons (.int _) .nil))
        | some q =>
          obtain ⟨on, off⟩ := q
          rw [item_some ok] at d3
          rw [readGo_some ok] at er
          obtain ⟨ds, ed⟩ : ∃ ds, itemP way w0 = .tuple ds := by
            match way, hw, ok with
            | 0, _, ok =>
              have ok : (if lampB (itemP 0 w0) then some ((0 : Int), (0 : Int)) else none) = some (on, off) := ok
              split at ok
              · rename_i g
                obtain ⟨k, s, e⟩ := lamp_shape g
                exact ⟨_, e⟩
              · cases ok
            | 1, _, ok => exact ⟨_, st_shape ok⟩
            | 2, _, ok =>
              obtain ⟨a, s, c, e, _⟩ := run_shape (d := itemP 2 w0) ok
              exact ⟨_, e⟩
          have hlim : ([V.int 6, V.int 60, V.int 360] : List V)[way]? = some (.int (limOf way : Nat)) := by
            match way, hw with
            | 0, _ => rfl
            | 1, _ => rfl
            | 2, _ => rfl
          have d3' := d3
          rw [ed] at d3'
          obtain ⟨ad, ys, rfl, g3, hy⟩ := dq_tup d3'
          refine s_if ⟨.ref ad, rfl, rfl, _, rfl, iteF_e (decide_eq_false (fun z => nomatch z)) ⟨.int (i : Nat), rfl, Nat.le_of_lt (small1000 (show 3 ≤ 1000 by decide)), fun l nl => ⟨.int (way : Nat), rfl, l, _, (way : Nat), .int (limOf way : Nat), rfl, rfl, .inl (.inl upd_same), atI_nat (j := way) hlim, _, _, rfl, rfl, _, rfl, ?_⟩⟩⟩
          have s4 := same_new (o := .lst [.int 6, .int 60, .int 360]) nl
          have s24 := s23.trans s4
          have si5 := si.trans s24
          have e5 := s24 _ _ ei
          have g5 := s24 _ _ gi
          have d5 := d3.mono (cut_mono s4)
          have gy : SqT K (upd H3 l (.lst [.int 6, .int 60, .int 360])) ad ys := Same.seqT s4 (Same.seqT cut_same g3)
          have hacc5 := Dqs.mono (cut_mono s24) hacc
          generalize upd H3 l (.lst [.int 6, .int 60, .int 360]) = H5 at si5 e5 g5 d5 gy hacc5 ⊢
          have nxt : ∀ H6, H6 = upd H5 f (.lst (acc ++ [.ref ad])) → Dqs K (cut (NP N f) H6) (acc ++ [.ref ad]) (((wordsOf x).take (i + 1)).map (itemP way)) := fun H6 e => by
            subst e
            rw [map_take_snoc (itemP way) hw0, cut_upd (.inr rfl)]
            exact dqs_snoc hacc5 d5
          have out : readGo way (limOf way) ((wordsOf x).map (itemP way)) 0 (-1) = some i → tRet (tLst (tCons (tVar 4) tNil)) { nx := fun x H' => Q V.non H', rt := Q } [some (.int (way : Nat)), some (.str x), some (.ref f), some (.int last), some (.int (i : Nat)), some (.str w0), some (.ref ad)] H5 := fun e => by
            refine ⟨.int (i : Nat), rfl, Nat.le_of_lt (small1000 (Nat.le_add_left 1 999)), fun l2 nl2 => ?_⟩
            refine qq _ _ (si5.trans (same_new nl2)) ?_
            rw [e]
            exact .lst (.inl (.inl (cut_new (O.keep si5) nl2))) (.cons (.int _) .nil)
          by_cases g1 : limOf way ≤ i
          · rw [if_pos g1] at er
            exact iteT_e (decide_eq_true (by omega)) (out er)
          · rw [if_neg g1] at er
            refine iteF_e (decide_eq_false (by omega)) (nx_go ?_)
            dsimp only
            have hw3 : way = 0 ∨ way = 1 ∨ way = 2 := by omega
            rcases hw3 with rfl | rfl | rfl
            · rw [if_neg (fun z => z.1 rfl)] at er
              refine s_if ⟨.int (0 : Nat), rfl, 0, 0, rfl, rfl, _, rfl, iteF (iteF (nx_go ?_))⟩
              dsimp only
              refine s_if ⟨.int (0 : Nat), rfl, 0, 0, rfl, rfl, _, rfl, iteF (nx_go ?_)⟩
              dsimp only
              refine s_expr1 ⟨.ref f, rfl, .inl ⟨rfl, _, .inl (.inl e5)⟩, .ref ad, rfl, f, acc, _, rfl, rfl, e5, small1000 (by omega), ?_⟩
              exact ⟨acc ++ [.ref ad], last, _, _, _, _, rfl, same_upd si5 nf, upd_same, by rw [upd_ne hBf]; exact g5, nxt _ rfl, er, fun z => absurd rfl z⟩
            · have hlb := hlb (by decide)
              subst hlb
              have es : itemP 1 w0 = .tuple [.int on, .int off] := st_shape (d := itemP 1 w0) ok
              rw [es] at ed
              cases ed
              have hyy : ys = [.int on, .int off] := dqs_ints (ms := [on, off]) hy
              subst hyy
              refine s_if ⟨.int (1 : Nat), rfl, 1, 0, rfl, rfl, _, rfl, iteT ⟨.ref ad, rfl, ad, _, 0, .int on, rfl, rfl, gy, atI_nat (j := 0) rfl, .int last, rfl, _, _, rfl, rfl, _, rfl, ?_⟩⟩
              by_cases g2 : on ≤ last
              · rw [if_pos ⟨by decide, g2⟩] at er
                exact iteT_e (decide_eq_true g2) (out er)
              rw [if_neg (fun z => g2 z.2)] at er
              refine iteF_e (decide_eq_false g2) (nx_go ?_)
              dsimp only
              refine s_if ⟨.int (1 : Nat), rfl, 1, 0, rfl, rfl, _, rfl, iteT ?_⟩
              refine ⟨.int (1 : Nat), rfl, rfl, _, rfl, iteT_e (decide_eq_true rfl) ?_⟩
              refine ⟨.ref ad, rfl, ad, _, 1, .int off, rfl, rfl, gy, atI_nat (j := 1) rfl, ?_⟩
              dsimp only
              refine s_expr1 ⟨.ref f, rfl, .inl ⟨rfl, _, .inl (.inl e5)⟩, .ref ad, rfl, f, acc, _, rfl, rfl, e5, small1000 (by omega), ?_⟩
              exact ⟨acc ++ [.ref ad], off, _, _, _, off, rfl, same_upd si5 nf, upd_same, by rw [upd_ne hBf]; exact g5, nxt _ rfl, er, fun _ => rfl⟩
            · have hlb := hlb (by decide)
              subst hlb
              obtain ⟨a, sp, c, es, eq2, h0, h1, h2, h3, h4⟩ := run_shape (d := itemP 2 w0) ok
              cases eq2
              rw [es] at ed
              cases ed
              have hyy : ys = [.int on, .int sp, .int c] := dqs_ints (ms := [on, sp, c]) hy
              subst hyy
              obtain ⟨m1, m2⟩ := run_mul h0 h1 h2 h4 h3
              refine s_if ⟨.int (2 : Nat), rfl, 2, 0, rfl, rfl, _, rfl, iteT ⟨.ref ad, rfl, ad, _, 0, .int on, rfl, rfl, gy, atI_nat (j := 0) rfl, .int last, rfl, _, _, rfl, rfl, _, rfl, ?_⟩⟩
              by_cases g2 : on ≤ last
              · rw [if_pos ⟨by decide, g2⟩] at er
                exact iteT_e (decide_eq_true g2) (out er)
              rw [if_neg (fun z => g2 z.2)] at er
              refine iteF_e (decide_eq_false g2) (nx_go ?_)
              dsimp only
              refine s_if ⟨.int (2 : Nat), rfl, 2, 0, rfl, rfl, _, rfl, iteT ?_⟩
              refine ⟨.int (2 : Nat), rfl, rfl, _, rfl, iteF_e (decide_eq_false (by decide)) ?_⟩
              refine ⟨.ref ad, rfl, ad, _, 0, .int on, rfl, rfl, gy, atI_nat (j := 0) rfl, .ref ad, rfl, ad, _, 1, .int sp, rfl, rfl, gy, atI_nat (j := 1) rfl, .ref ad, rfl, ad, _, 2, .int c, rfl, rfl, gy, atI_nat (j := 2) rfl, c, 1, rfl, rfl, sp, _, rfl, rfl, .inl ⟨by omega, by omega⟩, on, _, rfl, rfl, ?_⟩
              dsimp only
              refine s_expr1 ⟨.ref f, rfl, .inl ⟨rfl, _, .inl (.inl e5)⟩, .ref ad, rfl, f, acc, _, rfl, rfl, e5, small1000 (by omega), ?_⟩
              exact ⟨acc ++ [.ref ad], _, _, _, _, _, rfl, same_upd si5 nf, upd_same, by rw [upd_ne hBf]; exact g5, nxt _ rfl, er, fun _ => rfl⟩
      · rintro σ Hi ⟨acc, last, y4, y5, y6, b, rfl, si, ei, gi, hacc, er, hlb⟩
        rw [List.length_map, List.drop_length] at er
        rw [List.length_map, List.take_length] at hacc
        rw [er] at qq
        refine ⟨.ref f, rfl, f, acc, rfl, .inl ⟨.inl (.inl ei), fun t nt => ?_⟩⟩
        exact qq _ _ (si.trans (same_new nt)) (.tup (.inl (.inl (cut_new (O.keep si) nt))) ((hacc.mono np_le).mono (cut_mono (same_new nt))))
theorem ok_l_told (T : All K mg) : FnOk P w K mg base CX0 7 T.f_l_told T.fd_l_told ["way", "value"] (sp_toldG K) := by
  have nd := sc_l_told.nd
  refine T.D_l_told.F.ok sc_l_told (fun vs H Q E h => ?_) (fun cdv A outer s H vs Q E hr h => ?_)
  · obtain ⟨N, x, _, hd, _⟩ := h
    exact hd.len
  · obtain ⟨N, ⟨way, d⟩, O, hd, ⟨hw, hl⟩, qq⟩ := h
    have hw : way ≤ 2 := hw
    obtain ⟨v1, _, rfl, hd1, hd⟩ := dqs_cons hd
    obtain ⟨v2, _, rfl, hd2, hd⟩ := dqs_cons hd
    obtain rfl := dqs_nil hd
    obtain rfl := dq_int hd1
    refine ⟨_, (pss_cons (ps_set (i := 2) nd rfl (by first | exact Or.inl rfl | exact Or.inr rfl) pe_non)
  (pss_cons (ps_try_as (i := 3) rfl rfl nd rfl rfl ⟨rfl, by decide, .inl T.g_LampError⟩ takes0 (fun W pn xe tk _ => (pss_one (ps_if (pt_cmpR op_eq (pv 0) pe_int (nomark _))
    (pss_one (ps_set (i := 2) nd rfl (by first | exact Or.inl rfl | exact Or.inr rfl) (pe_callS (ok_parse_lamps T) (hr.mono (by decide)) (by rfl) T.D_parse_lamps.g T.D_parse_lamps.F.kp T.D_parse_lamps.b (fun σ => passAt tk σ) (pa_cons (pv 1) pa_nil))))
    (pss_one (ps_set (i := 2) nd rfl (by first | exact Or.inl rfl | exact Or.inr rfl) (pe_ifExp (pt_cmpR op_eq (pv 0) pe_int (nomark _)) (pe_callS (ok_parse_log T) (hr.mono (by decide)) (by rfl) T.D_parse_log.g T.D_parse_log.F.kp T.D_parse_log.b (fun σ => passAt tk σ) (pa_cons (pv 1) pa_nil)) (pe_callS (ok_parse_motions T) (hr.mono (by decide)) (by rfl) T.D_parse_motions.g T.D_parse_motions.F.kp T.D_parse_motions.b (fun σ => passAt tk σ) (pa_cons (pv 1) pa_nil)))))))) (fun a oe cls d pn hz hf => (pss_cons (ps_set (i := 4) nd rfl (by first | exact Or.inl rfl | exact Or.inr rfl) (pe_and (pe_callB (call_isX hz hf) (by rfl) T.z_isinstance (by decide +kernel) (pa_cons (pv 3) (pa_cons (pe_bltn (v := .ty "ValueError") (by rfl) T.z_ValueError (by decide +kernel) rfl) pa_nil))) (pe_one (pe_not (pe_callB (call_isX hz hf) (by rfl) T.z_isinstance (by decide +kernel) (pa_cons (pv 3) (pa_cons (pe_tup (pa_cons (pe_glob (v := .ref T.C_BadLamp) (by rfl) T.g_BadLamp rfl) (pa_cons (pe_glob (v := .ref T.C_BadLog) (by rfl) T.g_BadLog rfl) (pa_cons (pe_glob (v := .ref T.C_BadMotions) (by rfl) T.g_BadMotions rfl) (pa_cons (pe_glob (v := .ref T.C_NoIndex) (by rfl) T.g_NoIndex rfl) pa_nil))))) pa_nil)))))))
  (pss_one (ps_set (i := 2) nd rfl (by first | exact Or.inl rfl | exact Or.inr rfl) (pe_ifExp (PW.pt (pw_and (pt_val (pv 4)) (pw_and1 (pt_val (pe_callB (call_isX hz hf) (by rfl) T.z_isinstance (by decide +kernel) (pa_cons (pv 3) (pa_cons (pe_glob (v := .ref T.C_BadText) (by rfl) T.g_BadText rfl) pa_nil))))))) (pe_lst (pa_cons (pe_xf T.X_BadText.xf T.X_BadText.no hz hf (pv 3)) pa_nil)) pe_str))))))
  (pss_one (ps_ret (pv 2))))), ?_⟩
    refine s_set ?_
    refine ⟨.int (way : Nat), rfl, rfl, _, rfl, ?_⟩
    have hw3 : way = 0 ∨ way = 1 ∨ way = 2 := by omega
    rcases hw3 with rfl | rfl | rfl
    · refine iteT_e (decide_eq_true rfl) ?_
      refine ⟨v2, rfl, N, d, O, .cons hd2 .nil, hl, fun hB r H1 s1 d1 => ?_, fun C f e hB dd vv H1 s1 n1 e1 dv => ?_⟩
      · refine ⟨r, rfl, qq r H1 s1 ?_⟩
        have hB : idxP 0 d = none := by
          cases e : idxP 0 d with
          | none => rfl
          | some z =>
            have hB : Option.map (fun e => (T.C_BadText, ("index" : Str), e)) (idxP 0 d) = none := hB
            rw [e] at hB
            cases hB
        show Dq K _ r (readD 0 d)
        unfold readD
        rw [hB]
        exact d1
      · obtain ⟨z, hz, eC⟩ : ∃ z, idxP 0 d = some z ∧ (T.C_BadText, ("index" : Str), z) = (C, f, e) := by
          have hB : Option.map (fun e => (T.C_BadText, ("index" : Str), e)) (idxP 0 d) = some (C, f, e) := hB
          cases h : idxP 0 d with
          | none => rw [h] at hB; cases hB
          | some z => rw [h] at hB; exact ⟨z, rfl, Option.some.inj hB⟩
        cases eC
        refine ⟨true, T.kit0, fun _ a na => ?_, fun z => Bool.noConfusion z⟩
        refine ⟨.ref a, rfl, T.C_BadText, _, dd, _, true, rfl, rfl, rfl, e1, T.X_BadText.xf, T.X_BadText.is, .inl ⟨_, fun u z => z, T.kit1⟩, true, rfl, ?_⟩
        refine iteT ⟨.ref a, rfl, Nat.le_of_lt (small1000 (show 4 ≤ 1000 by decide)), fun t nt => ?_⟩
        have s2 := same_new (o := .tup [.ref T.C_BadLamp, .ref T.C_BadLog, .ref T.C_BadMotions, .ref T.C_NoIndex]) nt
        refine ⟨T.C_BadText, _, dd, _, false, rfl, rfl, rfl, s2 _ _ e1, T.X_BadText.xf, T.X_BadText.is, .inr ⟨t, [T.C_BadLamp, T.C_BadLog, T.C_BadMotions, T.C_NoIndex], rfl, upd_same, T.kit2⟩, false, rfl, ?_⟩
        refine ⟨_, rfl, true, rfl, iteT ?_⟩
        refine ⟨.ref a, rfl, T.C_BadText, _, dd, _, true, rfl, rfl, rfl, s2 _ _ e1, T.X_BadText.xf, T.X_BadText.is, .inl ⟨_, fun u z => z, T.kit3⟩, true, rfl, iteT ?_⟩
        refine ⟨.ref a, rfl, rfl, rfl, dd, _, _, rfl, s2 _ _ e1, rfl, Nat.le_of_lt (small1000 (Nat.le_add_left 1 999)), fun u nu => ?_⟩
        have s3 := s1.trans (s2.trans (same_new (o := .lst [vv]) nu))
        refine ⟨.ref u, rfl, qq _ _ s3 ?_⟩
        show Dq K _ _ (readD 0 d)
        unfold readD
        rw [hz]
        exact .lst (.inl (.inl (cut_new (O.keep (s1.trans s2)) nu))) (.cons (dv.mono (cut_mono (s2.trans (same_new nu)))) .nil)
    · refine iteF_e (decide_eq_false (by decide)) ?_
      refine ⟨.int (1 : Nat), rfl, rfl, _, rfl, ?_⟩
      refine iteT_e (decide_eq_true rfl) ?_
      refine ⟨v2, rfl, N, d, O, .cons hd2 .nil, hl, fun hB r H1 s1 d1 => ?_, fun C f e hB dd vv H1 s1 n1 e1 dv => ?_⟩
      · refine ⟨r, rfl, qq r H1 s1 ?_⟩
        have hB : idxP 1 d = none := by
          cases e : idxP 1 d with
          | none => rfl
          | some z =>
            have hB : Option.map (fun e => (T.C_BadText, ("index" : Str), e)) (idxP 1 d) = none := hB
            rw [e] at hB
            cases hB
        show Dq K _ r (readD 1 d)
        unfold readD
        rw [hB]
        exact d1
      · obtain ⟨z, hz, eC⟩ : ∃ z, idxP 1 d = some z ∧ (T.C_BadText, ("index" : Str), z) = (C, f, e) := by
          have hB : Option.map (fun e => (T.C_BadText, ("index" : Str), e)) (idxP 1 d) = some (C, f, e) := hB
          cases h : idxP 1 d with
          | none => rw [h] at hB; cases hB
          | some z => rw [h] at hB; exact ⟨z, rfl, Option.some.inj hB⟩
        cases eC
        refine ⟨true, T.kit0, fun _ a na => ?_, fun z => Bool.noConfusion z⟩
        refine ⟨.ref a, rfl, T.C_BadText, _, dd, _, true, rfl, rfl, rfl, e1, T.X_BadText.xf, T.X_BadText.is, .inl ⟨_, fun u z => z, T.kit1⟩, true, rfl, ?_⟩
        refine iteT ⟨.ref a, rfl, Nat.le_of_lt (small1000 (show 4 ≤ 1000 by decide)), fun t nt => ?_⟩
        have s2 := same_new (o := .tup [.ref T.C_BadLamp, .ref T.C_BadLog, .ref T.C_BadMotions, .ref T.C_NoIndex]) nt
        refine ⟨T.C_BadText, _, dd, _, false, rfl, rfl, rfl, s2 _ _ e1, T.X_BadText.xf, T.X_BadText.is, .inr ⟨t, [T.C_BadLamp, T.C_BadLog, T.C_BadMotions, T.C_NoIndex], rfl, upd_same, T.kit2⟩, false, rfl, ?_⟩
        refine ⟨_, rfl, true, rfl, iteT ?_⟩
        refine ⟨.ref a, rfl, T.C_BadText, _, dd, _, true, rfl, rfl, rfl, s2 _ _ e1, T.X_BadText.xf, T.X_BadText.is, .inl ⟨_, fun u z => z, T.kit3⟩, true, rfl, iteT ?_⟩
        refine ⟨.ref a, rfl, rfl, rfl, dd, _, _, rfl, s2 _ _ e1, rfl, Nat.le_of_lt (small1000 (Nat.le_add_left 1 999)), fun u nu => ?_⟩
        have s3 := s1.trans (s2.trans (same_new (o := .lst [vv]) nu))
        refine ⟨.ref u, rfl, qq _ _ s3 ?_⟩
        show Dq K _ _ (readD 1 d)
        unfold readD
        rw [hz]
        exact .lst (.inl (.inl (cut_new (O.keep (s1.trans s2)) nu))) (.cons (dv.mono (cut_mono (s2.trans (same_new nu)))) .nil)
    · refine iteF_e (decide_eq_false (by decide)) ?_
      refine ⟨.int (2 : Nat), rfl, rfl, _, rfl, ?_⟩
      refine iteF_e (decide_eq_false (by decide)) ?_
      refine ⟨v2, rfl, N, d, O, .cons hd2 .nil, hl, fun hB r H1 s1 d1 => ?_, fun C f e hB dd vv H1 s1 n1 e1 dv => ?_⟩
      · refine ⟨r, rfl, qq r H1 s1 ?_⟩
        have hB : idxP 2 d = none := by
          cases e : idxP 2 d with
          | none => rfl
          | some z =>
            have hB : Option.map (fun e => (T.C_BadText, ("index" : Str), e)) (idxP 2 d) = none := hB
            rw [e] at hB
            cases hB
        show Dq K _ r (readD 2 d)
        unfold readD
        rw [hB]
        exact d1
      · obtain ⟨z, hz, eC⟩ : ∃ z, idxP 2 d = some z ∧ (T.C_BadText, ("index" : Str), z) = (C, f, e) := by
          have hB : Option.map (fun e => (T.C_BadText, ("index" : Str), e)) (idxP 2 d) = some (C, f, e) := hB
          cases h : idxP 2 d with
          | none => rw [h] at hB; cases hB
          | some z => rw [h] at hB; exact ⟨z, rfl, Option.some.inj hB⟩
        cases eC
        refine ⟨true, T.kit0, fun _ a na => ?_, fun z => Bool.noConfusion z⟩
        refine ⟨.ref a, rfl, T.C_BadText, _, dd, _, true, rfl, rfl, rfl, e1, T.X_BadText.xf, T.X_BadText.is, .inl ⟨_, fun u z => z, T.kit1⟩, true, rfl, ?_⟩
        refine iteT ⟨.ref a, rfl, Nat.le_of_lt (small1000 (show 4 ≤ 1000 by decide)), fun t nt => ?_⟩
        have s2 := same_new (o := .tup [.ref T.C_BadLamp, .ref T.C_BadLog, .ref T.C_BadMotions, .ref T.C_NoIndex]) nt
        refine ⟨T.C_BadText, _, dd, _, false, rfl, rfl, rfl, s2 _ _ e1, T.X_BadText.xf, T.X_BadText.is, .inr ⟨t, [T.C_BadLamp, T.C_BadLog, T.C_BadMotions, T.C_NoIndex], rfl, upd_same, T.kit2⟩, false, rfl, ?_⟩
        refine ⟨_, rfl, true, rfl, iteT ?_⟩
        refine ⟨.ref a, rfl, T.C_BadText, _, dd, _, true, rfl, rfl, rfl, s2 _ _ e1, T.X_BadText.xf, T.X_BadText.is, .inl ⟨_, fun u z => z, T.kit3⟩, true, rfl, iteT ?_⟩
        refine ⟨.ref a, rfl, rfl, rfl, dd, _, _, rfl, s2 _ _ e1, rfl, Nat.le_of_lt (small1000 (Nat.le_add_left 1 999)), fun u nu => ?_⟩
        have s3 := s1.trans (s2.trans (same_new (o := .lst [vv]) nu))
        refine ⟨.ref u, rfl, qq _ _ s3 ?_⟩
        show Dq K _ _ (readD 2 d)
        unfold readD
        rw [hz]
        exact .lst (.inl (.inl (cut_new (O.keep (s1.trans s2)) nu))) (.cons (dv.mono (cut_mono (s2.trans (same_new nu)))) .nil)
theorem ok_l_changed (T : All K mg) : FnOk P w K mg base CX0 3 T.f_l_changed T.fd_l_changed ["pot", "text"] (sp_changed K) := by
  have nd := sc_l_changed.nd
  refine T.D_l_changed.F.ok sc_l_changed (fun vs H Q E h => ?_) (fun cdv A outer s H vs Q E hr h => ?_)
  · obtain ⟨Z, p, dl, al, x, rfl, _⟩ := h
    rfl
  · obtain ⟨Z, p, dl, al, x, rfl, hP, hx, q⟩ := h
    refine ⟨_, (pss_cons (ps_par (i := 2) (j := 3) (by rfl) nd rfl rfl (by decide) rfl rfl (pa_cons (pe_call (ok_l_draw T) (hr.mono (by decide)) (by rfl) T.D_l_draw.g T.D_l_draw.F.kp T.D_l_draw.b .nil pass0 (pa_cons (pv 0) (pa_cons (pe_op op_add (pe_callB call_len_str (by rfl) T.z_len (by decide +kernel) (pa_cons (pv 1) pa_nil)) pe_int) pa_nil))) (pa_cons (pe_split (pv 1) pe_str) pa_nil)) (by rfl))
  (pss_cons (ps_par (i := 4) (j := 5) (by rfl) nd rfl rfl (by decide) rfl rfl (pa_cons (pe_call (ok_l_draw T) (hr.mono (by decide)) (by rfl) T.D_l_draw.g T.D_l_draw.F.kp T.D_l_draw.b .nil pass0 (pa_cons (pv 0) (pa_cons (pe_op op_add (pe_callB call_len_seq (by rfl) T.z_len (by decide +kernel) (pa_cons (pv 3) pa_nil)) pe_int) pa_nil))) (pa_cons (pe_call (ok_l_one T) (hr.mono (by decide)) (by rfl) T.D_l_one.g T.D_l_one.F.kp T.D_l_one.b .nil pass0 (pa_cons (pv 0) (pa_cons (pe_lst (pa_cons pe_str (pa_cons pe_str (pa_cons pe_str (pa_cons pe_str (pa_cons pe_str (pa_cons pe_str (pa_cons pe_str (pa_cons pe_str (pa_cons pe_str (pa_cons pe_str pa_nil))))))))))) pa_nil))) pa_nil)) (by rfl))
  (pss_cons (ps_set (i := 6) nd rfl (by first | exact Or.inl rfl | exact Or.inr rfl) (pe_lst (pa_cons pe_str (pa_cons pe_str (pa_cons pe_str (pa_cons pe_str (pa_cons pe_str (pa_cons pe_str (pa_cons pe_str (pa_cons pe_str (pa_cons pe_str (pa_cons pe_str (pa_cons (pe_op op_mulS pe_str pe_int) pa_nil)))))))))))))
  (pss_cons (ps_set (i := 6) nd rfl (by first | exact Or.inl rfl | exact Or.inr rfl) (pe_op op_cat (pv 6) (pe_lst (pa_cons pe_str (pa_cons pe_str (pa_cons pe_str (pa_cons pe_str (pa_cons pe_str (pa_cons pe_str pa_nil)))))))))
  (pss_cons (ps_set (i := 7) nd rfl (by first | exact Or.inl rfl | exact Or.inr rfl) (pe_call (ok_l_one T) (hr.mono (by decide)) (by rfl) T.D_l_one.g T.D_l_one.F.kp T.D_l_one.b .nil pass0 (pa_cons (pv 0) (pa_cons (pe_op op_cat (pe_op op_cat (pv 3) (pv 6)) (pe_lst (pa_cons pe_str pa_nil))) pa_nil))))
  (pss_cons (ps_set (i := 8) nd rfl (by first | exact Or.inl rfl | exact Or.inr rfl) (pe_lst (pa_cons (pe_op op_add_str (pe_op op_add_str (pe_slice sl_str (pv 1) po_none (po_some (pv 2))) (pv 5)) (pe_slice sl_str (pv 1) (po_some (pv 2)) po_none)) (pa_cons (pe_op op_add_str (pe_op op_add_str (pe_slice sl_str (pv 1) po_none (po_some (pv 2))) (pv 5)) (pe_slice sl_str (pv 1) (po_some (pe_op op_add (pv 2) pe_int)) po_none)) (pa_cons (pe_op op_add_str (pe_slice sl_str (pv 1) po_none (po_some (pv 2))) (pe_slice sl_str (pv 1) (po_some (pe_op op_add (pv 2) pe_int)) po_none)) (pa_cons (pe_op op_add_str (pv 1) pe_str) pa_nil))))))
  (pss_cons (ps_expr (pe_bm PySem.F.plainAttrs_list PySem.F.slot_list_append PySem.F.type_list_append mt_append (pv 8) (pa_cons (pe_call (ok_l_spaced T) (hr.mono (by decide)) (by rfl) T.D_l_spaced.g T.D_l_spaced.F.kp T.D_l_spaced.b .nil pass0 (pa_cons (pe_op op_cat (pe_op op_cat (pe_slice sl_list (pv 3) po_none (po_some (pv 4))) (pe_lst (pa_cons (pv 7) pa_nil))) (pe_slice sl_list (pv 3) (po_some (pv 4)) po_none)) pa_nil)) pa_nil)))
  (pss_cons (ps_expr (pe_bm PySem.F.plainAttrs_list PySem.F.slot_list_append PySem.F.type_list_append mt_append (pv 8) (pa_cons (pe_call (ok_l_spaced T) (hr.mono (by decide)) (by rfl) T.D_l_spaced.g T.D_l_spaced.F.kp T.D_l_spaced.b .nil pass0 (pa_cons (pe_op op_cat (pe_op op_cat (pe_slice sl_list (pv 3) po_none (po_some (pv 4))) (pe_lst (pa_cons (pv 7) pa_nil))) (pe_slice sl_list (pv 3) (po_some (pe_op op_add (pv 4) pe_int)) po_none)) pa_nil)) pa_nil)))
  (pss_one (ps_ret (pe_call (ok_l_one T) (hr.mono (by decide)) (by rfl) T.D_l_one.g T.D_l_one.F.kp T.D_l_one.b .nil pass0 (pa_cons (pv 0) (pa_cons (pe_op op_cat (pv 8) (pe_lst (pa_cons (pe_call (ok_l_spaced T) (hr.mono (by decide)) (by rfl) T.D_l_spaced.g T.D_l_spaced.F.kp T.D_l_spaced.b .nil pass0 (pa_cons (pe_revL (pv 3)) pa_nil)) (pa_cons (pe_op op_add_str (pe_op op_add_str (pv 1) pe_str) (pv 1)) (pa_cons (pe_op op_add_str (pv 1) (pv 1)) (pa_cons (pe_op op_add_str pe_str (pv 1)) pa_nil)))))) pa_nil))))))))))))), ?_⟩
    refine s_par ?_
    refine (ev_draw (b := (x.length : Int) + 1) (by rfl) (by omega) ((ev_add (ev_lenS (i := 1) (by rfl) (by omega)) (ev_int (i := 1))).wide (by omega) (by omega))).run hP (b := 0) (by omega) fun v H2 P2 k2 r2 => ?_
    obtain ⟨at_, rfl, a0, a1⟩ := r2
    have at2 : IR at_ at_ (.int at_) (hid (pot p dl al) Z H2) := ⟨at_, rfl, Int.le_refl _, Int.le_refl _⟩
    refine ⟨.str x, rfl, ⟨_, rfl⟩, x, (" " : Str), rfl, rfl, by decide +kernel, szs (by omega), fun W nW => ⟨_, _, rfl, ?_⟩⟩
    have wtw := wt_split x.length x (Nat.le_refl _)
    generalize Txt.split x " " = ws at wtw nW ⊢
    have lw := wt_len ws
    obtain ⟨P3, k3, e3⟩ := laid (o := .lst (ws.map V.str)) P2 nW
    have k23 := k2.trans k3
    generalize upd H2 W (.lst (ws.map V.str)) = H3 at P3 k3 e3 k23 ⊢
    have lsW : LsR ws.length ws.length (SR 400) (.ref W) (hid (pot p dl al) Z H3) := ⟨W, _, rfl, e3, by rw [List.length_map]; exact Nat.le_refl _, by rw [List.length_map]; exact Nat.le_refl _, fun v hv => by
      obtain ⟨w0, hw0, rfl⟩ := List.mem_map.mp hv
      have := wt_mem hw0
      exact ⟨w0, rfl, by omega⟩⟩
    have leW : LE ws (.ref W) (hid (pot p dl al) Z H3) := ⟨W, rfl, e3⟩
    -- spot, sign
    dsimp only
    refine s_par ?_
    refine (eva_cons IR.mo (ev_draw (b := (ws.length : Int) + 1) (by rfl) (by omega) ((ev_add (ev_lenL (K := K) (ev_var (i := 3) (by rfl) (LsR.mo SR.mo) lsW)) (ev_int (i := 1))).wide (by omega) (by omega))) (eva_cons SR.mo (ev_one (m0 := 9) (m := 10) (R := SR 1) (by rfl) (by decide) SR.mo (ev_lst (by decide) SR.mo (eall_cons SR.mo (ev_strS (by decide +kernel)) (eall_cons SR.mo (ev_strS (by decide +kernel)) (eall_cons SR.mo (ev_strS (by decide +kernel)) (eall_cons SR.mo (ev_strS (by decide +kernel)) (eall_cons SR.mo (ev_strS (by decide +kernel)) (eall_cons SR.mo (ev_strS (by decide +kernel)) (eall_cons SR.mo (ev_strS (by decide +kernel)) (eall_cons SR.mo (ev_strS (by decide +kernel)) (eall_cons SR.mo (ev_strS (by decide +kernel)) (eall_cons SR.mo (ev_strS (by decide +kernel)) eall_nil)))))))))))) eva_nil)).run P3 (b := 0) (by omega) fun vs H4 P4 k4 r4 => ?_
    obtain ⟨_, _, rfl, ⟨sp0, rfl, sp1, sp2⟩, _, _, rfl, ⟨sg, rfl, hsg⟩, rfl⟩ := r4
    obtain ⟨sp, rfl⟩ : ∃ n : Nat, sp0 = n := ⟨sp0.toNat, by omega⟩
    refine ⟨_, _, rfl, ?_⟩
    have lsW := LsR.mo SR.mo _ _ _ k4 lsW
    have leW := LE.mo _ _ _ k4 leW
    have k24 := k23.trans k4
    -- some
    refine s_set ?_
    refine (ev_lst (m := 11) (n' := 11) (R := SR 400) (by decide) SR.mo (eall_cons SR.mo (ev_strS (by decide +kernel)) (eall_cons SR.mo (ev_strS (by decide +kernel)) (eall_cons SR.mo (ev_strS (by decide +kernel)) (eall_cons SR.mo (ev_strS (by decide +kernel)) (eall_cons SR.mo (ev_strS (by decide +kernel)) (eall_cons SR.mo (ev_strS (by decide +kernel)) (eall_cons SR.mo (ev_strS (by decide +kernel)) (eall_cons SR.mo (ev_strS (by decide +kernel)) (eall_cons SR.mo (ev_strS (by decide +kernel)) (eall_cons SR.mo (ev_strS (by decide +kernel)) (eall_cons SR.mo (ev_mul21) eall_nil)))))))))))).run P4 (b := 0) (by omega) fun v6 H5 P5 k5 r5 => ?_
    have lsW := LsR.mo SR.mo _ _ _ k5 lsW
    have leW := LE.mo _ _ _ k5 leW
    have k25 := k24.trans k5
    refine s_set ?_
    refine (ev_cat (a := 11) (b := 11) (c := 6) (d := 6) (R := SR 400) (by decide) SR.mo (ev_var (i := 6) (by rfl) (LsR.mo SR.mo) r5) (ev_lst (by decide) SR.mo (eall_cons SR.mo (ev_strS (by decide +kernel)) (eall_cons SR.mo (ev_strS (by decide +kernel)) (eall_cons SR.mo (ev_strS (by decide +kernel)) (eall_cons SR.mo (ev_strS (by decide +kernel)) (eall_cons SR.mo (ev_strS (by decide +kernel)) (eall_cons SR.mo (ev_strS (by decide +kernel)) eall_nil)))))))).run P5 (b := 0) (by omega) fun v6 H6 P6 k6 r6 => ?_
    have lsW := LsR.mo SR.mo _ _ _ k6 lsW
    have leW := LE.mo _ _ _ k6 leW
    have k26 := k25.trans k6
    -- part
    refine s_set ?_
    refine (ev_one (m0 := ws.length + 17) (m := ws.length + 17 + 1) (R := SR 400) (by rfl) (by omega) SR.mo (ev_cat (a := ws.length + 17) (b := ws.length + 17) (c := 1) (d := 1) (by omega) SR.mo (ev_cat (a := ws.length) (b := ws.length) (c := 17) (d := 17) (by omega) SR.mo (ev_var (i := 3) (by rfl) (LsR.mo SR.mo) lsW) (ev_var (i := 6) (by rfl) (LsR.mo SR.mo) r6)) (ev_lst (by decide) SR.mo (eall_cons SR.mo (ev_strS (by decide +kernel)) eall_nil)))).run P6 (b := 0) (by omega) fun v H7 P7 k7 r7 => ?_
    obtain ⟨pt, rfl, hpt⟩ := r7
    have leW := LE.mo _ _ _ k7 leW
    have k27 := k26.trans k7
    -- texts
    have aI : ∀ {H8 : Hp}, Ev (pot p dl al) Z 0 H8 _ (tVar 2) (fun v _ => ∃ i, v = .int i) := fun {H8} => (ev_ivar (S := pot p dl al) (Z := Z) (H0 := H8) (σ := [some (.ref p), some (.str x), some (.int at_), some (.ref W), some (.int (sp : Int)), some (.str sg), some v6, some (.str pt), none]) (i := 2) (lo := at_) (hi := at_) (by rfl) (Int.le_refl _) (Int.le_refl _)).isInt
    have aI1 : ∀ {H8 : Hp}, Ev (pot p dl al) Z 0 H8 _ (tOp (rI0 fun i j => .int (i + j)) (tVar 2) (tC (.int 1))) (fun v _ => ∃ i, v = .int i) := fun {H8} => (ev_add (ev_ivar (S := pot p dl al) (Z := Z) (H0 := H8) (σ := [some (.ref p), some (.str x), some (.int at_), some (.ref W), some (.int (sp : Int)), some (.str sg), some v6, some (.str pt), none]) (i := 2) (lo := at_) (hi := at_) (by rfl) (Int.le_refl _) (Int.le_refl _)) (ev_int (i := 1))).isInt
    refine s_set ?_
    refine (eall_cons (R := SR 850) SR.mo (ev_addS (a := 401) (b := 400) (by decide) (by decide) (ev_addS (a := 400) (b := 1) (by decide) (by decide) (ev_slS (by decide) (ev_varS (i := 1) (by rfl) hx) any_none (any_some aI)) (ev_varS (i := 5) (by rfl) hsg)) (ev_slS (by decide) (ev_varS (i := 1) (by rfl) hx) (any_some aI) any_none))
      (eall_cons SR.mo (ev_addS (a := 401) (b := 400) (by decide) (by decide) (ev_addS (a := 400) (b := 1) (by decide) (by decide) (ev_slS (by decide) (ev_varS (i := 1) (by rfl) hx) any_none (any_some aI)) (ev_varS (i := 5) (by rfl) hsg)) (ev_slS (by decide) (ev_varS (i := 1) (by rfl) hx) (any_some aI1) any_none))
      (eall_cons SR.mo (ev_addS (a := 400) (b := 400) (by decide) (by decide) (ev_slS (by decide) (ev_varS (i := 1) (by rfl) hx) any_none (any_some aI)) (ev_slS (by decide) (ev_varS (i := 1) (by rfl) hx) (any_some aI1) any_none))
      (eall_cons SR.mo (ev_addS (a := 400) (b := 1) (by decide) (by decide) (ev_varS (i := 1) (by rfl) hx) (ev_strS (by decide +kernel))) eall_nil)))).run P7 (b := 0) (by omega) fun vs H8 P8 k8 r8 => ?_
    obtain ⟨l0, l1, hvs⟩ := r8
    have leW := LE.mo _ _ _ k8 leW
    have k28 := k27.trans k8
    refine ⟨Nat.le_of_lt (small1000 (by omega)), fun Tx nT => ?_⟩
    obtain ⟨P9, k9, e9⟩ := laid (o := .lst vs) P8 nT
    have ff := P8.free nT
    have e9 : (upd H8 Tx (.lst vs)) Tx = some (.lst vs) := upd_same
    generalize upd H8 Tx (.lst vs) = H9 at P9 k9 e9 ⊢
    have w1 : wtS [pt] = pt.length + 1 := by rw [wt_cons]; rfl
    have lsp : ∀ {H' : Hp}, Ev (pot p dl al) Z 0 H' [some (.ref p), some (.str x), some (.int at_), some (.ref W), some (.int (sp : Int)), some (.str sg), some v6, some (.str pt), some (.ref Tx)] (tVar 4) (IR (sp : Nat) (sp : Nat)) := fun {H'} => ev_ivar (by rfl) (Int.le_refl _) (Int.le_refl _)
    have lt := List.length_take_le sp ws
    have ld : ∀ j, (ws.drop j).length ≤ ws.length := fun j => by rw [List.length_drop]; omega
    refine s_expr ⟨.ref Tx, rfl, .inl ⟨rfl, _, .inl (.inl e9)⟩, ?_⟩
    refine (eva_cons SR.mo (ev_spacedE (K := K) (ws := ws.take sp ++ [pt] ++ ws.drop sp) (by rw [wt_app, wt_app, w1]; have := wt_take_drop ws sp; omega) (ev_catE (by rw [List.length_append]; have := ld sp; simp only [List.length_cons, List.length_nil]; omega) (ev_catE (by simp only [List.length_cons, List.length_nil]; omega) (ev_takeE (ev_var (i := 3) (by rfl) LE.mo (LE.mo _ _ _ k9 leW)) lsp) (ev_oneE (i := 7) (by rfl))) (ev_dropE (ev_var (i := 3) (by rfl) LE.mo (LE.mo _ _ _ k9 leW)) lsp))) eva_nil).run P9 (b := 0) (by omega) fun vs1 H10 P10 k10 r10 => ?_
    obtain ⟨_, _, rfl, ⟨y1, rfl, hy1⟩, rfl⟩ := r10
    have e10 := k10.at_ ff e9
    refine ⟨Tx, vs, _, rfl, rfl, e10, small1000 (by omega), ?_⟩
    obtain ⟨P11, k11⟩ := set_iv (o := .lst (vs ++ [.str y1])) P8 nT P10 (k9.trans k10)
    have e11 : (upd H10 Tx (.lst (vs ++ [.str y1]))) Tx = some (.lst (vs ++ [.str y1])) := upd_same
    generalize upd H10 Tx (.lst (vs ++ [.str y1])) = H11 at P11 k11 e11 ⊢
    refine s_expr ⟨.ref Tx, rfl, .inl ⟨rfl, _, .inl (.inl e11)⟩, ?_⟩
    refine (eva_cons SR.mo (ev_spacedE (K := K) (ws := ws.take sp ++ [pt] ++ ws.drop (sp + 1)) (by rw [wt_app, wt_app, w1]; have := wt_take_drop ws sp; have := wt_drop_le ws sp (sp + 1) (by omega); omega) (ev_catE (by rw [List.length_append]; have := ld (sp + 1); simp only [List.length_cons, List.length_nil]; omega) (ev_catE (by simp only [List.length_cons, List.length_nil]; omega) (ev_takeE (ev_var (i := 3) (by rfl) LE.mo (LE.mo _ _ _ k11 leW)) lsp) (ev_oneE (i := 7) (by rfl))) (ev_dropE (i := sp + 1) (ev_var (i := 3) (by rfl) LE.mo (LE.mo _ _ _ k11 leW)) ((ev_add lsp (ev_int (i := 1))).wide (by omega) (by omega))))) eva_nil).run P11 (b := 0) (by omega) fun vs1 H12 P12 k12 r12 => ?_
    obtain ⟨_, _, rfl, ⟨y2, rfl, hy2⟩, rfl⟩ := r12
    have e12 := k12.at_ ff e11
    refine ⟨Tx, _, _, rfl, rfl, e12, small1000 (by rw [List.length_append]; simp only [List.length_cons, List.length_nil]; omega), ?_⟩
    obtain ⟨P13, k13⟩ := set_iv (o := .lst (vs ++ [.str y1] ++ [.str y2])) P8 nT P12 (k11.trans k12)
    have e13 : (upd H12 Tx (.lst (vs ++ [.str y1] ++ [.str y2]))) Tx = some (.lst (vs ++ [.str y1] ++ [.str y2])) := upd_same
    generalize upd H12 Tx (.lst (vs ++ [.str y1] ++ [.str y2])) = H13 at P13 k13 e13 ⊢
    have lsT : LsR 6 6 (SR 850) (.ref Tx) (hid (pot p dl al) Z H13) := ⟨Tx, _, rfl, hid_get ff e13, by simp only [List.length_append, List.length_cons, List.length_nil]; omega, by simp only [List.length_append, List.length_cons, List.length_nil]; omega, fun v hv => by
      simp only [List.mem_append, List.mem_singleton] at hv
      rcases hv with (h | h) | h
      · exact hvs v h
      · rw [h]; exact ⟨y1, rfl, hy1⟩
      · rw [h]; exact ⟨y2, rfl, hy2⟩⟩
    have leW := LE.mo _ _ _ k13 leW
    refine s_ret ?_
    refine (ev_one (m0 := 9) (m := 10) (R := SR 850) (by rfl) (by decide) SR.mo (ev_cat (a := 6) (b := 6) (c := 4) (d := 4) (by decide) SR.mo (ev_var (i := 8) (by rfl) (LsR.mo SR.mo) lsT) (ev_lst (by decide) SR.mo
      (eall_cons SR.mo (ev_spacedE (K := K) (ws := ws.reverse) (by rw [wt_rev]; omega) (ev_revE (ev_var (i := 3) (by rfl) LE.mo leW)))
      (eall_cons SR.mo (ev_addS (a := 401) (b := 400) (by decide) (by decide) (ev_addS (a := 400) (b := 1) (by decide) (by decide) (ev_varS (i := 1) (by rfl) hx) (ev_strS (by decide +kernel))) (ev_varS (i := 1) (by rfl) hx))
      (eall_cons SR.mo (ev_addS (a := 400) (b := 400) (by decide) (by decide) (ev_varS (i := 1) (by rfl) hx) (ev_varS (i := 1) (by rfl) hx))
      (eall_cons SR.mo (ev_addS (a := 1) (b := 400) (by decide) (by decide) (ev_strS (by decide +kernel)) (ev_varS (i := 1) (by rfl) hx)) eall_nil))))))).run P13 (b := 0) (by omega) fun v H14 P14 k14 r14 => ?_
    obtain ⟨y, rfl, hy⟩ := r14
    exact q y H14 P14 ((k28.trans k13).trans k14) hy
theorem ok_law (T : All K mg) : FnG P w K mg base CX0 8 T.f_law T.fd_law ["script"] (sp_law K) := by
  have nd := sc_law.nd
  refine Lm.Fun.okG T.D_law.F sc_law (fun vs H Q E h => ?_) (fun cdv A outer s H vs Q E hgd hr h => ?_)
  · obtain ⟨a, ns, rfl, _⟩ := h
    rfl
  · obtain ⟨a, ns, rfl, hS, hl, q⟩ := h
    refine ⟨_, (pss_cons (ps_set (i := 1) nd rfl (by first | exact Or.inl rfl | exact Or.inr rfl) (pe_call (ok_l_opened T) (hr.mono (by decide)) (by rfl) T.D_l_opened.g T.D_l_opened.F.kp T.D_l_opened.b .nil pass0 (pa_cons (pv 0) pa_nil)))
  (pss_cons (ps_for PassesOwn.never rfl (pi_range1 (by rfl) T.z_range (pa_cons pe_int pa_nil)) (pg_name (i := 2) nd rfl (by first | exact Or.inl rfl | exact Or.inr rfl))
    (pss_cons (ps_set (i := 4) nd rfl (by first | exact Or.inl rfl | exact Or.inr rfl) (pe_callTy call_tuple_of (by rfl) T.z_tuple (by decide +kernel) (pa_cons (pe_lc (own := [("k", 3)]) rfl nd (pi_range1 (by rfl) T.z_range (pa_cons (pe_op op_add pe_int (pe_call (ok_l_draw T) (hr.mono (by decide)) (by rfl) T.D_l_draw.g T.D_l_draw.F.kp T.D_l_draw.b .nil pass0 (pa_cons (pv 1) (pa_cons pe_int pa_nil)))) pa_nil)) (blkOk_by (own := [("k", 3)]) (N := n_law) (sc := defScope s_law) (by decide +kernel)) (fun _ _ _ _ _ => (pg_name (i := 3) nd rfl (by first | exact Or.inl rfl | exact Or.inr rfl))) (fun _ _ _ _ _ => pts_nil) (fun _ _ _ _ _ => (pe_call (ok_l_lamp T) (hr.mono (by decide)) (by rfl) T.D_l_lamp.g T.D_l_lamp.F.kp T.D_l_lamp.b .nil pass0 (pa_cons (pv 1) (pa_cons (pe_op op_pow pe_int pe_int) pa_nil))))) pa_nil)))
  (pss_cons (ps_set (i := 5) nd rfl (by first | exact Or.inl rfl | exact Or.inr rfl) (pe_lst (pa_cons (pe_call (ok_l_lamps_text T) (hr.mono (by decide)) (by rfl) T.D_l_lamps_text.g T.D_l_lamps_text.F.kp T.D_l_lamps_text.b .nil pass0 (pa_cons (pv 4) pa_nil)) (pa_cons (pe_call (ok_l_log_text T) (hr.mono (by decide)) (by rfl) T.D_l_log_text.g T.D_l_log_text.F.kp T.D_l_log_text.b .nil pass0 (pa_cons (pe_call (ok_l_log T) (hr.mono (by decide)) (by rfl) T.D_l_log.g T.D_l_log.F.kp T.D_l_log.b .nil pass0 (pa_cons (pv 1) (pa_cons pe_int (pa_cons pe_int pa_nil)))) pa_nil)) (pa_cons (pe_call (ok_l_runs_text T) (hr.mono (by decide)) (by rfl) T.D_l_runs_text.g T.D_l_runs_text.F.kp T.D_l_runs_text.b .nil pass0 (pa_cons (pe_call (ok_l_far_runs T) (hr.mono (by decide)) (by rfl) T.D_l_far_runs.g T.D_l_far_runs.F.kp T.D_l_far_runs.b .nil pass0 (pa_cons (pv 1) (pa_cons pe_int pa_nil))) pa_nil)) pa_nil)))))
  (pss_cons (ps_set (i := 5) nd rfl (by first | exact Or.inl rfl | exact Or.inr rfl) (pe_op op_cat (pv 5) (pe_lst (pa_cons pe_str (pa_cons pe_str (pa_cons pe_str (pa_cons pe_str (pa_cons pe_str (pa_cons pe_str (pa_cons pe_str (pa_cons pe_str (pa_cons pe_str (pa_cons pe_str (pa_cons pe_str pa_nil))))))))))))))
  (pss_cons (ps_expr (pe_bm PySem.F.plainAttrs_list PySem.F.slot_list_append PySem.F.type_list_append mt_append (pv 5) (pa_cons (pe_call (ok_l_spaced T) (hr.mono (by decide)) (by rfl) T.D_l_spaced.g T.D_l_spaced.F.kp T.D_l_spaced.b .nil pass0 (pa_cons (pe_lc (own := [("k", 3)]) rfl nd (pi_range1 (by rfl) T.z_range (pa_cons pe_int pa_nil)) (blkOk_by (own := [("k", 3)]) (N := n_law) (sc := defScope s_law) (by decide +kernel)) (fun _ _ _ _ _ => (pg_name (i := 3) nd rfl (by first | exact Or.inl rfl | exact Or.inr rfl))) (fun _ _ _ _ _ => pts_nil) (fun _ _ _ _ _ => (pe_op op_add_str (pe_op op_add_str (pe_callTy call_str_int (by rfl) T.z_str (by decide +kernel) (pa_cons (pe_op op_mul pe_int (pv 3)) pa_nil)) pe_str) (pe_callTy call_str_int (by rfl) T.z_str (by decide +kernel) (pa_cons (pe_op op_add (pe_op op_mul pe_int (pv 3)) pe_int) pa_nil))))) pa_nil)) pa_nil)))
  (pss_cons (ps_set (i := 5) nd rfl (by first | exact Or.inl rfl | exact Or.inr rfl) (pe_op op_cat (pv 5) (pe_lst (pa_cons (pe_call (ok_l_spaced T) (hr.mono (by decide)) (by rfl) T.D_l_spaced.g T.D_l_spaced.F.kp T.D_l_spaced.b .nil pass0 (pa_cons (pe_op op_rep (pe_lst (pa_cons pe_str pa_nil)) pe_int) pa_nil)) (pa_cons (pe_call (ok_l_spaced T) (hr.mono (by decide)) (by rfl) T.D_l_spaced.g T.D_l_spaced.F.kp T.D_l_spaced.b .nil pass0 (pa_cons (pe_listRg rfl (by rfl) T.z_list (prg_1 (by rfl) T.z_range pe_int)) pa_nil)) (pa_cons pe_str (pa_cons pe_str (pa_cons pe_str pa_nil))))))))
  (pss_cons (ps_set (i := 5) nd rfl (by first | exact Or.inl rfl | exact Or.inr rfl) (pe_op op_cat (pv 5) (pe_lst (pa_cons pe_str (pa_cons pe_str pa_nil)))))
  (pss_cons (ps_set (i := 7) nd rfl (by first | exact Or.inl rfl | exact Or.inr rfl) (pe_lc (own := [("text", 6)]) rfl nd (pi_list (pv 5)) (blkOk_by (own := [("text", 6)]) (N := n_law) (sc := defScope s_law) (by decide +kernel)) (fun _ _ _ _ _ => (pg_name (i := 6) nd rfl (by first | exact Or.inl rfl | exact Or.inr rfl))) (fun _ _ _ _ _ => (pts_one (pt_cmpR op_lt (pe_callB call_len_str (by rfl) T.z_len (by decide +kernel) (pa_cons (pv 6) pa_nil)) pe_int (nomark _)))) (fun _ _ _ _ _ => (pv 6))))
  (pss_cons (ps_for PassesOwn.never rfl (pi_list (pe_op op_cat (pv 5) (pe_lc (own := [("k", 3)]) rfl nd (pi_range1 (by rfl) T.z_range (pa_cons pe_int pa_nil)) (blkOk_by (own := [("k", 3)]) (N := n_law) (sc := defScope s_law) (by decide +kernel)) (fun _ _ _ _ _ => (pg_name (i := 3) nd rfl (by first | exact Or.inl rfl | exact Or.inr rfl))) (fun _ _ _ _ _ => pts_nil) (fun _ _ _ _ _ => (pe_call (ok_l_changed T) (hr.mono (by decide)) (by rfl) T.D_l_changed.g T.D_l_changed.F.kp T.D_l_changed.b .nil pass0 (pa_cons (pv 1) (pa_cons (pe_call (ok_l_one T) (hr.mono (by decide)) (by rfl) T.D_l_one.g T.D_l_one.F.kp T.D_l_one.b .nil pass0 (pa_cons (pv 1) (pa_cons (pv 7) pa_nil))) pa_nil))))))) (pg_name (i := 8) nd rfl (by first | exact Or.inl rfl | exact Or.inr rfl))
    (pss_cons (ps_setLc (i := 10) (own := [("way", 9)]) rfl nd rfl rfl (sw_true rfl rfl rfl (by decide +kernel)) (pi_range1 (by rfl) T.z_range (pa_cons pe_int pa_nil)) (blkOk_by (own := [("way", 9)]) (N := n_law) (sc := defScope s_law) (by decide +kernel)) (fun _ _ _ _ _ => (pg_name (i := 9) nd rfl (by first | exact Or.inl rfl | exact Or.inr rfl))) (fun _ _ _ _ _ => pts_nil) (fun _ _ _ _ _ => (pe_call (ok_l_read T) (hr.mono (by decide)) (by rfl) T.D_l_read.g T.D_l_read.F.kp T.D_l_read.b .nil pass0 (pa_cons (pv 9) (pa_cons (pv 8) pa_nil)))))
  (pss_one (ps_if (pt_cmpR op_ne (pe_callB (call_reprD hgd hr) (by rfl) T.z_repr (by decide +kernel) (pa_cons (pe_lc (own := [("way", 9)]) rfl nd (pi_range1 (by rfl) T.z_range (pa_cons pe_int pa_nil)) (blkOk_by (own := [("way", 9)]) (N := n_law) (sc := defScope s_law) (by decide +kernel)) (fun _ _ _ _ _ => (pg_name (i := 9) nd rfl (by first | exact Or.inl rfl | exact Or.inr rfl))) (fun _ _ _ _ _ => pts_nil) (fun _ _ _ _ _ => (pe_call (ok_l_told T) (hr.mono (by decide)) (by rfl) T.D_l_told.g T.D_l_told.F.kp T.D_l_told.b .nil pass0 (pa_cons (pv 9) (pa_cons (pv 8) pa_nil))))) pa_nil)) (pe_callB (call_reprD hgd hr) (by rfl) T.z_repr (by decide +kernel) (pa_cons (pv 10) pa_nil)) (nomark _))
    (pss_one (ps_ret pe_bl))
    pss_nil))))
  (pss_cons (ps_set (i := 11) nd rfl (by first | exact Or.inl rfl | exact Or.inr rfl) (pe_call (ok_l_one T) (hr.mono (by decide)) (by rfl) T.D_l_one.g T.D_l_one.F.kp T.D_l_one.b .nil pass0 (pa_cons (pv 1) (pa_cons (pe_lst (pa_cons (pe_tup pa_nil) (pa_cons (pe_lst pa_nil) (pa_cons pe_int (pa_cons (pe_tup (pa_cons pe_str pa_nil)) (pa_cons (pe_disp (pps_cons pe_str pe_int pps_nil) (by rfl) (by rfl) (fun z => by cases z) (by decide)) pa_nil)))))) pa_nil))))
  (pss_one (ps_for PassesOwn.never rfl (pi_list (pe_lst (pa_cons pe_non (pa_cons pe_int (pa_cons pe_bl (pa_cons (pv 4) (pa_cons (pe_lst (pa_cons pe_str pa_nil)) (pa_cons pe_dnewK (pa_cons (pv 11) pa_nil))))))))) (pg_name (i := 8) nd rfl (by first | exact Or.inl rfl | exact Or.inr rfl))
    (pss_one (ps_if (pt_cmpR op_ne (pe_callB (call_reprD hgd hr) (by rfl) T.z_repr (by decide +kernel) (pa_cons (pe_lc (own := [("way", 9)]) rfl nd (pi_range1 (by rfl) T.z_range (pa_cons pe_int pa_nil)) (blkOk_by (own := [("way", 9)]) (N := n_law) (sc := defScope s_law) (by decide +kernel)) (fun _ _ _ _ _ => (pg_name (i := 9) nd rfl (by first | exact Or.inl rfl | exact Or.inr rfl))) (fun _ _ _ _ _ => pts_nil) (fun _ _ _ _ _ => (pe_call (ok_l_told T) (hr.mono (by decide)) (by rfl) T.D_l_told.g T.D_l_told.F.kp T.D_l_told.b .nil pass0 (pa_cons (pv 9) (pa_cons (pv 8) pa_nil))))) pa_nil)) pe_str (nomark _))
    (pss_one (ps_ret pe_bl))
    pss_nil))))))))))))))
  (pss_one (ps_ret pe_bl)))), ?_⟩
    refine s_set ⟨.ref a, rfl, a, ns, rfl, hS, hl, fun p dl al H1 P1 s1 => ?_⟩
    generalize hZ : (fun _ => none : Hp) = Z at P1
    have MT : Mo TxR := TxR.mo
    refine s_rng ⟨4, rfl, by omega, by omega, for_it walk_range (fun i σ Hi => ∃ y2 y3 y4 y5 y6 y7 y8 y9 y10 y11, σ = [some (.ref a), some (.ref p), y2, y3, y4, y5, y6, y7, y8, y9, y10, y11] ∧ Iv (pot p dl al) Z 0 Hi) ⟨_, _, _, _, _, _, _, _, _, _, rfl, P1⟩ (fun _ _ _ _ _ => trivial) ?_ ?_⟩
    · rintro i _ σ _ Hi hi ⟨y2, y3, y4, y5, y6, y7, y8, y9, y10, y11, rfl, Pi⟩ ⟨rfl, rfl⟩
      -- lamps
      refine s_set ?_
      refine (ev_tupleOf (m := 0) (c := 6) LampV.mo (ev_lcD (m := 6) (by decide) LampV.mo ((eva_cons IR.mo (ev_add (a := 1) (b := 1) ev_int (ev_drawC (m := 6))) eva_nil).imp fun vs G ⟨_, _, e, ⟨j, ej, j0, j1⟩, e2⟩ => ⟨j, by rw [e, e2, ej], by omega, by omega⟩)
        (fun Z' H2 x b' I s => ev_lampP (by rfl) ((ev_pow (by decide)).wide (by decide) (by decide))))).run Pi (b := 0) (by omega) fun v4 H2 P2 k2 r2 => ?_
      obtain ⟨ls, d4, l6, lok⟩ := tp_choose r2
      have hls : LampsG ls := ⟨l6, lok⟩
      have d4 : Dq K (hid (pot p dl al) Z H2) v4 (lampsD ls) := d4
      -- texts
      refine s_set ?_
      refine (ev_lst (m := 3) (n' := 3) (R := TxR) (by decide) TxR.mo (eall_cons TxR.mo (ev_txQ (q_fn (A := fun xs : List Lamp => [lampsD xs]) ls (qa_cons (q_var (i := 4) (by rfl) d4) qa_nil) hls) (txt_wordsT (good_lamps.words hls) (by rw [List.length_map]; omega)))
        (eall_cons TxR.mo (ev_logT (i := 1) (by rfl)) (eall_cons TxR.mo (ev_runsT (i := 1) (by rfl)) eall_nil)))).run P2 (b := 0) (by omega) fun v5 H3 P3 k3 r3 => ?_
      have d4 := d4.mono k3
      obtain ⟨l3, xs3, rfl, g3, m3, m3', hx3⟩ := r3
      refine s_set ⟨.ref l3, rfl, ?_⟩
      refine (ev_lstE (ws := [Str.ofString "none", Str.ofString "", Str.ofString " ", Str.ofString "none none", Str.ofString "0", Str.ofString "0-1", Str.ofString "0-1 1-2", Str.ofString "0-1 2-3", Str.ofString "3 4 5", Str.ofString "3+1x2 4", Str.ofString "3+1x2 5"]) (by decide) (ea_cons (x := Str.ofString "none") (ea_cons (x := Str.ofString "") (ea_cons (x := Str.ofString " ") (ea_cons (x := Str.ofString "none none") (ea_cons (x := Str.ofString "0") (ea_cons (x := Str.ofString "0-1") (ea_cons (x := Str.ofString "0-1 1-2") (ea_cons (x := Str.ofString "0-1 2-3") (ea_cons (x := Str.ofString "3 4 5") (ea_cons (x := Str.ofString "3+1x2 4") (ea_cons (x := Str.ofString "3+1x2 5") ea_nil)))))))))))).run P3 (b := 0) (by omega) fun v H4 P4 k4 r4 => ?_
      obtain ⟨l4, rfl, g4⟩ := r4
      have d4 := d4.mono k4
      refine ⟨l3, l4, xs3, _, rfl, rfl, hid_same _ _ (k4 _ _ g3), hid_same _ _ g4, szs (by rw [List.length_map]; simp only [List.length_cons, List.length_nil]; omega), fun Tx nT => ?_⟩
      have ff := P4.free nT
      obtain ⟨xs5, e5x⟩ : ∃ xs5, xs5 = xs3 ++ ([Str.ofString "none", Str.ofString "", Str.ofString " ", Str.ofString "none none", Str.ofString "0", Str.ofString "0-1", Str.ofString "0-1 1-2", Str.ofString "0-1 2-3", Str.ofString "3 4 5", Str.ofString "3+1x2 4", Str.ofString "3+1x2 5"] : List Str).map V.str := ⟨_, rfl⟩
      rw [← e5x]
      have l5 : xs5.length ≤ 14 := by rw [e5x, List.length_append, List.length_map]; simp only [List.length_cons, List.length_nil]; omega
      have h5 : ∀ x ∈ xs5, ∃ y : Str, x = .str y ∧ txtOk y := fun x hx => by
        rw [e5x] at hx
        rcases List.mem_append.mp hx with h | h
        · exact hx3 x h
        · obtain ⟨w, hw, rfl⟩ := List.mem_map.mp h
          refine ⟨w, rfl, txt_850 ?_⟩
          have : ([Str.ofString "none", Str.ofString "", Str.ofString " ", Str.ofString "none none", Str.ofString "0", Str.ofString "0-1", Str.ofString "0-1 1-2", Str.ofString "0-1 2-3", Str.ofString "3 4 5", Str.ofString "3+1x2 4", Str.ofString "3+1x2 5"] : List Str).all (fun w => decide (w.length ≤ 850)) = true := by decide +kernel
          exact of_decide_eq_true (List.all_eq_true.mp this w hw)
      have n5 : V.str (Str.ofString "none") ∈ xs5 := by
        rw [e5x]
        exact List.mem_append.mpr (.inr List.mem_cons_self)
      clear e5x
      obtain ⟨P5, k5, e5⟩ := laid (o := .lst xs5) P4 nT
      have e5 : (upd H4 Tx (.lst xs5)) Tx = some (.lst xs5) := upd_same
      generalize upd H4 Tx (.lst xs5) = H5 at P5 k5 e5 ⊢
      dsimp only
      refine s_expr ⟨.ref Tx, rfl, .inl ⟨rfl, _, .inl (.inl e5)⟩, ?_⟩
      refine (eva_cons TxR.mo (ev_61 (K := K) fun Z' H9 k hk => ?item61) eva_nil).run P5 (b := 0) (by omega) fun vs1 H6 P6 k6 r6 => ?_
      case item61 =>
        intro H b Q4 P4 k4 q4
        have P4 := P4.less (c := b) (by omega)
        have n1 : (numT (3 * (0 + (k : Int)))).length ≤ 10 := num_len (by omega) (by decide) (by omega)
        have n2 : (numT (3 * (0 + (k : Int)) + 1)).length ≤ 10 := num_len (by omega) (by decide) (by omega)
        have c1 := len_dash
        exact ⟨.int (0 + (k : Int)), rfl, 3, _, rfl, rfl, .inl ⟨by omega, by omega⟩, _, rfl, num_log (by omega) (by omega), _, _, rfl, rfl, szs (by show (numT (3 * (0 + (k : Int)))).length + _ ≤ _; omega), .int (0 + (k : Int)), rfl, 3, _, rfl, rfl, .inl ⟨by omega, by omega⟩, _, 1, rfl, rfl, _, rfl, num_log (by omega) (by omega), _, _, rfl, rfl,
          szs (by rw [len_app]; show (numT (3 * (0 + (k : Int)))).length + _ + (numT (3 * (0 + (k : Int)) + 1)).length ≤ _; omega), q4 _ _ P4 Kp.refl (.str _)⟩
      obtain ⟨_, _, rfl, ⟨y1, rfl, hy1⟩, rfl⟩ := r6
      have e6 := k6.at_ ff e5
      refine ⟨Tx, xs5, _, rfl, rfl, e6, small1000 (by omega), ?_⟩
      obtain ⟨P7, k7⟩ := set_iv (o := .lst (xs5 ++ [.str y1])) P4 nT P6 (k5.trans k6)
      have e7 : (upd H6 Tx (.lst (xs5 ++ [.str y1]))) Tx = some (.lst (xs5 ++ [.str y1])) := upd_same
      generalize upd H6 Tx (.lst (xs5 ++ [.str y1])) = H7 at P7 k7 e7 ⊢
      have d4 := d4.mono k7
      have t7 : TN 15 (.ref Tx) (hid (pot p dl al) Z H7) := ⟨Tx, _, rfl, hid_get ff e7, by rw [List.length_append]; simp only [List.length_cons, List.length_nil]; omega, fun x hx => by
        rcases List.mem_append.mp hx with h | h
        · exact h5 x h
        · rw [List.mem_singleton.mp h]; exact ⟨y1, rfl, hy1⟩, List.mem_append.mpr (.inl n5)⟩
      refine s_set ?_
      refine (ev_catN (a := 15) (b := 5) (c := 5) (by decide) (ev_var (i := 5) (by rfl) TN.mo t7) (ev_lst (by decide) TxR.mo (eall_cons TxR.mo ev_7 (eall_cons TxR.mo ev_361 (eall_cons TxR.mo (ev_txS (by decide +kernel)) (eall_cons TxR.mo (ev_txS (by decide +kernel)) (eall_cons TxR.mo (ev_txS (by decide +kernel)) eall_nil))))))).run P7 (b := 0) (by omega) fun v5 H8 P8 k8 r8 => ?_
      have d4 := d4.mono k8
      refine s_set ?_
      refine (ev_catN (a := 20) (b := 2) (c := 2) (by decide) (ev_var (i := 5) (by rfl) TN.mo r8) (ev_lst (by decide) TxR.mo (eall_cons TxR.mo (ev_txS (by decide +kernel)) (eall_cons TxR.mo (ev_txS (by decide +kernel)) eall_nil)))).run P8 (b := 0) (by omega) fun v5 H9 P9 k9 r9 => ?_
      have d4 := d4.mono k9
      -- short
      have r9' := r9
      obtain ⟨Ta, xs9, rfl, g9, l9, h9, n9⟩ := r9
      refine s_set ⟨.ref Ta, rfl, Ta, rfl, ⟨_, .inl (.inl (hid_same _ _ g9))⟩, fun D nD => ?_⟩
      refine lc_it (walk_list (K := K) (a := Ta) (xs := xs9)) (fun j Hj => ∃ acc, Same H9 Hj ∧ Hj D = some (.lst acc) ∧ acc.length ≤ j ∧ (∀ x ∈ acc, ∃ y : Str, x = .str y ∧ y.length ≤ 400) ∧ (V.str (Str.ofString "none") ∈ xs9.take j → acc ≠ [])) ⟨[], same_new nD, upd_same, Nat.le_refl _, (fun x hx => nomatch hx), fun h => nomatch h⟩ (fun j Hj _ ⟨_, s, _⟩ => .inl (.inl (s _ _ (hid_same _ _ g9)))) ?_ ?_
      · rintro j x Hj H' hj ⟨acc, sj, ej, la, ha, hn⟩ ⟨rfl, hx⟩
        obtain ⟨y, rfl, hy⟩ := h9 x (List.mem_of_getElem? hx)
        refine ⟨rfl, .str y, rfl, y, rfl, szl (by have := hy.1; omega), _, 400, rfl, rfl, _, rfl, ?_⟩
        have tk : xs9.take (j + 1) = xs9.take j ++ [.str y] := take_snoc hx
        by_cases g : ((y.length : Nat) : Int) < 400
        · rw [decide_eq_true g]
          exact iteT ⟨.str y, rfl, acc, ej, small1000 (by omega), acc ++ [.str y], same_upd sj nD, upd_same, by rw [List.length_append]; show acc.length + 1 ≤ j + 1; omega, fun z hz => by
            rcases List.mem_append.mp hz with h | h
            · exact ha z h
            · rw [List.mem_singleton.mp h]; exact ⟨y, rfl, by omega⟩, fun _ => by simp⟩
        · rw [decide_eq_false g]
          refine iteF ⟨acc, sj, ej, by omega, ha, fun h => ?_⟩
          rw [tk] at h
          rcases List.mem_append.mp h with h | h
          · exact hn h
          · have e := V.str.inj (List.mem_singleton.mp h)
            have : (Str.ofString "none").length = 4 := by decide +kernel
            rw [← e, this] at g
            exact absurd (by decide) g
      rintro H10 ⟨acc, s10, e10, la, ha, hn⟩
      rw [List.take_length] at hn
      have P10 := P9.keep s10
      have k10 : Kp (pot p dl al) Z H9 H10 := Kp.of s10
      have d4 := d4.mono k10
      have r10 := TN.mo _ _ _ k10 r9'
      have fD := P9.free nD
      have lsS : LsR 1 22 (SR 400) (.ref D) (hid (pot p dl al) Z H10) := ⟨D, acc, rfl, hid_get fD e10, List.length_pos_iff.mpr (hn n9), by omega, ha⟩
      -- for value in
      refine s_lst ?_
      refine (ev_catN (a := 22) (b := 24) (c := 24) (by decide) (ev_var (i := 5) (by rfl) TN.mo r10) (ev_lcR (n := 0) (j := 24) (R := TxR) (by decide) (by decide) TxR.mo fun Z' H11 x b' I s => ev_changed (i := 1) (by rfl) (ev_one (m0 := 0) (m := 22) (by rfl) (by decide) SR.mo (ev_var (i := 7) (by rfl) (LsR.mo SR.mo) (LsR.mo SR.mo _ _ _ s lsS))))).run P10 (b := 0) (by omega) fun v H11 P11 k11 r11 => ?_
      obtain ⟨B, zs, rfl, gB, lB, hB, _⟩ := r11
      have d4 := d4.mono k11
      refine ⟨B, rfl, ⟨_, .inl (.inl (hid_same _ _ gB))⟩, for_it (walk_list (K := K) (a := B) (xs := zs)) (fun m σ Hk => ∃ y8 y9 y10, σ = [some (.ref a), some (.ref p), some (.int (0 + (i : Int))), y3, some v4, some (.ref Ta), y6, some (.ref D), y8, y9, y10, y11] ∧ Iv (pot p dl al) Z 0 Hk ∧ Kp (pot p dl al) Z H11 Hk) ⟨_, _, _, rfl, P11, Kp.refl⟩ (fun m σ Hk _ h => by
        obtain ⟨_, _, _, _, _, k⟩ := h
        exact .inl (.inl (hid_same _ _ (k _ _ gB)))) ?_ ?_⟩
      · rintro m x σ _ Hk hk ⟨y8, y9, y10, rfl, Pk, kk⟩ ⟨rfl, hzx⟩
        obtain ⟨x, rfl, hx⟩ := hB x (List.mem_of_getElem? hzx)
        have fine : Fine (.list ((List.range (3 : Int).toNat).map fun w => readD w (.str x))) := three_fine (read_sm hx) (read_sm hx) (read_sm hx) (by decide) (by decide)
        refine s_set ?_
        refine (q_lcr (K := K) (v := 9) (j := 3) (F := fun w => readD w (.str x)) (by decide) (by decide) fun Z' H12 w hw s => q_fn (A := fun x : Nat × Str => [.int (x.1 : Nat), .str x.2]) (w, x) (qa_cons (q_var (i := 9) (by rfl) (by rw [Int.zero_add]; exact .int _)) (qa_cons (q_var (i := 8) (by rfl) (.str x)) qa_nil)) ⟨by show w ≤ 2; omega, hx⟩).run Pk (b := 0) (by omega) fun v10 H12 P12 k12 r12 => ?_
        refine s_if1 ?_
        refine (q_neS (q_repr (q_lcr (K := K) (v := 9) (j := 3) (F := fun w => readD w (.str x)) (by decide) (by decide) fun Z' H13 w hw s => q_fn (A := fun x : Nat × PyData => [.int (x.1 : Nat), x.2]) (w, .str x) (qa_cons (q_var (i := 9) (by rfl) (by rw [Int.zero_add]; exact .int _)) (qa_cons (q_var (i := 8) (by rfl) (.str x)) qa_nil)) ⟨by show w ≤ 2; omega, fun z hz => by cases hz; exact hx⟩) fine) (q_repr (q_var (i := 10) (by rfl) r12) fine)).run P12 (b := 0) (by omega) fun v H13 P13 k13 r13 => ?_
        have r13 : v = .bl false := r13
        subst r13
        exact ⟨false, rfl, iteF ⟨_, _, _, rfl, P13, (kk.trans k12).trans k13⟩⟩
      · rintro σ Hk ⟨y8, y9, y10, rfl, Pk, kk⟩
        have d4 := d4.mono kk
        dsimp only
        refine s_set ?_
        refine (ev_one (m0 := 4) (m := 5) (R := NSR K) (by rfl) (by decide) NSR.mo (ev_lst (by decide) NSR.mo (eall_cons NSR.mo (ev_ns (q_tup (ds := []) (Nat.zero_le _) qa_nil) rfl) (eall_cons NSR.mo (ev_ns (q_lst (ds := []) (Nat.zero_le _) qa_nil) rfl) (eall_cons NSR.mo (ev_ns q_int rfl) (eall_cons NSR.mo (ev_ns (q_tup (ds := [_]) (Nat.le_add_left 1 999) (qa_cons q_str qa_nil)) rfl) (eall_cons NSR.mo (ev_ns q_disp1 rfl) eall_nil))))))).run Pk (b := 0) (by omega) fun v11 H13 P13 k13 r13 => ?_
        have d4 := d4.mono k13
        refine s_lst1 ?_
        refine (ev_lst (m := 7) (n' := 7) (R := NSR K) (by decide) NSR.mo (eall_cons NSR.mo (ev_ns q_non rfl) (eall_cons NSR.mo (ev_ns q_int rfl) (eall_cons NSR.mo (ev_ns q_bl rfl) (eall_cons NSR.mo (ev_ns (q_var (i := 4) (by rfl) d4) rfl) (eall_cons NSR.mo (ev_ns (q_lst (ds := [_]) (Nat.le_add_left 1 999) (qa_cons q_str qa_nil)) rfl) (eall_cons NSR.mo (ev_ns q_dnew rfl) (eall_cons NSR.mo (ev_var (i := 11) (by rfl) NSR.mo r13) eall_nil)))))))).run P13 (b := 0) (by omega) fun v H14 P14 k14 r14 => ?_
        obtain ⟨B, zs, rfl, gB, _, _, hB⟩ := r14
        refine ⟨B, rfl, ⟨_, .inl (.inl (hid_same _ _ gB))⟩, for_it (walk_list (K := K) (a := B) (xs := zs)) (fun m σ Hk => ∃ y8 y9, σ = [some (.ref a), some (.ref p), some (.int (0 + (i : Int))), y3, some v4, some (.ref Ta), y6, some (.ref D), y8, y9, y10, some v11] ∧ Iv (pot p dl al) Z 0 Hk ∧ Kp (pot p dl al) Z H14 Hk) ⟨_, _, rfl, P14, Kp.refl⟩ (fun m σ Hk _ h => by
          obtain ⟨_, _, _, _, k⟩ := h
          exact .inl (.inl (hid_same _ _ (k _ _ gB)))) ?_ ?_⟩
        · rintro m x σ _ Hk hk ⟨y8, y9, rfl, Pk, kk⟩ ⟨rfl, hx⟩
          obtain ⟨d, hd, hs⟩ := NSR.mo _ _ _ kk (hB x (List.mem_of_getElem? hx))
          have e3 : ((List.range (3 : Int).toNat).map fun w => readD w d) = [.list [.none], .list [.none], .list [.none]] := by
            show [readD 0 d, readD 1 d, readD 2 d] = _
            rw [readD_ns hs, readD_ns hs, readD_ns hs]
          have fine : Fine (.list ((List.range (3 : Int).toNat).map fun w => readD w d)) := by
            rw [e3]
            exact (sm_chk (n := 40) (k := 3) (by decide +kernel)).fine (by decide) (by decide)
          have es : (PyData.list ((List.range (3 : Int).toNat).map fun w => readD w d)).shown = Str.ofString "[[None], [None], [None]]" := by rw [e3]; exact told_none
          refine s_if1 ?_
          have q1 := q_repr (q_lcr (K := K) (S := pot p dl al) (Z := Z) (H0 := Hk) (σ := [some (.ref a), some (.ref p), some (.int (0 + (i : Int))), y3, some v4, some (.ref Ta), y6, some (.ref D), some x, y9, y10, some v11]) (te := tCall (sp_toldG K) [] E0 (tCons (tVar 9) (tCons (tVar 8) tNil))) (v := 9) (j := 3) (F := fun w => readD w d) (by decide) (by decide) fun Z' H13 w hw s => q_fn (A := fun x : Nat × PyData => [.int (x.1 : Nat), x.2]) (w, d) (qa_cons (q_var (i := 9) (by rfl) (by rw [Int.zero_add]; exact .int _)) (qa_cons (q_var (i := 8) (by rfl) (hd.mono s)) qa_nil)) ⟨by show w ≤ 2; omega, fun z hz => by have hz : d = .str z := hz; rw [hz] at hs; cases hs⟩) fine
          rw [es] at q1
          refine (q_neS q1 q_str).run Pk (b := 0) (by omega) fun v H15 P15 k15 r15 => ?_
          have r15 : v = .bl false := r15
          subst r15
          exact ⟨false, rfl, iteF ⟨_, _, rfl, P15, kk.trans k15⟩⟩
        · rintro σ Hk ⟨y8, y9, rfl, Pk, kk⟩
          exact ⟨_, _, _, _, _, _, _, _, _, _, rfl, Pk⟩
    · rintro σ Hi ⟨y2, y3, y4, y5, y6, y7, y8, y9, y10, y11, rfl, Pi⟩
      exact q Hi
end
theorem all_mk {K : PySem.W.Frag} {h : Heap} {mg : Str → Option Value} (X : K.In h) (G : h.Ns mainGlobals mg)
  {f0 : Addr} {od0 an0 : Option Addr} {sl0 : Array (Option Value)} {oc0 kV0 dc0 pm0 cd0 ct0 : Value}
  (a0 : PySem.W.nsIn K mainGlobals "is_whole" = some (some (.ref f0))) (l0 : K.lookup f0 = some ⟨oc0, od0, .func (PySem.W.fnOf "is_whole" "is_whole" (defArgs s_is_whole) (defBody s_is_whole) (defScope s_is_whole) .none kV0 dc0 pm0 an0 cd0 ct0), sl0⟩) (c0 : PySem.W.codeIn K cd0 "is_whole" = true) (k0 : PySem.W.keepIn K (.ref f0) = true)
  {f1 : Addr} {od1 an1 : Option Addr} {sl1 : Array (Option Value)} {oc1 kV1 dc1 pm1 cd1 ct1 : Value}
  (a1 : PySem.W.nsIn K mainGlobals "is_whole_tuple" = some (some (.ref f1))) (l1 : K.lookup f1 = some ⟨oc1, od1, .func (PySem.W.fnOf "is_whole_tuple" "is_whole_tuple" (defArgs s_is_whole_tuple) (defBody s_is_whole_tuple) (defScope s_is_whole_tuple) .none kV1 dc1 pm1 an1 cd1 ct1), sl1⟩) (c1 : PySem.W.codeIn K cd1 "is_whole_tuple" = true) (k1 : PySem.W.keepIn K (.ref f1) = true)
  {f2 : Addr} {od2 an2 : Option Addr} {sl2 : Array (Option Value)} {oc2 kV2 dc2 pm2 cd2 ct2 : Value}
  (a2 : PySem.W.nsIn K mainGlobals "is_stay" = some (some (.ref f2))) (l2 : K.lookup f2 = some ⟨oc2, od2, .func (PySem.W.fnOf "is_stay" "is_stay" (defArgs s_is_stay) (defBody s_is_stay) (defScope s_is_stay) .none kV2 dc2 pm2 an2 cd2 ct2), sl2⟩) (c2 : PySem.W.codeIn K cd2 "is_stay" = true) (k2 : PySem.W.keepIn K (.ref f2) = true)
  {f3 : Addr} {od3 an3 : Option Addr} {sl3 : Array (Option Value)} {oc3 kV3 dc3 pm3 cd3 ct3 : Value}
  (a3 : PySem.W.nsIn K mainGlobals "last_minute" = some (some (.ref f3))) (l3 : K.lookup f3 = some ⟨oc3, od3, .func (PySem.W.fnOf "last_minute" "last_minute" (defArgs s_last_minute) (defBody s_last_minute) (defScope s_last_minute) .none kV3 dc3 pm3 an3 cd3 ct3), sl3⟩) (c3 : PySem.W.codeIn K cd3 "last_minute" = true) (k3 : PySem.W.keepIn K (.ref f3) = true)
  {f4 : Addr} {od4 an4 : Option Addr} {sl4 : Array (Option Value)} {oc4 kV4 dc4 pm4 cd4 ct4 : Value}
  (a4 : PySem.W.nsIn K mainGlobals "is_run" = some (some (.ref f4))) (l4 : K.lookup f4 = some ⟨oc4, od4, .func (PySem.W.fnOf "is_run" "is_run" (defArgs s_is_run) (defBody s_is_run) (defScope s_is_run) .none kV4 dc4 pm4 an4 cd4 ct4), sl4⟩) (c4 : PySem.W.codeIn K cd4 "is_run" = true) (k4 : PySem.W.keepIn K (.ref f4) = true)
  {f5 : Addr} {od5 an5 : Option Addr} {sl5 : Array (Option Value)} {oc5 kV5 dc5 pm5 cd5 ct5 : Value}
  (a5 : PySem.W.nsIn K mainGlobals "is_stretch" = some (some (.ref f5))) (l5 : K.lookup f5 = some ⟨oc5, od5, .func (PySem.W.fnOf "is_stretch" "is_stretch" (defArgs s_is_stretch) (defBody s_is_stretch) (defScope s_is_stretch) .none kV5 dc5 pm5 an5 cd5 ct5), sl5⟩) (c5 : PySem.W.codeIn K cd5 "is_stretch" = true) (k5 : PySem.W.keepIn K (.ref f5) = true)
  {f6 : Addr} {od6 an6 : Option Addr} {sl6 : Array (Option Value)} {oc6 kV6 dc6 pm6 cd6 ct6 : Value}
  (a6 : PySem.W.nsIn K mainGlobals "is_lamp" = some (some (.ref f6))) (l6 : K.lookup f6 = some ⟨oc6, od6, .func (PySem.W.fnOf "is_lamp" "is_lamp" (defArgs s_is_lamp) (defBody s_is_lamp) (defScope s_is_lamp) .none kV6 dc6 pm6 an6 cd6 ct6), sl6⟩) (c6 : PySem.W.codeIn K cd6 "is_lamp" = true) (k6 : PySem.W.keepIn K (.ref f6) = true)
  {f7 : Addr} {od7 an7 : Option Addr} {sl7 : Array (Option Value)} {oc7 kV7 dc7 pm7 cd7 ct7 : Value}
  (a7 : PySem.W.nsIn K mainGlobals "motions_error" = some (some (.ref f7))) (l7 : K.lookup f7 = some ⟨oc7, od7, .func (PySem.W.fnOf "motions_error" "motions_error" (defArgs s_motions_error) (defBody s_motions_error) (defScope s_motions_error) .none kV7 dc7 pm7 an7 cd7 ct7), sl7⟩) (c7 : PySem.W.codeIn K cd7 "motions_error" = true) (k7 : PySem.W.keepIn K (.ref f7) = true)
  {f8 : Addr} {od8 an8 : Option Addr} {sl8 : Array (Option Value)} {oc8 kV8 dc8 pm8 cd8 ct8 : Value}
  (a8 : PySem.W.nsIn K mainGlobals "log_error" = some (some (.ref f8))) (l8 : K.lookup f8 = some ⟨oc8, od8, .func (PySem.W.fnOf "log_error" "log_error" (defArgs s_log_error) (defBody s_log_error) (defScope s_log_error) .none kV8 dc8 pm8 an8 cd8 ct8), sl8⟩) (c8 : PySem.W.codeIn K cd8 "log_error" = true) (k8 : PySem.W.keepIn K (.ref f8) = true)
  {f9 : Addr} {od9 an9 : Option Addr} {sl9 : Array (Option Value)} {oc9 kV9 dc9 pm9 cd9 ct9 : Value}
  (a9 : PySem.W.nsIn K mainGlobals "number_of" = some (some (.ref f9))) (l9 : K.lookup f9 = some ⟨oc9, od9, .func (PySem.W.fnOf "number_of" "number_of" (defArgs s_number_of) (defBody s_number_of) (defScope s_number_of) .none kV9 dc9 pm9 an9 cd9 ct9), sl9⟩) (c9 : PySem.W.codeIn K cd9 "number_of" = true) (k9 : PySem.W.keepIn K (.ref f9) = true)
  {f10 : Addr} {od10 an10 : Option Addr} {sl10 : Array (Option Value)} {oc10 kV10 dc10 pm10 cd10 ct10 : Value}
  (a10 : PySem.W.nsIn K mainGlobals "lamp_of" = some (some (.ref f10))) (l10 : K.lookup f10 = some ⟨oc10, od10, .func (PySem.W.fnOf "lamp_of" "lamp_of" (defArgs s_lamp_of) (defBody s_lamp_of) (defScope s_lamp_of) .none kV10 dc10 pm10 an10 cd10 ct10), sl10⟩) (c10 : PySem.W.codeIn K cd10 "lamp_of" = true) (k10 : PySem.W.keepIn K (.ref f10) = true)
  {f11 : Addr} {od11 an11 : Option Addr} {sl11 : Array (Option Value)} {oc11 kV11 dc11 pm11 cd11 ct11 : Value}
  (a11 : PySem.W.nsIn K mainGlobals "stretch_of" = some (some (.ref f11))) (l11 : K.lookup f11 = some ⟨oc11, od11, .func (PySem.W.fnOf "stretch_of" "stretch_of" (defArgs s_stretch_of) (defBody s_stretch_of) (defScope s_stretch_of) .none kV11 dc11 pm11 an11 cd11 ct11), sl11⟩) (c11 : PySem.W.codeIn K cd11 "stretch_of" = true) (k11 : PySem.W.keepIn K (.ref f11) = true)
  {f12 : Addr} {od12 an12 : Option Addr} {sl12 : Array (Option Value)} {oc12 kV12 dc12 pm12 cd12 ct12 : Value}
  (a12 : PySem.W.nsIn K mainGlobals "run_of" = some (some (.ref f12))) (l12 : K.lookup f12 = some ⟨oc12, od12, .func (PySem.W.fnOf "run_of" "run_of" (defArgs s_run_of) (defBody s_run_of) (defScope s_run_of) .none kV12 dc12 pm12 an12 cd12 ct12), sl12⟩) (c12 : PySem.W.codeIn K cd12 "run_of" = true) (k12 : PySem.W.keepIn K (.ref f12) = true)
  {f13 : Addr} {od13 an13 : Option Addr} {sl13 : Array (Option Value)} {oc13 kV13 dc13 pm13 cd13 ct13 : Value}
  (a13 : PySem.W.nsIn K mainGlobals "lamps_error" = some (some (.ref f13))) (l13 : K.lookup f13 = some ⟨oc13, od13, .func (PySem.W.fnOf "lamps_error" "lamps_error" (defArgs s_lamps_error) (defBody s_lamps_error) (defScope s_lamps_error) .none kV13 dc13 pm13 an13 cd13 ct13), sl13⟩) (c13 : PySem.W.codeIn K cd13 "lamps_error" = true) (k13 : PySem.W.keepIn K (.ref f13) = true)
  {f14 : Addr} {od14 an14 : Option Addr} {sl14 : Array (Option Value)} {oc14 kV14 dc14 pm14 cd14 ct14 : Value}
  (a14 : PySem.W.nsIn K mainGlobals "parse_lamps" = some (some (.ref f14))) (l14 : K.lookup f14 = some ⟨oc14, od14, .func (PySem.W.fnOf "parse_lamps" "parse_lamps" (defArgs s_parse_lamps) (defBody s_parse_lamps) (defScope s_parse_lamps) .none kV14 dc14 pm14 an14 cd14 ct14), sl14⟩) (c14 : PySem.W.codeIn K cd14 "parse_lamps" = true) (k14 : PySem.W.keepIn K (.ref f14) = true)
  {f15 : Addr} {od15 an15 : Option Addr} {sl15 : Array (Option Value)} {oc15 kV15 dc15 pm15 cd15 ct15 : Value}
  (a15 : PySem.W.nsIn K mainGlobals "parse_log" = some (some (.ref f15))) (l15 : K.lookup f15 = some ⟨oc15, od15, .func (PySem.W.fnOf "parse_log" "parse_log" (defArgs s_parse_log) (defBody s_parse_log) (defScope s_parse_log) .none kV15 dc15 pm15 an15 cd15 ct15), sl15⟩) (c15 : PySem.W.codeIn K cd15 "parse_log" = true) (k15 : PySem.W.keepIn K (.ref f15) = true)
  {f16 : Addr} {od16 an16 : Option Addr} {sl16 : Array (Option Value)} {oc16 kV16 dc16 pm16 cd16 ct16 : Value}
  (a16 : PySem.W.nsIn K mainGlobals "parse_motions" = some (some (.ref f16))) (l16 : K.lookup f16 = some ⟨oc16, od16, .func (PySem.W.fnOf "parse_motions" "parse_motions" (defArgs s_parse_motions) (defBody s_parse_motions) (defScope s_parse_motions) .none kV16 dc16 pm16 an16 cd16 ct16), sl16⟩) (c16 : PySem.W.codeIn K cd16 "parse_motions" = true) (k16 : PySem.W.keepIn K (.ref f16) = true)
  {f17 : Addr} {od17 an17 : Option Addr} {sl17 : Array (Option Value)} {oc17 kV17 dc17 pm17 cd17 ct17 : Value}
  (a17 : PySem.W.nsIn K mainGlobals "parsed" = some (some (.ref f17))) (l17 : K.lookup f17 = some ⟨oc17, od17, .func (PySem.W.fnOf "parsed" "parsed" (defArgs s_parsed) (defBody s_parsed) (defScope s_parsed) .none kV17 dc17 pm17 an17 cd17 ct17), sl17⟩) (c17 : PySem.W.codeIn K cd17 "parsed" = true) (k17 : PySem.W.keepIn K (.ref f17) = true)
  {f18 : Addr} {od18 an18 : Option Addr} {sl18 : Array (Option Value)} {oc18 kV18 dc18 pm18 cd18 ct18 : Value}
  (a18 : PySem.W.nsIn K mainGlobals "_law_opened" = some (some (.ref f18))) (l18 : K.lookup f18 = some ⟨oc18, od18, .func (PySem.W.fnOf "_law_opened" "_law_opened" (defArgs s_l_opened) (defBody s_l_opened) (defScope s_l_opened) .none kV18 dc18 pm18 an18 cd18 ct18), sl18⟩) (c18 : PySem.W.codeIn K cd18 "_law_opened" = true) (k18 : PySem.W.keepIn K (.ref f18) = true)
  {f19 : Addr} {od19 an19 : Option Addr} {sl19 : Array (Option Value)} {oc19 kV19 dc19 pm19 cd19 ct19 : Value}
  (a19 : PySem.W.nsIn K mainGlobals "_law_draw" = some (some (.ref f19))) (l19 : K.lookup f19 = some ⟨oc19, od19, .func (PySem.W.fnOf "_law_draw" "_law_draw" (defArgs s_l_draw) (defBody s_l_draw) (defScope s_l_draw) .none kV19 dc19 pm19 an19 cd19 ct19), sl19⟩) (c19 : PySem.W.codeIn K cd19 "_law_draw" = true) (k19 : PySem.W.keepIn K (.ref f19) = true)
  {f20 : Addr} {od20 an20 : Option Addr} {sl20 : Array (Option Value)} {oc20 kV20 dc20 pm20 cd20 ct20 : Value}
  (a20 : PySem.W.nsIn K mainGlobals "_law_one" = some (some (.ref f20))) (l20 : K.lookup f20 = some ⟨oc20, od20, .func (PySem.W.fnOf "_law_one" "_law_one" (defArgs s_l_one) (defBody s_l_one) (defScope s_l_one) .none kV20 dc20 pm20 an20 cd20 ct20), sl20⟩) (c20 : PySem.W.codeIn K cd20 "_law_one" = true) (k20 : PySem.W.keepIn K (.ref f20) = true)
  {f21 : Addr} {od21 an21 : Option Addr} {sl21 : Array (Option Value)} {oc21 kV21 dc21 pm21 cd21 ct21 : Value}
  (a21 : PySem.W.nsIn K mainGlobals "_law_lamp" = some (some (.ref f21))) (l21 : K.lookup f21 = some ⟨oc21, od21, .func (PySem.W.fnOf "_law_lamp" "_law_lamp" (defArgs s_l_lamp) (defBody s_l_lamp) (defScope s_l_lamp) .none kV21 dc21 pm21 an21 cd21 ct21), sl21⟩) (c21 : PySem.W.codeIn K cd21 "_law_lamp" = true) (k21 : PySem.W.keepIn K (.ref f21) = true)
  {f22 : Addr} {od22 an22 : Option Addr} {sl22 : Array (Option Value)} {oc22 kV22 dc22 pm22 cd22 ct22 : Value}
  (a22 : PySem.W.nsIn K mainGlobals "_law_far_runs" = some (some (.ref f22))) (l22 : K.lookup f22 = some ⟨oc22, od22, .func (PySem.W.fnOf "_law_far_runs" "_law_far_runs" (defArgs s_l_far_runs) (defBody s_l_far_runs) (defScope s_l_far_runs) .none kV22 dc22 pm22 an22 cd22 ct22), sl22⟩) (c22 : PySem.W.codeIn K cd22 "_law_far_runs" = true) (k22 : PySem.W.keepIn K (.ref f22) = true)
  {f23 : Addr} {od23 an23 : Option Addr} {sl23 : Array (Option Value)} {oc23 kV23 dc23 pm23 cd23 ct23 : Value}
  (a23 : PySem.W.nsIn K mainGlobals "_law_log" = some (some (.ref f23))) (l23 : K.lookup f23 = some ⟨oc23, od23, .func (PySem.W.fnOf "_law_log" "_law_log" (defArgs s_l_log) (defBody s_l_log) (defScope s_l_log) .none kV23 dc23 pm23 an23 cd23 ct23), sl23⟩) (c23 : PySem.W.codeIn K cd23 "_law_log" = true) (k23 : PySem.W.keepIn K (.ref f23) = true)
  {f24 : Addr} {od24 an24 : Option Addr} {sl24 : Array (Option Value)} {oc24 kV24 dc24 pm24 cd24 ct24 : Value}
  (a24 : PySem.W.nsIn K mainGlobals "_law_number" = some (some (.ref f24))) (l24 : K.lookup f24 = some ⟨oc24, od24, .func (PySem.W.fnOf "_law_number" "_law_number" (defArgs s_l_number) (defBody s_l_number) (defScope s_l_number) .none kV24 dc24 pm24 an24 cd24 ct24), sl24⟩) (c24 : PySem.W.codeIn K cd24 "_law_number" = true) (k24 : PySem.W.keepIn K (.ref f24) = true)
  {f25 : Addr} {od25 an25 : Option Addr} {sl25 : Array (Option Value)} {oc25 kV25 dc25 pm25 cd25 ct25 : Value}
  (a25 : PySem.W.nsIn K mainGlobals "_law_spaced" = some (some (.ref f25))) (l25 : K.lookup f25 = some ⟨oc25, od25, .func (PySem.W.fnOf "_law_spaced" "_law_spaced" (defArgs s_l_spaced) (defBody s_l_spaced) (defScope s_l_spaced) .none kV25 dc25 pm25 an25 cd25 ct25), sl25⟩) (c25 : PySem.W.codeIn K cd25 "_law_spaced" = true) (k25 : PySem.W.keepIn K (.ref f25) = true)
  {f26 : Addr} {od26 an26 : Option Addr} {sl26 : Array (Option Value)} {oc26 kV26 dc26 pm26 cd26 ct26 : Value}
  (a26 : PySem.W.nsIn K mainGlobals "_law_is_run" = some (some (.ref f26))) (l26 : K.lookup f26 = some ⟨oc26, od26, .func (PySem.W.fnOf "_law_is_run" "_law_is_run" (defArgs s_l_is_run) (defBody s_l_is_run) (defScope s_l_is_run) .none kV26 dc26 pm26 an26 cd26 ct26), sl26⟩) (c26 : PySem.W.codeIn K cd26 "_law_is_run" = true) (k26 : PySem.W.keepIn K (.ref f26) = true)
  {f27 : Addr} {od27 an27 : Option Addr} {sl27 : Array (Option Value)} {oc27 kV27 dc27 pm27 cd27 ct27 : Value}
  (a27 : PySem.W.nsIn K mainGlobals "_law_whole" = some (some (.ref f27))) (l27 : K.lookup f27 = some ⟨oc27, od27, .func (PySem.W.fnOf "_law_whole" "_law_whole" (defArgs s_l_whole) (defBody s_l_whole) (defScope s_l_whole) .none kV27 dc27 pm27 an27 cd27 ct27), sl27⟩) (c27 : PySem.W.codeIn K cd27 "_law_whole" = true) (k27 : PySem.W.keepIn K (.ref f27) = true)
  {f28 : Addr} {od28 an28 : Option Addr} {sl28 : Array (Option Value)} {oc28 kV28 dc28 pm28 cd28 ct28 : Value}
  (a28 : PySem.W.nsIn K mainGlobals "_law_is_part" = some (some (.ref f28))) (l28 : K.lookup f28 = some ⟨oc28, od28, .func (PySem.W.fnOf "_law_is_part" "_law_is_part" (defArgs s_l_is_part) (defBody s_l_is_part) (defScope s_l_is_part) .none kV28 dc28 pm28 an28 cd28 ct28), sl28⟩) (c28 : PySem.W.codeIn K cd28 "_law_is_part" = true) (k28 : PySem.W.keepIn K (.ref f28) = true)
  {f29 : Addr} {od29 an29 : Option Addr} {sl29 : Array (Option Value)} {oc29 kV29 dc29 pm29 cd29 ct29 : Value}
  (a29 : PySem.W.nsIn K mainGlobals "_law_lamps_text" = some (some (.ref f29))) (l29 : K.lookup f29 = some ⟨oc29, od29, .func (PySem.W.fnOf "_law_lamps_text" "_law_lamps_text" (defArgs s_l_lamps_text) (defBody s_l_lamps_text) (defScope s_l_lamps_text) .none kV29 dc29 pm29 an29 cd29 ct29), sl29⟩) (c29 : PySem.W.codeIn K cd29 "_law_lamps_text" = true) (k29 : PySem.W.keepIn K (.ref f29) = true)
  {f30 : Addr} {od30 an30 : Option Addr} {sl30 : Array (Option Value)} {oc30 kV30 dc30 pm30 cd30 ct30 : Value}
  (a30 : PySem.W.nsIn K mainGlobals "_law_log_text" = some (some (.ref f30))) (l30 : K.lookup f30 = some ⟨oc30, od30, .func (PySem.W.fnOf "_law_log_text" "_law_log_text" (defArgs s_l_log_text) (defBody s_l_log_text) (defScope s_l_log_text) .none kV30 dc30 pm30 an30 cd30 ct30), sl30⟩) (c30 : PySem.W.codeIn K cd30 "_law_log_text" = true) (k30 : PySem.W.keepIn K (.ref f30) = true)
  {f31 : Addr} {od31 an31 : Option Addr} {sl31 : Array (Option Value)} {oc31 kV31 dc31 pm31 cd31 ct31 : Value}
  (a31 : PySem.W.nsIn K mainGlobals "_law_runs_text" = some (some (.ref f31))) (l31 : K.lookup f31 = some ⟨oc31, od31, .func (PySem.W.fnOf "_law_runs_text" "_law_runs_text" (defArgs s_l_runs_text) (defBody s_l_runs_text) (defScope s_l_runs_text) .none kV31 dc31 pm31 an31 cd31 ct31), sl31⟩) (c31 : PySem.W.codeIn K cd31 "_law_runs_text" = true) (k31 : PySem.W.keepIn K (.ref f31) = true)
  {f32 : Addr} {od32 an32 : Option Addr} {sl32 : Array (Option Value)} {oc32 kV32 dc32 pm32 cd32 ct32 : Value}
  (a32 : PySem.W.nsIn K mainGlobals "_law_item" = some (some (.ref f32))) (l32 : K.lookup f32 = some ⟨oc32, od32, .func (PySem.W.fnOf "_law_item" "_law_item" (defArgs s_l_item) (defBody s_l_item) (defScope s_l_item) .none kV32 dc32 pm32 an32 cd32 ct32), sl32⟩) (c32 : PySem.W.codeIn K cd32 "_law_item" = true) (k32 : PySem.W.keepIn K (.ref f32) = true)
  {f33 : Addr} {od33 an33 : Option Addr} {sl33 : Array (Option Value)} {oc33 kV33 dc33 pm33 cd33 ct33 : Value}
  (a33 : PySem.W.nsIn K mainGlobals "_law_read" = some (some (.ref f33))) (l33 : K.lookup f33 = some ⟨oc33, od33, .func (PySem.W.fnOf "_law_read" "_law_read" (defArgs s_l_read) (defBody s_l_read) (defScope s_l_read) .none kV33 dc33 pm33 an33 cd33 ct33), sl33⟩) (c33 : PySem.W.codeIn K cd33 "_law_read" = true) (k33 : PySem.W.keepIn K (.ref f33) = true)
  {f34 : Addr} {od34 an34 : Option Addr} {sl34 : Array (Option Value)} {oc34 kV34 dc34 pm34 cd34 ct34 : Value}
  (a34 : PySem.W.nsIn K mainGlobals "_law_told" = some (some (.ref f34))) (l34 : K.lookup f34 = some ⟨oc34, od34, .func (PySem.W.fnOf "_law_told" "_law_told" (defArgs s_l_told) (defBody s_l_told) (defScope s_l_told) .none kV34 dc34 pm34 an34 cd34 ct34), sl34⟩) (c34 : PySem.W.codeIn K cd34 "_law_told" = true) (k34 : PySem.W.keepIn K (.ref f34) = true)
  {f35 : Addr} {od35 an35 : Option Addr} {sl35 : Array (Option Value)} {oc35 kV35 dc35 pm35 cd35 ct35 : Value}
  (a35 : PySem.W.nsIn K mainGlobals "_law_changed" = some (some (.ref f35))) (l35 : K.lookup f35 = some ⟨oc35, od35, .func (PySem.W.fnOf "_law_changed" "_law_changed" (defArgs s_l_changed) (defBody s_l_changed) (defScope s_l_changed) .none kV35 dc35 pm35 an35 cd35 ct35), sl35⟩) (c35 : PySem.W.codeIn K cd35 "_law_changed" = true) (k35 : PySem.W.keepIn K (.ref f35) = true)
  {f36 : Addr} {od36 an36 : Option Addr} {sl36 : Array (Option Value)} {oc36 kV36 dc36 pm36 cd36 ct36 : Value}
  (a36 : PySem.W.nsIn K mainGlobals "law" = some (some (.ref f36))) (l36 : K.lookup f36 = some ⟨oc36, od36, .func (PySem.W.fnOf "law" "law" (defArgs s_law) (defBody s_law) (defScope s_law) .none kV36 dc36 pm36 an36 cd36 ct36), sl36⟩) (c36 : PySem.W.codeIn K cd36 "law" = true) (k36 : PySem.W.keepIn K (.ref f36) = true)
  {C_LampError : Addr} (gc_LampError : PySem.W.nsIn K mainGlobals "LampError" = some (some (.ref C_LampError)))
  {C_BadLamp : Addr} (gc_BadLamp : PySem.W.nsIn K mainGlobals "BadLamp" = some (some (.ref C_BadLamp)))
  {fI_BadLamp : Addr} {nm_BadLamp q_BadLamp : Str} {N_BadLamp : Addr} {bs_BadLamp : List Value} {sn_BadLamp : List Str} {sub_BadLamp : List Value} {ab_BadLamp : Bool} {col_BadLamp : Option Bool} {dd_BadLamp : Option Addr} {m0_BadLamp m1_BadLamp m2_BadLamp m3_BadLamp m5_BadLamp : Option Value} {od_BadLamp an_BadLamp : Option Addr} {sl_BadLamp : Array (Option Value)} {oc_BadLamp kV_BadLamp dc_BadLamp pm_BadLamp cd_BadLamp ct_BadLamp : Value}
  (xL_BadLamp : K.lookup C_BadLamp = some (PySem.excClassObj nm_BadLamp q_BadLamp C_BadLamp N_BadLamp bs_BadLamp [.ref C_LampError, .type "ValueError", .type "Exception", .type "BaseException", .type "object"] true sn_BadLamp sub_BadLamp ab_BadLamp col_BadLamp dd_BadLamp m0_BadLamp m1_BadLamp m2_BadLamp m3_BadLamp m5_BadLamp "ValueError.__new__"))
  (sa_BadLamp : PySem.W.findIn K (.ref C_BadLamp) "__setattr__" = some (some (.builtin "object.__setattr__")))
  (eC_BadLamp : PySem.W.subIn K (.ref C_BadLamp) (.type "BaseException") = some true)
  (tC_BadLamp : PySem.W.typeIn K (.ref C_BadLamp) = some (.type "type"))
  (kC_BadLamp : PySem.W.keepIn K (.ref C_BadLamp) = true)
  (iC_BadLamp : PySem.W.findIn K (.ref C_BadLamp) "__init__" = some (some (.ref fI_BadLamp)))
  (tI_BadLamp : PySem.W.typeIn K (.ref fI_BadLamp) = some (.type "function"))
  (no_BadLamp : PySem.W.findIn K (.ref C_BadLamp) "value" = some none)
  (ga_BadLamp : PySem.W.findIn K (.ref C_BadLamp) "__getattribute__" = some (some (.builtin "BaseException.__getattribute__")))
  (gg_BadLamp : PySem.W.findIn K (.ref C_BadLamp) "__getattr__" = some none)
  (hd_BadLamp : PySem.W.hasDictIn K C_BadLamp = true)
  (ha_BadLamp : PySem.W.findIn K (.ref C_BadLamp) "__class__" = some (some (.builtin "object.__class__")))
  (hn_BadLamp : PySem.W.specialIn K (.builtin "object.__class__") "__get__" = some (some (.builtin "getset_descriptor.__get__")))
  (ht_BadLamp : PySem.W.takesIn K (.builtin "object.__class__") = some true)
  (hm_BadLamp : PySem.W.mroIn K C_BadLamp (.type "object") = some true)
  (lI_BadLamp : K.lookup fI_BadLamp = some ⟨oc_BadLamp, od_BadLamp, .func (PySem.W.fnOf "__init__" "BadLamp.__init__" (defArgs s_X_BadLamp) (defBody s_X_BadLamp) (defScope s_X_BadLamp) .none kV_BadLamp dc_BadLamp pm_BadLamp an_BadLamp cd_BadLamp ct_BadLamp), sl_BadLamp⟩)
  (cI_BadLamp : PySem.W.codeIn K cd_BadLamp "BadLamp.__init__" = true)
  (kI_BadLamp : PySem.W.keepIn K (.ref fI_BadLamp) = true)
  {C_BadLog : Addr} (gc_BadLog : PySem.W.nsIn K mainGlobals "BadLog" = some (some (.ref C_BadLog)))
  {fI_BadLog : Addr} {nm_BadLog q_BadLog : Str} {N_BadLog : Addr} {bs_BadLog : List Value} {sn_BadLog : List Str} {sub_BadLog : List Value} {ab_BadLog : Bool} {col_BadLog : Option Bool} {dd_BadLog : Option Addr} {m0_BadLog m1_BadLog m2_BadLog m3_BadLog m5_BadLog : Option Value} {od_BadLog an_BadLog : Option Addr} {sl_BadLog : Array (Option Value)} {oc_BadLog kV_BadLog dc_BadLog pm_BadLog cd_BadLog ct_BadLog : Value}
  (xL_BadLog : K.lookup C_BadLog = some (PySem.excClassObj nm_BadLog q_BadLog C_BadLog N_BadLog bs_BadLog [.ref C_LampError, .type "ValueError", .type "Exception", .type "BaseException", .type "object"] true sn_BadLog sub_BadLog ab_BadLog col_BadLog dd_BadLog m0_BadLog m1_BadLog m2_BadLog m3_BadLog m5_BadLog "ValueError.__new__"))
  (sa_BadLog : PySem.W.findIn K (.ref C_BadLog) "__setattr__" = some (some (.builtin "object.__setattr__")))
  (eC_BadLog : PySem.W.subIn K (.ref C_BadLog) (.type "BaseException") = some true)
  (tC_BadLog : PySem.W.typeIn K (.ref C_BadLog) = some (.type "type"))
  (kC_BadLog : PySem.W.keepIn K (.ref C_BadLog) = true)
  (iC_BadLog : PySem.W.findIn K (.ref C_BadLog) "__init__" = some (some (.ref fI_BadLog)))
  (tI_BadLog : PySem.W.typeIn K (.ref fI_BadLog) = some (.type "function"))
  (no_BadLog : PySem.W.findIn K (.ref C_BadLog) "error" = some none)
  (ga_BadLog : PySem.W.findIn K (.ref C_BadLog) "__getattribute__" = some (some (.builtin "BaseException.__getattribute__")))
  (gg_BadLog : PySem.W.findIn K (.ref C_BadLog) "__getattr__" = some none)
  (hd_BadLog : PySem.W.hasDictIn K C_BadLog = true)
  (ha_BadLog : PySem.W.findIn K (.ref C_BadLog) "__class__" = some (some (.builtin "object.__class__")))
  (hn_BadLog : PySem.W.specialIn K (.builtin "object.__class__") "__get__" = some (some (.builtin "getset_descriptor.__get__")))
  (ht_BadLog : PySem.W.takesIn K (.builtin "object.__class__") = some true)
  (hm_BadLog : PySem.W.mroIn K C_BadLog (.type "object") = some true)
  (lI_BadLog : K.lookup fI_BadLog = some ⟨oc_BadLog, od_BadLog, .func (PySem.W.fnOf "__init__" "BadLog.__init__" (defArgs s_X_BadLog) (defBody s_X_BadLog) (defScope s_X_BadLog) .none kV_BadLog dc_BadLog pm_BadLog an_BadLog cd_BadLog ct_BadLog), sl_BadLog⟩)
  (cI_BadLog : PySem.W.codeIn K cd_BadLog "BadLog.__init__" = true)
  (kI_BadLog : PySem.W.keepIn K (.ref fI_BadLog) = true)
  {C_BadMotions : Addr} (gc_BadMotions : PySem.W.nsIn K mainGlobals "BadMotions" = some (some (.ref C_BadMotions)))
  {fI_BadMotions : Addr} {nm_BadMotions q_BadMotions : Str} {N_BadMotions : Addr} {bs_BadMotions : List Value} {sn_BadMotions : List Str} {sub_BadMotions : List Value} {ab_BadMotions : Bool} {col_BadMotions : Option Bool} {dd_BadMotions : Option Addr} {m0_BadMotions m1_BadMotions m2_BadMotions m3_BadMotions m5_BadMotions : Option Value} {od_BadMotions an_BadMotions : Option Addr} {sl_BadMotions : Array (Option Value)} {oc_BadMotions kV_BadMotions dc_BadMotions pm_BadMotions cd_BadMotions ct_BadMotions : Value}
  (xL_BadMotions : K.lookup C_BadMotions = some (PySem.excClassObj nm_BadMotions q_BadMotions C_BadMotions N_BadMotions bs_BadMotions [.ref C_LampError, .type "ValueError", .type "Exception", .type "BaseException", .type "object"] true sn_BadMotions sub_BadMotions ab_BadMotions col_BadMotions dd_BadMotions m0_BadMotions m1_BadMotions m2_BadMotions m3_BadMotions m5_BadMotions "ValueError.__new__"))
  (sa_BadMotions : PySem.W.findIn K (.ref C_BadMotions) "__setattr__" = some (some (.builtin "object.__setattr__")))
  (eC_BadMotions : PySem.W.subIn K (.ref C_BadMotions) (.type "BaseException") = some true)
  (tC_BadMotions : PySem.W.typeIn K (.ref C_BadMotions) = some (.type "type"))
  (kC_BadMotions : PySem.W.keepIn K (.ref C_BadMotions) = true)
  (iC_BadMotions : PySem.W.findIn K (.ref C_BadMotions) "__init__" = some (some (.ref fI_BadMotions)))
  (tI_BadMotions : PySem.W.typeIn K (.ref fI_BadMotions) = some (.type "function"))
  (no_BadMotions : PySem.W.findIn K (.ref C_BadMotions) "error" = some none)
  (ga_BadMotions : PySem.W.findIn K (.ref C_BadMotions) "__getattribute__" = some (some (.builtin "BaseException.__getattribute__")))
  (gg_BadMotions : PySem.W.findIn K (.ref C_BadMotions) "__getattr__" = some none)
  (hd_BadMotions : PySem.W.hasDictIn K C_BadMotions = true)
  (ha_BadMotions : PySem.W.findIn K (.ref C_BadMotions) "__class__" = some (some (.builtin "object.__class__")))
  (hn_BadMotions : PySem.W.specialIn K (.builtin "object.__class__") "__get__" = some (some (.builtin "getset_descriptor.__get__")))
  (ht_BadMotions : PySem.W.takesIn K (.builtin "object.__class__") = some true)
  (hm_BadMotions : PySem.W.mroIn K C_BadMotions (.type "object") = some true)
  (lI_BadMotions : K.lookup fI_BadMotions = some ⟨oc_BadMotions, od_BadMotions, .func (PySem.W.fnOf "__init__" "BadMotions.__init__" (defArgs s_X_BadMotions) (defBody s_X_BadMotions) (defScope s_X_BadMotions) .none kV_BadMotions dc_BadMotions pm_BadMotions an_BadMotions cd_BadMotions ct_BadMotions), sl_BadMotions⟩)
  (cI_BadMotions : PySem.W.codeIn K cd_BadMotions "BadMotions.__init__" = true)
  (kI_BadMotions : PySem.W.keepIn K (.ref fI_BadMotions) = true)
  {C_BadText : Addr} (gc_BadText : PySem.W.nsIn K mainGlobals "BadText" = some (some (.ref C_BadText)))
  {fI_BadText : Addr} {nm_BadText q_BadText : Str} {N_BadText : Addr} {bs_BadText : List Value} {sn_BadText : List Str} {sub_BadText : List Value} {ab_BadText : Bool} {col_BadText : Option Bool} {dd_BadText : Option Addr} {m0_BadText m1_BadText m2_BadText m3_BadText m5_BadText : Option Value} {od_BadText an_BadText : Option Addr} {sl_BadText : Array (Option Value)} {oc_BadText kV_BadText dc_BadText pm_BadText cd_BadText ct_BadText : Value}
  (xL_BadText : K.lookup C_BadText = some (PySem.excClassObj nm_BadText q_BadText C_BadText N_BadText bs_BadText [.ref C_LampError, .type "ValueError", .type "Exception", .type "BaseException", .type "object"] true sn_BadText sub_BadText ab_BadText col_BadText dd_BadText m0_BadText m1_BadText m2_BadText m3_BadText m5_BadText "ValueError.__new__"))
  (sa_BadText : PySem.W.findIn K (.ref C_BadText) "__setattr__" = some (some (.builtin "object.__setattr__")))
  (eC_BadText : PySem.W.subIn K (.ref C_BadText) (.type "BaseException") = some true)
  (tC_BadText : PySem.W.typeIn K (.ref C_BadText) = some (.type "type"))
  (kC_BadText : PySem.W.keepIn K (.ref C_BadText) = true)
  (iC_BadText : PySem.W.findIn K (.ref C_BadText) "__init__" = some (some (.ref fI_BadText)))
  (tI_BadText : PySem.W.typeIn K (.ref fI_BadText) = some (.type "function"))
  (no_BadText : PySem.W.findIn K (.ref C_BadText) "index" = some none)
  (ga_BadText : PySem.W.findIn K (.ref C_BadText) "__getattribute__" = some (some (.builtin "BaseException.__getattribute__")))
  (gg_BadText : PySem.W.findIn K (.ref C_BadText) "__getattr__" = some none)
  (hd_BadText : PySem.W.hasDictIn K C_BadText = true)
  (ha_BadText : PySem.W.findIn K (.ref C_BadText) "__class__" = some (some (.builtin "object.__class__")))
  (hn_BadText : PySem.W.specialIn K (.builtin "object.__class__") "__get__" = some (some (.builtin "getset_descriptor.__get__")))
  (ht_BadText : PySem.W.takesIn K (.builtin "object.__class__") = some true)
  (hm_BadText : PySem.W.mroIn K C_BadText (.type "object") = some true)
  (lI_BadText : K.lookup fI_BadText = some ⟨oc_BadText, od_BadText, .func (PySem.W.fnOf "__init__" "BadText.__init__" (defArgs s_X_BadText) (defBody s_X_BadText) (defScope s_X_BadText) .none kV_BadText dc_BadText pm_BadText an_BadText cd_BadText ct_BadText), sl_BadText⟩)
  (cI_BadText : PySem.W.codeIn K cd_BadText "BadText.__init__" = true)
  (kI_BadText : PySem.W.keepIn K (.ref fI_BadText) = true)
  {C_NoIndex : Addr} (gc_NoIndex : PySem.W.nsIn K mainGlobals "NoIndex" = some (some (.ref C_NoIndex)))
  {fI_NoIndex : Addr} {nm_NoIndex q_NoIndex : Str} {N_NoIndex : Addr} {bs_NoIndex : List Value} {sn_NoIndex : List Str} {sub_NoIndex : List Value} {ab_NoIndex : Bool} {col_NoIndex : Option Bool} {dd_NoIndex : Option Addr} {m0_NoIndex m1_NoIndex m2_NoIndex m3_NoIndex m5_NoIndex : Option Value} {od_NoIndex an_NoIndex : Option Addr} {sl_NoIndex : Array (Option Value)} {oc_NoIndex kV_NoIndex dc_NoIndex pm_NoIndex cd_NoIndex ct_NoIndex : Value}
  (xL_NoIndex : K.lookup C_NoIndex = some (PySem.excClassObj nm_NoIndex q_NoIndex C_NoIndex N_NoIndex bs_NoIndex [.ref C_LampError, .type "ValueError", .type "Exception", .type "BaseException", .type "object"] true sn_NoIndex sub_NoIndex ab_NoIndex col_NoIndex dd_NoIndex m0_NoIndex m1_NoIndex m2_NoIndex m3_NoIndex m5_NoIndex "ValueError.__new__"))
  (sa_NoIndex : PySem.W.findIn K (.ref C_NoIndex) "__setattr__" = some (some (.builtin "object.__setattr__")))
  (eC_NoIndex : PySem.W.subIn K (.ref C_NoIndex) (.type "BaseException") = some true)
  (tC_NoIndex : PySem.W.typeIn K (.ref C_NoIndex) = some (.type "type"))
  (kC_NoIndex : PySem.W.keepIn K (.ref C_NoIndex) = true)
  (iC_NoIndex : PySem.W.findIn K (.ref C_NoIndex) "__init__" = some (some (.ref fI_NoIndex)))
  (tI_NoIndex : PySem.W.typeIn K (.ref fI_NoIndex) = some (.type "function"))
  (no_NoIndex : PySem.W.findIn K (.ref C_NoIndex) "index" = some none)
  (ga_NoIndex : PySem.W.findIn K (.ref C_NoIndex) "__getattribute__" = some (some (.builtin "BaseException.__getattribute__")))
  (gg_NoIndex : PySem.W.findIn K (.ref C_NoIndex) "__getattr__" = some none)
  (hd_NoIndex : PySem.W.hasDictIn K C_NoIndex = true)
  (ha_NoIndex : PySem.W.findIn K (.ref C_NoIndex) "__class__" = some (some (.builtin "object.__class__")))
  (hn_NoIndex : PySem.W.specialIn K (.builtin "object.__class__") "__get__" = some (some (.builtin "getset_descriptor.__get__")))
  (ht_NoIndex : PySem.W.takesIn K (.builtin "object.__class__") = some true)
  (hm_NoIndex : PySem.W.mroIn K C_NoIndex (.type "object") = some true)
  (lI_NoIndex : K.lookup fI_NoIndex = some ⟨oc_NoIndex, od_NoIndex, .func (PySem.W.fnOf "__init__" "NoIndex.__init__" (defArgs s_X_NoIndex) (defBody s_X_NoIndex) (defScope s_X_NoIndex) .none kV_NoIndex dc_NoIndex pm_NoIndex an_NoIndex cd_NoIndex ct_NoIndex), sl_NoIndex⟩)
  (cI_NoIndex : PySem.W.codeIn K cd_NoIndex "NoIndex.__init__" = true)
  (kI_NoIndex : PySem.W.keepIn K (.ref fI_NoIndex) = true)
  (kit0 : PySem.W.exmOne K (.ref C_BadText) (.ref C_LampError) = some true)
  (kit1 : PySem.W.kitOne K (.ref C_BadText) (.type "ValueError") = some true)
  (kit2 : PySem.W.kitAny K (.ref C_BadText) ([C_BadLamp, C_BadLog, C_BadMotions, C_NoIndex].map Value.ref) = some false)
  (kit3 : PySem.W.kitOne K (.ref C_BadText) (.ref C_BadText) = some true)
  (z_ValueError : PySem.W.nsIn K mainGlobals "ValueError" = some none)
  (z_abs : PySem.W.nsIn K mainGlobals "abs" = some none)
  (z_all : PySem.W.nsIn K mainGlobals "all" = some none)
  (z_bool : PySem.W.nsIn K mainGlobals "bool" = some none)
  (z_enumerate : PySem.W.nsIn K mainGlobals "enumerate" = some none)
  (z_int : PySem.W.nsIn K mainGlobals "int" = some none)
  (z_isinstance : PySem.W.nsIn K mainGlobals "isinstance" = some none)
  (z_len : PySem.W.nsIn K mainGlobals "len" = some none)
  (z_list : PySem.W.nsIn K mainGlobals "list" = some none)
  (z_min : PySem.W.nsIn K mainGlobals "min" = some none)
  (z_range : PySem.W.nsIn K mainGlobals "range" = some none)
  (z_repr : PySem.W.nsIn K mainGlobals "repr" = some none)
  (z_str : PySem.W.nsIn K mainGlobals "str" = some none)
  (z_tuple : PySem.W.nsIn K mainGlobals "tuple" = some none)
  {t_DIGITS : Tok} (c_DIGITS : PySem.W.nsIn K mainGlobals "DIGITS" = some (some (.int 20 t_DIGITS)))
  {a_KINDS : Addr} {od_KINDS : Option Addr} {sl_KINDS : Array (Option Value)} {n_KINDS : Nat} {t0_KINDS t1_KINDS : Tok} (c_KINDS : PySem.W.nsIn K mainGlobals "KINDS" = some (some (.ref a_KINDS))) (l_KINDS : K.lookup a_KINDS = some ⟨.type "tuple", od_KINDS, .seq #[.str "hold" t0_KINDS, .str "pulse" t1_KINDS] n_KINDS, sl_KINDS⟩)
  {t_LIMIT : Tok} (c_LIMIT : PySem.W.nsIn K mainGlobals "LIMIT" = some (some (.int 2000000000 t_LIMIT)))
  {t_MAX_LAMPS : Tok} (c_MAX_LAMPS : PySem.W.nsIn K mainGlobals "MAX_LAMPS" = some (some (.int 6 t_MAX_LAMPS)))
  {t_MAX_MINUTE : Tok} (c_MAX_MINUTE : PySem.W.nsIn K mainGlobals "MAX_MINUTE" = some (some (.int 1000000000 t_MAX_MINUTE)))
  {t_MAX_RUNS : Tok} (c_MAX_RUNS : PySem.W.nsIn K mainGlobals "MAX_RUNS" = some (some (.int 360 t_MAX_RUNS)))
  {t_MAX_STRETCHES : Tok} (c_MAX_STRETCHES : PySem.W.nsIn K mainGlobals "MAX_STRETCHES" = some (some (.int 60 t_MAX_STRETCHES)))
  {t_NONE : Tok} (c_NONE : PySem.W.nsIn K mainGlobals "NONE" = some (some (.str "none" t_NONE)))
  : ∃ (T : All K mg) (kV dc pm : Value) (an : Option Addr) (cd ct : Value), T.fd_law = PySem.W.fnOf "law" "law" (defArgs s_law) (defBody s_law) (defScope s_law) .none kV dc pm an cd ct :=
  ⟨{ f_is_whole := f0, fd_is_whole := _, D_is_whole := ⟨fun_mk (st := s_is_whole) l0 c0 k0, PySem.W.mg_of X G a0, (fun_mk (st := s_is_whole) l0 c0 k0).binds (ps := ["value"]) fun _ _ _ _ _ _ us hl => match us, hl with | [_], _ => rfl⟩,
     f_is_whole_tuple := f1, fd_is_whole_tuple := _, D_is_whole_tuple := ⟨fun_mk (st := s_is_whole_tuple) l1 c1 k1, PySem.W.mg_of X G a1, (fun_mk (st := s_is_whole_tuple) l1 c1 k1).binds (ps := ["value", "many"]) fun _ _ _ _ _ _ us hl => match us, hl with | [_, _], _ => rfl⟩,
     f_is_stay := f2, fd_is_stay := _, D_is_stay := ⟨fun_mk (st := s_is_stay) l2 c2 k2, PySem.W.mg_of X G a2, (fun_mk (st := s_is_stay) l2 c2 k2).binds (ps := ["value"]) fun _ _ _ _ _ _ us hl => match us, hl with | [_], _ => rfl⟩,
     f_last_minute := f3, fd_last_minute := _, D_last_minute := ⟨fun_mk (st := s_last_minute) l3 c3 k3, PySem.W.mg_of X G a3, (fun_mk (st := s_last_minute) l3 c3 k3).binds (ps := ["run"]) fun _ _ _ _ _ _ us hl => match us, hl with | [_], _ => rfl⟩,
     f_is_run := f4, fd_is_run := _, D_is_run := ⟨fun_mk (st := s_is_run) l4 c4 k4, PySem.W.mg_of X G a4, (fun_mk (st := s_is_run) l4 c4 k4).binds (ps := ["value"]) fun _ _ _ _ _ _ us hl => match us, hl with | [_], _ => rfl⟩,
     f_is_stretch := f5, fd_is_stretch := _, D_is_stretch := ⟨fun_mk (st := s_is_stretch) l5 c5 k5, PySem.W.mg_of X G a5, (fun_mk (st := s_is_stretch) l5 c5 k5).binds (ps := ["value"]) fun _ _ _ _ _ _ us hl => match us, hl with | [_], _ => rfl⟩,
     f_is_lamp := f6, fd_is_lamp := _, D_is_lamp := ⟨fun_mk (st := s_is_lamp) l6 c6 k6, PySem.W.mg_of X G a6, (fun_mk (st := s_is_lamp) l6 c6 k6).binds (ps := ["value"]) fun _ _ _ _ _ _ us hl => match us, hl with | [_], _ => rfl⟩,
     f_motions_error := f7, fd_motions_error := _, D_motions_error := ⟨fun_mk (st := s_motions_error) l7 c7 k7, PySem.W.mg_of X G a7, (fun_mk (st := s_motions_error) l7 c7 k7).binds (ps := ["value"]) fun _ _ _ _ _ _ us hl => match us, hl with | [_], _ => rfl⟩,
     f_log_error := f8, fd_log_error := _, D_log_error := ⟨fun_mk (st := s_log_error) l8 c8 k8, PySem.W.mg_of X G a8, (fun_mk (st := s_log_error) l8 c8 k8).binds (ps := ["value"]) fun _ _ _ _ _ _ us hl => match us, hl with | [_], _ => rfl⟩,
     f_number_of := f9, fd_number_of := _, D_number_of := ⟨fun_mk (st := s_number_of) l9 c9 k9, PySem.W.mg_of X G a9, (fun_mk (st := s_number_of) l9 c9 k9).binds (ps := ["text"]) fun _ _ _ _ _ _ us hl => match us, hl with | [_], _ => rfl⟩,
     f_lamp_of := f10, fd_lamp_of := _, D_lamp_of := ⟨fun_mk (st := s_lamp_of) l10 c10 k10, PySem.W.mg_of X G a10, (fun_mk (st := s_lamp_of) l10 c10 k10).binds (ps := ["text"]) fun _ _ _ _ _ _ us hl => match us, hl with | [_], _ => rfl⟩,
     f_stretch_of := f11, fd_stretch_of := _, D_stretch_of := ⟨fun_mk (st := s_stretch_of) l11 c11 k11, PySem.W.mg_of X G a11, (fun_mk (st := s_stretch_of) l11 c11 k11).binds (ps := ["text"]) fun _ _ _ _ _ _ us hl => match us, hl with | [_], _ => rfl⟩,
     f_run_of := f12, fd_run_of := _, D_run_of := ⟨fun_mk (st := s_run_of) l12 c12 k12, PySem.W.mg_of X G a12, (fun_mk (st := s_run_of) l12 c12 k12).binds (ps := ["text"]) fun _ _ _ _ _ _ us hl => match us, hl with | [_], _ => rfl⟩,
     f_lamps_error := f13, fd_lamps_error := _, D_lamps_error := ⟨fun_mk (st := s_lamps_error) l13 c13 k13, PySem.W.mg_of X G a13, (fun_mk (st := s_lamps_error) l13 c13 k13).binds (ps := ["lamps"]) fun _ _ _ _ _ _ us hl => match us, hl with | [_], _ => rfl⟩,
     f_parse_lamps := f14, fd_parse_lamps := _, D_parse_lamps := ⟨fun_mk (st := s_parse_lamps) l14 c14 k14, PySem.W.mg_of X G a14, (fun_mk (st := s_parse_lamps) l14 c14 k14).binds (ps := ["value"]) fun _ _ _ _ _ _ us hl => match us, hl with | [_], _ => rfl⟩,
     f_parse_log := f15, fd_parse_log := _, D_parse_log := ⟨fun_mk (st := s_parse_log) l15 c15 k15, PySem.W.mg_of X G a15, (fun_mk (st := s_parse_log) l15 c15 k15).binds (ps := ["value"]) fun _ _ _ _ _ _ us hl => match us, hl with | [_], _ => rfl⟩,
     f_parse_motions := f16, fd_parse_motions := _, D_parse_motions := ⟨fun_mk (st := s_parse_motions) l16 c16 k16, PySem.W.mg_of X G a16, (fun_mk (st := s_parse_motions) l16 c16 k16).binds (ps := ["value"]) fun _ _ _ _ _ _ us hl => match us, hl with | [_], _ => rfl⟩,
     f_parsed := f17, fd_parsed := _, D_parsed := ⟨fun_mk (st := s_parsed) l17 c17 k17, PySem.W.mg_of X G a17, (fun_mk (st := s_parsed) l17 c17 k17).binds (ps := ["value", "item_of", "error_of", "limit"]) fun _ _ _ _ _ _ us hl => match us, hl with | [_, _, _, _], _ => rfl⟩,
     f_l_opened := f18, fd_l_opened := _, D_l_opened := ⟨fun_mk (st := s_l_opened) l18 c18 k18, PySem.W.mg_of X G a18, (fun_mk (st := s_l_opened) l18 c18 k18).binds (ps := ["script"]) fun _ _ _ _ _ _ us hl => match us, hl with | [_], _ => rfl⟩,
     f_l_draw := f19, fd_l_draw := _, D_l_draw := ⟨fun_mk (st := s_l_draw) l19 c19 k19, PySem.W.mg_of X G a19, (fun_mk (st := s_l_draw) l19 c19 k19).binds (ps := ["pot", "many"]) fun _ _ _ _ _ _ us hl => match us, hl with | [_, _], _ => rfl⟩,
     f_l_one := f20, fd_l_one := _, D_l_one := ⟨fun_mk (st := s_l_one) l20 c20 k20, PySem.W.mg_of X G a20, (fun_mk (st := s_l_one) l20 c20 k20).binds (ps := ["pot", "items"]) fun _ _ _ _ _ _ us hl => match us, hl with | [_, _], _ => rfl⟩,
     f_l_lamp := f21, fd_l_lamp := _, D_l_lamp := ⟨fun_mk (st := s_l_lamp) l21 c21 k21, PySem.W.mg_of X G a21, (fun_mk (st := s_l_lamp) l21 c21 k21).binds (ps := ["pot", "great"]) fun _ _ _ _ _ _ us hl => match us, hl with | [_, _], _ => rfl⟩,
     f_l_far_runs := f22, fd_l_far_runs := _, D_l_far_runs := ⟨fun_mk (st := s_l_far_runs) l22 c22 k22, PySem.W.mg_of X G a22, (fun_mk (st := s_l_far_runs) l22 c22 k22).binds (ps := ["pot", "upto"]) fun _ _ _ _ _ _ us hl => match us, hl with | [_, _], _ => rfl⟩,
     f_l_log := f23, fd_l_log := _, D_l_log := ⟨fun_mk (st := s_l_log) l23 c23 k23, PySem.W.mg_of X G a23, (fun_mk (st := s_l_log) l23 c23 k23).binds (ps := ["pot", "upto", "great"]) fun _ _ _ _ _ _ us hl => match us, hl with | [_, _, _], _ => rfl⟩,
     f_l_number := f24, fd_l_number := _, D_l_number := ⟨fun_mk (st := s_l_number) l24 c24 k24, PySem.W.mg_of X G a24, (fun_mk (st := s_l_number) l24 c24 k24).binds (ps := ["part"]) fun _ _ _ _ _ _ us hl => match us, hl with | [_], _ => rfl⟩,
     f_l_spaced := f25, fd_l_spaced := _, D_l_spaced := ⟨fun_mk (st := s_l_spaced) l25 c25 k25, PySem.W.mg_of X G a25, (fun_mk (st := s_l_spaced) l25 c25 k25).binds (ps := ["items"]) fun _ _ _ _ _ _ us hl => match us, hl with | [_], _ => rfl⟩,
     f_l_is_run := f26, fd_l_is_run := _, D_l_is_run := ⟨fun_mk (st := s_l_is_run) l26 c26 k26, PySem.W.mg_of X G a26, (fun_mk (st := s_l_is_run) l26 c26 k26).binds (ps := ["value"]) fun _ _ _ _ _ _ us hl => match us, hl with | [_], _ => rfl⟩,
     f_l_whole := f27, fd_l_whole := _, D_l_whole := ⟨fun_mk (st := s_l_whole) l27 c27 k27, PySem.W.mg_of X G a27, (fun_mk (st := s_l_whole) l27 c27 k27).binds (ps := ["value", "low", "high"]) fun _ _ _ _ _ _ us hl => match us, hl with | [_, _, _], _ => rfl⟩,
     f_l_is_part := f28, fd_l_is_part := _, D_l_is_part := ⟨fun_mk (st := s_l_is_part) l28 c28 k28, PySem.W.mg_of X G a28, (fun_mk (st := s_l_is_part) l28 c28 k28).binds (ps := ["value"]) fun _ _ _ _ _ _ us hl => match us, hl with | [_], _ => rfl⟩,
     f_l_lamps_text := f29, fd_l_lamps_text := _, D_l_lamps_text := ⟨fun_mk (st := s_l_lamps_text) l29 c29 k29, PySem.W.mg_of X G a29, (fun_mk (st := s_l_lamps_text) l29 c29 k29).binds (ps := ["lamps"]) fun _ _ _ _ _ _ us hl => match us, hl with | [_], _ => rfl⟩,
     f_l_log_text := f30, fd_l_log_text := _, D_l_log_text := ⟨fun_mk (st := s_l_log_text) l30 c30 k30, PySem.W.mg_of X G a30, (fun_mk (st := s_l_log_text) l30 c30 k30).binds (ps := ["log"]) fun _ _ _ _ _ _ us hl => match us, hl with | [_], _ => rfl⟩,
     f_l_runs_text := f31, fd_l_runs_text := _, D_l_runs_text := ⟨fun_mk (st := s_l_runs_text) l31 c31 k31, PySem.W.mg_of X G a31, (fun_mk (st := s_l_runs_text) l31 c31 k31).binds (ps := ["runs"]) fun _ _ _ _ _ _ us hl => match us, hl with | [_], _ => rfl⟩,
     f_l_item := f32, fd_l_item := _, D_l_item := ⟨fun_mk (st := s_l_item) l32 c32 k32, PySem.W.mg_of X G a32, (fun_mk (st := s_l_item) l32 c32 k32).binds (ps := ["way", "part"]) fun _ _ _ _ _ _ us hl => match us, hl with | [_, _], _ => rfl⟩,
     f_l_read := f33, fd_l_read := _, D_l_read := ⟨fun_mk (st := s_l_read) l33 c33 k33, PySem.W.mg_of X G a33, (fun_mk (st := s_l_read) l33 c33 k33).binds (ps := ["way", "text"]) fun _ _ _ _ _ _ us hl => match us, hl with | [_, _], _ => rfl⟩,
     f_l_told := f34, fd_l_told := _, D_l_told := ⟨fun_mk (st := s_l_told) l34 c34 k34, PySem.W.mg_of X G a34, (fun_mk (st := s_l_told) l34 c34 k34).binds (ps := ["way", "value"]) fun _ _ _ _ _ _ us hl => match us, hl with | [_, _], _ => rfl⟩,
     f_l_changed := f35, fd_l_changed := _, D_l_changed := ⟨fun_mk (st := s_l_changed) l35 c35 k35, PySem.W.mg_of X G a35, (fun_mk (st := s_l_changed) l35 c35 k35).binds (ps := ["pot", "text"]) fun _ _ _ _ _ _ us hl => match us, hl with | [_, _], _ => rfl⟩,
     f_law := f36, fd_law := _, D_law := ⟨fun_mk (st := s_law) l36 c36 k36, PySem.W.mg_of X G a36, (fun_mk (st := s_law) l36 c36 k36).binds (ps := ["script"]) fun _ _ _ _ _ _ us hl => match us, hl with | [_], _ => rfl⟩,
     C_LampError := C_LampError, g_LampError := PySem.W.mg_of X G gc_LampError,
     C_BadLamp := C_BadLamp, g_BadLamp := PySem.W.mg_of X G gc_BadLamp,
     fI_BadLamp := fI_BadLamp, fdI_BadLamp := _, X_BadLamp := ⟨PySem.W.mg_of X G gc_BadLamp, ⟨⟨_, _, _, _, _, _, _, _, _, _, _, _, _, _, _, xL_BadLamp, by rfl⟩, sa_BadLamp, eC_BadLamp, tC_BadLamp, kC_BadLamp⟩, iC_BadLamp, tI_BadLamp, no_BadLamp, ⟨ga_BadLamp, gg_BadLamp, eC_BadLamp, hd_BadLamp⟩, ⟨ha_BadLamp, hn_BadLamp, ht_BadLamp, hm_BadLamp⟩, fun_mk (st := s_X_BadLamp) lI_BadLamp cI_BadLamp kI_BadLamp, (fun_mk (st := s_X_BadLamp) lI_BadLamp cI_BadLamp kI_BadLamp).binds (ps := ["self", "value"]) fun _ _ _ _ _ _ us hl => match us, hl with | [_, _], _ => rfl⟩,
     C_BadLog := C_BadLog, g_BadLog := PySem.W.mg_of X G gc_BadLog,
     fI_BadLog := fI_BadLog, fdI_BadLog := _, X_BadLog := ⟨PySem.W.mg_of X G gc_BadLog, ⟨⟨_, _, _, _, _, _, _, _, _, _, _, _, _, _, _, xL_BadLog, by rfl⟩, sa_BadLog, eC_BadLog, tC_BadLog, kC_BadLog⟩, iC_BadLog, tI_BadLog, no_BadLog, ⟨ga_BadLog, gg_BadLog, eC_BadLog, hd_BadLog⟩, ⟨ha_BadLog, hn_BadLog, ht_BadLog, hm_BadLog⟩, fun_mk (st := s_X_BadLog) lI_BadLog cI_BadLog kI_BadLog, (fun_mk (st := s_X_BadLog) lI_BadLog cI_BadLog kI_BadLog).binds (ps := ["self", "error"]) fun _ _ _ _ _ _ us hl => match us, hl with | [_, _], _ => rfl⟩,
     C_BadMotions := C_BadMotions, g_BadMotions := PySem.W.mg_of X G gc_BadMotions,
     fI_BadMotions := fI_BadMotions, fdI_BadMotions := _, X_BadMotions := ⟨PySem.W.mg_of X G gc_BadMotions, ⟨⟨_, _, _, _, _, _, _, _, _, _, _, _, _, _, _, xL_BadMotions, by rfl⟩, sa_BadMotions, eC_BadMotions, tC_BadMotions, kC_BadMotions⟩, iC_BadMotions, tI_BadMotions, no_BadMotions, ⟨ga_BadMotions, gg_BadMotions, eC_BadMotions, hd_BadMotions⟩, ⟨ha_BadMotions, hn_BadMotions, ht_BadMotions, hm_BadMotions⟩, fun_mk (st := s_X_BadMotions) lI_BadMotions cI_BadMotions kI_BadMotions, (fun_mk (st := s_X_BadMotions) lI_BadMotions cI_BadMotions kI_BadMotions).binds (ps := ["self", "error"]) fun _ _ _ _ _ _ us hl => match us, hl with | [_, _], _ => rfl⟩,
     C_BadText := C_BadText, g_BadText := PySem.W.mg_of X G gc_BadText,
     fI_BadText := fI_BadText, fdI_BadText := _, X_BadText := ⟨PySem.W.mg_of X G gc_BadText, ⟨⟨_, _, _, _, _, _, _, _, _, _, _, _, _, _, _, xL_BadText, by rfl⟩, sa_BadText, eC_BadText, tC_BadText, kC_BadText⟩, iC_BadText, tI_BadText, no_BadText, ⟨ga_BadText, gg_BadText, eC_BadText, hd_BadText⟩, ⟨ha_BadText, hn_BadText, ht_BadText, hm_BadText⟩, fun_mk (st := s_X_BadText) lI_BadText cI_BadText kI_BadText, (fun_mk (st := s_X_BadText) lI_BadText cI_BadText kI_BadText).binds (ps := ["self", "index"]) fun _ _ _ _ _ _ us hl => match us, hl with | [_, _], _ => rfl⟩,
     C_NoIndex := C_NoIndex, g_NoIndex := PySem.W.mg_of X G gc_NoIndex,
     fI_NoIndex := fI_NoIndex, fdI_NoIndex := _, X_NoIndex := ⟨PySem.W.mg_of X G gc_NoIndex, ⟨⟨_, _, _, _, _, _, _, _, _, _, _, _, _, _, _, xL_NoIndex, by rfl⟩, sa_NoIndex, eC_NoIndex, tC_NoIndex, kC_NoIndex⟩, iC_NoIndex, tI_NoIndex, no_NoIndex, ⟨ga_NoIndex, gg_NoIndex, eC_NoIndex, hd_NoIndex⟩, ⟨ha_NoIndex, hn_NoIndex, ht_NoIndex, hm_NoIndex⟩, fun_mk (st := s_X_NoIndex) lI_NoIndex cI_NoIndex kI_NoIndex, (fun_mk (st := s_X_NoIndex) lI_NoIndex cI_NoIndex kI_NoIndex).binds (ps := ["self", "index"]) fun _ _ _ _ _ _ us hl => match us, hl with | [_, _], _ => rfl⟩,
     kit0 := kit0,
     kit1 := kit1,
     kit2 := kit2,
     kit3 := kit3,
     z_ValueError := PySem.W.mg_none_of X G z_ValueError,
     z_abs := PySem.W.mg_none_of X G z_abs,
     z_all := PySem.W.mg_none_of X G z_all,
     z_bool := PySem.W.mg_none_of X G z_bool,
     z_enumerate := PySem.W.mg_none_of X G z_enumerate,
     z_int := PySem.W.mg_none_of X G z_int,
     z_isinstance := PySem.W.mg_none_of X G z_isinstance,
     z_len := PySem.W.mg_none_of X G z_len,
     z_list := PySem.W.mg_none_of X G z_list,
     z_min := PySem.W.mg_none_of X G z_min,
     z_range := PySem.W.mg_none_of X G z_range,
     z_repr := PySem.W.mg_none_of X G z_repr,
     z_str := PySem.W.mg_none_of X G z_str,
     z_tuple := PySem.W.mg_none_of X G z_tuple,
     t_DIGITS := t_DIGITS, c_DIGITS := PySem.W.mg_of X G c_DIGITS,
     a_KINDS := a_KINDS, c_KINDS := PySem.W.mg_of X G c_KINDS, s_KINDS := fun H => .inr ⟨_, _, _, l_KINDS, rfl, rfl, Nat.le_of_lt (small1000 (by show 2 ≤ 1000; decide)), .cons ⟨_, rfl⟩ (.cons ⟨_, rfl⟩ (.nil))⟩,
     t_LIMIT := t_LIMIT, c_LIMIT := PySem.W.mg_of X G c_LIMIT,
     t_MAX_LAMPS := t_MAX_LAMPS, c_MAX_LAMPS := PySem.W.mg_of X G c_MAX_LAMPS,
     t_MAX_MINUTE := t_MAX_MINUTE, c_MAX_MINUTE := PySem.W.mg_of X G c_MAX_MINUTE,
     t_MAX_RUNS := t_MAX_RUNS, c_MAX_RUNS := PySem.W.mg_of X G c_MAX_RUNS,
     t_MAX_STRETCHES := t_MAX_STRETCHES, c_MAX_STRETCHES := PySem.W.mg_of X G c_MAX_STRETCHES,
     t_NONE := t_NONE, c_NONE := PySem.W.mg_of X G c_NONE }, _, _, _, _, _, _, rfl⟩
theorem law_end {l : PySem.W.OpenLaw} {w : World} {K : PySem.W.Frag} {mg : Str → Option Value} {fa : Addr} (hmg : mg "law" = some (.ref fa))
    (M : ∃ (T : All K mg) (kV dc pm : Value) (an : Option Addr) (cd ct : Value), T.fd_law = PySem.W.fnOf "law" "law" (defArgs s_law) (defBody s_law) (defScope s_law) .none kV dc pm an cd ct) :
    ∃ fd : FuncData, (∀ (s : Shared) (u : Value), BindsTo s fd ⟨[u], []⟩ [("script", u)]) ∧ ∀ base : Heap, K.In base → base.Ns mainGlobals mg → FnG l.prog w K mg base CX0 8 fa fd ["script"] (sp_law K) := by
  obtain ⟨T, kV, dc, pm, an, cd, ct, hfd⟩ := M
  have e : T.f_law = fa := by
    have h := T.D_law.g
    rw [hmg] at h
    exact (Value.ref.inj (Option.some.inj h)).symm
  refine ⟨T.fd_law, fun s u => ?_, fun base _ _ => ?_⟩
  · rw [hfd]
    exact BindsTo.of_eq rfl
  · rw [← e]
    exact ok_law T
end Lg
open PySem PySem.W PyProof.Rows
set_option maxRecDepth 100000 in
set_option maxHeartbeats 0 in
theorem PySem.Challenge.cw_lampstays_k72_other_texts_refused_holds : PySem.Challenge.rw_lampstays_k72_other_texts_refused.Holds := by
  w_on; o_law; k_head; (case hw => w_witness2)
  k_fill
  refine Lm.walkG (l := PySem.Challenge.rw_lampstays_k72_other_texts_refused) (n := 63) (k := 8) (sp := Lm.sp_law) (x := "script") rfl (by decide) rfl ⟨rfl, by decide, by decide⟩ (fun w h Y => PySem.W.kIn_of Y) ?F Lm.sp_law_ok
  case F =>
    intro w mg fa h KX G hmg
    refine Lg.law_end (l := PySem.Challenge.rw_lampstays_k72_other_texts_refused) hmg ?lmT
    case lmT =>
      refine' Lg.all_mk KX G ?a0 ?l0 ?c0 ?k0 ?a1 ?l1 ?c1 ?k1 ?a2 ?l2 ?c2 ?k2 ?a3 ?l3 ?c3 ?k3 ?a4 ?l4 ?c4 ?k4 ?a5 ?l5 ?c5 ?k5 ?a6 ?l6 ?c6 ?k6 ?a7 ?l7 ?c7 ?k7 ?a8 ?l8 ?c8 ?k8 ?a9 ?l9 ?c9 ?k9 ?a10 ?l10 ?c10 ?k10 ?a11 ?l11 ?c11 ?k11 ?a12 ?l12 ?c12 ?k12 ?a13 ?l13 ?c13 ?k13 ?a14 ?l14 ?c14 ?k14 ?a15 ?l15 ?c15 ?k15 ?a16 ?l16 ?c16 ?k16 ?a17 ?l17 ?c17 ?k17 ?a18 ?l18 ?c18 ?k18 ?a19 ?l19 ?c19 ?k19 ?a20 ?l20 ?c20 ?k20 ?a21 ?l21 ?c21 ?k21 ?a22 ?l22 ?c22 ?k22 ?a23 ?l23 ?c23 ?k23 ?a24 ?l24 ?c24 ?k24 ?a25 ?l25 ?c25 ?k25 ?a26 ?l26 ?c26 ?k26 ?a27 ?l27 ?c27 ?k27 ?a28 ?l28 ?c28 ?k28 ?a29 ?l29 ?c29 ?k29 ?a30 ?l30 ?c30 ?k30 ?a31 ?l31 ?c31 ?k31 ?a32 ?l32 ?c32 ?k32 ?a33 ?l33 ?c33 ?k33 ?a34 ?l34 ?c34 ?k34 ?a35 ?l35 ?c35 ?k35 ?a36 ?l36 ?c36 ?k36 ?gc_LampError ?gc_BadLamp ?xL_BadLamp ?sa_BadLamp ?eC_BadLamp ?tC_BadLamp ?kC_BadLamp ?iC_BadLamp ?tI_BadLamp ?no_BadLamp ?ga_BadLamp ?gg_BadLamp ?hd_BadLamp ?ha_BadLamp ?hn_BadLamp ?ht_BadLamp ?hm_BadLamp ?lI_BadLamp ?cI_BadLamp ?kI_BadLamp ?gc_BadLog ?xL_BadLog ?sa_BadLog ?eC_BadLog ?tC_BadLog ?kC_BadLog ?iC_BadLog ?tI_BadLog ?no_BadLog ?ga_BadLog ?gg_BadLog ?hd_BadLog ?ha_BadLog ?hn_BadLog ?ht_BadLog ?hm_BadLog ?lI_BadLog ?cI_BadLog ?kI_BadLog ?gc_BadMotions ?xL_BadMotions ?sa_BadMotions ?eC_BadMotions ?tC_BadMotions ?kC_BadMotions ?iC_BadMotions ?tI_BadMotions ?no_BadMotions ?ga_BadMotions ?gg_BadMotions ?hd_BadMotions ?ha_BadMotions ?hn_BadMotions ?ht_BadMotions ?hm_BadMotions ?lI_BadMotions ?cI_BadMotions ?kI_BadMotions ?gc_BadText ?xL_BadText ?sa_BadText ?eC_BadText ?tC_BadText ?kC_BadText ?iC_BadText ?tI_BadText ?no_BadText ?ga_BadText ?gg_BadText ?hd_BadText ?ha_BadText ?hn_BadText ?ht_BadText ?hm_BadText ?lI_BadText ?cI_BadText ?kI_BadText ?gc_NoIndex ?xL_NoIndex ?sa_NoIndex ?eC_NoIndex ?tC_NoIndex ?kC_NoIndex ?iC_NoIndex ?tI_NoIndex ?no_NoIndex ?ga_NoIndex ?gg_NoIndex ?hd_NoIndex ?ha_NoIndex ?hn_NoIndex ?ht_NoIndex ?hm_NoIndex ?lI_NoIndex ?cI_NoIndex ?kI_NoIndex ?kit0 ?kit1 ?kit2 ?kit3 ?z_ValueError ?z_abs ?z_all ?z_bool ?z_enumerate ?z_int ?z_isinstance ?z_len ?z_list ?z_min ?z_range ?z_repr ?z_str ?z_tuple ?c_DIGITS ?c_KINDS ?l_KINDS ?c_LIMIT ?c_MAX_LAMPS ?c_MAX_MINUTE ?c_MAX_RUNS ?c_MAX_STRETCHES ?c_NONE
      (case a0 => k_is)
      (case l0 => k_is)
      (case c0 => k_is)
      (case k0 => k_is)
      (case a1 => k_is)
      (case l1 => k_is)
      (case c1 => k_is)
      (case k1 => k_is)
      (case a2 => k_is)
      (case l2 => k_is)
      (case c2 => k_is)
      (case k2 => k_is)
      (case a3 => k_is)
      (case l3 => k_is)
      (case c3 => k_is)
      (case k3 => k_is)
      (case a4 => k_is)
      (case l4 => k_is)
      (case c4 => k_is)
      (case k4 => k_is)
      (case a5 => k_is)
      (case l5 => k_is)
      (case c5 => k_is)
      (case k5 => k_is)
      (case a6 => k_is)
      (case l6 => k_is)
      (case c6 => k_is)
      (case k6 => k_is)
      (case a7 => k_is)
      (case l7 => k_is)
      (case c7 => k_is)
      (case k7 => k_is)
      (case a8 => k_is)
      (case l8 => k_is)
      (case c8 => k_is)
      (case k8 => k_is)
      (case a9 => k_is)
      (case l9 => k_is)
      (case c9 => k_is)
      (case k9 => k_is)
      (case a10 => k_is)
      (case l10 => k_is)
      (case c10 => k_is)
      (case k10 => k_is)
      (case a11 => k_is)
      (case l11 => k_is)
      (case c11 => k_is)
      (case k11 => k_is)
      (case a12 => k_is)
      (case l12 => k_is)
      (case c12 => k_is)
      (case k12 => k_is)
      (case a13 => k_is)
      (case l13 => k_is)
      (case c13 => k_is)
      (case k13 => k_is)
      (case a14 => k_is)
      (case l14 => k_is)
      (case c14 => k_is)
      (case k14 => k_is)
      (case a15 => k_is)
      (case l15 => k_is)
      (case c15 => k_is)
      (case k15 => k_is)
      (case a16 => k_is)
      (case l16 => k_is)
      (case c16 => k_is)
      (case k16 => k_is)
      (case a17 => k_is)
      (case l17 => k_is)
      (case c17 => k_is)
      (case k17 => k_is)
      (case a18 => k_is)
      (case l18 => k_is)
      (case c18 => k_is)
      (case k18 => k_is)
      (case a19 => k_is)
      (case l19 => k_is)
      (case c19 => k_is)
      (case k19 => k_is)
      (case a20 => k_is)
      (case l20 => k_is)
      (case c20 => k_is)
      (case k20 => k_is)
      (case a21 => k_is)
      (case l21 => k_is)
      (case c21 => k_is)
      (case k21 => k_is)
      (case a22 => k_is)
      (case l22 => k_is)
      (case c22 => k_is)
      (case k22 => k_is)
      (case a23 => k_is)
      (case l23 => k_is)
      (case c23 => k_is)
      (case k23 => k_is)
      (case a24 => k_is)
      (case l24 => k_is)
      (case c24 => k_is)
      (case k24 => k_is)
      (case a25 => k_is)
      (case l25 => k_is)
      (case c25 => k_is)
      (case k25 => k_is)
      (case a26 => k_is)
      (case l26 => k_is)
      (case c26 => k_is)
      (case k26 => k_is)
      (case a27 => k_is)
      (case l27 => k_is)
      (case c27 => k_is)
      (case k27 => k_is)
      (case a28 => k_is)
      (case l28 => k_is)
      (case c28 => k_is)
      (case k28 => k_is)
      (case a29 => k_is)
      (case l29 => k_is)
      (case c29 => k_is)
      (case k29 => k_is)
      (case a30 => k_is)
      (case l30 => k_is)
      (case c30 => k_is)
      (case k30 => k_is)
      (case a31 => k_is)
      (case l31 => k_is)
      (case c31 => k_is)
      (case k31 => k_is)
      (case a32 => k_is)
      (case l32 => k_is)
      (case c32 => k_is)
      (case k32 => k_is)
      (case a33 => k_is)
      (case l33 => k_is)
      (case c33 => k_is)
      (case k33 => k_is)
      (case a34 => k_is)
      (case l34 => k_is)
      (case c34 => k_is)
      (case k34 => k_is)
      (case a35 => k_is)
      (case l35 => k_is)
      (case c35 => k_is)
      (case k35 => k_is)
      (case a36 => k_is)
      (case l36 => k_is)
      (case c36 => k_is)
      (case k36 => k_is)
      (case gc_LampError => k_is)
      (case gc_BadLamp => k_is)
      (case xL_BadLamp => k_is)
      (case sa_BadLamp => k_is)
      (case eC_BadLamp => k_is)
      (case tC_BadLamp => k_is)
      (case kC_BadLamp => k_is)
      (case iC_BadLamp => k_is)
      (case tI_BadLamp => k_is)
      (case no_BadLamp => k_is)
      (case ga_BadLamp => k_is)
      (case gg_BadLamp => k_is)
      (case hd_BadLamp => k_is)
      (case ha_BadLamp => k_is)
      (case hn_BadLamp => k_is)
      (case ht_BadLamp => k_is)
      (case hm_BadLamp => k_is)
      (case lI_BadLamp => k_is)
      (case cI_BadLamp => k_is)
      (case kI_BadLamp => k_is)
      (case gc_BadLog => k_is)
      (case xL_BadLog => k_is)
      (case sa_BadLog => k_is)
      (case eC_BadLog => k_is)
      (case tC_BadLog => k_is)
      (case kC_BadLog => k_is)
      (case iC_BadLog => k_is)
      (case tI_BadLog => k_is)
      (case no_BadLog => k_is)
      (case ga_BadLog => k_is)
      (case gg_BadLog => k_is)
      (case hd_BadLog => k_is)
      (case ha_BadLog => k_is)
      (case hn_BadLog => k_is)
      (case ht_BadLog => k_is)
      (case hm_BadLog => k_is)
      (case lI_BadLog => k_is)
      (case cI_BadLog => k_is)
      (case kI_BadLog => k_is)
      (case gc_BadMotions => k_is)
      (case xL_BadMotions => k_is)
      (case sa_BadMotions => k_is)
      (case eC_BadMotions => k_is)
      (case tC_BadMotions => k_is)
      (case kC_BadMotions => k_is)
      (case iC_BadMotions => k_is)
      (case tI_BadMotions => k_is)
      (case no_BadMotions => k_is)
      (case ga_BadMotions => k_is)
      (case gg_BadMotions => k_is)
      (case hd_BadMotions => k_is)
      (case ha_BadMotions => k_is)
      (case hn_BadMotions => k_is)
      (case ht_BadMotions => k_is)
      (case hm_BadMotions => k_is)
      (case lI_BadMotions => k_is)
      (case cI_BadMotions => k_is)
      (case kI_BadMotions => k_is)
      (case gc_BadText => k_is)
      (case xL_BadText => k_is)
      (case sa_BadText => k_is)
      (case eC_BadText => k_is)
      (case tC_BadText => k_is)
      (case kC_BadText => k_is)
      (case iC_BadText => k_is)
      (case tI_BadText => k_is)
      (case no_BadText => k_is)
      (case ga_BadText => k_is)
      (case gg_BadText => k_is)
      (case hd_BadText => k_is)
      (case ha_BadText => k_is)
      (case hn_BadText => k_is)
      (case ht_BadText => k_is)
      (case hm_BadText => k_is)
      (case lI_BadText => k_is)
      (case cI_BadText => k_is)
      (case kI_BadText => k_is)
      (case gc_NoIndex => k_is)
      (case xL_NoIndex => k_is)
      (case sa_NoIndex => k_is)
      (case eC_NoIndex => k_is)
      (case tC_NoIndex => k_is)
      (case kC_NoIndex => k_is)
      (case iC_NoIndex => k_is)
      (case tI_NoIndex => k_is)
      (case no_NoIndex => k_is)
      (case ga_NoIndex => k_is)
      (case gg_NoIndex => k_is)
      (case hd_NoIndex => k_is)
      (case ha_NoIndex => k_is)
      (case hn_NoIndex => k_is)
      (case ht_NoIndex => k_is)
      (case hm_NoIndex => k_is)
      (case lI_NoIndex => k_is)
      (case cI_NoIndex => k_is)
      (case kI_NoIndex => k_is)
      (case kit0 => first | kit_is | kts_exm)
      (case kit1 => first | kit_is | kts_exm)
      (case kit2 => first | kit_is | kts_exm)
      (case kit3 => first | kit_is | kts_exm)
      (case z_ValueError => k_is)
      (case z_abs => k_is)
      (case z_all => k_is)
      (case z_bool => k_is)
      (case z_enumerate => k_is)
      (case z_int => k_is)
      (case z_isinstance => k_is)
      (case z_len => k_is)
      (case z_list => k_is)
      (case z_min => k_is)
      (case z_range => k_is)
      (case z_repr => k_is)
      (case z_str => k_is)
      (case z_tuple => k_is)
      (case c_DIGITS => k_is)
      (case c_KINDS => k_is)
      (case l_KINDS => k_is)
      (case c_LIMIT => k_is)
      (case c_MAX_LAMPS => k_is)
      (case c_MAX_MINUTE => k_is)
      (case c_MAX_RUNS => k_is)
      (case c_MAX_STRETCHES => k_is)
      (case c_NONE => k_is)
