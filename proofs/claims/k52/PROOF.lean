import PyProof.Rows.All
import Wide.All
import OpenK.AllK
import Wide.FinOn
import PyProof.ReprReads
import PyProof.ReprRoads
import HandS.ForMost
import HandS.Conv
import KE.SortData
import KE.KeyNested
import HandS.TupSets
import HandS.Dict
import HandS.TupLen
import PyProof.Rows.TupTab
import HandS.DictComp
import HandS.ExcInit
import KE.KExcIs
import HandS.Defaults
import HandS.Wide
import HandS.Style
import HandS.IsInst
import HandS.TupLe
import HandS.Iter
import KE.GoesMore
import KE.GoesZip
import KE.KDictZip
import HandS.Zip
import HandS.TupAny
import PyProof.ListStr
import PyProof.Rows.CountFlat
import HandS.Walk
import KE.KDictSum
import KE.KDictCopyH
import HandS.DictTup
import KE.KBits
import KE.KItemsList
import HandS.ListItems
import KE.DataEq
import KE.KDictKeyed
import KE.KDictWalk
import PySem.Challenge.RW_onlyseen_k52_whole_least_true_round_by_r
set_option Elab.async false
set_option linter.all false
set_option maxRecDepth 100000
set_option maxHeartbeats 4000000
namespace L2
open PySem PySem.Spec PyProof.Rows
def keyD : Key → PyData
  | .inl i => .int i
  | .inr x => .str x
mutual
inductive Dat (H : Hp) : V → PyData → Prop
  | non : Dat H .non .none
  | bl (b : Bool) : Dat H (.bl b) (.bool b)
  | int (i : Int) : Dat H (.int i) (.int i)
  | str (x : Str) : Dat H (.str x) (.str x)
  | lst {a : Addr} {xs : List V} {ds : List PyData} : H a = some (.lst xs) → DatAll H xs ds → Dat H (.ref a) (.list ds)
  | tup {a : Addr} {xs : List V} {ds : List PyData} : H a = some (.tup xs) → DatAll H xs ds → Dat H (.ref a) (.tuple ds)
  | dct {a : Addr} {kvs : List (Key × V)} {ds : List (PyData × PyData)} : H a = some (.dK kvs) → DatKv H kvs ds → Dat H (.ref a) (.dict ds)
inductive DatAll (H : Hp) : List V → List PyData → Prop
  | nil : DatAll H [] []
  | cons {v : V} {d : PyData} {vs : List V} {ds : List PyData} : Dat H v d → DatAll H vs ds → DatAll H (v :: vs) (d :: ds)
inductive DatKv (H : Hp) : List (Key × V) → List (PyData × PyData) → Prop
  | nil : DatKv H [] []
  | cons {k : Key} {v : V} {d : PyData} {kvs : List (Key × V)} {ds : List (PyData × PyData)} : Dat H v d → DatKv H kvs ds → DatKv H ((k, v) :: kvs) ((keyD k, d) :: ds)
end
mutual
theorem Dat.same {H H' : Hp} (S : Same H H') : ∀ {v : V} {d : PyData}, Dat H v d → Dat H' v d
  | _, _, .non => .non
  | _, _, .bl b => .bl b
  | _, _, .int i => .int i
  | _, _, .str x => .str x
  | _, _, .lst e h => .lst (S _ _ e) (DatAll.same S h)
  | _, _, .tup e h => .tup (S _ _ e) (DatAll.same S h)
  | _, _, .dct e h => .dct (S _ _ e) (DatKv.same S h)
theorem DatAll.same {H H' : Hp} (S : Same H H') : ∀ {vs : List V} {ds : List PyData}, DatAll H vs ds → DatAll H' vs ds
  | _, _, .nil => .nil
  | _, _, .cons h t => .cons (Dat.same S h) (DatAll.same S t)
theorem DatKv.same {H H' : Hp} (S : Same H H') : ∀ {kvs : List (Key × V)} {ds : List (PyData × PyData)}, DatKv H kvs ds → DatKv H' kvs ds
  | _, _, .nil => .nil
  | _, _, .cons h t => .cons (Dat.same S h) (DatKv.same S t)
end
theorem DatAll.snoc {H : Hp} : ∀ {vs : List V} {ds : List PyData} {v : V} {d : PyData}, DatAll H vs ds → Dat H v d → DatAll H (vs ++ [v]) (ds ++ [d])
  | _, _, _, _, .nil, h => .cons h .nil
  | _, _, _, _, .cons a t, h => .cons a (DatAll.snoc t h)
theorem DatAll.len {H : Hp} : ∀ {vs : List V} {ds : List PyData}, DatAll H vs ds → vs.length = ds.length
  | _, _, .nil => rfl
  | _, _, .cons _ t => by rw [List.length_cons, List.length_cons, DatAll.len t]
section
variable {P : Program} {w : World} {H : Hp} {h : Heap}
mutual
theorem reads_of_dat (ok : HOk P w H h) : ∀ {v : V} {d : PyData} {u : Value}, Dat H v d → RelV v u → ∃ as, Reads h u d as
  | _, _, _, .non, r => by cases (show _ = Value.none from r); exact ⟨_, .none⟩
  | _, _, _, .bl b, r => by cases (show _ = Value.bool b from r); exact ⟨_, .bool b⟩
  | _, _, _, .int i, r => by obtain ⟨t, rfl⟩ := r; exact ⟨_, .int i t⟩
  | _, _, _, .str x, r => by obtain ⟨t, rfl⟩ := r; exact ⟨_, .str x t⟩
  | _, _, _, .lst (a := a) e hh, r => by
    cases (show _ = Value.ref a from r)
    obtain ⟨_, its, n, rv, e1⟩ := (show ObjOk P w H h a (.lst _) from ok a _ e)
    obtain ⟨as, R⟩ := readsAll_of_dat ok hh rv
    exact ⟨_, .list e1 rfl rfl R⟩
  | _, _, _, .tup (a := a) e hh, r => by
    cases (show _ = Value.ref a from r)
    obtain ⟨_, its, rv, o, e1, e2, n, e3⟩ := (show ObjOk P w H h a (.tup _) from ok a _ e)
    obtain ⟨as, R⟩ := readsAll_of_dat ok hh rv
    exact ⟨_, .tuple e1 e2 e3 R⟩
  | _, _, _, .dct (a := a) e hh, r => by
    cases (show _ = Value.ref a from r)
    obtain ⟨_, _, vs, rv, o, es, ep, e1, e2, e3, e4, e5, e6⟩ := (show ObjOk P w H h a (.dK _) from ok a _ e)
    obtain ⟨⟨as, A⟩, ⟨bs, B⟩⟩ := readsKv_of_dat ok hh rv e5
    exact ⟨_, .dict e1 e2.1 e3 A B⟩
theorem readsAll_of_dat (ok : HOk P w H h) : ∀ {vs : List V} {ds : List PyData} {us : List Value}, DatAll H vs ds → Vals vs us → ∃ as, ReadsAll h us ds as
  | _, _, _, .nil, .nil => ⟨_, .nil⟩
  | _, _, _, .cons a t, .cons r q => by
    obtain ⟨as, A⟩ := reads_of_dat ok a r
    obtain ⟨bs, B⟩ := readsAll_of_dat ok t q
    exact ⟨_, .cons A B⟩
theorem readsKv_of_dat (ok : HOk P w H h) : ∀ {kvs : List (Key × V)} {ds : List (PyData × PyData)} {vs : List (Key × Value)} {es : List DictEntry}, DatKv H kvs ds → KV kvs vs → Pairs (mixKind P w) es vs →
    (∃ as, ReadsAll h (es.map (·.key)) (ds.map (·.1)) as) ∧ ∃ bs, ReadsAll h (es.map (·.val)) (ds.map (·.2)) bs
  | _, _, _, _, .nil, .nil, .nil => ⟨⟨_, .nil⟩, ⟨_, .nil⟩⟩
  | _, _, _, _, .cons (k := k) hd hq, .cons r q, .cons k1 e1 p => by
    obtain ⟨rk, rv⟩ := r
    obtain ⟨⟨as, A⟩, ⟨bs, B⟩⟩ := readsKv_of_dat ok hq q p
    obtain ⟨cs, C⟩ := reads_of_dat ok hd rv
    refine ⟨?_, ⟨_, .cons (by show Reads h (DictEntry.val _) _ _; rw [e1]; exact C) B⟩⟩
    dsimp only at rk
    subst rk
    rcases keyIs_shape k1 with ⟨i, t, ek, e⟩ | ⟨x, t, ek, e⟩
    · rw [ek]; exact ⟨_, .cons (by show Reads h (DictEntry.key _) (PyData.int i) _; rw [e]; exact .int i t) A⟩
    · rw [ek]; exact ⟨_, .cons (by show Reads h (DictEntry.key _) (PyData.str x) _; rw [e]; exact .str x t) A⟩
end
theorem reprKeys_of {as : List Addr} {d : Nat} : ∀ {kvs : List (Key × V)} {ds : List (PyData × PyData)} {vs : List (Key × Value)} {es : List DictEntry}, DatKv H kvs ds → KV kvs vs → Pairs (mixKind P w) es vs → PyData.showableAll (ds.map (·.1)) = true →
    (∀ t ∈ PyData.shownAll (ds.map (·.1)), t.length ≤ sizeLine) → ReprAllK P w as h d (es.map (·.key)) (PyData.shownAll (ds.map (·.1)))
  | _, _, _, _, .nil, .nil, .nil, _, _ => by simp only [List.map_nil, PyData.shownAll]; exact .nil
  | _, _, _, _, .cons (k := k) hd hq, .cons r q, .cons k1 e1 p, hs, hz => by
    obtain ⟨rk, rv⟩ := r
    dsimp only at rk
    subst rk
    simp only [List.map_cons, PyData.showableAll, Bool.and_eq_true] at hs
    simp only [List.map_cons, PyData.shownAll] at hz ⊢
    refine .cons ?_ (reprKeys_of hq q p hs.2 fun t ht => hz t (List.mem_cons_of_mem _ ht))
    rcases keyIs_shape k1 with ⟨i, t, ek, e⟩ | ⟨x, t, ek, e⟩
    · rw [ek] at hs ⊢
      rw [e]
      simp only [keyD, PyData.shown]
      exact .of_is (ReprIs.int t (by simpa [keyD, PyData.showable] using hs.1)) _ _ _
    · rw [ek] at hz ⊢
      rw [e]
      simp only [keyD, PyData.shown]
      exact .of_is (ReprIs.str x t (by have := hz _ (List.mem_cons_self ..); simpa only [keyD, PyData.shown] using this)) _ _ _
mutual
theorem reprK_of_dat (ok : HOk P w H h) : ∀ {v : V} {d : PyData} {u : Value}, Dat H v d → RelV v u → d.showable = true → d.shown.length ≤ sizeLine → ∃ bs, ReadAtMost h d.depth bs ∧ ReprK P w bs h d.depth u d.shown
  | _, _, _, .non, r, _, _ => by cases (show _ = Value.none from r); exact ⟨[], (fun _ h => nomatch h), by simp only [PyData.shown]; exact .of_is ReprIs.none _ _ _⟩
  | _, _, _, .bl b, r, _, _ => by cases (show _ = Value.bool b from r); exact ⟨[], (fun _ h => nomatch h), by simp only [PyData.shown]; exact .of_is (ReprIs.bool b) _ _ _⟩
  | _, _, _, .int i, r, hs, _ => by obtain ⟨t, rfl⟩ := r; exact ⟨[], (fun _ h => nomatch h), by simp only [PyData.shown]; exact .of_is (ReprIs.int t (by simpa [PyData.showable] using hs)) _ _ _⟩
  | _, _, _, .str x, r, _, hz => by obtain ⟨t, rfl⟩ := r; exact ⟨[], (fun _ h => nomatch h), by simp only [PyData.shown]; exact .of_is (ReprIs.str x t (by simpa only [PyData.shown] using hz)) _ _ _⟩
  | _, _, _, .lst (a := a) (xs := xs) (ds := ds) e hh, r, hs, hz => by
    obtain ⟨as, R0⟩ := reads_of_dat ok (Dat.lst e hh) r
    cases (show _ = Value.ref a from r)
    obtain ⟨_, its, n, rv, e1⟩ := (show ObjOk P w H h a (.lst _) from ok a _ e)
    have hz' : (listText (PyData.shownAll ds)).length ≤ sizeLine := by simpa only [PyData.shown] using hz
    obtain ⟨bs, hb, hk⟩ := reprAllK_of_dat ok hh rv (by simpa [PyData.showable] using hs) (fun t ht => Nat.le_trans (listText_mem_le ht) hz')
    have hna : a ∉ bs := not_mem_of_deeper R0 (by simp only [PyData.depth]; omega) hb
    refine ⟨a :: bs, ReadAtMost.cons R0 (by simp only [PyData.depth]; omega) hb, ?_⟩
    simp only [PyData.depth, PyData.shown]
    cases its with
    | nil =>
      cases rv
      cases hh
      simp only [PyData.shownAll, listText_nil]
      exact ReprK.listEmpty e1 rfl rfl
    | cons x l => exact ReprK.list e1 rfl rfl hna (by simpa using hk.length_eq) (fun i y e => hk.item i y (by simpa using e))
  | _, _, _, .tup (a := a) (xs := xs) (ds := ds) e hh, r, hs, hz => by
    obtain ⟨as, R0⟩ := reads_of_dat ok (Dat.tup e hh) r
    cases (show _ = Value.ref a from r)
    obtain ⟨_, its, rv, o, e1, e2, n, e3⟩ := (show ObjOk P w H h a (.tup _) from ok a _ e)
    have hz' : (tupleText (PyData.shownAll ds)).length ≤ sizeLine := by simpa only [PyData.shown] using hz
    obtain ⟨bs, hb, hk⟩ := reprAllK_of_dat ok hh rv (by simpa [PyData.showable] using hs) (fun t ht => Nat.le_trans (tupleText_mem_le ht) hz')
    have hna : a ∉ bs := not_mem_of_deeper R0 (by simp only [PyData.depth]; omega) hb
    refine ⟨a :: bs, ReadAtMost.cons R0 (by simp only [PyData.depth]; omega) hb, ?_⟩
    simp only [PyData.depth, PyData.shown]
    exact ReprK.tuple e1 e2 e3 hna (by simpa using hk)
  | _, _, _, .dct (a := a) (kvs := kvs) (ds := ds) e hh, r, hs, hz => by
    obtain ⟨as, R0⟩ := reads_of_dat ok (Dat.dct e hh) r
    cases (show _ = Value.ref a from r)
    obtain ⟨_, hsys, vs, rv, o, es, ep, e1, e2, e3, e4, e5, e6⟩ := (show ObjOk P w H h a (.dK _) from ok a _ e)
    have hz' : (dictText (PyData.shownKv ds)).length ≤ sizeLine := by simpa only [PyData.shown] using hz
    obtain ⟨hs1, hs2⟩ := PyData.showableKv_split ds (by simpa [PyData.showable] using hs)
    have k1 : ReprAllK P w [] h (PyData.depthKv ds) (es.toList.map (·.key)) (PyData.shownAll (ds.map (·.1))) := reprKeys_of hh rv e5 hs1 (fun t ht => let ⟨p, hp, hl⟩ := PyData.shownKv_key_le ds t ht; Nat.le_trans hl (Nat.le_trans (dictText_mem_le hp) hz'))
    obtain ⟨b2, hb2, k2⟩ := reprVals_of_dat ok hh rv e5 hs2 (fun t ht => let ⟨p, hp, hl⟩ := PyData.shownKv_val_le ds t ht; Nat.le_trans hl (Nat.le_trans (dictText_mem_le hp) hz'))
    have hb : ReadAtMost h (PyData.depthKv ds) b2 := hb2.mono (PyData.depthAll_vals_le ds)
    have hna : a ∉ b2 := not_mem_of_deeper R0 (by simp only [PyData.depth]; omega) hb
    refine ⟨a :: b2, ReadAtMost.cons R0 (by simp only [PyData.depth]; omega) hb, ?_⟩
    simp only [PyData.depth, PyData.shown, PyData.shownKv_eq]
    exact ReprK.dict e1 e2.1 e3 hsys hna (ReprEntriesK.of_two es.toList _ _
      (k1.more_le (fun b hb => absurd hb (by simp)) (Nat.le_refl _)) (k2.more_le (fun b hb => hb) (PyData.depthAll_vals_le ds)))
theorem reprAllK_of_dat (ok : HOk P w H h) : ∀ {vs : List V} {ds : List PyData} {us : List Value}, DatAll H vs ds → Vals vs us → PyData.showableAll ds = true → (∀ t ∈ PyData.shownAll ds, t.length ≤ sizeLine) →
    ∃ bs, ReadAtMost h (PyData.depthAll ds) bs ∧ ReprAllK P w bs h (PyData.depthAll ds) us (PyData.shownAll ds)
  | _, _, _, .nil, .nil, _, _ => ⟨[], (fun _ h => nomatch h), by simp only [PyData.shownAll]; exact .nil⟩
  | _, _, _, .cons (d := d) (ds := ds) a t, .cons r q, hs, hz => by
    have hs' : d.showable = true ∧ PyData.showableAll ds = true := by simpa [PyData.showableAll] using hs
    obtain ⟨b1, hb1, k1⟩ := reprK_of_dat ok a r hs'.1 (hz _ (by simp only [PyData.shownAll]; exact List.mem_cons_self ..))
    obtain ⟨b2, hb2, k2⟩ := reprAllK_of_dat ok t q hs'.2 (fun t ht => hz t (by simp only [PyData.shownAll]; exact List.mem_cons_of_mem _ ht))
    refine ⟨b1 ++ b2, ?_, ?_⟩
    · simp only [PyData.depthAll]
      exact (hb1.mono (Nat.le_max_left _ _)).append (hb2.mono (Nat.le_max_right _ _))
    · simp only [PyData.depthAll, PyData.shownAll]
      exact .cons ((k1.more fun b hb => List.mem_append_left _ hb).level_le (Nat.le_max_left _ _)) (k2.more_le (fun b hb => List.mem_append_right _ hb) (Nat.le_max_right _ _))
theorem reprVals_of_dat (ok : HOk P w H h) : ∀ {kvs : List (Key × V)} {ds : List (PyData × PyData)} {vs : List (Key × Value)} {es : List DictEntry}, DatKv H kvs ds → KV kvs vs → Pairs (mixKind P w) es vs → PyData.showableAll (ds.map (·.2)) = true → (∀ t ∈ PyData.shownAll (ds.map (·.2)), t.length ≤ sizeLine) →
    ∃ bs, ReadAtMost h (PyData.depthAll (ds.map (·.2))) bs ∧ ReprAllK P w bs h (PyData.depthAll (ds.map (·.2))) (es.map (·.val)) (PyData.shownAll (ds.map (·.2)))
  | _, _, _, _, .nil, .nil, .nil, _, _ => ⟨[], (fun _ h => nomatch h), by simp only [List.map_nil, PyData.shownAll]; exact .nil⟩
  | _, _, _, _, .cons (d := d) (ds := ds) a t, .cons r q, .cons k1 e1 p, hs, hz => by
    obtain ⟨rk, rv⟩ := r
    have hs' : d.showable = true ∧ PyData.showableAll (ds.map (·.2)) = true := by simpa [PyData.showableAll] using hs
    obtain ⟨b1, hb1, k1⟩ := reprK_of_dat ok a rv hs'.1 (hz _ (by simp only [List.map_cons, PyData.shownAll]; exact List.mem_cons_self ..))
    obtain ⟨b2, hb2, k2⟩ := reprVals_of_dat ok t q p hs'.2 (fun t ht => hz t (by simp only [List.map_cons, PyData.shownAll]; exact List.mem_cons_of_mem _ ht))
    refine ⟨b1 ++ b2, ?_, ?_⟩
    · simp only [List.map_cons, PyData.depthAll]
      exact (hb1.mono (Nat.le_max_left _ _)).append (hb2.mono (Nat.le_max_right _ _))
    · simp only [List.map_cons, PyData.depthAll, PyData.shownAll]
      rw [e1]
      exact .cons ((k1.more fun b hb => List.mem_append_left _ hb).level_le (Nat.le_max_left _ _)) (k2.more_le (fun b hb => List.mem_append_right _ hb) (Nat.le_max_right _ _))
end
end
section
variable {X : Cx}
def rRepr : List V → Hp → VK → Prop := fun xs H Q => ∃ v d, xs = [v] ∧ Dat H v d ∧ d.showable = true ∧ d.depth ≤ 50 ∧ d.shown.length ≤ sizeLine ∧ Q (.str d.shown) H
theorem call_reprD (hg : X.A.guards = some []) (hu : X.A.units + 64 < cLine) : CallR X (.builtin "repr") rRepr := by
  intro pins s σ H xs us Q I r h
  obtain ⟨v, d, rfl, D, hs, hd, hz, q⟩ := h
  obtain ⟨u, rfl, ru⟩ := vals1 r
  have fin : ∀ (h' : Heap) (tk tk' : Tok), (∀ b o, s.heap.get? b = some o → h'.get? b = some o) → EP X pins σ Q (.str d.shown tk') { s with heap := h', toks := tk } := fun h' tk tk' k => ⟨.str d.shown, H, I.kept (t' := tk) k, ⟨_, rfl⟩, q⟩
  have nl : ∀ {b : Addr}, Clear ([] : List Code) b := fun {b} => Clear.nil b
  cases D with
  | non =>
    cases (show _ = Value.none from ru)
    simp only [PyData.shown] at fin
    exact PySem.P.repr_of_none (fin s.heap _ _ fun _ _ e => e)
  | bl b =>
    cases (show _ = Value.bool b from ru)
    simp only [PyData.shown] at fin
    exact PySem.P.repr_of_bool (fin s.heap _ _ fun _ _ e => e)
  | int i =>
    obtain ⟨t, rfl⟩ := ru
    simp only [PyData.shown] at fin
    exact PySem.P.repr_of_int (by simpa [PyData.showable] using hs) (fin s.heap _ _ fun _ _ e => e)
  | str x =>
    obtain ⟨t, rfl⟩ := ru
    simp only [PyData.shown] at fin
    exact PySem.P.repr_of_str (fin s.heap _ _ fun _ _ e => e) (by simpa only [PyData.shown] using hz)
  | @lst a xs ds e hh =>
    obtain ⟨as, R0⟩ := reads_of_dat I.hok (Dat.lst e hh) ru
    cases (show _ = Value.ref a from ru)
    obtain ⟨_, its, n, rv, e1⟩ := (show ObjOk X.prog X.w H s.heap a (.lst _) from I.hok a _ e)
    have hz' : (listText (PyData.shownAll ds)).length ≤ sizeLine := by simpa only [PyData.shown] using hz
    obtain ⟨bs, hb, hk⟩ := reprAllK_of_dat I.hok hh rv (by simpa [PyData.showable] using hs) (fun t ht => Nat.le_trans (listText_mem_le ht) hz')
    have hna : a ∉ bs := not_mem_of_deeper R0 (by simp only [PyData.depth]; omega) hb
    simp only [PyData.shown] at fin
    simp only [PyData.depth] at hd
    refine call_repr_slot (by omega) ⟨_, e1, rfl⟩ F.slot_list_repr.toG ?_
    cases its with
    | nil =>
      cases rv
      cases hh
      simp only [PyData.shownAll, listText_nil] at fin
      exact call_list_repr_empty ⟨_, e1, rfl⟩ e1 rfl ⟨_, _, rfl, fin s.heap _ _ fun _ _ e => e⟩
    | cons x l =>
      exact call_list_reprK (h₀ := s.heap) e1 rfl rfl hna (by simpa using hk.length_eq) (fun i y e => hk.item i y (by simpa using e)) hg (fun b _ => Clear.nil b) (by show X.A.units + 1 + _ < cLine; omega) (fun _ _ e => e) (fun h' u tk k => ⟨_, _, rfl, fin h' tk u k⟩) hz'
  | @tup a xs ds e hh =>
    obtain ⟨as, R0⟩ := reads_of_dat I.hok (Dat.tup e hh) ru
    cases (show _ = Value.ref a from ru)
    obtain ⟨_, its, rv, o, e1, e2, n, e3⟩ := (show ObjOk X.prog X.w H s.heap a (.tup _) from I.hok a _ e)
    have hz' : (tupleText (PyData.shownAll ds)).length ≤ sizeLine := by simpa only [PyData.shown] using hz
    obtain ⟨bs, hb, hk⟩ := reprAllK_of_dat I.hok hh rv (by simpa [PyData.showable] using hs) (fun t ht => Nat.le_trans (tupleText_mem_le ht) hz')
    have hna : a ∉ bs := not_mem_of_deeper R0 (by simp only [PyData.depth]; omega) hb
    simp only [PyData.shown] at fin
    simp only [PyData.depth] at hd
    refine call_repr_slot (by omega) ⟨_, e1, e2⟩ F.slot_tuple_repr ?_
    exact call_tuple_reprK (h₀ := s.heap) e1 e2 e3 hna (by simpa using hk) hg (fun b _ => Clear.nil b) (by show X.A.units + 1 + _ < cLine; omega) (fun _ _ e => e) (fun h' u tk k => ⟨_, _, rfl, fin h' tk u k⟩) hz'
  | @dct a kvs ds e hh =>
    obtain ⟨as, R0⟩ := reads_of_dat I.hok (Dat.dct e hh) ru
    cases (show _ = Value.ref a from ru)
    obtain ⟨_, hsys, vs, rv, o, es, ep, e1, e2, e3, e4, e5, e6⟩ := (show ObjOk X.prog X.w H s.heap a (.dK _) from I.hok a _ e)
    have hz' : (dictText (PyData.shownKv ds)).length ≤ sizeLine := by simpa only [PyData.shown] using hz
    obtain ⟨hs1, hs2⟩ := PyData.showableKv_split ds (by simpa [PyData.showable] using hs)
    have k1 : ReprAllK X.prog X.w [] s.heap (PyData.depthKv ds) (es.toList.map (·.key)) (PyData.shownAll (ds.map (·.1))) := reprKeys_of hh rv e5 hs1 (fun t ht => let ⟨p, hp, hl⟩ := PyData.shownKv_key_le ds t ht; Nat.le_trans hl (Nat.le_trans (dictText_mem_le hp) hz'))
    obtain ⟨b2, hb2, k2⟩ := reprVals_of_dat I.hok hh rv e5 hs2 (fun t ht => let ⟨p, hp, hl⟩ := PyData.shownKv_val_le ds t ht; Nat.le_trans hl (Nat.le_trans (dictText_mem_le hp) hz'))
    have hb : ReadAtMost s.heap (PyData.depthKv ds) b2 := hb2.mono (PyData.depthAll_vals_le ds)
    have hna : a ∉ b2 := not_mem_of_deeper R0 (by simp only [PyData.depth]; omega) hb
    simp only [PyData.shown, PyData.shownKv_eq] at fin
    simp only [PyData.depth] at hd
    refine call_repr_slot (by omega) ⟨_, e1, e2.1⟩ F.slot_dict_repr ?_
    exact call_dict_reprK (h₀ := s.heap) e1 e2.1 e3 hsys hna (ReprEntriesK.of_two es.toList _ _ (k1.more_le (fun b hb => absurd hb (by simp)) (Nat.le_refl _)) (k2.more_le (fun b hb => hb) (PyData.depthAll_vals_le ds)))
      hg (fun b _ => Clear.nil b) (by show X.A.units + 1 + _ < cLine; omega) (fun _ _ e => e) (fun h' u tk k => ⟨_, _, rfl, fin h' tk u k⟩) (by rw [← PyData.shownKv_eq]; exact hz')
end
end L2

set_option Elab.async false
set_option linter.all false
set_option maxRecDepth 100000
set_option maxHeartbeats 4000000
/-! sorting tuples of any lengths, the empty one too -/
namespace L2
open PySem PySem.W PySem.SeqAt PySem.Spec PyProof.Rows
section
variable {prog : Program} {w : World} {A : Around} {E : Value → Shared → Prop} {s : Shared}
theorem tupLt_call {Q : Value → Shared → Prop} {x y : Addr} {us vs : Array Value} {eqs lts : Nat → Bool} (hx : s.heap.IsTuple x us) (hy : s.heap.IsTuple y vs)
    (h1 : ∀ j (a : j < us.size) (b : j < vs.size), EqAt A.in1 s us[j] vs[j] (eqs j))
    (h2 : ∀ j (a : j < us.size) (b : j < vs.size), eqs j = false → RcLt A.in1 s us[j] vs[j] (lts j))
    (hq : Q (.bool (firstLt eqs lts (decide (us.size < vs.size)) (List.range (min us.size vs.size)))) s) :
    wpAny (model prog w) A (call (.builtin "tuple.__lt__") [.ref x, .ref y]) Q E s := by
  obtain ⟨⟨kx, dx, tx, sx⟩, gx, rfl, nx, rfl⟩ := hx
  obtain ⟨⟨ky, dy, ty, sy⟩, gy, rfl, ny, rfl⟩ := hy
  exact call_meets F.slot_tuple_lt ⟨_, gx, rfl⟩ F.entry_tuple_lt (F.args_tuple_lt_2 _ _) (tuple_ltAt x y us vs nx ny dx dy sx sy eqs lts) ⟨gx, gy, h1, h2, hq⟩
theorem oneLt_tups {f : Bool} {xs ys : List PyData} {u v : Value} {as bs : List Addr} {Q : Bool → Shared → Prop} (ra : Reads s.heap u (.tuple xs) as) (rb : Reads s.heap v (.tuple ys) bs) (hal : alikeAll xs ys = true)
    (hu : A.units + min (PyData.tuple xs).depth (PyData.tuple ys).depth < cLine) (hq : Q (dataLt (.tuple xs) (.tuple ys)) s) : wpAny (model prog w) A (oneLt' f u v) Q E s := by
  cases f with
  | false => exact oneLt_alike (fun z => nomatch z) ra rb (by simpa [alike] using hal) (fun z => nomatch z) hu hq
  | true =>
    cases ra with
    | @tuple x ox us nx _ cs g1 g2 g3 g4 =>
      cases rb with
      | @tuple y oy vs ny _ ds k1 k2 k3 k4 =>
        have l1 : us.size = xs.length := by simpa using SeqAt.ReadsAll.length _ _ _ g4
        have l2 : vs.size = ys.length := by simpa using SeqAt.ReadsAll.length _ _ _ k4
        rw [dataLt_tuple, ← firstLt_toks xs ys hal, ← l1, ← l2] at hq
        rw [oneLt'_eq, if_pos rfl]
        have hroom := room_in hu
        refine wpAny_bind (wpAny_cRoomFor (room_here hu) ?_)
        refine wpAny_bind (wpAny_callSpecialIfBound?_slot (T := "tuple") ⟨_, g1, g2⟩ F.slot_tuple_lt ?_)
        refine tupLt_call (eqs := pairEq xs ys) (lts := fun j => dataLt (xs.getD j .none) (ys.getD j .none)) ⟨_, g1, g2, _, g3⟩ ⟨_, k1, k2, _, k3⟩ (fun j a b => ?_) (fun j a b hj => ?_) ?_
        · have z := eqAt_alikeAll xs ys A.in1 s us.toList vs.toList _ _ g4 k4 hal hroom j (by simpa using a) (by simpa using b)
          rwa [Array.getElem_toList, Array.getElem_toList] at z
        · have z := rcLt_alikeAll xs ys A.in1 s us.toList vs.toList _ _ g4 k4 hal hroom j (by simpa using a) (by simpa using b) hj
          rwa [Array.getElem_toList, Array.getElem_toList] at z
        · exact wpAny_truthy_bool hq
end
/-- the first item of a tuple of the heap -/
def headAt (h : Heap) : Value → Option Value
  | .ref a => match h.get? a with
    | some o => match o.data with
      | .seq us _ => us[0]?
      | _ => none
    | none => none
  | _ => none
def IsTup (h : Heap) (v : Value) : Prop := ∃ a us, v = .ref a ∧ h.IsTuple a us
section
variable {M : Model} {A : Around} {E : Value → Shared → Prop} {s : Shared}
theorem heads_run : ∀ (vs : List Value) {Q : List (Option Value) → Shared → Prop}, (∀ v ∈ vs, IsTup s.heap v) → Q (vs.map (headAt s.heap)) s → wpAny M A (vs.mapM firstOfTuple') Q E s
  | [], _, _, q => by rw [List.mapM_nil]; exact wpAny_pure q
  | v :: vs, Q, hv, q => by
    obtain ⟨a, us, rfl, o, g1, g2, n, g3⟩ := hv v List.mem_cons_self
    rw [List.mapM_cons, kas_first_eq]
    refine wpAny_bind (wpAny_bind (Looks.here ((Looks.ld g1).andThen .now) ?_))
    rw [g2, if_neg (by decide)]
    refine wpAny_bind (listItems_at g1 g3 (wpAny_pure ?_))
    have e : headAt s.heap (.ref a) = us[0]? := by
      show (match s.heap.get? a with | some o => _ | none => none) = _
      rw [g1]
      show (match o.data with | .seq us _ => us[0]? | _ => none) = _
      rw [g3]
    rw [← e]
    exact wpAny_bind (heads_run vs (fun u hu => hv u (List.mem_cons_of_mem _ hu)) (wpAny_pure q))
theorem kind_mixed {vs : List Value} (h2 : 2 ≤ vs.length) (hv : ∀ v ∈ vs, IsTup s.heap v) (hm : ∃ v ∈ vs, headAt s.heap v = none) :
    ∃ f : Bool, ∀ (E : Value → Shared → Prop) {Q : SortKind → Shared → Prop}, Q (if f = true then oneType' else general') s → wpAny M A (keyKind' vs.toArray) Q E s := by
  obtain ⟨v, l, rfl⟩ : ∃ v l, vs = v :: l := by
    cases vs with
    | nil => exact absurd h2 (by simp)
    | cons v l => exact ⟨v, l, rfl⟩
  refine ⟨(headAt s.heap v).isNone, fun E Q q => ?_⟩
  rw [keyKind'_eq, List.mapM_toArray, map_eq_pure_bind]
  refine wpAny_bind (wpAny_bind (heads_run _ hv (wpAny_pure ?_)))
  have no : ¬ (((v :: l).map (headAt s.heap)).toArray.all fun z => z.isSome) = true := by
    obtain ⟨u, hu, e⟩ := hm
    intro z
    simp only [List.all_toArray, List.all_map, List.all_eq_true] at z
    have := z u hu
    simp [e] at this
  rw [if_neg no]
  have e0 : ((v :: l).map (headAt s.heap)).toArray[0]? = some (headAt s.heap v) := by simp
  rw [e0]
  cases hh : headAt s.heap v with
  | some f =>
    rw [hh] at q
    exact wpAny_pure q
  | none =>
    rw [hh] at q
    show wpAny M A (oneTypeOnly' _ >>= fun z => pure (if z.isSome = true then oneType' else general')) Q E s
    rw [oneTypeOnly'_eq, List.mapM_toArray, map_eq_pure_bind]
    refine wpAny_bind (wpAny_bind (wpAny_bind (kas_mapM (r := Value.type "tuple") _ (fun u hu Q' hq => ?_) (wpAny_pure ?_))))
    · obtain ⟨a, us, rfl, o, g1, g2, _⟩ := hv u hu
      exact Looks.here (show Looks M s.heap (typeOf (.ref a)) (.type "tuple") from g2 ▸ (Looks.ld g1).andThen .now) hq
    · have e1 : (List.map (fun _ => Value.type "tuple") (v :: l)).toArray[0]? = some (Value.type "tuple") := by simp
      rw [e1]
      have e2 : ((List.map (fun _ => Value.type "tuple") (v :: l)).toArray.all fun z => z == Value.type "tuple") = true := by
        simp only [List.all_toArray, List.all_map, List.all_eq_true]
        exact fun _ _ => beq_self_eq_true _
      simp only [e2, if_true]
      exact wpAny_pure (wpAny_pure q)
end
section
variable {prog : Program} {w : World} {A : Around} {s : Shared}
theorem each_isTup {h : Heap} {vs : List Value} {ds : List PyData} (e : EachIs (fun v d => ∃ as, Reads h v d as) vs ds) (ht : ∀ d ∈ ds, ∃ xs, d = .tuple xs) : ∀ v ∈ vs, IsTup h v := fun v hv => by
  obtain ⟨d, hd, as, r⟩ := e.left v hv
  obtain ⟨xs, rfl⟩ := ht d hd
  cases r with
  | tuple g1 g2 g3 _ => exact ⟨_, _, rfl, _, g1, g2, _, g3⟩
theorem each_back {R : Value → PyData → Prop} : ∀ {vs : List Value} {ds : List PyData}, EachIs R vs ds → ∀ d ∈ ds, ∃ v ∈ vs, R v d
  | _, _, .nil, d, hd => absurd hd (by simp)
  | _, _, .cons (a := a) r t, d, hd => by
    rcases List.mem_cons.mp hd with rfl | hd
    · exact ⟨a, List.mem_cons_self, r⟩
    · obtain ⟨v, hv, q⟩ := each_back t d hd
      exact ⟨v, List.mem_cons_of_mem _ hv, q⟩
/-- tuples of any lengths can be sorted -/
theorem sortsAt_tups {vs : List Value} {ds : List PyData} (e : EachIs (fun v d => ∃ as, Reads s.heap v d as) vs ds) (hal : AllAlike ds) (ht : ∀ d ∈ ds, ∃ xs, d = .tuple xs) (hu : ∀ d, d ∈ ds → A.units + d.depth < cLine) :
    SortsAt prog w A s (dataKind s.heap ds) vs := by
  rcases Classical.em (∀ d ∈ ds, ∃ x r, d = PyData.tuple (x :: r)) with c | c
  · exact SortsAt.data e hal (.inl c) hu
  · have key : ∀ v ∈ vs, ∃ a, (dataKind s.heap ds).keyOf v = some a := fun v hv => by
      obtain ⟨d, hd, as, r⟩ := e.left v hv
      exact ⟨_, dataKind_some hal hd r⟩
    refine ⟨key, ?_⟩
    rcases Nat.lt_or_ge vs.length 2 with z | z
    · refine ⟨general', ?_, fun h2 => absurd h2 (by omega)⟩
      intro E u v a b Q ha hb hq
      obtain ⟨d, as, hd, ra, rfl⟩ := dataKind_inv ha
      obtain ⟨d', bs, hd', rb, rfl⟩ := dataKind_inv hb
      obtain ⟨xs, rfl⟩ := ht d hd
      obtain ⟨ys, rfl⟩ := ht d' hd'
      exact oneLt_tups (f := false) ra rb (by simpa [alike] using hal _ hd _ hd') (Nat.lt_of_le_of_lt (Nat.add_le_add_left (Nat.min_le_left _ _) _) (hu _ hd)) hq
    · have hm : ∃ v ∈ vs, headAt s.heap v = none := by
        obtain ⟨d, c⟩ := Classical.not_forall.mp c
        obtain ⟨hd, c⟩ := Classical.not_imp.mp c
        obtain ⟨xs, rfl⟩ := ht d hd
        cases xs with
        | cons x r => exact absurd ⟨x, r, rfl⟩ c
        | nil =>
          obtain ⟨v, hv, as, r⟩ := each_back e _ hd
          refine ⟨v, hv, ?_⟩
          cases r with
          | @tuple a o us n _ _ g1 g2 g3 g4 =>
            have l : us.size = 0 := by simpa using SeqAt.ReadsAll.length _ _ _ g4
            have e0 : us[0]? = none := by simp [l]
            show (match s.heap.get? a with | some o => _ | none => none) = _
            rw [g1]
            show (match o.data with | .seq us _ => us[0]? | _ => none) = _
            rw [g3]
            exact e0
      obtain ⟨f, hf⟩ := kind_mixed (M := model prog w) (A := A) z (each_isTup e ht) hm
      refine ⟨if f = true then oneType' else general', ?_, fun _ E Q q => hf E q⟩
      intro E u v a b Q ha hb hq
      obtain ⟨d, as, hd, ra, rfl⟩ := dataKind_inv ha
      obtain ⟨d', bs, hd', rb, rfl⟩ := dataKind_inv hb
      obtain ⟨xs, rfl⟩ := ht d hd
      obtain ⟨ys, rfl⟩ := ht d' hd'
      have g := fun f => oneLt_tups (prog := prog) (w := w) (E := E) (f := f) ra rb (by simpa [alike] using hal _ hd _ hd') (Nat.lt_of_le_of_lt (Nat.add_le_add_left (Nat.min_le_left _ _) _) (hu _ hd)) hq
      cases f with
      | true => exact g true
      | false => exact g false
end
end L2

set_option Elab.async false
set_option linter.all false
set_option maxRecDepth 100000
set_option maxHeartbeats 4000000
/-! sets of nested tuples: the small questions -/
namespace L2
open PySem PySem.SeqAt PySem.Spec PyProof.Rows
section
variable {P : Program} {w : World}
/-- no class statement of the program made anything of it -/
def NoClass (P : Program) (w : World) (n : Nat) (s : Shared) (v : Value) : Prop := ∀ (A : Around) (E : Value → Shared → Prop) (Q : Bool → Shared → Prop), Q false s → wpAny (model P w) A (ofAClassStatement n v) Q E s
theorem NoClass.leaf {n : Nat} {s : Shared} {v : Value} (h : ofAClassStatement n v = pure false) : NoClass P w n s v := fun A E Q q => by
  rw [h]
  exact wpAny_pure q
theorem NoClass.tup {n : Nat} {s : Shared} {a : Addr} {o : Obj} {us : Array Value} {m : Nat} (g1 : s.heap.get? a = some o) (g2 : o.cls = .type "tuple") (g3 : o.data = .seq us m) (hu : ∀ u ∈ us.toList, NoClass P w n s u) : NoClass P w (n + 1) s (.ref a) := fun A E Q q => by
  unfold ofAClassStatement
  refine wpAny_bind (wpAny_typeOf ⟨o, g1, g2⟩ ?_)
  dsimp only
  have e : (("tuple" : String) == "tuple") = true := by decide
  rw [if_pos e]
  refine wpAny_bind (wpAny_pure ?_)
  rw [if_neg (by decide)]
  refine wpAny_bind (wpAny_seqItems g1 g3 ?_)
  dsimp only
  refine wpAny_bind ?_
  rw [← Array.forIn_toList]
  refine wpAny_forIn_list _ (fun left acc s' => acc.1 = none ∧ s' = s ∧ ∀ u ∈ left, NoClass P w n s u) _ ?_ ?_ _ _ ⟨rfl, rfl, hu⟩
  · rintro u left acc s' ⟨ha, rfl, hl⟩
    refine wpAny_bind (hl u List.mem_cons_self _ _ _ ?_)
    rw [if_neg (by decide)]
    exact wpAny_pure ⟨rfl, rfl, fun x hx => hl x (List.mem_cons_of_mem _ hx)⟩
  · rintro ⟨acc1, acc2⟩ s' ⟨ha, rfl, _⟩
    cases (show acc1 = none from ha)
    exact wpAny_pure q
mutual
theorem noClass_key : ∀ (k : NestedKey) (v : Value) (n : Nat) (s : Shared), NestedIs s.heap k v → k.depth ≤ n → NoClass P w n s v
  | .none, _, n, s, x, _ => by cases x; exact .leaf (by cases n <;> rfl)
  | .num i, _, n, s, x, _ => by cases x <;> exact .leaf (by cases n <;> rfl)
  | .text y, _, n, s, x, _ => by cases x; exact .leaf (by cases n <;> rfl)
  | .tup ks, _, n, s, x, hn => by
    cases x with
    | tup g1 g2 g3 g4 =>
      simp only [NestedKey.depth] at hn
      cases n with
      | zero => omega
      | succ n => exact .tup g1 g2 g3 (noClass_keys ks _ n s g4 (by omega))
theorem noClass_keys : ∀ (ks : List NestedKey) (vs : List Value) (n : Nat) (s : Shared), NestedAll s.heap ks vs → NestedKey.depthAll ks ≤ n → ∀ v ∈ vs, NoClass P w n s v
  | [], _, n, s, x, _, v, hv => by cases x; cases hv
  | k :: ks, _, n, s, x, hn, v, hv => by
    cases x with
    | cons x1 x2 =>
      simp only [NestedKey.depthAll] at hn
      rcases List.mem_cons.mp hv with rfl | hv
      · exact noClass_key k _ n s x1 (by omega)
      · exact noClass_keys ks _ n s x2 (by omega) v hv
end
/-- whether its hash is by value: some answer, and nothing else -/
def SomeHash (P : Program) (w : World) (n : Nat) (s : Shared) (v : Value) : Prop := ∀ (A : Around) (E : Value → Shared → Prop) (Q : Bool → Shared → Prop), (∀ b, Q b s) → wpAny (model P w) A (hashByValue n v) Q E s
theorem SomeHash.leaf {n : Nat} {s : Shared} {v : Value} (b : Bool) (h : hashByValue n v = pure b) : SomeHash P w n s v := fun A E Q q => by
  rw [h]
  exact wpAny_pure (q b)
theorem SomeHash.tup {n : Nat} {s : Shared} {a : Addr} {o : Obj} {us : Array Value} {m : Nat} (g1 : s.heap.get? a = some o) (g2 : o.cls = .type "tuple") (g3 : o.data = .seq us m) (hu : ∀ u ∈ us.toList, SomeHash P w n s u) : SomeHash P w (n + 1) s (.ref a) := fun A E Q q => by
  unfold hashByValue
  refine wpAny_bind (wpAny_specialOf ⟨o, g1, g2⟩ F.slot_tuple_hash.lookup ?_)
  show wpAny _ _ (seqItems? (.ref a) >>= _) _ _ s
  refine wpAny_bind (wpAny_seqItems g1 g3 ?_)
  refine wpAny_bind ?_
  show wpAny _ _ (forIn us _ _) _ _ s
  rw [← Array.forIn_toList]
  refine wpAny_forIn_list _ (fun left acc s' => acc.1 = none ∧ s' = s ∧ ∀ u ∈ left, SomeHash P w n s u) _ ?_ ?_ _ _ ⟨rfl, rfl, hu⟩
  · rintro u left acc s' ⟨ha, rfl, hl⟩
    refine wpAny_bind (hl u List.mem_cons_self _ _ _ fun b => ?_)
    cases b with
    | true =>
      rw [if_neg (by decide)]
      exact wpAny_pure ⟨rfl, rfl, fun x hx => hl x (List.mem_cons_of_mem _ hx)⟩
    | false =>
      rw [if_pos (by decide)]
      exact wpAny_pure (wpAny_pure (q _))
  · rintro ⟨acc1, acc2⟩ s' ⟨ha, rfl, _⟩
    cases (show acc1 = none from ha)
    exact wpAny_pure (q _)
mutual
theorem someHash_key : ∀ (k : NestedKey) (v : Value) (n : Nat) (s : Shared), NestedIs s.heap k v → k.depth ≤ n → SomeHash P w n s v
  | .none, _, n, s, x, _ => by cases x; exact .leaf true (by cases n <;> rfl)
  | .num i, _, n, s, x, _ => by cases x <;> exact .leaf true (by cases n <;> rfl)
  | .text y, _, n, s, x, _ => by cases x; exact .leaf false (by cases n <;> rfl)
  | .tup ks, _, n, s, x, hn => by
    cases x with
    | tup g1 g2 g3 g4 =>
      simp only [NestedKey.depth] at hn
      cases n with
      | zero => omega
      | succ n => exact .tup g1 g2 g3 (someHash_keys ks _ n s g4 (by omega))
theorem someHash_keys : ∀ (ks : List NestedKey) (vs : List Value) (n : Nat) (s : Shared), NestedAll s.heap ks vs → NestedKey.depthAll ks ≤ n → ∀ v ∈ vs, SomeHash P w n s v
  | [], _, n, s, x, _, v, hv => by cases x; cases hv
  | k :: ks, _, n, s, x, hn, v, hv => by
    cases x with
    | cons x1 x2 =>
      simp only [NestedKey.depthAll] at hn
      rcases List.mem_cons.mp hv with rfl | hv
      · exact someHash_key k _ n s x1 (by omega)
      · exact someHash_keys ks _ n s x2 (by omega) v hv
end
/-- a key of the heap that sets take: a nested tuple, not too deep -/
structure TupKey (h : Heap) (k : NestedKey) (a : Addr) : Prop where
  is : NestedIs h k (.ref a)
  deep : k.depth ≤ 8
theorem TupKey.cls {h : Heap} {k : NestedKey} {a : Addr} (x : TupKey h k a) : ∃ o us n, h.get? a = some o ∧ o.cls = .type "tuple" ∧ o.data = .seq us n := by
  cases x.is with
  | tup g1 g2 g3 _ => exact ⟨_, _, _, g1, g2, g3⟩
theorem TupKey.keep {h h' : Heap} {k : NestedKey} {a : Addr} (x : TupKey h k a) (ext : ∀ b o, h.get? b = some o → h'.get? b = some o) : TupKey h' k a := ⟨x.is.at (fun b o _ _ g _ => ext b o g) _ _, x.deep⟩
/-- no set's own object is read of a key -/
theorem TupKey.but {h h' : Heap} {k : NestedKey} {a b : Addr} {o : Obj} {es : Array (Int × Value)} {ep : Nat} {t : SetTable} (x : TupKey h k a) (g : h.get? b = some o) (d : o.data = .set es ep t) (sb : Heap.SameBut b h h') : TupKey h' k a :=
  ⟨NestedIs.at (fun c p us n gc dc => by
    refine (sb.2 c fun e => ?_).trans gc
    subst e
    cases (g.symm.trans gc)
    exact nomatch d.symm.trans dc) _ _ x.is, x.deep⟩
theorem TupKey.unseen {A : Around} {E : Value → Shared → Prop} {s : Shared} {Q : Bool → Shared → Prop} {k : NestedKey} {a : Addr} (x : TupKey s.heap k a) {ys : List Value} (hy : ∀ y ∈ ys, ∃ j b, y = Value.ref b ∧ TupKey s.heap j b) (q : Q false s) :
    wpAny (model P w) A (searchCouldBeSeen (.ref a) ys) Q E s := by
  unfold searchCouldBeSeen
  refine wpAny_bind ?_
  refine wpAny_forIn_list _ (fun left acc s' => acc.1 = none ∧ s' = s ∧ ∀ y ∈ left, ∃ j b, y = Value.ref b ∧ TupKey s.heap j b) _ ?_ ?_ _ _ ⟨rfl, rfl, hy⟩
  · rintro y left acc s' ⟨ha, rfl, hl⟩
    obtain ⟨j, b, rfl, xb⟩ := hl y List.mem_cons_self
    have more : ∀ y ∈ left, ∃ j b, y = Value.ref b ∧ TupKey s'.heap j b := fun u hu => hl u (List.mem_cons_of_mem _ hu)
    dsimp only
    split
    · exact wpAny_pure ⟨rfl, rfl, more⟩
    · refine wpAny_bind (quiet_key _ _ 8 _ x.is x.deep _ _ _ ?_)
      rw [if_neg (by decide)]
      refine wpAny_bind (quiet_key _ _ 8 _ xb.is xb.deep _ _ _ ?_)
      rw [if_neg (by decide)]
      refine wpAny_bind (noClass_key _ _ 8 _ x.is x.deep _ _ _ ?_)
      rw [if_neg (by decide)]
      refine wpAny_bind (noClass_key _ _ 8 _ xb.is xb.deep _ _ _ ?_)
      rw [if_neg (by decide)]
      exact wpAny_pure ⟨rfl, rfl, more⟩
  · rintro ⟨acc1, acc2⟩ s' ⟨ha, rfl, _⟩
    cases (show acc1 = none from ha)
    exact wpAny_pure q
end
end L2

set_option Elab.async false
set_option linter.all false
set_option maxRecDepth 100000
set_option maxHeartbeats 4000000
/-! sets of nested tuples: the search -/
namespace L2
open PySem PySem.SeqAt PySem.Spec PyProof.Rows
abbrev NRow := Addr × NestedKey
def hashesN (w : World) (L : List NRow) : List Int := L.map fun r => r.2.hash w
def nrows (w : World) (L : List NRow) : List (Int × Value) := L.map fun r => (r.2.hash w, Value.ref r.1)
/-- the set at a has these keys, in the sequence of its table -/
structure NSet (w : World) (h : Heap) (a : Addr) (L : List NRow) (es : Array (Int × Value)) (ep : Nat) (t : SetTable) : Prop where
  obj : ∃ o, h.get? a = some o ∧ o.ExactSet ∧ o.data = .set es ep t
  eqs : es.toList = nrows w L
  tok : TabOk t (hashesN w L)
  dif : (L.map Prod.snd).Nodup
  key : ∀ r ∈ L, TupKey h r.2 r.1
  led : w.params.followText "set-order" = true ∨ t.led = true
  gap : L.length * 5 < t.mask * 3
  small : L.length < 64
section
variable {P : Program} {w : World} {A : Around} {E : Value → Shared → Prop} {s : Shared} {a : Addr} {L : List NRow} {es : Array (Int × Value)} {ep : Nat} {t : SetTable}
theorem nrows_len (h : es.toList = nrows w L) : es.size = L.length := by
  have z := congrArg List.length h
  unfold nrows at z
  simpa using z
theorem NSet.size (N : NSet w s.heap a L es ep t) : es.size = L.length := nrows_len N.eqs
theorem NSet.place (N : NSet w s.heap a L es ep t) : t.place.size = L.length := by
  have z := N.tok.sz
  unfold hashesN at z
  simpa using z
theorem fits_of (h1 : t.place.size = es.size) (h2 : t.dummies = #[]) (h3 : es.size ≤ t.mask) : t.fits es.size = true := by
  unfold SetTable.fits SetTable.fill
  rw [h2, h1, Bool.and_eq_true]
  exact ⟨beq_self_eq_true _, decide_eq_true (by show es.size + 0 ≤ t.mask; omega)⟩
theorem NSet.fits (N : NSet w s.heap a L es ep t) : t.fits es.size = true := fits_of (by rw [N.place, N.size]) N.tok.dm (by have := N.gap; have := N.size; omega)
theorem row_at (h : es.toList = nrows w L) {i : Nat} {r : NRow} (e : L[i]? = some r) : es[i]? = some (r.2.hash w, Value.ref r.1) := by
  rw [← Array.getElem?_toList, h]
  unfold nrows
  rw [List.getElem?_map, e]
  first | rfl | done
theorem NSet.odd (N : NSet w s.heap a L es ep t) : ¬ t.gaveWay = true := by
  unfold SetTable.gaveWay
  rw [mask_odd N.tok.mok]
  decide
/-- the c-th step of the way of a hash -/
abbrev step (m : Nat) (h : Int) (c : Nat) : SetTable.Probe := nth m (runAt m (SetTable.bits h % (m + 1)) (SetTable.bits h)) c
theorem step_add (m : Nat) (h : Int) (c q : Nat) : nth m (step m h c) q = step m h (c + q) := (nth_add m c _ q).symm
theorem step_way (m : Nat) (h : Int) (c q : Nat) : (nth m (step m h c) q).j = way m h (c + q) := congrArg SetTable.Probe.j (step_add m h c q)
theorem step_dummy (m : Nat) : ∀ (c : Nat) (p : SetTable.Probe), p.dummy = none → (nth m p c).dummy = none
  | 0, _, e => e
  | c + 1, p, e => step_dummy m c (adv m p) (by unfold adv; split <;> exact e)
/-- from the c-th step of the way on: the key is there, or the first empty slot is found -/
theorem nsearch_from (N : NSet w s.heap a L es ep t) {x : Addr} {k : NestedKey} (kx : TupKey s.heap k x) (hu : A.units + 8 < cLine) {K : Nat} (hf : K < 10 * SetTable.turns t.mask)
    (hK : way t.mask (k.hash w) K ∉ t.place.toList) (hb : ∀ c, c < K → way t.mask (k.hash w) c ∈ t.place.toList) {Q : SetFound → Shared → Prop}
    (yes : k ∈ L.map Prod.snd → Q (.there none) s) (no : k ∉ L.map Prod.snd → Q (.free (way t.mask (k.hash w) K) false) s) :
    ∀ (f c : Nat) (from_ : Option SetTable.Probe), from_.getD (t.probeStart (k.hash w)) = step t.mask (k.hash w) c → c ≤ K → K - c < f →
      (∀ (i : Nat) r, L[i]? = some r → r.2 = k → ∃ d, c ≤ d ∧ d < K ∧ t.place.toList[i]? = some (way t.mask (k.hash w) d)) →
      wpAny (model P w) A (setSearchFrom a (.ref x) (k.hash w) true f from_) Q E s
  | 0, _, _, _, _, z, _ => absurd z (Nat.not_lt_zero _)
  | f + 1, c, from_, hst, hc, hz, hre => by
    obtain ⟨o, g, hex, hd⟩ := N.obj
    have places : t.place.toList.length = L.length := by rw [Array.length_toList]; exact N.place
    rw [setSearchFrom_succ]
    refine wpAny_bind (wpAny_setState_of g hd N.fits ?_)
    dsimp only
    rw [if_neg N.odd]
    try refine wpAny_bind (wpAny_pure ?_)
    generalize hhv : k.hash w = hv at *
    have hashOf : ∀ (i : Nat) r, L[i]? = some r → ((es[i]?.map (·.1)).getD 0) = r.2.hash w := fun i r e => by
      rw [row_at N.eqs e]
      first | rfl | done
    have cases2 := go_spec t N.tok.ris N.tok.dm (fun i => (es[i]?.map (·.1)).getD 0) hv (10 * SetTable.turns t.mask) (K - c) (step t.mask hv c) (step_dummy _ _ _ rfl) (by omega)
      (fun q hq => by rw [step_way]; exact hb (c + q) (by omega)) (by rw [step_way, show c + (K - c) = K by omega]; exact hK)
    rcases cases2 with ⟨q, i, hq, hi, hh, before, hp⟩ | ⟨before, hp⟩
    · rw [step_way] at hi hp
      rw [step_add] at hp
      have hp' : t.probe (fun i => (es[i]?.map (·.1)).getD 0) hv (from_.getD (t.probeStart hv)) = some (.candidate (way t.mask hv (c + q)) i (step t.mask hv (c + (q + 1)))) := by
        rw [hst]
        exact hp
      rw [hp']
      dsimp only
      obtain ⟨r, hr⟩ : ∃ r, L[i]? = some r := ⟨_, List.getElem?_eq_getElem (by have := (List.getElem?_eq_some_iff.mp hi).1; omega)⟩
      have mem : r ∈ L := List.mem_of_getElem? hr
      have kr := N.key r mem
      have after : wpAny (model P w) A (searchRest a (.ref x) hv true f es t (way t.mask hv (c + q)) i (step t.mask hv (c + (q + 1)))) Q E s := by
        unfold searchRest
        rw [row_at N.eqs hr]
        dsimp only
        refine wpAny_bind (wpAny_holding (eqAt_key _ _ A s _ _ kr.is kx.is (by have := kr.deep; omega) _ _ _ _ ?_))
        refine wpAny_bind (wpAny_setState_of g hd N.fits ?_)
        dsimp only
        by_cases same : r.2 = k
        · rw [if_pos (by rw [same, NestedKey.beq_self]; decide)]
          exact wpAny_pure (yes (List.mem_map.mpr ⟨r, mem, same⟩))
        · have nb : NestedKey.beq r.2 k = false := by
            rw [← NestedKey.decide_eq]
            exact decide_eq_false same
          rw [if_neg (by rw [nb]; decide)]
          try refine wpAny_bind (wpAny_pure ?_)
          rw [sameMem]
          dsimp only
          have sl : t.slot (way t.mask hv (c + q)) = .live i := slot_live N.tok.ris hi
          simp only [if_true, sl, row_at N.eqs hr]
          refine wpAny_bind (wpAny_isSame_ref_self (wpAny_bind (wpAny_pure ?_)))
          rw [if_pos rfl]
          dsimp only
          rw [nb, if_neg (by decide)]
          subst hhv
          refine nsearch_from N kx hu hf hK hb yes no f (c + (q + 1)) _ rfl (by omega) (by omega) fun j r' hj hk => ?_
          obtain ⟨d, d1, d2, d3⟩ := hre j r' hj hk
          refine ⟨d, ?_, d2, d3⟩
          rcases Nat.lt_trichotomy d (c + q) with z | z | z
          · exact absurd ((hashOf j r' hj).trans (by rw [hk])) (before (d - c) j (by omega) (by rw [step_way, show c + (d - c) = d by omega]; exact d3))
          · exfalso
            rw [z] at d3
            have sj := slot_live N.tok.ris d3
            rw [sl] at sj
            injection sj with sj
            rw [← sj, hr] at hj
            exact same ((congrArg Prod.snd (Option.some.inj hj)).trans hk)
          · omega
      cases hl : t.led with
      | true =>
        rw [if_neg (by decide)]
        try refine wpAny_bind (wpAny_pure ?_)
        exact after
      | false =>
        rw [if_pos (by decide)]
        refine wpAny_bind (kx.unseen (fun y hy => ?_) ?_)
        · obtain ⟨e, he, rfl⟩ := List.mem_map.mp hy
          have he : e ∈ es.toList := by
            have z : e ∈ es ∧ e.1 = hv := by simpa using he
            simpa using z.1
          rw [N.eqs] at he
          obtain ⟨r2, m2, rfl⟩ := List.mem_map.mp he
          exact ⟨_, _, rfl, N.key r2 m2⟩
        · rw [if_neg (by decide)]
          try refine wpAny_bind (wpAny_pure ?_)
          exact after
    · have hp' : t.probe (fun i => (es[i]?.map (·.1)).getD 0) hv (from_.getD (t.probeStart hv)) = some (.empty (way t.mask hv K) none) := by
        rw [hst]
        rw [step_way, show c + (K - c) = K by omega] at hp
        exact hp
      rw [hp']
      dsimp only
      refine wpAny_pure (no fun m => ?_)
      obtain ⟨r, mr, hk⟩ := List.mem_map.mp m
      obtain ⟨i, hi, e⟩ := List.getElem_of_mem mr
      have hr : L[i]? = some r := by rw [List.getElem?_eq_getElem hi, e]
      obtain ⟨d, d1, d2, d3⟩ := hre i r hr hk
      exact before (d - c) i (by omega) (by rw [step_way, show c + (d - c) = d by omega]; exact d3) ((hashOf i r hr).trans (by rw [hk, hhv]))
end
end L2

set_option Elab.async false
set_option linter.all false
set_option maxRecDepth 100000
set_option maxHeartbeats 4000000
/-! sets of nested tuples: adding -/
namespace L2
open PySem PySem.SeqAt PySem.Spec PyProof.Rows
section
variable {P : Program} {w : World} {A : Around} {E : Value → Shared → Prop} {s : Shared} {a : Addr} {L : List NRow} {es : Array (Int × Value)} {ep : Nat} {t : SetTable}
theorem nsearch (N : NSet w s.heap a L es ep t) {x : Addr} {k : NestedKey} (kx : TupKey s.heap k x) (hu : A.units + 8 < cLine) {Q : SetFound → Shared → Prop}
    (yes : k ∈ L.map Prod.snd → Q (.there none) s)
    (no : ∀ K, k ∉ L.map Prod.snd → way t.mask (k.hash w) K ∉ t.place.toList → (∀ c, c < K → way t.mask (k.hash w) c ∈ t.place.toList) → Q (.free (way t.mask (k.hash w) K) false) s) :
    wpAny (model P w) A (setSearch a (.ref x) (k.hash w) true) Q E s := by
  have hgap := N.gap
  obtain ⟨K, f1, f2, f3⟩ := N.tok.first (by unfold hashesN; rw [List.length_map]; omega) (k.hash w)
  have lim : K < 100000 := by
    have z : SetTable.turns t.mask ≤ 142 := by
      unfold SetTable.turns
      rcases N.tok.mok with e | e | e <;> omega
    omega
  unfold setSearch
  refine nsearch_from N kx hu f1 f2 f3 yes (fun m => no K m f2 f3) 100000 0 none rfl (Nat.zero_le _) (by omega) fun i r hr hk => ?_
  have h1 : (hashesN w L)[i]? = some (k.hash w) := by
    unfold hashesN
    rw [List.getElem?_map, hr, ← hk]
    first | rfl | done
  have h2 : i < t.place.toList.length := by
    rw [Array.length_toList, N.place]
    exact (List.getElem?_eq_some_iff.mp hr).1
  have h3 := List.getElem?_eq_getElem h2
  obtain ⟨d, d1, d2⟩ := N.tok.before f2 h1 h3
  exact ⟨d, Nat.zero_le _, d1, by rw [h3, d2]⟩
theorem nrows_put (L : List NRow) (p : Nat) (r : NRow) : nrows w (L.take p ++ r :: L.drop p) = (nrows w L).take p ++ (r.2.hash w, Value.ref r.1) :: (nrows w L).drop p := by
  unfold nrows
  rw [List.map_append, List.map_take, List.map_cons, List.map_drop]
theorem hashesN_put (L : List NRow) (p : Nat) (r : NRow) : hashesN w (L.take p ++ r :: L.drop p) = (hashesN w L).take p ++ r.2.hash w :: (hashesN w L).drop p := by
  unfold hashesN
  rw [List.map_append, List.map_take, List.map_cons, List.map_drop]
/-- rows taken by their numbers -/
theorem rows_taken (L : List NRow) (eqs : es.toList = nrows w L) : ∀ l : List Nat, (∀ i ∈ l, i < L.length) →
    l.filterMap (fun i => es[i]?) = nrows w (l.filterMap fun i => L[i]?) ∧ hashesN w (l.filterMap fun i => L[i]?) = l.map fun i => (es.map (·.1)).getD i 0
  | [], _ => ⟨rfl, rfl⟩
  | i :: l, hl => by
    obtain ⟨r, hi⟩ : ∃ r, L[i]? = some r := ⟨_, List.getElem?_eq_getElem (hl i List.mem_cons_self)⟩
    obtain ⟨h1, h2⟩ := rows_taken L eqs l fun j hj => hl j (List.mem_cons_of_mem _ hj)
    have he := row_at eqs hi
    have hg : (es.map (·.1)).getD i 0 = r.2.hash w := by
      have z : (es.map (·.1))[i]? = some (r.2.hash w) := by
        rw [Array.getElem?_map, he]
        first | rfl | done
      simp [Array.getD_eq_getD_getElem?, z]
    rw [List.filterMap_cons_some he, List.filterMap_cons_some hi, h1, List.map_cons, hg]
    refine ⟨rfl, ?_⟩
    rw [← h2]
    first | rfl | done
theorem all_taken (L : List NRow) : (List.range L.length).filterMap (fun i => L[i]?) = L := by
  have key : ∀ n, n ≤ L.length → (List.range n).filterMap (fun i => L[i]?) = L.take n := by
    intro n
    induction n with
    | zero => exact fun _ => rfl
    | succ n ih =>
      intro hn
      rw [List.range_succ, List.filterMap_append, ih (by omega), List.take_succ, List.getElem?_eq_getElem hn]
      refine congrArg _ ?_
      rw [List.filterMap_cons_some (List.getElem?_eq_getElem hn)]
      first | rfl | done
  rw [key _ (Nat.le_refl _), List.take_length]
/-- laid anew in a larger table -/
theorem nrelay {o : Obj} (g : s.heap.get? a = some o) (hex : o.ExactSet) (hd : o.data = .set es ep t) (eqs : es.toList = nrows w L) (hpl : t.place.size = es.size) (hdm : t.dummies = #[]) (hmk : es.size ≤ t.mask)
    (dif : (L.map Prod.snd).Nodup) (key : ∀ r ∈ L, TupKey s.heap r.2 r.1) (led : w.params.followText "set-order" = true ∨ t.led = true) (small : L.length < 64) {want M : Nat}
    (hw : SetTable.sizeAbove want - 1 = M) (hM : MaskOk M) (hw2 : SetTable.sizeAbove want ≤ 128) (gap : L.length * 5 < M * 3) {Q : Unit → Shared → Prop}
    (q : ∀ h' L' es' ep' t', Heap.SameBut a s.heap h' → NSet w h' a L' es' ep' t' → L'.Perm L → Q () { s with heap := h' }) : wpAny (model P w) A (setRelay a want) Q E s := by
  have hn := nrows_len eqs
  obtain ⟨t', order, e1, e2, e3, e4, e5, _, e7⟩ := relaid_ok t (hs := es.map (·.1)) hw hM (by rw [Array.size_map]; omega)
  rw [Array.size_map, hn] at e2
  obtain ⟨r1, r2⟩ := rows_taken L eqs order.toList fun i hi => List.mem_range.mp (e2.mem_iff.mp hi)
  rw [← r2] at e3
  have pm : (order.toList.filterMap fun i => L[i]?).Perm L := by
    have z := e2.filterMap fun i => L[i]?
    rw [all_taken] at z
    exact z
  have r3 : (order.filterMap (es[·]?)).toList = nrows w (order.toList.filterMap fun i => L[i]?) := by
    rw [← r1]
    first
      | exact Array.toList_filterMap
      | simp
  generalize hL2 : (order.toList.filterMap fun i => L[i]?) = L2 at *
  generalize hes2 : order.filterMap (es[·]?) = es2 at *
  have hn2 : es2.size = es.size := by rw [nrows_len r3, pm.length_eq, hn]
  rw [setRelay_eq]
  refine wpAny_bind (wpAny_setState_of g hd (fits_of hpl hdm hmk) ?_)
  dsimp only
  rw [if_neg (by rw [sizeLine_eq]; omega)]
  try refine wpAny_bind (wpAny_pure ?_)
  rw [e1]
  dsimp only
  refine wpAny_bind ?_
  rw [hes2, if_neg (by rw [hn2]; simp)]
  try refine wpAny_bind (wpAny_pure ?_)
  refine wpAny_pure ?_
  dsimp only
  refine wpAny_storeSet_of g hd ?_ (by rw [hn2, hn, sizeLine_eq]; omega)
  have sb : Heap.SameBut a s.heap (s.heap.update a (Obj.putSet es2 t')) := Heap.SameBut.update ..
  refine q _ L2 es2 (ep + 1) t' sb ⟨⟨_, store_at g hd, ⟨hex.1, hex.2.1, hex.2.2⟩, rfl⟩, r3, e3, (pm.map Prod.snd).nodup_iff.mpr dif, fun r m => (key r (pm.mem_iff.mp m)).but g hd sb, by rw [e5]; exact led, ?_, by rw [pm.length_eq]; exact small⟩ pm
  rw [pm.length_eq, e4]
  exact gap
theorem tab_plain {hs : List Int} (T : TabOk t hs) (b : Bool) : TabOk (if b = true then t else { t with plain := false }) hs ∧ (if b = true then t else { t with plain := false }).mask = t.mask ∧ (if b = true then t else { t with plain := false }).led = t.led ∧
    (if b = true then t else { t with plain := false }).fill = t.fill := by
  cases b with
  | true => exact ⟨T, rfl, rfl, rfl⟩
  | false => exact ⟨⟨T.ris, T.dm, T.sz, T.mok, T.bd, T.reach⟩, rfl, rfl, rfl⟩
/-- one key is added -/
theorem nadd (N : NSet w s.heap a L es ep t) {x : Addr} {k : NestedKey} (kx : TupKey s.heap k x) (hu : A.units + 8 < cLine) (few : L.length + 1 < 64) {Q : Bool → Shared → Prop}
    (q : ∀ b h' L' es' ep' t', Heap.SameBut a s.heap h' → NSet w h' a L' es' ep' t' → (k ∈ L.map Prod.snd → L' = L) → (k ∉ L.map Prod.snd → L'.Perm ((x, k) :: L)) → Q b { s with heap := h' }) :
    wpAny (model P w) A (setAddHashed a (.ref x) (k.hash w)) Q E s := by
  obtain ⟨o, g, hex, hd⟩ := N.obj
  have hn := N.size
  have hgap := N.gap
  unfold setAddHashed
  refine wpAny_holding ?_
  rw [show (100000 : Nat) = Nat.succ 99999 from rfl, setAddHashedIn_succ]
  refine wpAny_bind (wpAny_setState_of g hd N.fits ?_)
  dsimp only
  rw [if_neg (by simp [byScan, Value.scannable])]
  try refine wpAny_bind (wpAny_pure ?_)
  refine wpAny_bind (nsearch N kx hu (fun m => ?_) fun K m hK hb => ?_)
  · dsimp only
    exact wpAny_pure (q false s.heap L es ep t (Heap.SameBut.refl a s.heap) N (fun _ => rfl) fun z => absurd m z)
  · dsimp only
    refine wpAny_bind (wpAny_setState_of g hd N.fits ?_)
    dsimp only
    obtain ⟨q1, q2, q3, q4, q5, q6, q7, q8, q9⟩ := N.tok.put hK hb
    generalize hpt : t.put (way t.mask (k.hash w) K) = pt at *
    obtain ⟨t1, p⟩ := pt
    dsimp only at q1 q3 q4 q5 q9 ⊢
    subst q1
    have some_ : ∀ (f : Bool → Sem Bool), (∀ b, wpAny (model P w) A (f b) Q E s) → wpAny (model P w) A (if t1.plain = true then hashByValue 8 (.ref x) >>= f else pure true >>= f) Q E s := fun f hr => by
      by_cases hp : t1.plain = true
      · rw [if_pos hp]
        exact wpAny_bind (someHash_key _ _ 8 _ kx.is kx.deep _ _ _ hr)
      · rw [if_neg hp]
        exact wpAny_bind (wpAny_pure (hr true))
    refine some_ _ fun b => ?_
    obtain ⟨T2, m2, l2, f2⟩ := tab_plain q3 b
    generalize (if b = true then t1 else { t1 with plain := false }) = t2 at T2 m2 l2 f2 ⊢
    rw [← hashesN_put L _ (x, k)] at T2
    have he : (SetTable.insertAt es (SetTable.below t.place (way t.mask (k.hash w) K)) (k.hash w, Value.ref x)).toList = nrows w (L.take (SetTable.below t.place (way t.mask (k.hash w) K)) ++ (x, k) :: L.drop (SetTable.below t.place (way t.mask (k.hash w) K))) := by
      rw [SetTable.toList_insertAt, nrows_put, N.eqs]
    have pm := put_perm L (SetTable.below t.place (way t.mask (k.hash w) K)) (x, k)
    generalize SetTable.insertAt es (SetTable.below t.place (way t.mask (k.hash w) K)) (k.hash w, Value.ref x) = es1 at he ⊢
    generalize L.take (SetTable.below t.place (way t.mask (k.hash w) K)) ++ (x, k) :: L.drop (SetTable.below t.place (way t.mask (k.hash w) K)) = L1 at pm he T2
    have n1 : L1.length = L.length + 1 := pm.length_eq
    have n2 : es1.size = L.length + 1 := by rw [nrows_len he, n1]
    have nd : (L1.map Prod.snd).Nodup := by
      rw [(pm.map Prod.snd).nodup_iff, List.map_cons, List.nodup_cons]
      exact ⟨m, N.dif⟩
    have pl2 : t2.place.size = es1.size := by
      have z := T2.sz
      unfold hashesN at z
      rw [z, List.length_map, n1, n2]
    rw [hn]
    refine wpAny_bind (wpAny_storeSet_of g hd ?_ (by rw [n2, sizeLine_eq]; omega))
    have sb : Heap.SameBut a s.heap (s.heap.update a (Obj.putSet es1 t2)) := Heap.SameBut.update ..
    have g1 := store_at (es' := es1) (t' := t2) g hd
    generalize s.heap.update a (Obj.putSet es1 t2) = h1 at sb g1 ⊢
    have key1 : ∀ r ∈ L1, TupKey h1 r.2 r.1 := fun r hr => by
      rcases List.mem_cons.mp (pm.mem_iff.mp hr) with rfl | hr
      · exact kx.but g hd sb
      · exact (N.key r hr).but g hd sb
    have led1 : w.params.followText "set-order" = true ∨ t2.led = true := by
      rw [l2, q5]
      exact N.led
    have full : t2.tooFull = decide ((L.length + 1) * 5 ≥ t.mask * 3) := by
      unfold SetTable.tooFull
      rw [f2, q9, m2, q4]
      unfold hashesN
      rw [List.length_map]
    by_cases hf : (L.length + 1) * 5 ≥ t.mask * 3
    · rw [full, decide_eq_true hf]
      have two : (t.mask = 7 ∧ L.length = 4) ∨ (t.mask = 31 ∧ L.length = 18) := by
        rcases N.tok.mok with e | e | e
        · exact .inl ⟨e, by omega⟩
        · exact .inr ⟨e, by omega⟩
        · omega
      have grow : ∀ M, SetTable.sizeAbove (SetTable.grown (L.length + 1)) - 1 = M → MaskOk M → SetTable.sizeAbove (SetTable.grown (L.length + 1)) ≤ 128 → (L.length + 1) * 5 < M * 3 →
          wpAny (model P w) A (setRelay a (SetTable.grown (L.length + 1))) (fun _ s' => wpAny (model P w) A (pure true) Q E s') E { s with heap := h1 } := fun M h1' h2' h3' h4' => by
        refine nrelay (s := { s with heap := h1 }) g1 ⟨hex.1, hex.2.1, hex.2.2⟩ rfl he pl2 T2.dm (by rw [n2, m2, q4]; omega) nd key1 led1 (by rw [n1]; exact few) h1' h2' h3' (by rw [n1]; exact h4') ?_
        exact fun h2 L2 es2 ep2 t3 sb2 N2 pm2 => wpAny_pure (q true h2 L2 es2 ep2 t3 (sb.trans sb2) N2 (fun z => absurd z m) fun _ => pm2.trans pm)
      have go : wpAny (model P w) A (setRelay a (SetTable.grown (L.length + 1))) (fun _ s' => wpAny (model P w) A (pure true) Q E s') E { s with heap := h1 } := by
        rcases two with ⟨_, e⟩ | ⟨_, e⟩
        · exact grow 31 (by rw [e, size_20]) (.inr (.inl rfl)) (by rw [e, size_20]; decide) (by omega)
        · exact grow 127 (by rw [e, size_76]) (.inr (.inr rfl)) (by rw [e, size_76]; decide) (by omega)
      first
        | (refine wpAny_bind ?_; rw [if_pos (by decide)]; exact go)
        | (rw [if_pos (by decide)]; exact wpAny_bind go)
    · rw [full, decide_eq_false hf]
      have N1 : NSet w h1 a L1 es1 (ep + 1) t2 := ⟨⟨_, g1, ⟨hex.1, hex.2.1, hex.2.2⟩, rfl⟩, he, T2, nd, key1, led1, by rw [n1, m2, q4]; omega, by rw [n1]; exact few⟩
      have fin : wpAny (model P w) A (pure true) Q E { s with heap := h1 } := wpAny_pure (q true h1 L1 es1 (ep + 1) t2 sb N1 (fun z => absurd z m) fun _ => pm)
      first
        | (refine wpAny_bind ?_; rw [if_neg (by decide)]; exact wpAny_pure fin)
        | (rw [if_neg (by decide)]; exact fin)
end
end L2

set_option Elab.async false
set_option linter.all false
set_option maxRecDepth 100000
set_option maxHeartbeats 4000000
/-! sets of nested tuples: set(list) -/
namespace L2
open PySem PySem.SeqAt PySem.Spec PyProof.Rows
/-- what a set has got of the first i of these rows -/
structure NGot (ks : List NRow) (i : Nat) (L : List NRow) : Prop where
  only : ∀ r ∈ L, r ∈ ks.take i
  every : ∀ r ∈ ks.take i, r.2 ∈ L.map Prod.snd
  most : L.length ≤ i
theorem NGot.none_ (ks : List NRow) : NGot ks 0 [] := ⟨fun r h => absurd h (by simp), fun r h => absurd h (by simp), Nat.le_refl _⟩
theorem NGot.next {ks L L' : List NRow} {i : Nat} {x : NRow} (g : NGot ks i L) (e : ks[i]? = some x) (h1 : x.2 ∈ L.map Prod.snd → L' = L) (h2 : x.2 ∉ L.map Prod.snd → L'.Perm (x :: L)) : NGot ks (i + 1) L' := by
  have tk := take_next e
  rcases Classical.em (x.2 ∈ L.map Prod.snd) with c | c
  · cases h1 c
    refine ⟨fun r hr => ?_, fun r hr => ?_, Nat.le_succ_of_le g.most⟩
    · rw [tk]
      exact List.mem_append_left _ (g.only r hr)
    · rw [tk] at hr
      rcases List.mem_append.mp hr with z | z
      · exact g.every r z
      · cases List.mem_singleton.mp z
        exact c
  · have pm := h2 c
    refine ⟨fun r hr => ?_, fun r hr => ?_, by rw [pm.length_eq, List.length_cons]; exact Nat.succ_le_succ g.most⟩
    · rw [tk]
      rcases List.mem_cons.mp (pm.mem_iff.mp hr) with rfl | z
      · exact List.mem_append_right _ List.mem_cons_self
      · exact List.mem_append_left _ (g.only r z)
    · rw [(pm.map Prod.snd).mem_iff, List.map_cons]
      rw [tk] at hr
      rcases List.mem_append.mp hr with z | z
      · exact List.mem_cons_of_mem _ (g.every r z)
      · cases List.mem_singleton.mp z
        exact List.mem_cons_self
section
variable {P : Program} {w : World} {A : Around} {E : Value → Shared → Prop} {s : Shared}
/-- a set that was just made -/
abbrev newSetObj (w : World) : Obj := { cls := .type "set", dict := none, data := .set #[] 0 (.fresh 0 0 (!w.params.followText "set-order")) }
theorem nset_new {h : Heap} {a : Addr} (g : h.get? a = some (newSetObj w)) : NSet w h a [] #[] 0 (.fresh 0 0 (!w.params.followText "set-order")) where
  obj := ⟨_, g, ⟨rfl, rfl, rfl⟩, rfl⟩
  eqs := rfl
  tok := ⟨List.Pairwise.nil, rfl, rfl, .inl rfl, fun x hx => absurd hx (by first | exact List.not_mem_nil | simp), fun i h j hi => absurd hi (by simp [hashesN])⟩
  dif := List.nodup_nil
  key := fun r hr => absurd hr (by simp)
  led := by
    cases z : w.params.followText "set-order"
    · exact .inr rfl
    · exact .inl rfl
  gap := by show 0 < 7 * 3; decide
  small := by decide
theorem NSet.keep {h h' : Heap} {a : Addr} {L : List NRow} {es : Array (Int × Value)} {ep : Nat} {t : SetTable} (N : NSet w h a L es ep t) (ha : ∀ o, h.get? a = some o → h'.get? a = some o) (hk : ∀ r ∈ L, TupKey h' r.2 r.1) : NSet w h' a L es ep t := by
  obtain ⟨o, g, z⟩ := N.obj
  exact ⟨⟨o, ha o g, z⟩, N.eqs, N.tok, N.dif, hk, N.led, N.gap, N.small⟩
/-- the loop of set.update -/
theorem nupdate {I : Addr} {fp wr : List Addr} {G : Array GenState → Array GenState → Prop} {n : Nat} {Pv : Nat → Value → Prop} {St : Nat → Shared → Prop} {R : Result → Shared → Prop}
    (W : WalksS P w A.in1 I fp wr G n Pv St) (S : Addr) (hS : S ∉ fp) (ks : List NRow) (hn : n = ks.length) (few : ks.length < 64) (val : ∀ i v, Pv i v → ∃ r, ks[i]? = some r ∧ v = .ref r.1)
    (h0 : Heap) (hk : ∀ r ∈ ks, TupKey h0 r.2 r.1) (hS0 : h0.get? S = none) (hw0 : ∀ b ∈ wr, h0.get? b = none) (hu : A.in1.units + 8 < cLine) :
    ∀ (d i : Nat) (s : Shared), n - i = d → i ≤ n → St i s → (∀ b o, h0.get? b = some o → s.heap.get? b = some o) → (∃ L es ep t, NSet w s.heap S L es ep t ∧ NGot ks i L) →
      (∀ s' L es ep t, Moved (S :: wr) G s s' → NSet w s'.heap S L es ep t → NGot ks n L → (∀ b o, h0.get? b = some o → s'.heap.get? b = some o) → R (.ok (.ret .none)) s') →
      codeAny (model P w) A (.builtin "set.update.loop" ⟨[.ref S, .ref I], []⟩) R s := by
  have out : S ∉ wr := fun z => hS (W.sub _ z)
  have up : ∀ b ∈ wr, b ∈ S :: wr := fun b z => List.mem_cons_of_mem _ z
  have moved : ∀ {s s' : Shared}, Moved wr G s s' → (∀ b o, h0.get? b = some o → s.heap.get? b = some o) → ∀ b o, h0.get? b = some o → s'.heap.get? b = some o := fun m ext b o e =>
    m.heap b o (fun z => nomatch (hw0 b z).symm.trans e) (ext b o e)
  intro d
  induction d with
  | zero =>
    intro i s hd hi st ext ⟨L, es, ep, t, N, g⟩ hR
    obtain rfl : i = n := by omega
    refine codeAny_builtin F.entry_set_update_loop ?_
    rw [Around.under_plainId F.plain_set_update_loop _]
    show wpAny _ A.in1 (pyNext (.ref I) >>= _) _ _ s
    refine wpAny_bind (W.done s _ _ st fun s' m => ?_)
    show wpAny _ A.in1 (ret Value.none) _ _ s'
    have ext' := moved m ext
    exact wpAny_pure (hR s' L es ep t (m.mono up) (N.keep (fun o e => m.heap S o out e) fun r hr => (hk r (List.mem_of_mem_take (g.only r hr))).keep ext') g ext')
  | succ d ih =>
    intro i s hd hi st ext ⟨L, es, ep, t, N, g⟩ hR
    have lt : i < n := by omega
    refine codeAny_builtin F.entry_set_update_loop ?_
    rw [Around.under_plainId F.plain_set_update_loop _]
    show wpAny _ A.in1 (pyNext (.ref I) >>= _) _ _ s
    refine wpAny_bind (W.item i s _ _ lt st fun v s' hv st' m => ?_)
    obtain ⟨r, hr, rfl⟩ := val i v hv
    have ext' := moved m ext
    have N' : NSet w s'.heap S L es ep t := N.keep (fun o e => m.heap S o out e) fun q hq => (hk q (List.mem_of_mem_take (g.only q hq))).keep ext'
    have kr : TupKey s'.heap r.2 r.1 := (hk r (List.mem_of_getElem? hr)).keep ext'
    show wpAny _ A.in1 (holding [Value.ref r.1] (setAdd S (.ref r.1)) >>= _) _ _ s'
    refine wpAny_bind (wpAny_holding ?_)
    unfold setAdd
    refine wpAny_holding ?_
    refine wpAny_bind (pyHash_key _ _ _ _ _ kr.is (by have := kr.deep; omega) ?_)
    refine nadd (s := { s' with toks := s'.toks + r.2.draws }) N' kr hu (by have := g.most; omega) fun b h' L' es' ep' t' sb N2 c1 c2 => ?_
    have g' : NGot ks (i + 1) L' := g.next hr c1 c2
    have ext2 : ∀ b o, h0.get? b = some o → h'.get? b = some o := fun b o e => (sb.2 b (fun z => by rw [z, hS0] at e; exact nomatch e)).trans (ext' b o e)
    refine wpAny_pure ⟨plainId_quiet F.plain_set_update_loop _, ih (i + 1) _ (by omega) lt (W.frame _ s' _ _ st' (Nat.le_add_right _ _) fun b hb o e => ?_) ext2 ⟨L', es', ep', t', N2, g'⟩ fun s2 L2 es2 ep2 t2 m2 N3 g3 ext3 => ?_⟩
    · rw [sb.2 b (fun z => hS (z ▸ hb))]
      exact e
    · refine hR s2 L2 es2 ep2 t2 (Moved.trans W.gtrans ((m.mono up).then_heap (Nat.le_add_right _ _) fun b o hb e => ?_) m2) N3 g3 ext3
      rw [sb.2 b (fun z => hb (z ▸ List.mem_cons_self))]
      exact e
end
end L2

set_option Elab.async false
set_option linter.all false
set_option maxRecDepth 100000
set_option maxHeartbeats 4000000
/-! sets of nested tuples: the call set(list) -/
namespace L2
open PySem PySem.SeqAt PySem.Spec PyProof.Rows
section
variable {P : Program} {w : World} {A : Around} {E : Value → Shared → Prop} {s : Shared}
theorem absent_of {h : Heap} {b : Addr} (z : h.objs.size ≤ b) : h.get? b = none := by
  cases q : h.get? b with
  | none => rfl
  | some o => exact absurd (Nat.lt_of_lt_of_le (Heap.lt_size q) z) (Nat.lt_irrefl _)
/-- what a call of set leaves behind -/
def NMade (w : World) (s : Shared) (ks : List NRow) (s' : Shared) : Prop := ∃ h' tk L es ep t, s' = { s with heap := h', toks := tk } ∧ NSet w h' s.heap.objs.size L es ep t ∧ NGot ks ks.length L ∧ ∀ b o, s.heap.get? b = some o → h'.get? b = some o
theorem nset_call {l : Addr} {us : Array Value} (ks : List NRow) {Q : Value → Shared → Prop} (hh : A.handled = none) (hl : s.heap.IsList l us) (hit : us.toList = ks.map fun r => Value.ref r.1)
    (hk : ∀ r ∈ ks, TupKey s.heap r.2 r.1) (few : ks.length < 64) (hu : A.units + 16 < cLine) (q : ∀ s', NMade w s ks s' → Q (.ref s.heap.objs.size) s') :
    wpAny (model P w) A (call (.type "set") [.ref l]) Q E s := by
  have n0 : us.size = ks.length := by
    have z := congrArg List.length hit
    simpa using z
  obtain ⟨c, tl, mro⟩ := F.called_set.mro
  have made_ := F.called_set.made
  have sub_ := F.called_set.sub
  refine wpAny_call (codeAny_of_tree ?_)
  show wpAny _ _ (callAny (.type "set") _) _ _ _
  refine wpAny_pure ⟨Code.quiet_builtin _ (by decide +kernel), codeAny_builtin F.entry_type_call ?_⟩
  rw [Around.under_plain (weight_type_call_type "set" [.ref l] []) rfl]
  have isn := F.called_set.notType
  have can := F.called_set.canCreate
  have fit := F.typeCall_set_1 (.ref l)
  repeat (any_goals (first | assumption | wp_step))
  refine codeAny_mono (code_set_led1 (.ref l) (E := E) (Q₁ := fun obj s₁ => obj = .ref s.heap.objs.size ∧ s₁ = { s with heap := s.heap.push (newSetObj w) }) ⟨rfl, rfl⟩) fun r s₁ hr => ?_
  cases r with
  | error e => exact hr
  | ok fl =>
    cases fl with
    | ret obj =>
      obtain ⟨rfl, rfl⟩ := hr
      have gS : (s.heap.push (newSetObj w)).get? s.heap.objs.size = some (newSetObj w) := Heap.get?_push_size _ rfl
      have tS : Shared.TypeIs { s with heap := s.heap.push (newSetObj w) } (.ref s.heap.objs.size) "set" := ⟨_, gS, rfl⟩
      have look := F.called_set.init.lookup
      have bind_ := F.called_set.init.bind (.ref s.heap.objs.size)
      repeat (any_goals (first | assumption | wp_step))
      refine codeAny_mono (codeAny_call_builtin (R := wants (fun r s₂ => r = .none ∧ NMade w s ks s₂) E) F.called_set.init.plain F.entry_set_init (check_set_init_1 tS ?_)) fun r₂ s₂ hr₂ => ?_
      · obtain ⟨⟨kl, dl, tl', sl⟩, gl, rfl, nl, rfl⟩ := hl
        have gl' : (s.heap.push (newSetObj w)).get? l = some { cls := .type "list", dict := dl, data := .seq us nl, slots := sl } := Heap.get?_push_of_some _ gl
        have sub1 := F.sub_list_set
        have sub2 := F.sub_list_frozenset
        have nd : (Value.type "list" == Value.type "dict") = false := by decide
        have L1 : (s.heap.push (newSetObj w)).IsList l us := ⟨_, gl', rfl, nl, rfl⟩
        unfold Builtin.«set.__init__» noKeywords Builtin.Frozenset.updateFrom
        generalize hit_ : pyIter = IT
        wp_walk
        subst hit_
        refine wpAny_pyIter_list L1 ?_
        refine wpAny_bind (wpAny_runValue ?_)
        have ll : l < s.heap.objs.size := Heap.lt_size gl
        have sz1 : (s.heap.push (newSetObj w)).objs.size = s.heap.objs.size + 1 := Heap.size_push ..
        have ne1 : l ≠ (s.heap.push (newSetObj w)).objs.size := by
          rw [sz1]
          exact Nat.ne_of_lt (Nat.lt_succ_of_lt ll)
        have out : s.heap.objs.size ∉ [(s.heap.push (newSetObj w)).objs.size, l] := by
          rw [sz1]
          intro z
          rcases List.mem_cons.mp z with z | z
          · exact absurd z (Nat.ne_of_lt (Nat.lt_succ_self _))
          · exact absurd (List.mem_singleton.mp z) (Nat.ne_of_gt ll)
        have val : ∀ (i : Nat) (v : Value), us[i]? = some v → ∃ r, ks[i]? = some r ∧ v = .ref r.1 := fun i v hv => by
          rw [← Array.getElem?_toList, hit, List.getElem?_map] at hv
          obtain ⟨r, hr, e⟩ := Option.map_eq_some_iff.mp hv
          exact ⟨r, hr, e.symm⟩
        have W0 := (Walks.list (prog := P) (w := w) (A := A.in1.in1.in1) (show A.in1.in1.in1.handled = none by simp [hh]) (s.heap.push (newSetObj w)).objs.size l ne1 us).toS
        refine nupdate W0 s.heap.objs.size out ks n0 few val s.heap hk (absent_of (Nat.le_refl _)) (fun b hb => absent_of (by
            rw [List.mem_singleton.mp hb, sz1]
            exact Nat.le_succ _)) (by simp only [Around.in1_units]; omega) (us.size - 0) 0 _ (by omega) (Nat.zero_le _)
          ⟨⟨_, Heap.get?_push_size _ rfl, rfl, rfl⟩, L1.push _⟩ (fun b o e => Heap.get?_push_of_some _ (Heap.get?_push_of_some _ e)) ?first ?last
        case first => exact ⟨[], #[], 0, _, nset_new (Heap.get?_push_of_some _ gS), NGot.none_ ks⟩
        case last =>
          intro s' L es ep t m N g ext
          obtain ⟨h', gn, dr, tk', os'⟩ := s'
          cases (show gn = s.gens from m.gens)
          cases (show dr = s.drawn from m.drawn)
          cases (show os' = s.os from m.os)
          show wpAny _ _ _ _ _ _
          refine wpAny_pure ?_
          show wpAny _ _ (ret Value.none) _ _ _
          rw [n0] at g
          exact wpAny_pure ⟨rfl, h', tk', L, es, ep, t, rfl, N, g, ext⟩
      · cases r₂ with
        | error e => exact hr₂
        | ok fl₂ =>
          cases fl₂ with
          | ret r =>
            obtain ⟨rfl, hm⟩ := hr₂
            have hm' := hm
            obtain ⟨h', tk, L, es, ep, t, rfl, N, g, ext⟩ := hm
            repeat (any_goals (first | assumption | wp_step))
            exact q _ hm'
          | _ => exact hr₂.elim
    | _ => exact hr.elim
end
end L2

set_option Elab.async false
set_option linter.all false
set_option maxRecDepth 100000
set_option maxHeartbeats 4000000
/-! data that sets take, and their order -/
namespace L2
open PySem PySem.W PySem.SeqAt PySem.Spec PyProof.Rows
mutual
def nkey : PyData → NestedKey
  | .none => .none
  | .bool b => .num (if b = true then 1 else 0)
  | .int i => .num i
  | .str x => .text x
  | .tuple ds => .tup (nkeys ds)
  | .list _ => .none
  | .dict _ => .none
def nkeys : List PyData → List NestedKey
  | [] => []
  | d :: ds => nkey d :: nkeys ds
end
mutual
/-- neither a list nor a dict, nor one within -/
def keyable : PyData → Bool
  | .list _ => false
  | .dict _ => false
  | .tuple ds => keyables ds
  | _ => true
def keyables : List PyData → Bool
  | [] => true
  | d :: ds => keyable d && keyables ds
end
mutual
theorem nkey_depth : ∀ d : PyData, keyable d = true → (nkey d).depth = d.depth
  | .none, _ => rfl
  | .bool _, _ => rfl
  | .int _, _ => rfl
  | .str _, _ => rfl
  | .tuple ds, k => by
    have z := nkeys_depth ds (by simpa [keyable] using k)
    simp only [nkey, NestedKey.depth, PyData.depth, z]
  | .list _, k => by simp [keyable] at k
  | .dict _, k => by simp [keyable] at k
theorem nkeys_depth : ∀ ds : List PyData, keyables ds = true → NestedKey.depthAll (nkeys ds) = PyData.depthAll ds
  | [], _ => rfl
  | d :: ds, k => by
    rw [keyables, Bool.and_eq_true] at k
    simp only [nkeys, NestedKey.depthAll, PyData.depthAll, nkey_depth d k.1, nkeys_depth ds k.2]
end
mutual
theorem nkey_is {h : Heap} : ∀ (d : PyData) (v : Value) (as : List Addr), keyable d = true → Reads h v d as → NestedIs h (nkey d) v
  | .none, _, _, _, r => by cases r; exact .none
  | .bool b, _, _, _, r => by cases r; exact .bool rfl
  | .int i, _, _, _, r => by cases r; exact .int _ _
  | .str x, _, _, _, r => by cases r; exact .text _ _
  | .tuple ds, _, _, k, r => by
    cases r with
    | tuple g1 g2 g3 g4 => exact .tup g1 g2 g3 (nkeys_is ds _ _ (by simpa [keyable] using k) g4)
  | .list _, _, _, k, _ => by simp [keyable] at k
  | .dict _, _, _, k, _ => by simp [keyable] at k
theorem nkeys_is {h : Heap} : ∀ (ds : List PyData) (vs : List Value) (as : List Addr), keyables ds = true → ReadsAll h vs ds as → NestedAll h (nkeys ds) vs
  | [], _, _, _, r => by cases r; exact .nil
  | d :: ds, _, _, k, r => by
    rw [keyables, Bool.and_eq_true] at k
    cases r with
    | cons r1 r2 => exact .cons (nkey_is d _ _ k.1 r1) (nkeys_is ds _ _ k.2 r2)
end
mutual
theorem nkey_inj : ∀ d e : PyData, keyable d = true → keyable e = true → alike d e = true → nkey d = nkey e → d = e
  | .none, e, _, _, a, _ => by cases e <;> first | rfl | simp [alike] at a
  | .bool b, e, _, _, a, q => by
    cases e with
    | bool c =>
      simp only [nkey] at q
      injection q with q
      cases b <;> cases c <;> first | rfl | exact absurd q (by decide)
    | _ => simp [alike] at a
  | .int i, e, _, _, a, q => by
    cases e with
    | int j =>
      simp only [nkey] at q
      injection q with q
      rw [q]
    | _ => simp [alike] at a
  | .str x, e, _, _, a, q => by
    cases e with
    | str y =>
      simp only [nkey] at q
      injection q with q
      rw [q]
    | _ => simp [alike] at a
  | .tuple ds, e, k, k', a, q => by
    cases e with
    | tuple es =>
      simp only [nkey] at q
      injection q with q
      rw [nkeys_inj ds es (by simpa [keyable] using k) (by simpa [keyable] using k') (by simpa [alike] using a) q]
    | _ => simp [alike] at a
  | .list _, _, k, _, _, _ => by simp [keyable] at k
  | .dict _, _, k, _, _, _ => by simp [keyable] at k
theorem nkeys_inj : ∀ ds es : List PyData, keyables ds = true → keyables es = true → alikeAll ds es = true → nkeys ds = nkeys es → ds = es
  | [], [], _, _, _, _ => rfl
  | [], _ :: _, _, _, _, q => by simp [nkeys] at q
  | _ :: _, [], _, _, _, q => by simp [nkeys] at q
  | d :: ds, e :: es, k, k', a, q => by
    rw [keyables, Bool.and_eq_true] at k k'
    obtain ⟨a1, a2⟩ := alike_all_cons a
    simp only [nkeys] at q
    injection q with q1 q2
    rw [nkey_inj d e k.1 k'.1 a1 q1, nkeys_inj ds es k.2 k'.2 a2 q2]
end
mutual
theorem eqv_same : ∀ d e : PyData, alike d e = true → PyData.eqv d e = true → d = e
  | .none, e, a, _ => by cases e <;> first | rfl | simp [alike] at a
  | .bool b, e, a, q => by
    cases e with
    | bool c => cases b <;> cases c <;> first | rfl | (simp [PyData.eqv] at q)
    | _ => simp [alike] at a
  | .int i, e, a, q => by
    cases e with
    | int j =>
      have z : i = j := by simpa [PyData.eqv] using q
      rw [z]
    | _ => simp [alike] at a
  | .str x, e, a, q => by
    cases e with
    | str y =>
      have z : x = y := by simpa [PyData.eqv] using q
      rw [z]
    | _ => simp [alike] at a
  | .tuple ds, e, a, q => by
    cases e with
    | tuple es => rw [eqvs_same ds es (by simpa [alike] using a) (by simpa [PyData.eqv] using q)]
    | _ => simp [alike] at a
  | .list ds, e, a, q => by
    cases e with
    | list es => rw [eqvs_same ds es (by simpa [alike] using a) (by simpa [PyData.eqv] using q)]
    | _ => simp [alike] at a
  | .dict _, e, a, _ => by cases e <;> simp [alike] at a
theorem eqvs_same : ∀ ds es : List PyData, alikeAll ds es = true → PyData.eqvAll ds es = true → ds = es
  | [], [], _, _ => rfl
  | [], _ :: _, _, q => by simp [PyData.eqvAll] at q
  | _ :: _, [], _, q => by simp [PyData.eqvAll] at q
  | d :: ds, e :: es, a, q => by
    obtain ⟨a1, a2⟩ := alike_all_cons a
    rw [eqv_all_cons, Bool.and_eq_true] at q
    rw [eqv_same d e a1 q.1, eqvs_same ds es a2 q.2]
end
/-- of two unlike data of one kind one is below the other -/
theorem dataLt_or {d e : PyData} (a : alike d e = true) (ne : d ≠ e) : dataLt d e = true ∨ dataLt e d = true := by
  cases h1 : dataLt d e with
  | true => exact .inl rfl
  | false =>
    cases h2 : dataLt e d with
    | true => exact .inr rfl
    | false =>
      exfalso
      have tk : keyToks d = keyToks e := (listOrd itemOrd).total _ _ h1 h2
      cases q : PyData.eqv d e with
      | true => exact ne (eqv_same d e a q)
      | false =>
        have z := (toks_eqv d e a).2 q [] [.inl 0]
        rw [tk, lex_pre] at z
        have z2 := (toks_eqv d e a).2 q [] []
        rw [tk, lex_pre] at z2
        rw [← z2] at z
        exact absurd z (by decide)
theorem dataLt_irrefl (d : PyData) : dataLt d d = false := (listOrd itemOrd).irrefl _
theorem dataLt_trans {d e f : PyData} (h1 : dataLt d e = true) (h2 : dataLt e f = true) : dataLt d f = true := (listOrd itemOrd).trans _ _ _ h1 h2
end L2

set_option Elab.async false
set_option linter.all false
set_option maxRecDepth 100000
set_option maxHeartbeats 4000000
/-! sorted(set) of nested tuples -/
namespace L2
open PySem PySem.W PySem.SeqAt PySem.Spec PyProof.Rows PySem.Calls
theorem perm_back {α β : Type} {f : α → β} {l k : List β} (p : l.Perm k) : ∀ m : List α, k = m.map f → ∃ m' : List α, m'.Perm m ∧ l = m'.map f := by
  induction p with
  | nil =>
    intro m e
    exact ⟨[], by cases m with | nil => exact .nil | cons _ _ => simp at e, rfl⟩
  | cons x _ ih =>
    intro m e
    cases m with
    | nil => simp at e
    | cons y m =>
      rw [List.map_cons] at e
      injection e with e1 e2
      obtain ⟨m', h1, h2⟩ := ih m e2
      exact ⟨y :: m', h1.cons y, by rw [h2, e1, List.map_cons]⟩
  | swap x y l =>
    intro m e
    match m, e with
    | [], e => simp at e
    | [_], e => simp at e
    | u :: v :: m, e =>
      simp only [List.map_cons] at e
      injection e with e1 e2
      injection e2 with e2 e3
      exact ⟨v :: u :: m, .swap _ _ _, by simp only [List.map_cons]; rw [e1, e2, e3]⟩
  | trans _ _ ih1 ih2 =>
    intro m e
    obtain ⟨m2, h1, h2⟩ := ih2 m e
    obtain ⟨m3, h3, h4⟩ := ih1 m2 h2
    exact ⟨m3, h3.trans h1, h4⟩
theorem sub_back {α β : Type} {f : α → β} {m : List α} : ∀ l : List β, (∀ x ∈ l, x ∈ m.map f) → ∃ m' : List α, l = m'.map f ∧ ∀ y ∈ m', y ∈ m
  | [], _ => ⟨[], rfl, fun y h => absurd h (by simp)⟩
  | x :: l, h => by
    obtain ⟨y, hy, e⟩ := List.mem_map.mp (h x List.mem_cons_self)
    obtain ⟨m', e', h'⟩ := sub_back l fun z hz => h z (List.mem_cons_of_mem _ hz)
    refine ⟨y :: m', by rw [List.map_cons, e, e'], fun z hz => ?_⟩
    rcases List.mem_cons.mp hz with rfl | hz
    · exact hy
    · exact h' z hz
/-- a tuple of the heap and what it reads as -/
abbrev TRow := Addr × PyData
abbrev TRow.n (p : TRow) : NRow := (p.1, nkey p.2)
abbrev TRow.r (p : TRow) : Value := .ref p.1
theorem each_rows {R : Value → TRow → Prop} : ∀ T : List TRow, (∀ p ∈ T, R p.r p) → EachIs R (T.map TRow.r) T
  | [], _ => .nil
  | p :: T, h => .cons (h p List.mem_cons_self) (each_rows T fun q hq => h q (List.mem_cons_of_mem _ hq))
theorem rows_each : ∀ {vs : List Value} {T : List TRow}, EachIs (fun v p => v = TRow.r p) vs T → vs = T.map TRow.r
  | _, _, .nil => rfl
  | _, _, .cons h t => by rw [h, rows_each t, List.map_cons]
section
variable {P : Program} {w : World} {A : Around} {E : Value → Shared → Prop} {s : Shared}
/-- the rows, sorted -/
def sortT (T : List TRow) : List TRow := T.mergeSort (dataLe false Prod.snd)
theorem sortT_perm (T : List TRow) : (sortT T).Perm T := List.mergeSort_perm _ _
theorem sortT_up (T : List TRow) (hal : AllAlike (T.map Prod.snd)) (nd : (T.map Prod.snd).Nodup) : (sortT T).Pairwise fun p q => dataLt p.2 q.2 = true := by
  have srt : (sortT T).Pairwise fun p q => dataLe false Prod.snd p q = true := sort_pairwise (sortLe_total (listOrd itemOrd) false fun p : TRow => keyToks p.2) T
  have nd' : ((sortT T).map Prod.snd).Nodup := ((sortT_perm T).map Prod.snd).nodup_iff.mpr nd
  have ne : (sortT T).Pairwise fun p q => p.2 ≠ q.2 := List.pairwise_map.mp nd'
  refine List.Pairwise.imp_of_mem (fun {p q} hp hq z => ?_) (srt.and ne)
  obtain ⟨z1, z2⟩ := z
  have mp := (sortT_perm T).mem_iff.mp hp
  have mq := (sortT_perm T).mem_iff.mp hq
  rcases dataLt_or (hal _ (List.mem_map_of_mem mp) _ (List.mem_map_of_mem mq)) z2 with c | c
  · exact c
  · exfalso
    have z3 : (!dataLt q.2 p.2) = true := z1
    rw [c] at z3
    exact absurd z3 (by decide)
/-- sorted of a set of tuples -/
theorem nsorted {a : Addr} {T : List TRow} {es : Array (Int × Value)} {ep : Nat} {t : SetTable} {Q : Value → Shared → Prop} (N : NSet w s.heap a (T.map TRow.n) es ep t) (hh : A.handled = none)
    (hr : ∀ p ∈ T, ∃ as, Reads s.heap p.r p.2 as) (hal : AllAlike (T.map Prod.snd)) (ht : ∀ p ∈ T, ∃ xs, p.2 = .tuple xs) (hu : ∀ p ∈ T, A.units + 4 + p.2.depth < cLine)
    (q : ∀ s' b c T', (∀ b o, s.heap.get? b = some o → s'.heap.get? b = some o) → s'.gens = s.gens → s'.os = s.os → s.heap.objs.size ≤ b → T'.Perm T → s'.heap.get? b = some (seqObj "list" ((sortT T').map TRow.r).toArray c) → Q (.ref b) s') :
    wpAny (model P w) A (call (.builtin "sorted") [.ref a]) Q E s := by
  obtain ⟨o, g, hex, hd⟩ := N.obj
  have few := N.small
  rw [List.length_map] at few
  refine Calls.call_function_entry kind_sorted plain_sorted entry_sorted (args_sorted1 _) ?_
  unfold Builtin.«sorted»
  refine wpAny_bind (m := checkCount "sorted" 1 1 _) (wpAny_pure ?_)
  refine wpAny_bind (collect_set (A := A.in1) hh ⟨o, g, hex.1, hd⟩ N.fits (by rw [N.size, List.length_map]; unfold scanBound; omega) N.tok.ris N.led fun s1 vs k1 hz g1 o1 pm => ?_)
  have e1 : es.toList.map (·.2) = T.map TRow.r := by
    rw [N.eqs]
    unfold nrows
    rw [List.map_map, List.map_map]
    first | rfl | done
  obtain ⟨T2, p2, rfl⟩ := perm_back pm T e1
  have len2 : (T2.map TRow.r).length < 64 := by rw [List.length_map, p2.length_eq]; exact few
  refine wpAny_bind (wpAny_newList ?_ (by rw [sizeLine_eq]; omega))
  have gL : (s1.heap.push (seqObj "list" (T2.map TRow.r).toArray 0)).get? s1.heap.objs.size = some (seqObj "list" (T2.map TRow.r).toArray 0) := Heap.get?_push_size _ rfl
  have rd : EachIs (fun v p => ∃ as, Reads (sortingHeap (s1.heap.push (seqObj "list" (T2.map TRow.r).toArray 0)) s1.heap.objs.size (T2.map TRow.r)) v p.2 as) (T2.map TRow.r) T2 :=
    each_rows T2 fun p hp => by
      obtain ⟨as, r⟩ := hr p (p2.mem_iff.mp hp)
      exact ⟨as, PyProof.Rows.Reads.keeps (fun b u e => by
        have z := k1 b u e
        exact sortingHeap_old (Nat.ne_of_lt (Heap.lt_size z)) (Heap.get?_push_of_some _ z)) r⟩
  have al2 : AllAlike (T2.map Prod.snd) := fun d hd e he => hal d ((p2.map Prod.snd).mem_iff.mp hd) e ((p2.map Prod.snd).mem_iff.mp he)
  have tp2 : ∀ d ∈ T2.map Prod.snd, ∃ xs, d = PyData.tuple xs := fun d hd => by
    obtain ⟨p, hp, rfl⟩ := List.mem_map.mp hd
    exact ht p (p2.mem_iff.mp hp)
  have u2 : ∀ d, d ∈ T2.map Prod.snd → A.in1.in1.units + d.depth < cLine := fun d hd => by
    obtain ⟨p, hp, rfl⟩ := List.mem_map.mp hd
    have z := hu p (p2.mem_iff.mp hp)
    simp only [Around.in1_units]
    omega
  have srt := sortsAt_tups (prog := P) (w := w) (A := A.in1.in1) (s := { s1 with heap := sortingHeap (s1.heap.push (seqObj "list" (T2.map TRow.r).toArray 0)) s1.heap.objs.size (T2.map TRow.r) }) (each_map (R := fun v d => ∃ as, Reads _ v d as) Prod.snd rd) al2 tp2 u2
  have out := rows_each (sortVals_data (R := fun v p => v = TRow.r p) (enc := Prod.snd) false (each_rows T2 fun p _ => rfl) rd al2)
  refine wpAny_bind (wpAny_holding (wpAny_call_entry slot_list_sort ⟨_, gL, rfl⟩ entry_list_sort (list_sort_vals (s := { s1 with heap := s1.heap.push (seqObj "list" (T2.map TRow.r).toArray 0) }) gL srt (by rw [sizeLine_eq]; omega) ⟨_, rfl, ?_⟩) (args_list_sort _)))
  rw [out]
  obtain ⟨c, hc⟩ := sortedHeap_at (vs := T2.map TRow.r) (out := ((T2.mergeSort (dataLe false Prod.snd)).map TRow.r).toArray) gL
  refine wpAny_pure ⟨_, rfl, q _ s1.heap.objs.size c T2 (fun b u e => ?_) g1 o1 hz p2 hc⟩
  have z := k1 b u e
  have lt := Heap.lt_size z
  show (sortedHeap (s1.heap.push (seqObj "list" (T2.map TRow.r).toArray 0)) s1.heap.objs.size (T2.map TRow.r) _).get? b = some u
  rw [sortedHeap_old (Nat.ne_of_lt lt) (by rw [size_push']; exact Nat.lt_succ_of_lt lt)]
  exact Heap.get?_push_of_some _ z
end
end L2

set_option Elab.async false
set_option linter.all false
set_option maxRecDepth 100000
set_option maxHeartbeats 4000000
/-! sets of nested tuples, and sorted lists of tuples: rules of the layer -/
namespace L2
open PySem PySem.W PySem.Spec PyProof.Rows
abbrev TRow.v (p : TRow) : V := .ref p.1
theorem tuple_ref {H : Hp} {v : V} {ds : List PyData} (h : Dat H v (.tuple ds)) : ∃ a, v = .ref a := by
  cases h with
  | tup _ _ => exact ⟨_, rfl⟩
theorem rows_of_dat {H : Hp} : ∀ {vs : List V} {ds : List PyData}, DatAll H vs ds → (∀ d ∈ ds, ∃ xs, d = .tuple xs) → ∃ T : List TRow, vs = T.map TRow.v ∧ ds = T.map Prod.snd ∧ ∀ p ∈ T, Dat H p.v p.2
  | _, _, .nil, _ => ⟨[], rfl, rfl, fun p hp => absurd hp (by simp)⟩
  | _, _, .cons (v := v) (d := d) h t, ht => by
    obtain ⟨T, rfl, rfl, h3⟩ := rows_of_dat t fun e he => ht e (List.mem_cons_of_mem _ he)
    obtain ⟨xs, rfl⟩ := ht d List.mem_cons_self
    obtain ⟨a, rfl⟩ := tuple_ref h
    refine ⟨(a, .tuple xs) :: T, rfl, rfl, fun p hp => ?_⟩
    rcases List.mem_cons.mp hp with rfl | hp
    · exact h
    · exact h3 p hp
theorem rows_vals : ∀ T : List TRow, Vals (T.map TRow.v) (T.map TRow.r)
  | [] => .nil
  | _ :: T => .cons rfl (rows_vals T)
theorem vals_rows : ∀ {T : List TRow} {us : List Value}, Vals (T.map TRow.v) us → us = T.map TRow.r
  | [], _, .nil => rfl
  | _ :: T, _, .cons r t => by
    cases (show _ = Value.ref _ from r)
    rw [vals_rows t, List.map_cons]
/-- what is asked of the data of tuples that are sorted -/
structure Sorty (T : List TRow) : Prop where
  alike : AllAlike (T.map Prod.snd)
  tup : ∀ p ∈ T, ∃ xs, p.2 = .tuple xs
  deep : ∀ p ∈ T, p.2.depth ≤ 8
theorem Sorty.sub {T T' : List TRow} (h : Sorty T) (s : ∀ p ∈ T', p ∈ T) : Sorty T' where
  alike := fun d hd e he => by
    obtain ⟨p, hp, rfl⟩ := List.mem_map.mp hd
    obtain ⟨q, hq, rfl⟩ := List.mem_map.mp he
    exact h.alike _ (List.mem_map_of_mem (s p hp)) _ (List.mem_map_of_mem (s q hq))
  tup := fun p hp => h.tup p (s p hp)
  deep := fun p hp => h.deep p (s p hp)
/-- the set at a, without its members -/
structure NSet0 (w : World) (h : Heap) (a : Addr) (L : List NRow) : Prop where
  ex : ∃ (es : Array (Int × Value)) (ep : Nat) (t : SetTable), (∃ o, h.get? a = some o ∧ o.ExactSet ∧ o.data = .set es ep t) ∧ es.toList = nrows w L ∧ TabOk t (hashesN w L) ∧ (L.map Prod.snd).Nodup ∧
    (w.params.followText "set-order" = true ∨ t.led = true) ∧ L.length * 5 < t.mask * 3 ∧ L.length < 64
def SetNO (w : World) (a : Addr) (L : List NRow) : HO := .ext fun h => NSet0 w h a L
theorem NSet.less {w : World} {h : Heap} {a : Addr} {L : List NRow} {es : Array (Int × Value)} {ep : Nat} {t : SetTable} (N : NSet w h a L es ep t) : NSet0 w h a L := ⟨es, ep, t, N.obj, N.eqs, N.tok, N.dif, N.led, N.gap, N.small⟩
theorem NSet0.full {w : World} {h : Heap} {a : Addr} {L : List NRow} (N : NSet0 w h a L) (hk : ∀ r ∈ L, TupKey h r.2 r.1) : ∃ es ep t, NSet w h a L es ep t := by
  obtain ⟨es, ep, t, h1, h2, h3, h4, h5, h6, h7⟩ := N.ex
  exact ⟨es, ep, t, h1, h2, h3, h4, hk, h5, h6, h7⟩
theorem setNO_ok {P : Program} {w : World} {H : Hp} {h : Heap} {a : Addr} {L : List NRow} (N : NSet0 w h a L) : ObjOk P w H h a (SetNO w a L) := by
  obtain ⟨es, ep, t, ⟨o, g, r⟩, z⟩ := N.ex
  refine ⟨N, ⟨o, g⟩, fun h1 h2 p k => ?_⟩
  obtain ⟨es', ep', t', ⟨o', g', r'⟩, z'⟩ := NSet0.ex p
  exact ⟨es', ep', t', ⟨o', k o' g', r'⟩, z'⟩
section
variable {X : Cx}
theorem Inv.reads {pins : List (Addr × Obj)} {σ : St} {H : Hp} {s : Shared} (I : Inv X pins σ H s) {p : TRow} (d : Dat H p.v p.2) : ∃ as, Reads s.heap p.r p.2 as := reads_of_dat I.hok d rfl
theorem tupKey_of {h : Heap} {p : TRow} (r : ∃ as, Reads h p.r p.2 as) (k : keyable p.2 = true) (z : p.2.depth ≤ 8) : TupKey h (nkey p.2) p.1 := by
  obtain ⟨as, r⟩ := r
  exact ⟨nkey_is _ _ as k r, by rw [nkey_depth _ k]; exact z⟩
/-- set(xs), xs a list of nested tuples -/
def rSetN (K : PySem.W.Frag) (w : World) : List V → Hp → VK → Prop := fun xs H Q => ∃ (l : Addr) (T : List TRow), xs = [V.ref l] ∧ SqL K H l (T.map TRow.v) ∧ (∀ p ∈ T, Dat H p.v p.2) ∧ Sorty T ∧ (∀ p ∈ T, keyable p.2 = true) ∧ T.length < 64 ∧
  ∀ (a : Addr) (T' : List TRow), H a = none → (∀ p ∈ T', p ∈ T) → (∀ p ∈ T, p.2 ∈ T'.map Prod.snd) → (T'.map Prod.snd).Nodup → Q (.ref a) (upd H a (SetNO w a (T'.map TRow.n)))
theorem cr_setN (hc : X.calm = true) (hu : X.A.units + 64 < cLine) : CallR X (.type "set") (rSetN X.K X.w) := by
  intro pins s σ H xs us Q I r h
  obtain ⟨l, T, rfl, hl, hd, so, hk, few, q⟩ := h
  rw [Vals.ref1 r]
  obtain ⟨its, rv, pl, hz⟩ := I.list hl
  have e1 : its = T.map TRow.r := vals_rows rv
  have fresh : H s.heap.objs.size = none := I.hok.fresh (Nat.le_refl _)
  have keys : ∀ r ∈ T.map TRow.n, TupKey s.heap r.2 r.1 := fun r hr => by
    obtain ⟨p, hp, rfl⟩ := List.mem_map.mp hr
    exact tupKey_of (I.reads (hd p hp)) (hk p hp) (so.deep p hp)
  refine nset_call (P := X.prog) (w := X.w) (T.map TRow.n) (I.ok.hd hc) pl.isList (by rw [e1, List.map_map]; first | rfl | done) keys (by rw [List.length_map]; exact few) (by omega) fun s' hm => ?_
  obtain ⟨h', tk, L, es, ep, t, rfl, N, g, ext⟩ := hm
  have sub : ∀ r ∈ L, r ∈ T.map TRow.n := fun r hr => List.mem_of_mem_take (g.only r hr)
  obtain ⟨T', rfl, sub'⟩ := sub_back L sub
  refine ⟨.ref s.heap.objs.size, upd H s.heap.objs.size (SetNO X.w s.heap.objs.size (T'.map TRow.n)), I.laid (t' := tk) ext (Nat.le_refl _) (setNO_ok N.less), rfl, q _ T' fresh sub' (fun p hp => ?_) ?_⟩
  · have z := g.every p.n (by rw [List.take_length]; exact List.mem_map_of_mem hp)
    rw [List.map_map] at z
    obtain ⟨p', hp', e⟩ := List.mem_map.mp z
    have e2 : nkey p'.2 = nkey p.2 := e
    have mp' := sub' p' hp'
    rw [← nkey_inj _ _ (hk p' mp') (hk p hp) (so.alike _ (List.mem_map_of_mem mp') _ (List.mem_map_of_mem hp)) e2]
    exact List.mem_map_of_mem hp'
  · have z := N.dif
    rw [List.map_map] at z
    have z2 : ((T'.map Prod.snd).map nkey).Nodup := by
      rw [List.map_map]
      exact z
    exact nodup_of_map z2
/-- sorted(set), the members nested tuples -/
def rSortN (w : World) : List V → Hp → VK → Prop := fun vs H Q => ∃ (a : Addr) (T : List TRow), vs = [V.ref a] ∧ H a = some (SetNO w a (T.map TRow.n)) ∧ (∀ p ∈ T, Dat H p.v p.2) ∧ Sorty T ∧ (∀ p ∈ T, keyable p.2 = true) ∧
  ∀ (T' : List TRow) (b : Addr), T'.Perm T → (T'.Pairwise fun p q => dataLt p.2 q.2 = true) → H b = none → Q (.ref b) (upd H b (.lst (T'.map TRow.v)))
theorem cr_sortN (hc : X.calm = true) (hu : X.A.units + 64 < cLine) : CallR X (.builtin "sorted") (rSortN X.w) := by
  intro pins s σ H vs us Q I r h
  obtain ⟨a, T, rfl, ha, hd, so, hk, q⟩ := h
  have N0 : NSet0 X.w s.heap a (T.map TRow.n) := (I.hok a _ ha).1
  obtain ⟨es, ep, t, N⟩ := N0.full fun r hr => by
    obtain ⟨p, hp, rfl⟩ := List.mem_map.mp hr
    exact tupKey_of (I.reads (hd p hp)) (hk p hp) (so.deep p hp)
  rw [Vals.ref1 r]
  have nd : (T.map Prod.snd).Nodup := by
    have z := N.dif
    rw [List.map_map] at z
    have z2 : ((T.map Prod.snd).map nkey).Nodup := by
      rw [List.map_map]
      exact z
    exact nodup_of_map z2
  have few := N.small
  rw [List.length_map] at few
  refine nsorted N (I.ok.hd hc) (fun p hp => I.reads (hd p hp)) so.alike so.tup (fun p hp => by have := so.deep p hp; omega) fun s' b c T' k g o hb pm hc' => ?_
  have pm2 : (sortT T').Perm T := (sortT_perm T').trans pm
  have so' : Sorty T' := so.sub fun p hp => pm.mem_iff.mp hp
  have fresh : H b = none := I.hok.fresh hb
  have J : Inv X pins σ (upd H b (.lst ((sortT T').map TRow.v))) { s with heap := s'.heap, gens := s'.gens, drawn := s'.drawn, toks := s'.toks } :=
    I.call (ch := []) (Un.laid k hb fresh) (I.hok.laid k hb ⟨by rw [List.length_map, pm2.length_eq, sizeLine_eq]; omega, _, c, rows_vals _, hc'⟩) (by rw [g]; exact I.bare) (fun _ z => nomatch z)
  have e : s' = { s with heap := s'.heap, gens := s'.gens, drawn := s'.drawn, toks := s'.toks } := by
    cases s'
    cases s
    cases o
    rfl
  rw [e]
  exact ⟨.ref b, _, J, rfl, q (sortT T') b pm2 (sortT_up T' so'.alike ((pm.map Prod.snd).nodup_iff.mpr nd)) fresh⟩
end
end L2

set_option Elab.async false
set_option linter.all false
set_option maxRecDepth 100000
set_option maxHeartbeats 2000000
/-! dicts keyed by tuples of texts, numbers, truths and such tuples -/
namespace L2
open PySem PySem.W PySem.Spec PyProof.Rows
abbrev DRow := TRow × V
/-- the rows of the layer, and the entries -/
abbrev KN : List DRow → List (NestedKey × Addr × Value) → Prop := Paired fun p q => q.1 = nkey p.1.2 ∧ q.2.1 = p.1.1 ∧ RelV p.2 q.2.2
def lookN (D : List DRow) (d : PyData) : Option V := (D.find? fun p => decide (nkey p.1.2 = nkey d)).map (·.2)
def putN (D : List DRow) (r : TRow) (v : V) : List DRow := if (lookN D r.2).isSome then D.map fun p => if nkey p.1.2 = nkey r.2 then (p.1, v) else p else D ++ [(r, v)]
theorem putN_new {D : List DRow} {r : TRow} {v : V} (h : lookN D r.2 = none) : putN D r v = D ++ [(r, v)] := by simp [putN, h]
theorem putN_old {D : List DRow} {r : TRow} {v x : V} (h : lookN D r.2 = some x) : putN D r v = D.map fun p => if nkey p.1.2 = nkey r.2 then (p.1, v) else p := by simp [putN, h]
theorem putN_len (D : List DRow) (r : TRow) (v : V) : (putN D r v).length ≤ D.length + 1 := by
  unfold putN
  split
  · rw [List.length_map]; omega
  · rw [List.length_append]; exact Nat.le_refl _
theorem lookN_cons (p : DRow) (D : List DRow) (d : PyData) : lookN (p :: D) d = if nkey p.1.2 = nkey d then some p.2 else lookN D d := by
  unfold lookN
  rw [List.find?_cons]
  by_cases h : nkey p.1.2 = nkey d
  · rw [if_pos h, decide_eq_true h]; rfl
  · rw [if_neg h, decide_eq_false h]
theorem lookN_none {D : List DRow} {d : PyData} : lookN D d = none ↔ ∀ p ∈ D, nkey p.1.2 ≠ nkey d := by
  induction D with
  | nil => exact ⟨fun _ p hp => absurd hp (by simp), fun _ => rfl⟩
  | cons p D ih =>
    rw [lookN_cons]
    by_cases h : nkey p.1.2 = nkey d
    · rw [if_pos h]
      exact ⟨fun z => (nomatch z), fun z => absurd h (z p List.mem_cons_self)⟩
    · rw [if_neg h, ih]
      exact ⟨fun z q hq => by
        rcases List.mem_cons.mp hq with rfl | hq
        · exact h
        · exact z q hq, fun z q hq => z q (List.mem_cons_of_mem _ hq)⟩
theorem KN.val {D : List DRow} {xs : List (NestedKey × Addr × Value)} (r : KN D xs) (d : PyData) : RelO (lookN D d) ((atKey xs (nkey d)).map (·.2)) := by
  induction r with
  | nil => exact trivial
  | @cons p q ps qs h t ih =>
    rw [lookN_cons]
    have e : atKey (q :: qs) (nkey d) = if nkey p.1.2 = nkey d then some q.2 else atKey qs (nkey d) := by
      unfold atKey
      rw [List.find?_cons, h.1]
      by_cases z : nkey p.1.2 = nkey d
      · rw [if_pos z, decide_eq_true z]; rfl
      · rw [if_neg z, decide_eq_false z]
    rw [e]
    by_cases z : nkey p.1.2 = nkey d
    · rw [if_pos z, if_pos z]
      exact h.2.2
    · rw [if_neg z, if_neg z]
      exact ih
theorem KN.repl {D : List DRow} {xs : List (NestedKey × Addr × Value)} (r : KN D xs) (d : PyData) {v : V} {u : Value} (rv : RelV v u) :
    KN (D.map fun p => if nkey p.1.2 = nkey d then (p.1, v) else p) (xs.map (putAt (nkey d) u)) := by
  induction r with
  | nil => exact .nil
  | @cons p q ps qs h t ih =>
    refine .cons ?_ ih
    unfold putAt
    dsimp only
    rw [h.1]
    by_cases z : nkey p.1.2 = nkey d
    · rw [if_pos z, if_pos z]
      exact ⟨rfl, h.2.1, rv⟩
    · rw [if_neg z, if_neg z]
      exact h
theorem KN.app {D E : List DRow} {xs ys : List (NestedKey × Addr × Value)} (r : KN D xs) (t : KN E ys) : KN (D ++ E) (xs ++ ys) := by
  induction r with
  | nil => exact t
  | cons h _ ih => exact .cons h ih
theorem KN.put {D : List DRow} {xs : List (NestedKey × Addr × Value)} (r : KN D xs) (k : TRow) {v : V} {u : Value} (rv : RelV v u) : KN (putN D k v) (storedH xs (nkey k.2) k.1 u) := by
  have z := (r.val k.2).isSome_eq
  rw [Option.isSome_map] at z
  unfold putN storedH
  rw [z]
  by_cases h : (atKey xs (nkey k.2)).isSome = true
  · rw [if_pos h, if_pos h]
    exact r.repl k.2 rv
  · rw [if_neg h, if_neg h]
    exact r.app (.cons ⟨rfl, rfl, rv⟩ .nil)
/-- the dict's object alone -/
def RawN (w : World) (a : Addr) (D : List DRow) (h : Heap) : Prop := ∃ xs o es ep, KN D xs ∧ h.get? a = some o ∧ o.ExactDict ∧ o.data = .dict es ep ∧ es.toList = xs.map (fun x => (⟨x.1.hash w, .ref x.2.1, x.2.2⟩ : DictEntry)) ∧ (xs.map (·.1)).Nodup ∧ D.length ≤ sizeLine ∧ (a == sysModules) = false
def DnO (w : World) (a : Addr) (D : List DRow) : HO := .ext (RawN w a D)
theorem dn_ok {P : Program} {w : World} {H : Hp} {h : Heap} {a : Addr} {D : List DRow} (r : RawN w a D h) : ObjOk P w H h a (DnO w a D) := by
  have ⟨xs, o, es, ep, r1, r2, r3, r4, r5, r6, r7, r8⟩ := r
  exact ⟨r, ⟨o, r2⟩, fun h1 h2 ⟨xs, o, es, ep, q1, q2, q3, q4, q5, q6, q7, q8⟩ k => ⟨xs, o, es, ep, q1, k _ q2, q3, q4, q5, q6, q7, q8⟩⟩
/-- a dict stands at a with the rows D (the empty one may still be of no kind) -/
def DnAt (w : World) (H : Hp) (a : Addr) (D : List DRow) : Prop := H a = some (DnO w a D) ∨ (H a = some (.dK []) ∧ D = [])
def KeysAt (H : Hp) (D : List DRow) : Prop := ∀ p ∈ D, Dat H p.1.v p.1.2 ∧ keyable p.1.2 = true ∧ p.1.2.depth ≤ 8
theorem DnAt.same {w : World} {H H' : Hp} {a : Addr} {D : List DRow} (h : DnAt w H a D) (S : Same H H') : DnAt w H' a D := by
  rcases h with h | ⟨h, e⟩
  · exact .inl (S _ _ h)
  · exact .inr ⟨S _ _ h, e⟩
theorem KeysAt.same {H H' : Hp} {D : List DRow} (h : KeysAt H D) (S : Same H H') : KeysAt H' D := fun p hp => ⟨(h p hp).1.same S, (h p hp).2⟩
section
variable {X : Cx} {pins : List (Addr × Obj)} {σ : L2.St} {H : Hp} {s : Shared} {a : Addr} {D : List DRow}
theorem key_at {r : Addr} {d : PyData} {h : Heap} {P : Program} {w : World} (ok : HOk P w H h) (D : Dat H (.ref r) d) (k : keyable d = true) (dp : d.depth ≤ 8) : (nestedKind P w).is h (nkey d) r := by
  obtain ⟨as, R⟩ := reads_of_dat ok D (show RelV (.ref r) (Value.ref r) from rfl)
  exact ⟨nkey_is d _ as k R, by rw [nkey_depth d k]; exact dp⟩
theorem kn_keys {h : Heap} {P : Program} {w : World} (ok : HOk P w H h) {D : List DRow} {xs : List (NestedKey × Addr × Value)} (r : KN D xs) (kk : KeysAt H D) : ∀ x ∈ xs, (nestedKind P w).is h x.1 x.2.1 := by
  induction r with
  | nil => exact fun x hx => absurd hx (by simp)
  | @cons p q ps qs hq t ih =>
    intro x hx
    rcases List.mem_cons.mp hx with rfl | hx
    · obtain ⟨D1, k1, dp⟩ := kk p List.mem_cons_self
      rw [hq.1, hq.2.1]
      exact key_at ok D1 k1 dp
    · exact ih (fun p hp => kk p (List.mem_cons_of_mem _ hp)) x hx
theorem dn_of {h : Heap} {P : Program} {w : World} (ok : HOk P w H h) (e : DnAt w H a D) (kk : KeysAt H D) : ∃ xs, KN D xs ∧ h.DictOfH (nestedKind P w) a xs ∧ xs.length ≤ sizeLine ∧ (a == sysModules) = false := by
  rcases e with e | ⟨e, rfl⟩
  · obtain ⟨⟨xs, o, es, ep, r1, r2, r3, r4, r5, r6, r7, r8⟩, _⟩ := (show ObjOk P w H h a (DnO w a D) from ok a _ e)
    exact ⟨xs, r1, ⟨o, es, ep, r2, r3, r4, r5, kn_keys ok r1 kk, r6⟩, by rw [← Paired.length r1]; exact r7, r8⟩
  · obtain ⟨z, hd, vs, rel, dd⟩ := dk_of ok e
    have e0 : vs = [] := by
      have := rel.length
      exact List.length_eq_zero_iff.mp this.symm
    subst e0
    obtain ⟨o, es, ep, h1, h2, h3, _, h4, _⟩ := dd
    have e1 : es.toList = [] := by
      cases hh : es.toList with
      | nil => rfl
      | cons x l => rw [hh] at h4; cases h4
    exact ⟨[], .nil, ⟨o, es, ep, h1, h2, h3, e1, fun x hx => absurd hx (by simp), List.nodup_nil⟩, Nat.zero_le _, hd⟩
theorem DnAt.mut {w : World} (e : DnAt w H a D) : Mut (H a) := by
  rcases e with e | ⟨e, _⟩ <;> rw [e] <;> exact True.intro
theorem dn_setItem {A : Around} {E : Value → Shared → Prop} {r : Addr} {d : PyData} {v : V} {u : Value} {Q : Unit → Shared → Prop} (hu : A.units + 16 < cLine) (I : Inv X pins σ H s) (e : DnAt X.w H a D) (kk : KeysAt H D) (Dr : Dat H (.ref r) d) (kd : keyable d = true) (dp : d.depth ≤ 8)
    (rv : RelV v u) (hl : D.length < sizeLine) (h : ∀ s', Inv X pins σ (upd H a (DnO X.w a (putN D (r, d) v))) s' → Q () s') : wpAny (model X.prog X.w) A (setItem (.ref a) (.ref r) u) Q E s := by
  obtain ⟨xs, rel, dd, hz, hd⟩ := dn_of I.hok e kk
  refine wpAny_setItem_heap (hsz := hz) (show A.in1.units + 8 < cLine by rw [Around.in1_units]; omega) (key_at I.hok Dr kd dp) dd fun h' dd' hs => h _ ?_
  obtain ⟨q, es, ep, hq, h2, h3, h4, _, h5⟩ := dd'
  exact d_write I e.mut hs ⟨q, hq⟩ (dn_ok ⟨_, q, es, ep, rel.put (r, d) rv, hq, h2, h3, h4, h5, Nat.le_trans (putN_len _ _ _) hl, hd⟩)
end
section
variable {X : Cx}
def rInN (f : Bool → Bool) (w : World) : R2 := fun x y H Q => ∃ r a D d, x = .ref r ∧ y = .ref a ∧ DnAt w H a D ∧ KeysAt H D ∧ Dat H (.ref r) d ∧ keyable d = true ∧ d.depth ≤ 8 ∧ Q (.bl (f (lookN D d).isSome)) H
theorem op_inN (hu : X.A.units + 16 < cLine) : OpR X (compareOp .In) (rInN id X.w) := by
  intro pins s σ H x y v u Q I rx ry h
  obtain ⟨r, a, D, d, rfl, rfl, e, kk, Dr, kd, dp, q⟩ := h
  cases rx; cases ry
  obtain ⟨xs, rel, dd, hz, hd⟩ := dn_of I.hok e kk
  refine wpAny_in_heap (show X.A.in1.units + 8 < cLine by rw [Around.in1_units]; omega) (key_at I.hok Dr kd dp) hd dd ?_
  have z := (rel.val d).isSome_eq
  rw [Option.isSome_map] at z
  rw [← z]
  exact ⟨.bl _, H, I.tok _, rfl, q⟩
theorem op_notInN (hu : X.A.units + 16 < cLine) : OpR X (compareOp .NotIn) (rInN not X.w) := by
  intro pins s σ H x y v u Q I rx ry h
  obtain ⟨r, a, D, d, rfl, rfl, e, kk, Dr, kd, dp, q⟩ := h
  cases rx; cases ry
  obtain ⟨xs, rel, dd, hz, hd⟩ := dn_of I.hok e kk
  refine wpAny_notIn_heap (show X.A.in1.units + 8 < cLine by rw [Around.in1_units]; omega) (key_at I.hok Dr kd dp) hd dd ?_
  have z := (rel.val d).isSome_eq
  rw [Option.isSome_map] at z
  rw [← z]
  exact ⟨.bl _, H, I.tok _, rfl, q⟩
/-- d[y] = v -/
def sNPut (w : World) (td ty tv : TE) : TS := fun Dn σ H => tv σ H fun v H1 => td σ H1 fun x H2 => ty σ H2 fun y H3 => ∃ a r D d, x = .ref a ∧ y = .ref r ∧ DnAt w H3 a D ∧ KeysAt H3 D ∧ Dat H3 (.ref r) d ∧ keyable d = true ∧ d.depth ≤ 8 ∧ D.length < sizeLine ∧
  Dn.nx σ (upd H3 a (DnO w a (putN D (r, d) v)))
theorem ps_nput {o i value : Expr} {td ty tv : TE} {pos pos' : Pos} (hu : X.A.units + 16 < cLine) (ho : PE X o td) (hi : PE X i ty) (hv : PE X value tv) (hs : swapsWith value (some (.Subscript o i pos')) pos.line X.env = pure false) :
    PS X (.Assign [.Subscript o i pos'] value pos) (sNPut X.w td ty tv) := by
  refine ⟨fun pins s σ H D I h => ?_⟩
  refine wpAny_Assign_Subscript (thn (hv.run pins s σ H _ I h) fun r s1 ⟨v, H1, I1, rv, q1⟩ => thn (ho.run pins s1 σ H1 _ I1 q1) fun u s2 ⟨x, H2, I2, rx, q2⟩ => thn (hi.run pins s2 σ H2 _ I2 q2) fun iv s3 ⟨y, H3, I3, ry, a, r', D', d, ex, ey, e, kk, Dr, kd, dp, hl, q3⟩ => ?_) hs
  subst ex ey
  cases rx; cases ry
  exact dn_setItem hu I3 e kk Dr kd dp rv hl fun s4 I4 => ⟨σ, _, I4, q3⟩
/-- d[y], there -/
def tNGet (w : World) (td ty : TE) : TE := fun σ H Q => td σ H fun x H1 => ty σ H1 fun y H2 => ∃ a r D d v, x = .ref a ∧ y = .ref r ∧ DnAt w H2 a D ∧ KeysAt H2 D ∧ Dat H2 (.ref r) d ∧ keyable d = true ∧ d.depth ≤ 8 ∧ lookN D d = some v ∧ Q v H2
theorem pe_nget {o i : Expr} {td ty : TE} {pos : Pos} (hu : X.A.units + 16 < cLine) (ho : PE X o td) (hi : PE X i ty) (hs : NoSl i) : PE X (.Subscript o i pos) (tNGet X.w td ty) := by
  refine ⟨fun pins s σ H Q I h => ?_⟩
  refine subD_of PySem.F.slot_dict_getitem.lookup hs (thn (ho.run pins s σ H _ I h) fun u s1 ⟨x, H1, I1, rx, q1⟩ => thn (hi.run pins s1 σ H1 _ I1 q1) fun iv s2 ⟨y, H2, I2, ry, a, r, D, d, v, ex, ey, e, kk, Dr, kd, dp, l, q2⟩ => ?_)
  subst ex ey
  cases rx; cases ry
  obtain ⟨xs, rel, dd, hz, hd⟩ := dn_of I2.hok e kk
  refine ⟨dd.typeIs, ?_⟩
  obtain ⟨w', hw, rw'⟩ := RelO.some_of (v := v) (o := (atKey xs (nkey d)).map (·.2)) (by rw [← l]; exact rel.val d)
  obtain ⟨p, hp, hp2⟩ := Option.map_eq_some_iff.mp hw
  refine wpAny_getItem_heap (show X.A.in1.units + 8 < cLine by rw [Around.in1_units]; omega) (key_at I2.hok Dr kd dp) dd hp ?_
  rw [hp2]
  exact ⟨v, H2, I2.tok _, rw', q2⟩
def rLenN (w : World) : List V → Hp → VK → Prop := fun vs H Q => ∃ a D, vs = [.ref a] ∧ DnAt w H a D ∧ KeysAt H D ∧ Q (.int ((D.length : Nat) : Int)) H
theorem call_lenN : CallR X (.builtin "len") (rLenN X.w) := by
  intro pins s σ H xs us Q I r h
  obtain ⟨a, D, rfl, e, kk, q⟩ := h
  rw [Vals.ref1 r]
  obtain ⟨ys, rel, dd, hz, hd⟩ := dn_of I.hok e kk
  have hl : D.length = ys.length := Paired.length rel
  have hs : sizeLine = 16777216 := sizeLine_eq
  refine call_len_dictH hd dd (by omega) ?_
  rw [← hl]
  exact ⟨.int _, H, I.tok _, ⟨_, rfl⟩, q⟩
end
end L2

set_option Elab.async false
set_option linter.all false
set_option maxRecDepth 100000
set_option maxHeartbeats 4000000
/-! {k: v for ..}, the keys tuples -/
namespace L2
open PySem PySem.W PySem.Spec PyProof.Rows
section
variable {X : Cx}
/-- one entry, put by a comprehension -/
def Ent (w : World) (D : Addr) (Nx : Hp → Prop) : V → V → Hp → Prop := fun y z H => ∃ (r : Addr) (d : PyData) (E : List DRow), y = .ref r ∧ DnAt w H D E ∧ KeysAt H E ∧ Dat H (.ref r) d ∧ keyable d = true ∧ d.depth ≤ 8 ∧ E.length < sizeLine ∧ Nx (upd H D (DnO w D (putN E (r, d) z)))
/-- a turn: what is drawn goes to the target, is tried, and its entry is put -/
def DTurn (w : World) (D : Addr) (g : TG) (tt : TT) (tk tv : TE) (vs : List Nat) (σ : L2.St) (Nx : Hp → Prop) : V → Hp → Prop := fun x H => g x (wipe σ vs) H fun σ2 H2 => wipe σ2 vs = wipe σ vs ∧ tt σ2 H2 fun b H3 =>
  if b = true then tk σ2 H3 fun y H4 => tv σ2 H4 fun z H5 => Ent w D Nx y z H5 else Nx H3
def tDn (w : World) (wi : TI) (g : TG) (tt : TT) (tk tv : TE) (vs : List Nat) : TE := fun σ H Q => wi σ H fun J H1 => ∀ D, H1 D = none → ∃ W : Nat → Nat → Hp → Prop, (∃ m, W 0 m (upd H1 D (.dK []))) ∧ ∀ i m H, W i m H →
  (J.stop i H ∧ Q (.ref D) H) ∨ (J.go i H ∧ ∃ Nx : Hp → Prop, (∀ H', Nx H' → ∃ m', m' < m ∧ W (i + 1) m' H') ∧ ∀ x H', J.yld i H x H' → DTurn w D g tt tk tv vs σ Nx x H')
theorem ent_set {pins : List (Addr × Obj)} {σ : L2.St} {H : Hp} {s : Shared} {E : Value → Shared → Prop} {D : Addr} {Nx : Hp → Prop} {y z : V} {u r : Value} {Q : Unit → Shared → Prop} (hu : X.A.units + 16 < cLine) (I : Inv X pins σ H s) (ry : RelV y u) (rz : RelV z r) (e : Ent X.w D Nx y z H)
    (h : ∀ s' H', Inv X pins σ H' s' → Nx H' → Q () s') : wpAny (model X.prog X.w) X.A (dictSet D u r) Q E s := by
  obtain ⟨a, d, L, rfl, at_, kk, Dk, kd, dp, ll, nx⟩ := e
  cases ry
  obtain ⟨xs, rel, dd, hz, hd⟩ := dn_of I.hok at_ kk
  refine wpAny_dictSet_heap (hsz := hz) (knd := nestedKind X.prog X.w) (show X.A.units + 8 < cLine by omega) (key_at I.hok Dk kd dp) dd fun h' dd' sb => h _ _ ?_ nx
  obtain ⟨o, es, ep, w1, w2, w3, w4, _, w5⟩ := dd'
  have len : (putN L (a, d) z).length ≤ sizeLine := Nat.le_trans (putN_len L (a, d) z) ll
  exact d_write I at_.mut sb ⟨o, w1⟩ (dn_ok ⟨_, o, es, ep, rel.put (a, d) rz, w1, w2, w3, w4, w5, len, hd⟩)
abbrev nob : Obj := { cls := .type "dict", data := .dict #[] }
theorem pe_dcN {kx vx tg iter : Expr} {ifs : List Expr} {scope : Scope} {own : List (Str × Nat)} {pos : Pos} {wi : TI} {g : TG} {tt : TT} {tk tv : TE} (hu : X.A.units + 16 < cLine) (calm : X.calm = true) (nd : X.N.Nodup) (hi : PI X tg iter wi) (ok : BlkOk X.N X.env.scope scope own)
    (hg : ∀ s H C cl fp, PG (X.blk s H scope (compEnvC scope cl C X.env) fp) tg g) (ht : ∀ s H C cl fp, PTs (X.blk s H scope (compEnvC scope cl C X.env) fp) ifs tt) (hk : ∀ s H C cl fp, PE (X.blk s H scope (compEnvC scope cl C X.env) fp) kx tk)
    (hv : ∀ s H C cl fp, PE (X.blk s H scope (compEnvC scope cl C X.env) fp) vx tv) (hs : ∀ x, foldedSetIterable iter X.env x = pure x := by intro _; rfl) : PE X (.DictComp kx vx [⟨tg, iter, ifs, 0⟩] scope pos) (tDn X.w wi g tt tk tv (own.map (·.2))) := by
  refine ⟨fun pins s σ H Q I h => ?_⟩
  rw [arm_eval_DictComp]
  have clo := closure_ok (scope := scope) (env := X.env) fun y hy e => (ok.free y hy e).elim (fun z => I.ok.has _ (.inl z)) fun z => I.ok.has _ (.inr z)
  refine wpAny_comprehension_free (use := none) rfl hs clo ok.kind (fun y hy e => by rw [ok.uniq y hy, e]) (thn (hi.run pins s σ H _ I h) fun v s1 a1 => thn a1 fun i0 s2 a2 => ?_)
  obtain ⟨it, fp, tn, J, H2, rfl, I2, T, t2, f2, q⟩ := a2
  refine wpAny_newObj_type (newEnv_comp ?_)
  -- the new dict stands at the heap's end
  have free0 : H2 s2.heap.objs.size = none := I2.hok.fresh (Nat.le_refl _)
  obtain ⟨W, ⟨m0, w0⟩, turn⟩ := q _ free0
  have grow : ∀ b o, s2.heap.get? b = some o → (s2.heap.push nob).get? b = some o := fun b o e => Heap.get?_push_of_some _ e
  have I3 : Inv X pins σ (upd H2 s2.heap.objs.size (.dK [])) { s2 with heap := s2.heap.push nob } := I2.laid (t' := s2.toks) grow (Nat.le_refl _) (dk_empty s2.heap I2.big)
  have low : ∀ b ∈ fp, b < s2.heap.objs.size := fun b hb => (let ⟨_, e, _⟩ := T.obj _ _ t2 b hb; Heap.lt_size e)
  have f3 : ∀ b ∈ fp, FpOk X pins (upd H2 s2.heap.objs.size (.dK [])) b ∧ b < (s2.heap.push nob).objs.size := fun b hb =>
    ⟨⟨(upd_ne (Nat.ne_of_lt (low b hb))).trans (f2 b hb).1, (f2 b hb).2⟩, by rw [Heap.size_push]; exact Nat.lt_succ_of_lt (low b hb)⟩
  have t3 : tn 0 (s2.heap.push nob) := T.keep _ _ _ t2 fun b _ => grow b
  have I4 := block_start I3 ok nd f3
  -- what is asked of the parts, within the block
  have pg := hg { s2 with heap := s2.heap.push nob } (upd H2 s2.heap.objs.size (.dK [])) (s2.heap.push nob).objs.size (cellsFrom ((s2.heap.push nob).objs.size + 1) scope.names (cloFrom X.env.cells scope.names [])) fp
  have pt := ht { s2 with heap := s2.heap.push nob } (upd H2 s2.heap.objs.size (.dK [])) (s2.heap.push nob).objs.size (cellsFrom ((s2.heap.push nob).objs.size + 1) scope.names (cloFrom X.env.cells scope.names [])) fp
  have pk := hk { s2 with heap := s2.heap.push nob } (upd H2 s2.heap.objs.size (.dK [])) (s2.heap.push nob).objs.size (cellsFrom ((s2.heap.push nob).objs.size + 1) scope.names (cloFrom X.env.cells scope.names [])) fp
  have pv := hv { s2 with heap := s2.heap.push nob } (upd H2 s2.heap.objs.size (.dK [])) (s2.heap.push nob).objs.size (cellsFrom ((s2.heap.push nob).objs.size + 1) scope.names (cloFrom X.env.cells scope.names [])) fp
  have t4 : tn 0 (pushCells ((s2.heap.push nob).push nob) scope.names) := T.keep _ _ _ t3 fun b _ o e => pushCells_keeps _ _ _ _ (Heap.get?_push_of_some _ e)
  have cl : (compEnvC scope (cellsFrom ((s2.heap.push nob).objs.size + 1) scope.names (cloFrom X.env.cells scope.names [])) (s2.heap.push nob).objs.size X.env).locals = (s2.heap.push nob).objs.size := rfl
  have key : ∀ s4 : Shared, Inv (X.blk { s2 with heap := s2.heap.push nob } (upd H2 s2.heap.objs.size (.dK [])) scope (compEnvC scope (cellsFrom ((s2.heap.push nob).objs.size + 1) scope.names (cloFrom X.env.cells scope.names [])) (s2.heap.push nob).objs.size X.env) fp) [] (wipe σ (own.map (·.2))) (upd H2 s2.heap.objs.size (.dK [])) s4 → tn 0 s4.heap →
      codeAny (model X.prog X.w) X.A (.compLoop (.DictComp kx vx [⟨tg, iter, ifs, 0⟩] scope pos) 0 (.ref it) (.ref s2.heap.objs.size) (compEnvC scope (cellsFrom ((s2.heap.push nob).objs.size + 1) scope.names (cloFrom X.env.cells scope.names [])) (s2.heap.push nob).objs.size X.env)) (compPost (model X.prog X.w) X.A X.xe none (EP X pins σ Q) (.ref s2.heap.objs.size) (s2.heap.push nob).objs.size) s4 := by
    generalize compEnvC scope (cellsFrom ((s2.heap.push nob).objs.size + 1) scope.names (cloFrom X.env.cells scope.names [])) (s2.heap.push nob).objs.size X.env = ce at cl pg pt pk pv ⊢
    intro s4 J4 u4
    have fps : ∀ {σ' : L2.St} {H' : Hp} {s' : Shared}, Inv (X.blk { s2 with heap := s2.heap.push nob } (upd H2 s2.heap.objs.size (.dK [])) scope ce fp) [] σ' H' s' → (∀ b ∈ fp, H' b = none) → ∀ b ∈ fp, FpOk (X.blk { s2 with heap := s2.heap.push nob } (upd H2 s2.heap.objs.size (.dK [])) scope ce fp) [] H' b := fun {σ' H' s'} J z b hb =>
      ⟨z b hb, (J.ok.exf b hb).1, J.ok.exfs b hb, .inl hb, fun x c e => (J.ok.exf b hb).2 x c e, fun p hp => absurd (show p ∈ ([] : List (Addr × Obj)) ++ [] from hp) (by simp)⟩
    refine compLoop_anyD (fun n s' => ∃ i H', Inv (X.blk { s2 with heap := s2.heap.push nob } (upd H2 s2.heap.objs.size (.dK [])) scope ce fp) [] (wipe σ (own.map (·.2))) H' s' ∧ tn i s'.heap ∧ (∀ b ∈ fp, H' b = none) ∧ W i n H') ?_ m0 ⟨0, _, J4, u4, fun b hb => (f3 b hb).1.1, w0⟩
    rintro n s5 ⟨i, H5, J5, u5, z5, w5⟩
    rcases turn i n H5 w5 with ⟨stop, qq⟩ | ⟨go, Nx, less, step⟩
    · refine thnF (T.done (X.blk { s2 with heap := s2.heap.push nob } (upd H2 s2.heap.objs.size (.dK [])) scope ce fp) rfl rfl rfl calm i [] s5 _ H5 (fun _ _ => False) J5 (fps J5 z5) u5 stop) fun r s6 ⟨er, J6⟩ => ?_
      subst er
      have back : Inv X pins σ H5 s6 := I3.call' (ch := fp) J6.os J6.base J6.hok J6.bare fun b hb => (let ⟨⟨_, a1, _, a3, a4, a5⟩, _⟩ := f3 b hb; ⟨a3, a1, a4, a5⟩)
      have nC : H5 (s2.heap.push nob).objs.size = none := by
        have z := J6.free
        rwa [show (X.blk { s2 with heap := s2.heap.push nob } (upd H2 s2.heap.objs.size (.dK [])) scope ce fp).env.locals = (s2.heap.push nob).objs.size from cl] at z
      obtain ⟨m, hm, _⟩ := J6.loc
      have hm : s6.heap.Ns ce.locals m := hm
      rw [cl] at hm
      obtain ⟨g0, g1, g2, g3, g4, g5⟩ := I3.fpOk (H' := H5) (Nat.le_refl _) nC
      exact ⟨m, hm, fun h' sb => ⟨.ref _, H5, back.turned (t' := s6.toks) (fun b o hb e => (sb.2 b hb).trans e) g0 g1 g3 g4 g5, rfl, qq⟩⟩
    · refine thnF (T.item (X.blk { s2 with heap := s2.heap.push nob } (upd H2 s2.heap.objs.size (.dK [])) scope ce fp) rfl rfl rfl calm i [] s5 _ H5 (fun _ _ => False) J5 (fps J5 z5) u5 go) fun r s6 ⟨u, er, a6⟩ => ?_
      subst er
      refine thnF a6 fun _ s7 ⟨x, H7, J7, rx, yx, u7, z7⟩ => ?_
      refine thnF (pg.run _ s7 _ H7 x u _ (J7.pinned (fps J7 z7) (T.obj _ _ u7)) rx (step x H7 yx)) fun _ s8 ⟨σ8, H8, J8, hw, a8⟩ => ?_
      refine thnF (pt.run _ s8 σ8 H8 _ J8 a8) fun b s9 ⟨H9, J9, a9⟩ => ?_
      have next : ∀ {s' : Shared} {H' : Hp}, Inv (X.blk { s2 with heap := s2.heap.push nob } (upd H2 s2.heap.objs.size (.dK [])) scope ce fp) ([] ++ pinsAt fp s7.heap) σ8 H' s' → Nx H' →
          ∃ m, m < n ∧ ∃ i H', Inv (X.blk { s2 with heap := s2.heap.push nob } (upd H2 s2.heap.objs.size (.dK [])) scope ce fp) [] (wipe σ (own.map (·.2))) H' s' ∧ tn i s'.heap ∧ (∀ b ∈ fp, H' b = none) ∧ W i m H' := fun {s' H'} J nx => by
        obtain ⟨m', lt, w'⟩ := less H' nx
        have kept : ∀ b ∈ fp, ∀ o, s7.heap.get? b = some o → s'.heap.get? b = some o ∧ H' b = none := fun b hb o e => by
          obtain ⟨y1, y2, _⟩ := J.pin (b, o) (List.mem_append_right _ (List.mem_append_right _ (mem_pinsAt hb e)))
          exact ⟨y1, y2⟩
        have sz : (wipe σ (own.map (·.2))).length = σ8.length := by rw [← hw, wipe_length]
        have J' := (J.unpinned (pins := [])).weak sz fun j v e => by
          rw [← hw] at e
          exact (wipe_some e).1
        exact ⟨m', lt, i + 1, H', J', T.keep _ _ _ u7 fun b hb o e => (kept b hb o e).1, fun b hb => (let ⟨o, e, _⟩ := T.obj _ _ u7 b hb; (kept b hb o e).2), w'⟩
      cases b with
      | false => exact next J9 a9
      | true =>
        refine thnF (pk.run _ s9 σ8 H9 _ J9 a9) fun z1 sA ⟨y, HA, JA, ry, aA⟩ => ?_
        refine thnF (pv.run _ sA σ8 HA _ JA aA) fun z2 sB ⟨z, HB, JB, rz, aB⟩ => ?_
        exact ent_set (X := X.blk { s2 with heap := s2.heap.push nob } (upd H2 s2.heap.objs.size (.dK [])) scope ce fp) hu JB ry rz aB fun s' H' J nx => next J nx
  exact codeAny_compStart_dict (key _ I4 t4) (T.self X.A 0 _ _ _ t4 (key _ I4 t4))
end
end L2

set_option Elab.async false
set_option linter.all false
set_option maxRecDepth 100000
set_option maxHeartbeats 4000000
namespace PySem
namespace KwX
open Builtin Builtin.ObjectAttr PySem.HandSPX
section
variable {M : Model} {A : Around} {E : Value → Shared → Prop} {h : Heap} {g : Array GenState} {d : Drawn} {t : Nat} {os : OsState}
variable {nm q : Str} {C N : Addr} {bs bm bmB : List Value} {hdct : Bool} {sn : List Str} {sub : List Value} {ab : Bool} {col : Option Bool} {dd : Option Addr} {k0 k1 k2 k3 k5 : Option Value} {B newId initId : String}
theorem check_new_kw (F : ExcBaseFacts B newId initId bmB) (hT : ∀ X : String, bm.contains (.type X) = bmB.contains (.type X)) {kx : Str} {kv : Value} {Q : Unit → Shared → Prop}
    (hC : h.get? C = some (excClassObj nm q C N bs bm hdct sn sub ab col dd k0 k1 k2 k3 k5 newId)) (hq : Q () ⟨h, g, d, t, os⟩) : wpAny M A (checkBuiltinCall newId ⟨[.ref C], [(kx, kv)]⟩) Q E ⟨h, g, d, t, os⟩ := by
  have hcont : (Value.ref C :: bm).contains (.type B) = true := by rw [List.contains_cons, hT, F.hasB, Bool.or_true]
  have hstar := F.noStar
  simp only [checkBuiltinCall, F.newKind, F.newSplit, F.newRow]
  repeat (first | refine wpAny_loadPart_at hC ?_ | (refine wpAny_isSubtype_exc hC ?_; rw [hcont]) | refine wpAny_staticBase_exc hC ?_ | refine wpAny_madeBy_exc hC ?_ | simp only [bne_self_eq_false, Bool.false_eq_true, if_false] | wp_step)
  exact hq
end
section
variable {prog : Program} {w : World} {A : Around} {E : Value → Shared → Prop} {R : Result → Shared → Prop} {h : Heap} {g : Array GenState} {d : Drawn} {t : Nat} {os : OsState}
variable {nm q : Str} {C N : Addr} {bs bm bmB : List Value} {hdct : Bool} {sn : List Str} {sub : List Value} {ab : Bool} {col : Option Bool} {dd : Option Addr} {k0 k1 k2 k3 k5 : Option Value} {B newId initId : String}
theorem new_kw (F : ExcBaseFacts B newId initId bmB) (hT : ∀ X : String, bm.contains (.type X) = bmB.contains (.type X)) {kx : Str} {kv : Value}
    (hC : h.get? C = some (excClassObj nm q C N bs bm hdct sn sub ab col dd k0 k1 k2 k3 k5 newId))
    (hq : R (.ok (.ret (.ref (h.objs.size + 1)))) ⟨(h.push { cls := .type "tuple", data := .seq #[] }).push
      { cls := .ref C, data := .fields #[.ref h.objs.size, .none, .none, .none, .bool false, .none] }, g, d, t, os⟩) :
    codeAny (model prog w) A (.builtin newId ⟨[.ref C], [(kx, kv)]⟩) R ⟨h, g, d, t, os⟩ := by
  have hends := F.ends
  have hrest : ([] : List Value).length ≤ sizeLine := Nat.zero_le _
  have hcB : (Value.ref C :: bm).contains (.type B) = true := by rw [List.contains_cons, hT, F.hasB, Bool.or_true]
  have hcA : (Value.ref C :: bm).contains (.type "AttributeError") = false := by rw [List.contains_cons, hT, F.noAttr]; rfl
  have hcN : (Value.ref C :: bm).contains (.type "NameError") = false := by rw [List.contains_cons, hT, F.noName]; rfl
  refine codeAny_builtinAt F.entry ?_
  unfold Builtin.«BaseException.__new__»
  refine wpAt_bind ?_
  show wpAt _ _ _ (stack >>= _) _ _ _
  refine wpAt_bind (wpAt_stack fun p below => wpAt_of_wpAny ?_)
  wp_walk
  refine wpAt_of_wpAny ?_
  rw [F.owner]
  repeat (first | with_reducible refine wpAny_madeHere_exc F.canon hC ?_ | with_reducible refine wpAny_loadPart_at hC ?_ | (with_reducible refine wpAny_isSubtype_exc hC ?_; first | rw [hcB] | rw [hcA] | rw [hcN]) | wp_step)
  show R _ _
  rw [Heap.size_push]
  exact hq
theorem type_call_kw (F : ExcBaseFacts B newId initId bmB) (hT : ∀ X : String, bm.contains (.type X) = bmB.contains (.type X)) {kx : Str} {kv : Value} {fI : Addr} {Q : Fin → Shared → Prop}
    (hC : h.get? C = some (excClassObj nm q C N bs bm hdct sn sub ab col dd k0 k1 k2 k3 k5 newId))
    (hi : W.Looks (model prog w) h (typeLookup (.ref C) "__init__") (some (.ref fI))) (hb : ∀ self, W.Looks (model prog w) h (bindSpecial (.ref fI) self) (.ref fI, [self]))
    (hq : codeAny (model prog w) A (.call (.ref fI) ⟨[.ref (h.objs.size + 1)], [(kx, kv)]⟩)
      (fun r s' => match r with | .ok (.ret v) => v = .none ∧ Q (.done (.ret (.ref (h.objs.size + 1)))) s' | .ok _ => False | .error e => E e s')
      ⟨(h.push (W.kdv_tup [])).push (excO C h.objs.size), g, d, t, os⟩) :
    wpAny (model prog w) A (Builtin.«type.__call__» ⟨[.ref C], [(kx, kv)]⟩) Q E ⟨h, g, d, t, os⟩ := by
  repeat (first | with_reducible refine wpAny_loadPart_at hC ?_ | with_reducible refine wpAny_madeBy_exc hC ?_ | wp_step)
  refine codeAny_call_builtin_code (Code.quiet_builtin _ F.quiet) (check_new_kw F hT hC ?_)
  refine new_kw F hT hC ?_
  show wpAny _ _ _ _ _ _
  have k : ∀ b o, h.get? b = some o → ((h.push (W.kdv_tup [])).push (excO C h.objs.size)).get? b = some o := fun b o e => Heap.get?_push_of_some _ (Heap.get?_push_of_some _ e)
  have hC₁ := k _ _ hC
  have hget : ((h.push (W.kdv_tup [])).push (excO C h.objs.size)).get? (h.objs.size + 1) = some (excO C h.objs.size) := by heap_get
  have hcC : (Value.ref C :: bm).contains (.ref C) = true := by simp
  have i1 := hi.keeps k
  have b1 := (hb (.ref (h.objs.size + 1))).keeps k
  unfold isInstance
  repeat (first | with_reducible refine wpAny_loadPart_at hget ?_ | (with_reducible refine wpAny_isSubtype_exc hC₁ ?_; rw [hcC]) | wp_step)
  show wpAny _ _ (typeLookup (.ref C) _) _ _ _
  refine i1.at ?_
  refine wpAny_holding (wpAny_bind (b1.at ?_))
  refine wpAny_bind (wpAny_call (codeAny_mono hq fun r s' z => ?_))
  rcases r with e | (v | _ | _ | _) <;> first | exact z | exact z.elim | skip
  obtain ⟨rfl, z⟩ := z
  first
    | exact wpAny_pure (wpAny_pure z)
    | (wp_walk; exact z)
theorem call_kw (F : ExcBaseFacts B newId initId bmB) (hT : ∀ X : String, bm.contains (.type X) = bmB.contains (.type X)) {kx : Str} {kv : Value} {fI : Addr}
    (hC : h.get? C = some (excClassObj nm q C N bs bm hdct sn sub ab col dd k0 k1 k2 k3 k5 newId))
    (hi : W.Looks (model prog w) h (typeLookup (.ref C) "__init__") (some (.ref fI))) (hb : ∀ self, W.Looks (model prog w) h (bindSpecial (.ref fI) self) (.ref fI, [self]))
    (hq : codeAny (model prog w) (A.under (.builtin "type.__call__" ⟨[.ref C], [(kx, kv)]⟩)) (.call (.ref fI) ⟨[.ref (h.objs.size + 1)], [(kx, kv)]⟩) (W.InitBack (h.objs.size + 1) R)
      ⟨(h.push (W.kdv_tup [])).push (excO C h.objs.size), g, d, t, os⟩) :
    codeAny (model prog w) A (.call (.ref C) ⟨[], [(kx, kv)]⟩) R ⟨h, g, d, t, os⟩ := by
  have f1 := tc_lookup
  have f2 := tc_bind (.ref C)
  have hTy : (⟨h, g, d, t, os⟩ : Shared).TypeIs (.ref C) "type" := ⟨_, hC, rfl⟩
  refine codeAny_of_tree ?_
  show wpAny _ _ (callAny (.ref C) _) _ _ _
  repeat (any_goals (first | assumption | with_reducible refine wpAny_loadPart_at hC ?_ | wp_step))
  refine ⟨rfl, ?_⟩
  refine codeAny_call_builtin_at (Code.quiet_builtin _ (by decide +kernel)) entry_typeCall (wpAny_check_type_call_sub hC (type_call_kw F hT hC hi hb ?_))
  refine codeAny_mono hq fun r s' z => ?_
  rcases r with e | (v | _ | _ | _) <;> exact z
end
end KwX
end PySem

set_option Elab.async false
set_option linter.all false
set_option maxRecDepth 100000
set_option maxHeartbeats 4000000
namespace L2
open PySem PySem.Spec PyProof.Rows
/-- what isinstance and the field's reading ask of an error class -/
def errB (K : PySem.W.Frag) (fI C : Addr) : Bool :=
  decide (PySem.W.findIn K (.ref C) "__setattr__" = some (some (.builtin "object.__setattr__"))) && (decide (PySem.W.findIn K (.ref C) "__getattribute__" = some (some (.builtin "BaseException.__getattribute__"))) &&
  (decide (PySem.W.findIn K (.ref C) "__getattr__" = some none) && (decide (PySem.W.findIn K (.ref C) "value" = some none) && (decide (PySem.W.findIn K (.ref C) "__init__" = some (some (.ref fI))) &&
  (decide (PySem.W.subIn K (.ref C) (.type "BaseException") = some true) && (decide (PySem.W.typeIn K (.ref C) = some (.type "type")) && (PySem.W.keepIn K (.ref C) && (PySem.W.hasDictIn K C &&
  (decide (PySem.W.findIn K (.ref C) "__class__" = some (some (.builtin "object.__class__"))) && decide (PySem.W.mroIn K C (.type "object") = some true))))))))))
structure ErrC (K : PySem.W.Frag) (fI C : Addr) : Prop where
  o : OexC K C
  ga : PySem.W.findIn K (.ref C) "__getattribute__" = some (some (.builtin "BaseException.__getattribute__"))
  gg : PySem.W.findIn K (.ref C) "__getattr__" = some none
  no : PySem.W.findIn K (.ref C) "value" = some none
  iC : PySem.W.findIn K (.ref C) "__init__" = some (some (.ref fI))
  hd : PySem.W.hasDictIn K C = true
  cl : PySem.W.findIn K (.ref C) "__class__" = some (some (.builtin "object.__class__"))
  mo : PySem.W.mroIn K C (.type "object") = some true
theorem errB_ok {K : PySem.W.Frag} {fI C : Addr} (h : errB K fI C = true) (cls : ∃ nm q N bs bm sn sub ab col dd k0 k1 k2 k3 k5, K.lookup C = some (excClassObj nm q C N bs bm true sn sub ab col dd k0 k1 k2 k3 k5 "ValueError.__new__") ∧ PySem.HandSPX.refsVE bm = true) : ErrC K fI C := by
  obtain ⟨h1, h⟩ := Bool.and_eq_true_iff.mp h
  obtain ⟨h2, h⟩ := Bool.and_eq_true_iff.mp h
  obtain ⟨h3, h⟩ := Bool.and_eq_true_iff.mp h
  obtain ⟨h4, h⟩ := Bool.and_eq_true_iff.mp h
  obtain ⟨h5, h⟩ := Bool.and_eq_true_iff.mp h
  obtain ⟨h6, h⟩ := Bool.and_eq_true_iff.mp h
  obtain ⟨h7, h⟩ := Bool.and_eq_true_iff.mp h
  obtain ⟨h8, h⟩ := Bool.and_eq_true_iff.mp h
  obtain ⟨h9, h⟩ := Bool.and_eq_true_iff.mp h
  obtain ⟨h10, h11⟩ := Bool.and_eq_true_iff.mp h
  exact ⟨⟨cls, of_decide_eq_true h1, of_decide_eq_true h6, of_decide_eq_true h7, h8⟩, of_decide_eq_true h2, of_decide_eq_true h3, of_decide_eq_true h4, of_decide_eq_true h5, h9, of_decide_eq_true h10, of_decide_eq_true h11⟩
/-- an error of the class at C that keeps v stands at e, its own dict at d -/
def Err (H : Hp) (e d C : Addr) (v : V) : Prop := H e = some (exo e C (some d)) ∧ H d = some (exd d [(("value" : Str), v)])
theorem Err.same {H H' : Hp} {e d C : Addr} {v : V} (h : Err H e d C v) (S : Same H H') : Err H' e d C v := ⟨S _ _ h.1, S _ _ h.2⟩
/-- the promise of SightError.__init__ -/
def spInit (K : PySem.W.Frag) : Sp := fun vs H Q _ => ∃ (a C : Addr) (v : V), vs = [.ref a, v] ∧ OexC K C ∧ PySem.W.findIn K (.ref C) "value" = some none ∧ H a = some (exo a C none) ∧
  ∀ d, H d = none → d ≠ a → Q .non (upd (upd H d (exd d [(("value" : Str), v)])) a (exo a C (some d)))
/-- C(e), C(value=e): a new error -/
def tMkE (C : Addr) (te : TE) : TE := fun σ H Q => te σ H fun v H1 => ∀ (a d : Addr) (H2 : Hp), H1 a = none → H1 d = none → d ≠ a → Err H2 a d C v → Same H1 H2 → Q (.ref a) H2
theorem err_made {H1 : Hp} {a d C : Addr} {v : V} (na : H1 a = none) (hd : upd H1 a (exo a C none) d = none) (ne : d ≠ a) : H1 d = none ∧ Err (upd (upd (upd H1 a (exo a C none)) d (exd d [(("value" : Str), v)])) a (exo a C (some d))) a d C v ∧ Same H1 (upd (upd (upd H1 a (exo a C none)) d (exd d [(("value" : Str), v)])) a (exo a C (some d))) := by
  rw [upd_ne ne] at hd
  refine ⟨hd, ⟨upd_same, by rw [upd_ne ne, upd_same]⟩, fun b o e => ?_⟩
  rw [upd_ne (ne_of_none e na), upd_ne (ne_of_none e hd), upd_ne (ne_of_none e na)]
  exact e
section
variable {X : Cx} {fI C : Addr} {k : Nat} {fd : FuncData} {x : Str} {e : Expr} {te : TE} {p pos kp : Pos}
theorem run_err {pins : List (Addr × Obj)} {σ : St} {H1 : Hp} {Q : VK} {hp : Heap} {g : Array GenState} {d : Drawn} {t : Nat} {os : OsState} {v : V} {u : Value} {args : Args} {us : List Value} {kw : List (Str × Value)} (T : ErrC X.K fI C)
    (F1 : FnOk X.prog X.w X.K X.mg X.base CX0 k fI fd ["self", "value"] (spInit X.K)) (hr : Room (k + 1) X.A) (I1 : Inv X pins σ H1 ⟨hp, g, d, t, os⟩) (rv : RelV v u) {tp : Obj}
    (hb : ∀ s : Shared, BindsTo s fd ⟨.ref (hp.objs.size + 1) :: us, kw⟩ ((["self", "value"] : List Str).zip [Value.ref (hp.objs.size + 1), u]))
    (q : ∀ (a d : Addr) (H2 : Hp), H1 a = none → H1 d = none → d ≠ a → Err H2 a d C v → Same H1 H2 → Q (.ref a) H2) :
    codeAny (model X.prog X.w) (X.A.under (.builtin "type.__call__" ⟨.ref C :: us, kw⟩)) (.call (.ref fI) ⟨.ref (hp.objs.size + 1) :: us, kw⟩) (PySem.W.InitBack (hp.objs.size + 1) fun r s' => ∃ u, r = .ok (.ret u) ∧ EP X pins σ Q u s')
      ⟨(hp.push tp).push (PySem.HandSPX.excO C hp.objs.size), g, d, t, os⟩ := by
  have hsz : hp.objs.size ≤ hp.objs.size + 1 := Nat.le_succ _
  have hn : H1 (hp.objs.size + 1) = none := I1.hok.fresh hsz
  have kk : ∀ b o, hp.get? b = some o → ((hp.push tp).push (PySem.HandSPX.excO C hp.objs.size)).get? b = some o := fun b o e => Heap.get?_push_of_some _ (Heap.get?_push_of_some _ e)
  have hget : ((hp.push tp).push (PySem.HandSPX.excO C hp.objs.size)).get? (hp.objs.size + 1) = some (PySem.HandSPX.excO C hp.objs.size) := by heap_get
  have I2 : Inv X pins σ (upd H1 (hp.objs.size + 1) (exo (hp.objs.size + 1) C none)) ⟨(hp.push tp).push (PySem.HandSPX.excO C hp.objs.size), g, d, t, os⟩ :=
    I1.laid (t' := t) (a := hp.objs.size + 1) (o := exo (hp.objs.size + 1) C none) (h' := (hp.push tp).push (PySem.HandSPX.excO C hp.objs.size)) kk hsz (exo_ok hget)
  have r2 : Vals [V.ref (hp.objs.size + 1), v] [Value.ref (hp.objs.size + 1), u] := .cons rfl (.cons rv .nil)
  have hq : spInit X.K [V.ref (hp.objs.size + 1), v] (upd H1 (hp.objs.size + 1) (exo (hp.objs.size + 1) C none)) (fun y H2 => y = .non ∧ Q (.ref (hp.objs.size + 1)) H2) E0 :=
    ⟨_, C, v, rfl, T.o, T.no, upd_same, fun d hd ne => ⟨rfl, let ⟨z1, z2, z3⟩ := err_made hn hd ne; q _ d _ hn z1 ne z2 z3⟩⟩
  refine codeAny_mono (F1.run _ X.stack _ _ _ [Value.ref (hp.objs.size + 1), u] _ _ E0 (hr.make C us kw) (I2.env0.make C us kw) (hb _) r2 hq) fun r s' hq' => ?_
  cases r with
  | error er => exact False.elim hq'
  | ok fl =>
    cases fl with
    | ret y =>
      obtain ⟨w, H', I3, rw', ew, q3⟩ := I2.after hq'
      subst ew
      exact ⟨rw', _, rfl, V.ref (hp.objs.size + 1), H', I3, rfl, q3⟩
    | next => exact False.elim hq'
    | brk => exact False.elim hq'
    | cont => exact False.elim hq'
theorem pe_err (T : ErrC X.K fI C) (tI : PySem.W.typeIn X.K (.ref fI) = some (.type "function")) (F1 : FnOk X.prog X.w X.K X.mg X.base CX0 k fI fd ["self", "value"] (spInit X.K)) (hr : Room (k + 1) X.A)
    (hb : ∀ (s : Shared) (a u : Value), BindsTo s fd ⟨[a, u], []⟩ ((["self", "value"] : List Str).zip [a, u])) (hg : Gl X x) (hm : X.mg x = some (.ref C)) (he : PE X e te)
    (hdb : (x == ("__debug__" : Str)) = false := by decide) (hs : starEach [e] X.env = (false, eval e X.env) :: starEach [] X.env := by rfl) : PE X (.Call (.Name x p) [e] [] pos) (tMkE C te) := by
  refine ⟨fun pins s σ H Q I h => ?_⟩
  obtain ⟨nm, q, N, bs, bm, sn, sub, ab, col, dd, k0, k1, k2, k3, k5, hC, hbm⟩ := T.o.cls
  refine wpAny_Call_Name_kw (ld_glob I hg hm ?_ hdb)
  refine PySem.W.callWith_K (h₀ := X.base) I.ok.mod.kin T.o.kC ?_ hs (by rfl)
  rw [hs]
  show wpAny _ _ (spliced ((false, eval e X.env) :: backTo pos (starEach [] X.env))) _ _ s
  refine Calls.spliced_cons (thn (he.run pins s σ H _ I h) fun u s1 ⟨v, H1, I1, r1, q1⟩ => ?_)
  refine Calls.spliced_nil ⟨I1.kIn, ?_⟩
  show wpAny _ _ (call (.ref C) [u]) _ _ _
  obtain ⟨hp, g, dr, tk, os⟩ := s1
  refine wpAny_call (codeAny_mono (PySem.HandSPX.call_own F.excBase_ValueError (fun Y => PySem.HandSPX.refsVE_contains Y bm hbm) (I1.kIn _ _ hC) (PySem.W.looks_findIn I1.kIn T.iC) (fun self => PySem.W.bind_fn I1.kIn self tI) (by show 1 ≤ sizeLine; rw [sizeLine_eq]; omega)
    (run_err (kw := []) (us := [u]) (args := ⟨[], []⟩) T F1 hr I1 r1 (fun s => hb s _ u) q1)) fun r s' hq => ?_)
  obtain ⟨y, rfl, ep⟩ := hq
  exact ep
theorem pe_errK (T : ErrC X.K fI C) (tI : PySem.W.typeIn X.K (.ref fI) = some (.type "function")) (F1 : FnOk X.prog X.w X.K X.mg X.base CX0 k fI fd ["self", "value"] (spInit X.K)) (hr : Room (k + 1) X.A)
    (hb : ∀ (s : Shared) (a u : Value), BindsTo s fd ⟨[a], [("value", u)]⟩ ((["self", "value"] : List Str).zip [a, u])) (hg : Gl X x) (hm : X.mg x = some (.ref C)) (he : PE X e te)
    (hdb : (x == ("__debug__" : Str)) = false := by decide) (hall : (backToKw pos (keywordEach [⟨some "value", e, kp⟩] X.env)).all (·.1.isSome) = true := by rfl) (hks : (backToKw pos (keywordEach [⟨some "value", e, kp⟩] X.env)).filterMap (·.1) = [("value" : Str)] := by rfl)
    (hpl : ((backTo pos (starEach [] X.env)).any (·.1) || (backToKw pos (keywordEach [⟨some "value", e, kp⟩] X.env)).any (·.1.isNone)) = false := by rfl) : PE X (.Call (.Name x p) [] [⟨some "value", e, kp⟩] pos) (tMkE C te) := by
  refine ⟨fun pins s σ H Q I h => ?_⟩
  obtain ⟨nm, q, N, bs, bm, sn, sub, ab, col, dd, k0, k1, k2, k3, k5, hC, hbm⟩ := T.o.cls
  refine wpAny_Call_Name_kw (ld_glob I hg hm ?_ hdb)
  refine PySem.W.callWith_KW0 (h₀ := X.base) I.ok.mod.kin T.o.kC hall ?_ hpl
  refine thn ((pk_cons he pk_nil).run pos pins s σ H (fun vs H1 => ∃ v, vs = [v] ∧ ∀ (a d : Addr) (H2 : Hp), H1 a = none → H1 d = none → d ≠ a → Err H2 a d C v → Same H1 H2 → Q (.ref a) H2) I ?_) fun ws s2 ⟨zs, H2, I2, rz, q2⟩ => ?_
  · refine (?_ : te σ H _)
    have h' : te σ H (fun v H1 => ∀ (a d : Addr) (H2 : Hp), H1 a = none → H1 d = none → d ≠ a → Err H2 a d C v → Same H1 H2 → Q (.ref a) H2) := h
    have e : (fun (v : V) (H1 : Hp) => ∀ (a d : Addr) (H2 : Hp), H1 a = none → H1 d = none → d ≠ a → Err H2 a d C v → Same H1 H2 → Q (.ref a) H2) = (fun x H1 => tNil σ H1 fun xs H2 => ∃ v, x :: xs = [v] ∧ ∀ (a d : Addr) (H3 : Hp), H2 a = none → H2 d = none → d ≠ a → Err H3 a d C v → Same H2 H3 → Q (.ref a) H3) := by
      funext v H1
      refine propext ⟨fun z => ⟨v, rfl, z⟩, fun ⟨w, e, z⟩ => ?_⟩
      cases e
      exact z
    rw [e] at h'
    exact h'
  · obtain ⟨v, rfl, q1⟩ := q2
    obtain ⟨u, rfl, r1⟩ := vals1 rz
    refine ⟨I2.kIn, ?_⟩
    rw [hks]
    show wpAny _ _ (call (.ref C) [] [(("value" : Str), u)]) _ _ _
    obtain ⟨hp, g, dr, tk, os⟩ := s2
    refine wpAny_call (codeAny_mono (PySem.KwX.call_kw F.excBase_ValueError (fun Y => PySem.HandSPX.refsVE_contains Y bm hbm) (I2.kIn _ _ hC) (PySem.W.looks_findIn I2.kIn T.iC) (fun self => PySem.W.bind_fn I2.kIn self tI)
      (run_err (kw := [(("value" : Str), u)]) (us := []) (args := ⟨[], []⟩) T F1 hr I2 r1 (fun s => hb s _ u) q1)) fun r s' hq => ?_)
    obtain ⟨y, rfl, ep⟩ := hq
    exact ep
/-- e.value -/
def tErrV (K : PySem.W.Frag) (fI : Addr) (te : TE) : TE := fun σ H Q => te σ H fun x H1 => ∃ (a d C : Addr) (v : V), x = .ref a ∧ ErrC K fI C ∧ Err H1 a d C v ∧ Q v H1
theorem pe_errV (he : PE X e te) (hb : attributeBase e "value" X.env (eval e X.env) = eval e X.env := by rfl) : PE X (.Attribute e "value" pos) (tErrV X.K fI te) := by
  refine ⟨fun pins s σ H Q I h => ?_⟩
  refine attr_of hb (thn (he.run pins s σ H _ I h) fun u s1 hh => ?_)
  obtain ⟨x, H1, I1, rx, a, d, C, v, rfl, T, ⟨e1, e2⟩, q⟩ := hh
  obtain rfl : u = Value.ref a := rx
  obtain ⟨t1, ho⟩ := exo_at I1.hok e1
  obtain ⟨mA, hns, hr⟩ := exd_at I1.hok e2
  obtain ⟨od, hod, hl⟩ := lookIn_ns hns
  obtain ⟨w, hu, ru⟩ := RelO.some_of (v := v) (o := mA "value") (by have z := hr "value"; rw [lookup_put, if_pos rfl] at z; exact z)
  have J : PySem.W.InstAt s1.heap a { cls := .ref C, dict := some d, data := .fields #[.ref t1, .none, .none, .none, .bool false, .none] } C (some od) := ⟨ho, rfl, rfl, hod⟩
  exact HandSPX.exc_get I1.kIn J T.ga T.gg T.o.exC (PySem.W.findObj_own T.hd T.no rfl (by rw [hl, hu])) (handed_of ru) ⟨v, H1, I1.tok _, ru, q⟩
/-- isinstance(e, c) -/
def rIsErr (K : PySem.W.Frag) (fI : Addr) : List V → Hp → VK → Prop := fun xs H Q => ∃ (a d C : Addr) (v c : V) (cv : Value) (b : Bool), xs = [.ref a, c] ∧ ErrC K fI C ∧ Err H a d C v ∧ (∀ u, RelV c u → u = cv) ∧ PySem.W.kitOne K (.ref C) cv = some b ∧ Q (.bl b) H
theorem call_isErr (hn : PySem.W.specialIn X.K (.builtin "object.__class__") "__get__" = some (some (.builtin "getset_descriptor.__get__"))) (htk : PySem.W.takesIn X.K (.builtin "object.__class__") = some true) : CallR X (.builtin "isinstance") (rIsErr X.K fI) := by
  intro pins s σ H xs us Q I r h
  obtain ⟨a, d, C, v, c, cv, b, rfl, T, ⟨e1, e2⟩, hcv, e, q⟩ := h
  obtain ⟨u1, u2, rfl, r1, r2⟩ := vals2 r
  have ec := hcv _ r2
  subst ec
  cases (show u1 = Value.ref a from r1)
  obtain ⟨t1, ho⟩ := exo_at I.hok e1
  obtain ⟨mA, hns, hr⟩ := exd_at I.hok e2
  obtain ⟨od, hod, hl⟩ := lookIn_ns hns
  have J : PySem.W.InstAt s.heap a { cls := .ref C, dict := some d, data := .fields #[.ref t1, .none, .none, .none, .bool false, .none] } C (some od) := ⟨ho, rfl, rfl, hod⟩
  exact PySem.W.kia_one (PySem.W.kitx_exc (by obtain ⟨cd, hc, _⟩ := PySem.W.any_some T.hd; rw [hc]; rfl) T.ga T.gg T.o.exC T.cl hn htk T.mo) I.kIn J e (fun z => nomatch z) fun tk => ⟨.bl b, H, I.kept (t' := tk) fun _ _ z => z, rfl, q⟩
end
/-! ### defs that need to know the guards around (repr) -/
structure FnOkG (P : Program) (w : World) (K : PySem.W.Frag) (mg : Str → Option Value) (base : Heap) (k : Nat) (f : Addr) (fd : FuncData) (ps : List Str) (sp : Sp) : Prop where
  len : ∀ vs H Q E, sp vs H Q E → vs.length = ps.length
  run : ∀ (A : Around) (outer : List Env) (s : Shared) (H : Hp) (args : Args) (us : List Value) (vs : List V) (Q : VK) (E : XK), A.guards = some [] → Room k A → Env0 P w K mg base A outer s H → BindsTo s fd args (ps.zip us) → Vals vs us → sp vs H Q E →
    codeAny (model P w) A (.call (.ref f) args) (CR CX0 outer P w H s Q E) s
section
variable {P : Program} {w : World} {K : PySem.W.Frag} {mg : Str → Option Value} {base : Heap}
/-- one call of a def of the text, at one place: from its body's reading there -/
theorem run_once {x qual : Str} {st : Stmt} {f : Addr} {fd : FuncData} {N ps : List Str} (F : Fun K x qual st f fd) (S : FnScope N ps (defScope st)) {A : Around} {outer : List Env} {s : Shared} {H : Hp} {args : Args} {us : List Value} {vs : List V} {Q : VK} {E : XK}
    (hd : A.handled = none) (dp : A.depth < recursionLimit) (e0 : Env0 P w K mg base A outer s H) (hb : BindsTo s fd args (ps.zip us)) (r : Vals vs us) (hl : vs.length = ps.length)
    (body : ∀ cdv : Value, ∃ t, PSs (cxOf CX0 P w K mg base N qual (defScope st) f cdv A outer s H E).nox (defBody st) t ∧ t { nx := fun _ H' => Q .non H', rt := Q } (start N vs) H) :
    codeAny (model P w) A (.call (.ref f) args) (CR CX0 outer P w H s Q E) s := by
  obtain ⟨oc, od, kV, doc, pm, an, cdv, ct, osl, rfl, lk, hcd⟩ := F.ex
  have keep : ∀ b o, base.get? b = some o → s.heap.get? b = some o := fun b o e => (e0.bs b o e).1
  have KX : K.In s.heap := e0.mod.kin.keeps keep
  refine codeAny_call_function dp (KX _ _ lk) rfl S.co S.gen rfl (PySem.W.codeRec_of KX hcd) (hb _ _ _ _ ?_)
  refine wpAny_newFunctionEnv_cells S.kind (fun y hy => ?_) fun env he s1 z => ?_
  · rcases S.par y.1 (List.of_mem_zip hy).1 with q | q
    · exact .inl q
    · exact .inr ⟨q, PySem.W.cellsFrom_some _ _ _ (.inl q)⟩
  · subst he
    refine ⟨(e0.mod.nolimit.keeps keep).keeps z.toInCall.keep, codeAny_func ?_⟩
    obtain ⟨t, ht, hq⟩ := body cdv
    have I : Inv (cxOf CX0 P w K mg base N qual (defScope st) f cdv A outer s H E) [] (start N vs) H s1 := inv_start S hd e0 hl r z
    refine wpAny_mono (ht.nox.run [] s1 (start N vs) H _ I hq) (fun fl s' hs => ?_) fun e s' hs => hs
    cases fl with
    | ret u =>
      obtain ⟨v, _, H', J, rv, q⟩ := hs
      exact ⟨v, H', J.os, J.bare, J.base, J.hok, rv, q⟩
    | next =>
      obtain ⟨_, H', J, q⟩ := hs
      exact ⟨V.non, H', J.os, J.bare, J.base, J.hok, rfl, q⟩
    | brk => exact (hs.choose_spec.choose_spec.2 : False).elim
    | cont => exact (hs.choose_spec.choose_spec.2 : False).elim
theorem Fun.okG {x qual : Str} {st : Stmt} {f : Addr} {fd : FuncData} {N ps : List Str} {k : Nat} {sp : Sp} (F : Fun K x qual st f fd) (S : FnScope N ps (defScope st)) (len : ∀ vs H Q E, sp vs H Q E → vs.length = ps.length)
    (hbody : ∀ (cdv : Value) (A : Around) (outer : List Env) (s : Shared) (H : Hp) (vs : List V) (Q : VK) (E : XK), A.guards = some [] → Room k (A.deeper (envOfC qual (defScope st) s.heap.objs.size f cdv)) → sp vs H Q E →
      ∃ t, PSs (cxOf CX0 P w K mg base N qual (defScope st) f cdv A outer s H E).nox (defBody st) t ∧ t { nx := fun _ H' => Q .non H', rt := Q } (start N vs) H) : FnOkG P w K mg base (k + 1) f fd ps sp :=
  ⟨len, fun A outer s H args us vs Q E hg hr e0 hb r hsp => run_once F S hr.hd hr.depth e0 hb r (len _ _ _ _ hsp) fun cdv => hbody cdv A outer s H vs Q E hg (hr.deeper _) hsp⟩
end
section
variable {X : Cx} {k : Nat} {f : Addr} {fd : FuncData} {ps : List Str} {sp : Sp} {x : Str} {p pos : Pos} {e : Expr} {es : List Expr} {t : TA}
/-- f(e, ..), f a def that wants the guards known -/
theorem pe_callG (hG : X.A.guards = some []) (F : FnOkG X.prog X.w X.K X.mg X.base k f fd ps sp) (hr : Room k X.A) (hg : Gl X x) (hm : X.mg x = some (.ref f)) (hk : PySem.W.keepIn X.K (.ref f) = true) (hb : Binds X.K fd ps [])
    (ha : PA X (e :: es) t) (hdb : (x == ("__debug__" : Str)) = false := by decide) (he : starEach (e :: es) X.env = (false, eval e X.env) :: starEach es X.env := by rfl) (hpl : (backTo pos (starEach es X.env)).any (·.1) = false := by rfl) :
    PE X (.Call (.Name x p) (e :: es) [] pos) (tCall sp [] E0 t) := by
  refine ⟨fun pins s σ H Q I h => ?_⟩
  refine wpAny_Call_Name_kw (ld_glob I hg hm ?_ hdb)
  refine PySem.W.callWith_K (h₀ := X.base) I.ok.mod.kin hk (thn (ha.run pos pins s σ H _ I h) fun us s1 ⟨vs, H1, I1, r, q⟩ => ⟨I1.kIn, ?_⟩) he hpl
  have hl : (us ++ []).length = ps.length := by rw [List.append_nil, ← r.length, ← F.len _ _ _ _ q, List.append_nil]
  show wpAny _ _ (call (.ref f) us) _ _ _
  refine wpAny_call (codeAny_mono (F.run X.A X.stack s1 H1 ⟨us, []⟩ (us ++ []) (vs ++ []) Q E0 hG hr I1.env0 (hb s1 us I1.kIn hl) (r.append .nil) q) fun res s' hq => ?_)
  cases res with
  | error er => exact False.elim hq
  | ok fl =>
    cases fl with
    | ret u => exact I1.after hq
    | next => exact False.elim hq
    | brk => exact False.elim hq
    | cont => exact False.elim hq
end
/-! ### the end of a law row for such a def -/
theorem enter_law {P : Program} {w : World} {K : PySem.W.Frag} {mg mb : Str → Option Value} {k : Nat} {fa a : Addr} {fd : FuncData} {x : Str} {sp : Sp} {s1 : Shared} {us : List Value} {H : Hp}
    (F : ∀ base : Heap, K.In base → base.Ns mainGlobals mg → FnOkG P w K mg base k fa fd [x] sp) (hr : Room k callerA) (hbind : ∀ (s : Shared) (u : Value), BindsTo s fd ⟨[u], []⟩ [(x, u)])
    (KX : K.In s1.heap) (hns : s1.heap.Ns mainGlobals mg) (hb : s1.heap.Ns builtinsNs mb) (hbb : ∀ x : Str, x ≠ "__name__" → mb x = bootBuiltins x) (hlim : s1.heap.NoLimit) (hg : s1.gens = #[])
    (ha : s1.heap.get? a = some { cls := .type "list", data := .seq us.toArray }) (ok : HOk P w H s1.heap) (only : ∀ b o, H b = some o → b = a ∧ K.lookup a = none ∧ ∃ xs, o = .frz { cls := .type "list", data := .seq us.toArray } (.lst xs))
    (hsp : sp [.ref a] H (fun v _ => v = .bl true) E0) :
    codeAny (model P w) callerA (.call (.ref fa) ⟨[.ref a], []⟩) (fun r s' => r = .ok (.ret (.bool true)) ∧ OldK s1.heap s'.heap ∧ s'.os = s1.os ∧ AllBare s'.gens) s1 := by
  have free : ∀ {b : Addr} {o : Obj}, s1.heap.get? b = some o → (∀ z : Array Value, ∀ n, o.data ≠ .seq z n) → H b = none := fun {b o} e d => by
    cases q : H b with
    | none => rfl
    | some u =>
      obtain ⟨rfl, _⟩ := only b u q
      rw [ha] at e
      cases e
      exact (d _ _ rfl).elim
  have ns2 : ∀ {b : Addr} {m : Str → Option Value}, s1.heap.Ns b m → (hidT s1.heap H).Ns b m := fun {b m} n => by
    obtain ⟨o, es, ep, e, d, r⟩ := n
    exact ⟨o, es, ep, hidT_get e (free e (fun z n y => by rw [d] at y; cases y)), d, r⟩
  have kin : K.In (hidT s1.heap H) := fun b o e => hidT_get (KX b o e) (by
    cases q : H b with
    | none => rfl
    | some u =>
      obtain ⟨rfl, z, _⟩ := only b u q
      rw [z] at e
      cases e)
  have M : Mod K mg (hidT s1.heap H) := ⟨kin, ns2 hns, ⟨mb, ns2 hb, hbb⟩, by obtain ⟨mc, z1, z2⟩ := hlim; exact ⟨mc, ns2 z1, z2⟩⟩
  have e0 : Env0 P w K mg (hidT s1.heap H) callerA [] s1 H := ⟨rfl, M, fun b o e => of_hidT e, Nat.le_of_eq (hidT_size _ _), trivial, (fun b z => absurd (show b ∈ ([] : List Addr) from z) (by simp)), ok, .of_eq hg⟩
  refine codeAny_mono ((F _ kin (ns2 hns)).run callerA [] s1 H _ [.ref a] [.ref a] _ _ rfl hr e0 (hbind s1 (.ref a)) (.cons rfl .nil) hsp) fun r s' h => ?_
  cases r with
  | error e => exact False.elim h
  | ok fl =>
    cases fl with
    | next => exact False.elim h
    | brk => exact False.elim h
    | cont => exact False.elim h
    | ret u =>
      obtain ⟨v, H', os, bare, un, ok', rv, q⟩ := h
      subst q
      obtain rfl : u = Value.bool true := rv
      refine ⟨rfl, OldK.of_keep fun b o e => ?_, os, bare⟩
      cases q : H b with
      | none => exact un.keep b o e q (fun z => absurd (show b ∈ ([] : List Addr) from z) (by simp)) (by simp)
      | some y =>
        obtain ⟨rfl, _, xs, rfl⟩ := only b y q
        obtain ⟨e1, _⟩ := ok' b _ (un.frzs b _ _ q)
        rw [ha] at e
        cases e
        exact e1
theorem walk_ofG {l : PySem.W.OpenLaw} {n k : Nat} {q : Program} {loose : List Str} {XP : (Str → Option Value) → Heap → Prop} {YP : World → Heap → Prop} {d : DefRec} {K : Params → PySem.W.Frag} {sp : PySem.W.Frag → Sp} {x : Str}
    (hn : l.most = some n) (hn2 : n ≤ sizeLine) (hdf : d.params.defaults = []) (hr : Room k callerA) (hY : ∀ (w : World) (h : Heap), YP w h → (K w.params).In h)
    (F : ∀ (w : World) (mg : Str → Option Value) (fa : Addr) (h : Heap), (K w.params).In h → h.Ns mainGlobals mg → mg d.name = some (.ref fa) →
      ∃ fd : FuncData, (∀ (s : Shared) (u : Value), BindsTo s fd ⟨[u], []⟩ [(x, u)]) ∧ ∀ base : Heap, (K w.params).In base → base.Ns mainGlobals mg → FnOkG l.prog w (K w.params) mg base k fa fd [x] (sp (K w.params)))
    (hsp : ∀ (K : PySem.W.Frag) (H : Hp) (a : Addr) (ns : List Int), ns.length ≤ n → Only H → SqL K H a (ns.map V.int) → sp K [.ref a] H (fun v _ => v = .bl true) E0) :
    PySem.W.WalkO q loose XP YP l.row.toRowW d [] (fun f vs => PySem.call f vs) := by
  refine Att.attach_call hn hdf fun w s0 s1 mg mb fa o pm cd doc a us ns G Y ho hd hcd hmg hobj hints hlen hg => ?_
  have KX := hY w _ Y
  obtain ⟨fd, hb, hF⟩ := F w mg fa _ KX G.T.g hmg
  have rv := vals_ints hints
  have hz : (ns.map V.int).length ≤ sizeLine := by rw [List.length_map]; omega
  cases hk : (K w.params).lookup a with
  | some ob =>
    have e := KX a ob hk
    rw [hobj] at e
    cases e
    have S : SqL (K w.params) (fun _ => none) a (ns.map V.int) := .inr ⟨_, us.toArray, _, hk, rfl, rfl, rfl, by rw [List.size_toArray, ← rv.length]; exact hz, by simpa using rv⟩
    exact enter_law (H := fun _ => none) hF hr hb KX G.T.g G.T.b G.T.builtins G.T.nolimit hg hobj (fun b u z => by cases (show (none : Option HO) = some u from z)) (fun b u z => by cases (show (none : Option HO) = some u from z))
      (hsp _ _ a ns hlen (fun b => .inl rfl) S)
  | none =>
    refine enter_law (H := upd (fun _ => none) a (.frz { cls := .type "list", data := .seq us.toArray } (.lst (ns.map V.int)))) hF hr hb KX G.T.g G.T.b G.T.builtins G.T.nolimit hg hobj (fun b u z => ?_) (fun b u z => ?_)
      (hsp _ _ a ns hlen (fun b => ?_) (.inl (.inr ⟨_, upd_same⟩)))
    · by_cases e : b = a
      · subst e
        rw [upd_same] at z
        cases z
        exact ⟨hobj, hz, us, _, rv, hobj⟩
      · rw [upd_ne e] at z
        cases z
    · by_cases e : b = a
      · subst e
        rw [upd_same] at z
        cases z
        exact ⟨rfl, hk, _, rfl⟩
      · rw [upd_ne e] at z
        cases z
    · by_cases e : b = a
      · subst e
        exact .inr ⟨_, _, upd_same⟩
      · exact .inl (upd_ne e)
end L2

set_option Elab.async false
set_option linter.all false
set_option maxRecDepth 100000
set_option maxHeartbeats 4000000
/-! sorted(list) of tuples of any lengths -/
namespace L2
open PySem PySem.W PySem.Spec PyProof.Rows
theorem sortT_le (T : List TRow) : (sortT T).Pairwise fun p q => dataLt q.2 p.2 = false := by
  have srt : (sortT T).Pairwise fun p q => dataLe false Prod.snd p q = true := sort_pairwise (sortLe_total (listOrd itemOrd) false fun p : TRow => keyToks p.2) T
  refine srt.imp fun {p q} z => ?_
  have z3 : (!dataLt q.2 p.2) = true := z
  cases c : dataLt q.2 p.2 with
  | false => rfl
  | true =>
    rw [c] at z3
    exact absurd z3 (by decide)
section
variable {X : Cx}
/-- sorted(xs), xs a list of tuples -/
def rSortL (K : PySem.W.Frag) : List V → Hp → VK → Prop := fun vs H Q => ∃ (l : Addr) (T : List TRow), vs = [V.ref l] ∧ SqL K H l (T.map TRow.v) ∧ (∀ p ∈ T, Dat H p.v p.2) ∧ Sorty T ∧
  ∀ (T' : List TRow) (b : Addr), T'.Perm T → (T'.Pairwise fun p q => dataLt q.2 p.2 = false) → ((T.map Prod.snd).Nodup → T'.Pairwise fun p q => dataLt p.2 q.2 = true) → H b = none → Q (.ref b) (upd H b (.lst (T'.map TRow.v)))
theorem cr_sortL (hu : X.A.units + 64 < cLine) : CallR X (.builtin "sorted") (rSortL X.K) := by
  intro pins s σ H vs us Q I r h
  obtain ⟨l, T, rfl, hl, hd, so, q⟩ := h
  rw [Vals.ref1 r]
  obtain ⟨its, rv, pl, hz⟩ := I.list hl
  have e1 : its = T.map TRow.r := vals_rows rv
  subst e1
  rw [List.length_map] at hz
  have rd : EachIs (fun v p => ∃ as, Reads (sortingHeap (copyHeap s.heap (T.map TRow.r)) (s.heap.objs.size + 1) (T.map TRow.r)) v p.2 as) (T.map TRow.r) T :=
    each_rows T fun p hp => by
      obtain ⟨as, z⟩ := I.reads (hd p hp)
      exact ⟨as, PyProof.Rows.Reads.keeps (fun _ _ => sorting_copy_old) z⟩
  have tp : ∀ d ∈ T.map Prod.snd, ∃ xs, d = PyData.tuple xs := fun d z => by
    obtain ⟨p, hp, rfl⟩ := List.mem_map.mp z
    exact so.tup p hp
  have un : ∀ d, d ∈ T.map Prod.snd → X.A.in1.in1.units + d.depth < cLine := fun d z => by
    obtain ⟨p, hp, rfl⟩ := List.mem_map.mp z
    have z := so.deep p hp
    simp only [Around.in1_units]
    omega
  have srt := sortsAt_tups (prog := X.prog) (w := X.w) (A := X.A.in1.in1) (s := { s with heap := sortingHeap (copyHeap s.heap (T.map TRow.r)) (s.heap.objs.size + 1) (T.map TRow.r) }) (each_map (R := fun v d => ∃ as, Reads _ v d as) Prod.snd rd) so.alike tp un
  have out := rows_each (sortVals_data (R := fun v p => v = TRow.r p) (enc := Prod.snd) false (each_rows T fun p _ => rfl) rd so.alike)
  refine sorted_vals pl.isList srt (by rw [List.length_map]; exact hz) ?_
  rw [out]
  obtain ⟨c, hc⟩ := PyProof.Rows.sortedAll_at s.heap (T.map TRow.r) ((sortT T).map TRow.r).toArray
  have fresh : H (s.heap.objs.size + 1) = none := I.hok.fresh (Nat.le_succ _)
  exact ⟨.ref _, upd H (s.heap.objs.size + 1) (.lst ((sortT T).map TRow.v)), I.laid (t' := s.toks) (fun _ _ => PyProof.Rows.sortedAll_old) (Nat.le_succ _) ⟨by rw [List.length_map, (sortT_perm T).length_eq]; exact hz, _, c, rows_vals _, hc⟩, rfl,
    q (sortT T) _ (sortT_perm T) (sortT_le T) (sortT_up T so.alike) fresh⟩
end
end L2

set_option Elab.async false
set_option linter.all false
set_option maxRecDepth 100000
set_option maxHeartbeats 4000000
namespace S1
open PySem PySem.Spec PyProof.Rows L2
def topS (i : Nat) : Stmt := PySem.Challenge.pw_onlyseen_k52_whole_least_true_round_by_r.main.body.getD i (.Pass ⟨0, 0, 0, 0⟩)
abbrev sLeastRow : Stmt := topS 1
abbrev sIsTruth : Stmt := topS 13
abbrev sIsTuple : Stmt := topS 14
abbrev sIsPair : Stmt := topS 15
abbrev sIsRising : Stmt := topS 16
abbrev sIsName : Stmt := topS 17
abbrev sIsLetter : Stmt := topS 18
abbrev sIsAnyClause : Stmt := topS 19
abbrev sAreNames : Stmt := topS 20
abbrev sIsSight : Stmt := topS 21
abbrev sIsOwn : Stmt := topS 22
abbrev sAreOwns : Stmt := topS 23
abbrev sIsClauseOver : Stmt := topS 24
abbrev sAreClauses : Stmt := topS 25
abbrev sNamesOf : Stmt := topS 26
abbrev sFitsSaying : Stmt := topS 27
abbrev sRenewed : Stmt := topS 29
abbrev sWantSaying : Stmt := topS 30
abbrev sAllPlays : Stmt := topS 32
abbrev sAllSeen : Stmt := topS 33
abbrev sAllCopies : Stmt := topS 34
abbrev sTruthsAt : Stmt := topS 35
abbrev sSeenBy : Stmt := topS 36
abbrev sTablesOf : Stmt := topS 37
abbrev sPlacesOf : Stmt := topS 39
abbrev sCopiesAt : Stmt := topS 40
abbrev sLettersIn : Stmt := topS 41
abbrev sGroundsOf : Stmt := topS 42
abbrev sSourcesOf : Stmt := topS 43
abbrev sLettersOf : Stmt := topS 45
abbrev sFitsPlain : Stmt := topS 46
abbrev sLeastTrue : Stmt := topS 47
abbrev sTank : Stmt := topS 49
abbrev sDrop : Stmt := topS 50
abbrev sLPick : Stmt := topS 51
abbrev sLot : Stmt := topS 52
abbrev sNames : Stmt := topS 53
abbrev sFrame : Stmt := topS 54
abbrev sLetters : Stmt := topS 55
abbrev sLSome : Stmt := topS 56
abbrev sPlainCl : Stmt := topS 57
abbrev sLPlays : Stmt := topS 58
abbrev sLTold : Stmt := topS 59
abbrev sLCopies : Stmt := topS 60
abbrev sLIsSo : Stmt := topS 61
abbrev sLTables : Stmt := topS 62
abbrev sLForced : Stmt := topS 63
abbrev sLLeast : Stmt := topS 64
abbrev sLHidden : Stmt := topS 65
abbrev sLPlains : Stmt := topS 66
abbrev sLRenamed : Stmt := topS 67
abbrev sLCarried : Stmt := topS 68
abbrev sLRight : Stmt := topS 69
abbrev sLaw : Stmt := topS 70
end S1

set_option Elab.async false
set_option linter.all false
set_option maxRecDepth 100000
set_option maxHeartbeats 4000000
namespace S1
open PySem PySem.Spec PyProof.Rows L2
/-- the built-in names that the text leaves as they are -/
structure Blt (mg : Str → Option Value) : Prop where
  len : mg "len" = none
  sum : mg "sum" = none
  int : mg "int" = none
  max : mg "max" = none
  min : mg "min" = none
  abs : mg "abs" = none
  str : mg "str" = none
  bool : mg "bool" = none
  dict : mg "dict" = none
  list : mg "list" = none
  set : mg "set" = none
  tuple : mg "tuple" = none
  sorted : mg "sorted" = none
  zip : mg "zip" = none
  all : mg "all" = none
  range : mg "range" = none
  isi : mg "isinstance" = none
/-- a def as the text leaves it: at f, under its name -/
structure Has (K : PySem.W.Frag) (mg : Str → Option Value) (x : Str) (st : Stmt) (ps : List Str) (f : Addr) (fd : FuncData) : Prop where
  F : Fun K x x st f fd
  g : mg x = some (.ref f)
  b : Binds K fd ps []
/-- the draws of one cell at p: the digits left, the mixed number, how many have been mixed -/
structure Src (H : Hp) (p : Addr) (c : Nat) : Prop where
  at_ : ∃ a b d : Int, H p = some (.lst [.int a, .int b, .int d]) ∧ 0 ≤ b ∧ b < 2 ^ 100 ∧ 0 ≤ d ∧ d ≤ c
theorem Src.mono {H H' : Hp} {p : Addr} {c c' : Nat} (h : Src H p c) (e : H' p = H p) (hc : c ≤ c') : Src H' p c' := by
  obtain ⟨a, b, d, h1, h2, h3, h4, h5⟩ := h
  exact ⟨a, b, d, e.trans h1, h2, h3, h4, by omega⟩
theorem Src.ne {H : Hp} {p l : Addr} {c : Nat} (h : Src H p c) (e : H l = none) : p ≠ l := by
  obtain ⟨a, b, d, h1, _⟩ := h
  exact ne_of_none h1 e
theorem same_new {H : Hp} {p : Addr} {o : HO} (h : H p = none) : Same H (upd H p o) := fun b u e => by
  rw [upd_ne (ne_of_none e h)]
  exact e
theorem same_upd {H H' : Hp} {p : Addr} {o : HO} (s : Same H H') (h : H p = none) : Same H (upd H' p o) := fun b u e => by
  rw [upd_ne (ne_of_none e h)]
  exact s _ _ e
theorem yes_of {σ : L2.St} {H : Hp} {A B : Hp → Prop} (h : A H) : tYes σ H (fun b H3 => if b = true then A H3 else B H3) := by
  show if true = true then A H else B H
  rw [if_pos rfl]
  exact h
theorem at_ok {xs : List V} {r : Int} (h0 : 0 ≤ r) (h1 : r < xs.length) : ∃ v, atI xs r = some v ∧ v ∈ xs ∧ xs[r.toNat]? = some v := by
  have hl : r.toNat < xs.length := by omega
  refine ⟨xs[r.toNat], ?_, List.getElem_mem _, List.getElem?_eq_getElem hl⟩
  have z := atI_nat (List.getElem?_eq_getElem hl)
  rw [Int.toNat_of_nonneg h0] at z
  exact z
def spTank (K : PySem.W.Frag) : Sp := fun vs H Q _ => ∃ (a : Addr) (ns : List Int) (k : Int), vs = [.ref a, .int k] ∧ SqL K H a (ns.map V.int) ∧ ns.length ≤ 63 ∧ 0 ≤ k ∧ k < 1000 ∧
  ∀ (p : Addr) (H' : Hp), H p = none → Same H H' → Src H' p 0 → Q (.ref p) H'
def spPick : Sp := fun vs H Q _ => ∃ (p : Addr) (c : Nat) (m : Int), vs = [.ref p, .int m] ∧ Src H p c ∧ c ≤ 100000 ∧ 0 < m ∧ m < 2 ^ 100 ∧
  ∀ (r : Int) (o : HO), 0 ≤ r → r < m → Src (upd H p o) p (c + 1) → Q (.int r) (upd H p o)
theorem len_ints {ns : List Int} : (ns.map V.int).length = ns.length := List.length_map ..
theorem get_ints {ns : List Int} {i : Nat} {x : V} (h : (ns.map V.int)[i]? = some x) : ∃ z, ns[i]? = some z ∧ x = V.int z := by
  rw [List.getElem?_map] at h
  cases e : ns[i]? with
  | none => rw [e] at h; cases h
  | some z => rw [e] at h; exact ⟨z, rfl, (Option.some.inj h).symm⟩
section
variable {P : Program} {w : World} {K : PySem.W.Frag} {mg : Str → Option Value} {base : Heap}
abbrev mx (b d : Int) : Int := ((b + 2654435761 * d) * (b + 40503 * d * d + 11)) % (10 ^ (33 : Int).toNat + 61)
abbrev my (x : Int) : Int := (x * x + 97 * x) % (10 ^ (32 : Int).toNat + 49)
theorem mx_lt (b d : Int) : 0 ≤ mx b d ∧ (mx b d).natAbs < 2 ^ 110 := by
  have m29 : (0 : Int) < 10 ^ (33 : Int).toNat + 61 := by decide +kernel
  have n29 : (10 : Int) ^ (33 : Int).toNat + 61 ≤ 2 ^ 110 := by decide +kernel
  have h0 : 0 ≤ mx b d := Int.emod_nonneg _ (by omega)
  have h1 : mx b d < 2 ^ 110 := Int.lt_of_lt_of_le (Int.emod_lt_of_pos _ m29) n29
  exact ⟨h0, by omega⟩
theorem my_lt (x : Int) : (my x).natAbs < 2 ^ 110 := by
  have m31 : (0 : Int) < 10 ^ (32 : Int).toNat + 49 := by decide +kernel
  have n31 : (10 : Int) ^ (32 : Int).toNat + 49 ≤ 2 ^ 110 := by decide +kernel
  have h0 : 0 ≤ my x := Int.emod_nonneg _ (by omega)
  have h1 : my x < 2 ^ 110 := Int.lt_of_lt_of_le (Int.emod_lt_of_pos _ m31) n31
  omega
theorem ite_int {c : Prop} [Decidable c] {ta tb : TE} {σ : L2.St} {H : Hp} {Q : VK} (R : ∀ i : Int, Q (.int i) H) (h1 : c → (∀ i : Int, Q (.int i) H) → ta σ H Q) (h2 : ¬ c → (∀ i : Int, Q (.int i) H) → tb σ H Q) : if c then ta σ H Q else tb σ H Q := by
  by_cases h : c
  · rw [if_pos h]; exact h1 h R
  · rw [if_neg h]; exact h2 h R
theorem scTank : FnScope ["script", "k", "cell", "blend", "other"] ["script", "k"] (defScope sTank) := ⟨rfl, rfl, rfl, by decide +kernel, rfl, by decide +kernel, by decide +kernel⟩
theorem scDrop : FnScope ["tank", "many", "found", "mixed"] ["tank", "many"] (defScope sDrop) := ⟨rfl, rfl, rfl, by decide +kernel, rfl, by decide +kernel, by decide +kernel⟩
theorem ok_pick {f : Addr} {fd : FuncData} (F : Fun K "_law_drop" "_law_drop" sDrop f fd) (B : Blt mg) : FnOk P w K mg base CX0 1 f fd ["tank", "many"] spPick := by
  refine F.ok scDrop (fun vs H Q E h => ?_) (fun cdv A outer s H vs Q E hr h => ?_)
  · obtain ⟨p, c, m, rfl, _⟩ := h
    rfl
  · obtain ⟨p, c, m, rfl, ⟨a, b, d, hp, hb0, hb1, hd0, hd1⟩, hc, hm0, hm1, q⟩ := h
    refine ⟨_, pss_cons (ps_if (pt_cmpR op_gt (pe_ix ix_list (pv 0) pe_int (fun _ _ => rfl)) pe_int (nomark _))
        (pss_cons (ps_set (i := 2) scDrop.nd rfl (.inl rfl) (pe_op op_mod (pe_callTy call_int1 (by rfl) B.int (by decide +kernel) (pa_cons (pe_ix ix_list (pv 0) pe_int (fun _ _ => rfl)) pa_nil)) (pv 1)))
        (pss_cons (ps_asg (pe_op op_fdivW (pe_ix ix_list (pv 0) pe_int (fun _ _ => rfl)) (pv 1)) (pg_sub (pv 0) pe_int set_list))
        (pss_one (ps_ret (pv 2))))) pss_nil)
      (pss_cons (ps_asg (pe_op op_add (pe_ix ix_list (pv 0) pe_int (fun _ _ => rfl)) pe_int) (pg_sub (pv 0) pe_int set_list))
      (pss_cons (ps_set (i := 3) scDrop.nd rfl (.inl rfl) (pe_op op_mod (pe_callTy call_int1 (by rfl) B.int (by decide +kernel)
          (pa_cons (pe_op op_mulW (pe_op op_add (pe_ix ix_list (pv 0) pe_int (fun _ _ => rfl)) (pe_op op_mulW pe_int (pe_ix ix_list (pv 0) pe_int (fun _ _ => rfl))))
            (pe_op op_add (pe_op op_add (pe_ix ix_list (pv 0) pe_int (fun _ _ => rfl)) (pe_op op_mulW (pe_op op_mulW pe_int (pe_ix ix_list (pv 0) pe_int (fun _ _ => rfl))) (pe_ix ix_list (pv 0) pe_int (fun _ _ => rfl)))) pe_int)) pa_nil)) (pe_op op_add (pe_op op_pow pe_int pe_int) pe_int)))
      (pss_cons (ps_set (i := 3) scDrop.nd rfl (.inl rfl) (pe_op op_mod (pe_callTy call_int1 (by rfl) B.int (by decide +kernel)
          (pa_cons (pe_op op_add (pe_op op_mulW (pv 3) (pv 3)) (pe_op op_mulW pe_int (pv 3))) pa_nil)) (pe_op op_add (pe_op op_pow pe_int pe_int) pe_int)))
      (pss_one (ps_ret (pe_op op_mod (pe_callTy call_int1 (by rfl) B.int (by decide +kernel) (pa_cons (pe_op op_fdiv (pv 3) pe_int) pa_nil)) (pv 1))))))), ?_⟩
    have hh := SqL.of (K := K) hp
    refine ⟨_, rfl, p, _, 0, _, rfl, rfl, hh, rfl, _, _, rfl, rfl, _, rfl, ?_⟩
    refine ite2 (fun ha => ?_) (fun _ => ?_)
    · have ha0 : 0 < a := of_decide_eq_true ha
      refine ⟨_, rfl, p, _, 0, _, rfl, rfl, hh, rfl, .inl ⟨_, rfl, _, rfl, _, _, rfl, rfl, hm0, ?_⟩⟩
      refine ⟨_, rfl, p, _, 0, _, rfl, rfl, hh, rfl, _, rfl, _, _, rfl, rfl, wide_div (b := 100) hm0 (by omega) (by decide) (by decide), _, rfl, p, _, 0, 0, rfl, rfl, hp, rfl, _, rfl, ?_⟩
      exact q _ _ (Int.emod_nonneg _ (by omega)) (Int.emod_lt_of_pos _ hm0) ⟨_, _, _, upd_same, hb0, hb1, hd0, by omega⟩
    · refine ⟨_, rfl, p, _, 2, _, rfl, rfl, hh, rfl, _, _, rfl, rfl, _, rfl, p, _, 2, 2, rfl, rfl, hp, rfl, ?_⟩
      have hp' : (upd H p (HO.lst ([V.int a, V.int b, V.int d].set 2 (V.int (d + 1))))) p = some (.lst [V.int a, V.int b, V.int (d + 1)]) := upd_same
      have hh' := SqL.of (K := K) hp'
      have m33 : (0 : Int) < 10 ^ (33 : Int).toNat + 61 := by decide +kernel
      have m32 : (0 : Int) < 10 ^ (32 : Int).toNat + 49 := by decide +kernel
      have e0 : (2654435761 : Int).natAbs < 2 ^ 60 := by decide
      have e2 : (d + 1).natAbs < 2 ^ 20 := by omega
      have e4 : (40503 : Int).natAbs < 2 ^ 20 := by decide
      have e5 : (40503 * (d + 1)).natAbs < 2 ^ 40 := by omega
      have g1 : (b + 2654435761 * (d + 1)).natAbs < 2 ^ 101 := by omega
      have l3 : (40503 * (d + 1) * (d + 1)).natAbs < 2 ^ (40 + 20) := wide_lt e5 e2
      have g2 : (b + 40503 * (d + 1) * (d + 1) + 11).natAbs < 2 ^ 101 := by omega
      refine ⟨_, rfl, p, _, 1, _, rfl, rfl, hh', rfl, _, rfl, p, _, 2, _, rfl, rfl, hh', rfl, _, _, rfl, rfl, wide_mul e0 e2 (by decide) (by decide) (by decide), _, _, rfl, rfl,
        _, rfl, p, _, 1, _, rfl, rfl, hh', rfl, _, rfl, p, _, 2, _, rfl, rfl, hh', rfl, _, _, rfl, rfl, wide_mul e4 e2 (by decide) (by decide) (by decide), _, rfl, p, _, 2, _, rfl, rfl, hh', rfl, _, _, rfl, rfl, wide_mul e5 e2 (by decide) (by decide) (by decide), _, _, rfl, rfl, _, _, rfl, rfl,
        _, _, rfl, rfl, wide_mul (a := 101) (b := 101) g1 g2 (by decide) (by decide) (by decide), .inl ⟨_, rfl, ?_⟩⟩
      refine ⟨_, _, rfl, rfl, ⟨by decide, by decide, by decide⟩, _, _, rfl, rfl, _, _, rfl, rfl, m33, ?_⟩
      obtain ⟨_, f1⟩ := mx_lt b (d + 1)
      refine ⟨_, rfl, _, rfl, _, _, rfl, rfl, wide_mul (a := 110) (b := 110) f1 f1 (by decide) (by decide) (by decide), _, rfl, _, _, rfl, rfl, wide_mul (a := 20) (b := 110) (by decide) f1 (by decide) (by decide) (by decide), _, _, rfl, rfl, .inl ⟨_, rfl, ?_⟩⟩
      refine ⟨_, _, rfl, rfl, ⟨by decide, by decide, by decide⟩, _, _, rfl, rfl, _, _, rfl, rfl, m32, ?_⟩
      refine ⟨_, rfl, _, _, rfl, rfl, ⟨by decide, by decide⟩, .inl ⟨_, rfl, _, rfl, _, _, rfl, rfl, hm0, ?_⟩⟩
      exact q _ _ (Int.emod_nonneg _ (by omega)) (Int.emod_lt_of_pos _ hm0) ⟨_, _, _, upd_same, hb0, hb1, by omega, by omega⟩
theorem ok_tank {f : Addr} {fd : FuncData} (F : Fun K "_law_tank" "_law_tank" sTank f fd) (B : Blt mg) : FnOk P w K mg base CX0 1 f fd ["script", "k"] (spTank K) := by
  refine F.ok scTank (fun vs H Q E h => ?_) (fun cdv A outer s H vs Q E hr h => ?_)
  · obtain ⟨a, ns, k, rfl, _⟩ := h
    rfl
  · obtain ⟨a, ns, k, rfl, hS, hlen, hk, hk1, q⟩ := h
    refine ⟨_, pss_cons (ps_set (i := 2) scTank.nd rfl (.inl rfl) (pe_ifExp (pt_cmpR op_lt (pv 1) (pe_callB call_len_seq (by rfl) B.len (by decide +kernel) (pa_cons (pv 0) pa_nil)) (nomark _))
        (pe_ix ix_list (pv 0) (pv 1) (fun _ _ => rfl)) (pe_op op_add (pe_op op_mul pe_int (pv 1)) pe_int)))
      (pss_cons (ps_set (i := 3) scTank.nd rfl (.inl rfl) (pe_callB (cr_sum rfl) (by rfl) B.sum (by decide +kernel) (pa_cons
        (pe_lc (own := [("other", 4)]) (g := gName 4) (tt := tYes) rfl scTank.nd (pi_list (pv 0)) (blkOk_by (N := ["script", "k", "cell", "blend", "other"]) (sc := defScope sTank) (by decide +kernel)) (fun _ _ _ _ _ => pg_name (i := 4) scTank.nd rfl (Or.inl rfl)) (fun _ _ _ _ _ => pts_nil)
          (fun _ _ _ _ _ => pe_op op_mod (pe_callTy call_int1 (by rfl) B.int (by decide +kernel) (pa_cons (pv 4) pa_nil)) (pe_op op_add (pe_op op_pow pe_int pe_int) pe_int))) pa_nil)))
      (pss_one (ps_ret (pe_lst (pa_cons (pe_callB (call_max2 rfl) (by rfl) B.max (by decide +kernel) (pa_cons pe_int (pa_cons (pe_op op_sub (pv 2) (pe_op op_pow pe_int pe_int)) pa_nil)))
        (pa_cons (pe_op op_mod (pe_callTy call_int1 (by rfl) B.int (by decide +kernel) (pa_cons (pe_op op_add (pe_op op_add (pe_op op_mul (pe_callB call_abs (by rfl) B.abs (by decide +kernel) (pa_cons (pv 2) pa_nil)) pe_int) (pe_op op_mul (pv 3) pe_int)) (pe_op op_mul pe_int (pv 1))) pa_nil))
            (pe_op op_add (pe_op op_pow pe_int pe_int) pe_int))
        (pa_cons pe_int pa_nil))))))), ?_⟩
    have p24 : (0 : Int) < 10 ^ (24 : Int).toNat + 7 := by decide +kernel
    have p30 : (0 : Int) < 10 ^ (30 : Int).toNat + 57 := by decide +kernel
    have q30 : (10 : Int) ^ (30 : Int).toNat + 57 ≤ 2 ^ 100 := by decide +kernel
    refine ⟨_, rfl, _, rfl, _, _, rfl, .inl hS, _, _, rfl, rfl, _, rfl, ?_⟩
    refine ite_int (fun cell => ?_) (fun hlt R => ?_) (fun _ R => ?_)
    · refine ⟨_, rfl, a, rfl, ⟨_, hS⟩, fun D hD => lc_list (K := K) (a := a) (xs := ns.map V.int) (fun i H' => ∃ ms : List Int, Same H H' ∧ H' D = some (.lst (ms.map V.int)) ∧ ms.length = i)
        ⟨[], same_new hD, upd_same, rfl⟩ (fun i H' _ ⟨_, s, _⟩ => s.seq hS) ?_ ?_⟩
      · rintro i x H' hx ⟨ms, s, hd, hm⟩
        obtain ⟨z, hz, rfl⟩ := get_ints hx
        have hi : i < ns.length := (List.getElem?_eq_some_iff.mp hz).1
        refine ⟨rfl, yes_of ?_⟩
        refine ⟨_, rfl, .inl ⟨_, rfl, _, _, rfl, rfl, ⟨by decide, by decide, by decide⟩, _, _, rfl, rfl, _, _, rfl, rfl, p24, _, hd, ?_, ?_⟩⟩
        · rw [List.length_map]; exact small1000 (by omega)
        · refine ⟨ms ++ [_], same_upd s hD, by rw [upd_same, List.map_append]; rfl, ?_⟩
          rw [List.length_append, hm]; rfl
      · rintro H' ⟨ms, s, hd, hl⟩
        refine ⟨D, ms, rfl, SqL.of hd, ?_⟩
        refine ⟨_, rfl, _, _, rfl, rfl, ⟨by decide, by decide, by decide⟩, _, _, rfl, rfl, _, _, rfl, _, rfl, _, rfl, _, _, rfl, rfl, .inr ⟨by decide, by decide⟩, _, rfl, _, _, rfl, rfl, .inr ⟨by decide, by decide⟩, _, _, rfl, rfl,
          _, rfl, _, _, rfl, rfl, .inl ⟨by decide, by decide⟩, _, _, rfl, rfl, .inl ⟨_, rfl, _, _, rfl, rfl, ⟨by decide, by decide, by decide⟩, _, _, rfl, rfl, _, _, rfl, rfl, p30, (by show 3 ≤ sizeLine; decide), fun p hp => ?_⟩⟩
        exact q p _ (s.free hp) (s.trans (same_new hp)) ⟨_, _, _, upd_same, Int.emod_nonneg _ (by omega), Int.lt_of_lt_of_le (Int.emod_lt_of_pos _ p30) q30, by decide, by decide⟩
    · have hlt' : k < ((ns.map V.int).length : Int) := of_decide_eq_true hlt
      rw [len_ints] at hlt'
      have hget : (ns.map V.int)[k.toNat]? = some (.int ns[k.toNat]) := by rw [List.getElem?_map, List.getElem?_eq_getElem (by omega)]; rfl
      have hat := atI_nat hget
      rw [Int.toNat_of_nonneg hk] at hat
      exact ⟨_, rfl, _, rfl, a, _, k, _, rfl, rfl, hS, hat, R _⟩
    · exact ⟨_, rfl, _, _, rfl, rfl, .inl ⟨by decide, by decide⟩, _, _, rfl, rfl, R _⟩
end
end S1

set_option Elab.async false
set_option linter.all false
set_option maxRecDepth 100000
set_option maxHeartbeats 4000000
/-! unlike names, drawn: the counting -/
namespace S1
open PySem PySem.Spec PyProof.Rows L2
/-- a name -/
structure Nm (x : Str) : Prop where
  lo : 1 ≤ x.length
  hi : x.length ≤ 8
  az : ∀ c ∈ x.cps.toList, 97 ≤ c ∧ c ≤ 122
def nmB (x : Str) : Bool := decide (1 ≤ x.length) && decide (x.length ≤ 8) && x.cps.toList.all fun c => decide (97 ≤ c ∧ c ≤ 122)
theorem nm_of {x : Str} (h : nmB x = true) : Nm x := by
  unfold nmB at h
  rw [Bool.and_eq_true, Bool.and_eq_true, decide_eq_true_eq, decide_eq_true_eq, List.all_eq_true] at h
  exact ⟨h.1.1, h.1.2, fun c hc => of_decide_eq_true (h.2 c hc)⟩
def resv : List Str := ["mine", "newone", "nobody", "notthere"]
def left0 : List Str := ["a", "b", "c", "x", "y", "z", "ab", "ba", "aa", "xy", "yx", "zz", "abc", "acb", "xyz", "zyx", "own", "owns"]
def left1 : List Str := ["pick", "picks", "zebra", "alpha", "omega", "abcdefg", "abcdefgh", "hgfedcba", "aaaaaaaa", "zzzzzzzz"]
def cnt (L F : List Str) : Nat := L.countP fun w => decide (w ∈ F)
theorem pop_perm {α : Type} (L : List α) (k : Nat) (h : k < L.length) : L.Perm (L[k] :: L.eraseIdx k) := by
  have e : L = L.take k ++ L[k] :: L.drop (k + 1) := by
    rw [← List.drop_eq_getElem_cons h, List.take_append_drop]
  have z : (L.take k ++ L[k] :: L.drop (k + 1)).Perm (L[k] :: (L.take k ++ L.drop (k + 1))) := List.perm_middle
  rw [← e, ← List.eraseIdx_eq_take_drop_succ] at z
  exact z
theorem cnt_cons (w : Str) (L F : List Str) : cnt (w :: L) F = cnt L F + if w ∈ F then 1 else 0 := by
  unfold cnt
  rw [List.countP_cons]
  by_cases h : w ∈ F <;> simp [h]
theorem cnt_pop (L F : List Str) (k : Nat) (h : k < L.length) : cnt L F = cnt (L.eraseIdx k) F + if L[k] ∈ F then 1 else 0 := by
  rw [← cnt_cons]
  exact (pop_perm L k h).countP_eq _
theorem cnt_snoc_out {L F : List Str} {w : Str} (h : w ∉ L) : cnt L (F ++ [w]) = cnt L F := by
  unfold cnt
  refine List.countP_congr fun x hx => ?_
  have ne : x ≠ w := fun e => h (e ▸ hx)
  simp [ne]
theorem cnt_snoc_le : ∀ {L F : List Str} {w : Str}, L.Nodup → cnt L (F ++ [w]) ≤ cnt L F + 1
  | [], F, w, _ => by simp [cnt]
  | x :: L, F, w, nd => by
    obtain ⟨n1, n2⟩ := List.nodup_cons.mp nd
    rw [cnt_cons, cnt_cons]
    by_cases e : x = w
    · subst e
      rw [cnt_snoc_out n1]
      by_cases h : x ∈ F <;> simp [h]
    · have ih := cnt_snoc_le (F := F) (w := w) n2
      have z : (x ∈ F ++ [w]) ↔ x ∈ F := by simp [e]
      by_cases h : x ∈ F <;> simp [z, h] <;> omega
/-- what is left to draw from, what was found, and how many turns are ahead -/
structure Pool (L F : List Str) (r : Nat) : Prop where
  nl : L.Nodup
  nf : F.Nodup
  vl : ∀ w ∈ L, Nm w ∧ w ∉ resv
  vf : ∀ w ∈ F, Nm w ∧ w ∉ resv
  room : 2 * r + cnt L F ≤ L.length
/-- the same within a turn, with a word in hand -/
structure Mid (L F : List Str) (w : Str) (r : Nat) : Prop where
  nl : L.Nodup
  nf : F.Nodup
  vl : ∀ w ∈ L, Nm w ∧ w ∉ resv
  vf : ∀ w ∈ F, Nm w ∧ w ∉ resv
  nw : Nm w
  b : 2 * r + cnt L F ≤ L.length + 2
  c : w ∈ F ∨ w ∈ resv → 2 * r + cnt L F ≤ L.length + 1
  d : w ∉ L ∨ 2 * r + cnt L F ≤ L.length + 1
theorem erase_of {L : List Str} (nl : L.Nodup) (k : Nat) (h : k < L.length) : (L.eraseIdx k).Nodup ∧ L[k] ∉ L.eraseIdx k ∧ (L.eraseIdx k).length + 1 = L.length ∧ ∀ w ∈ L.eraseIdx k, w ∈ L := by
  have p := pop_perm L k h
  obtain ⟨n1, n2⟩ := List.nodup_cons.mp (p.nodup_iff.mp nl)
  refine ⟨n2, n1, by rw [p.length_eq, List.length_cons], fun w hw => p.mem_iff.mpr (List.mem_cons_of_mem _ hw)⟩
theorem Pool.pop {L F : List Str} {r : Nat} (P : Pool L F (r + 1)) (k : Nat) (h : k < L.length) : Mid (L.eraseIdx k) F L[k] (r + 1) ∧ 2 * (r + 1) + cnt (L.eraseIdx k) F ≤ (L.eraseIdx k).length + 1 := by
  obtain ⟨e1, e2, e3, e4⟩ := erase_of P.nl k h
  have c := cnt_pop L F k h
  have room := P.room
  have z : 2 * (r + 1) + cnt (L.eraseIdx k) F ≤ (L.eraseIdx k).length + 1 := by
    by_cases hF : L[k] ∈ F
    · rw [if_pos hF] at c; omega
    · rw [if_neg hF] at c; omega
  exact ⟨⟨e1, P.nf, fun w hw => P.vl w (e4 w hw), P.vf, (P.vl _ (List.getElem_mem h)).1, by omega, fun _ => z, .inr z⟩, z⟩
theorem Mid.rand {L F : List Str} {w u : Str} {r : Nat} (M : Mid L F w r) (z : 2 * r + cnt L F ≤ L.length + 1) (hu : Nm u) : Mid L F u r := ⟨M.nl, M.nf, M.vl, M.vf, hu, by omega, fun _ => z, .inr z⟩
theorem Mid.more {L F : List Str} {w : Str} {r : Nat} (M : Mid L F w (r + 1)) (hw : w ∈ F ∨ w ∈ resv) : 0 < L.length ∧ ∀ (k : Nat) (h : k < L.length), Mid (L.eraseIdx k) F L[k] (r + 1) := by
  have c := M.c hw
  refine ⟨by omega, fun k h => ?_⟩
  obtain ⟨e1, e2, e3, e4⟩ := erase_of M.nl k h
  have cp := cnt_pop L F k h
  refine ⟨e1, M.nf, fun w hw => M.vl w (e4 w hw), M.vf, (M.vl _ (List.getElem_mem h)).1, ?_, fun hk => ?_, .inl e2⟩
  · split at cp <;> omega
  · rcases hk with hk | hk
    · rw [if_pos hk] at cp; omega
    · exact absurd hk (M.vl _ (List.getElem_mem h)).2
theorem Mid.done {L F : List Str} {w : Str} {r : Nat} (M : Mid L F w (r + 1)) (h1 : w ∉ F) (h2 : w ∉ resv) : Pool L (F ++ [w]) r := by
  refine ⟨M.nl, ?_, M.vl, fun x hx => ?_, ?_⟩
  · rw [List.nodup_append]
    refine ⟨M.nf, by simp, fun a ha b hb => ?_⟩
    cases List.mem_singleton.mp hb
    exact fun e => h1 (e ▸ ha)
  · rcases List.mem_append.mp hx with z | z
    · exact M.vf x z
    · cases List.mem_singleton.mp z
      exact ⟨M.nw, h2⟩
  · rcases M.d with z | z
    · rw [cnt_snoc_out z]
      have := M.b
      omega
    · have := cnt_snoc_le (F := F) (w := w) M.nl
      omega
theorem pool0 {r : Nat} (h : r ≤ 14) : Pool (left0 ++ left1) [] r := by
  refine ⟨by decide +kernel, List.nodup_nil, fun w hw => ?_, fun w hw => absurd hw (by simp), ?_⟩
  · have z : ((left0 ++ left1).all fun w => nmB w && !resv.contains w) = true := by decide +kernel
    have z2 := List.all_eq_true.mp z w hw
    rw [Bool.and_eq_true] at z2
    refine ⟨nm_of z2.1, fun m => ?_⟩
    have z3 := z2.2
    simp [m] at z3
  · have z : cnt (left0 ++ left1) [] = 0 := by decide +kernel
    have z2 : (left0 ++ left1).length = 28 := by decide +kernel
    rw [z, z2]
    omega
end S1

set_option Elab.async false
set_option linter.all false
set_option maxRecDepth 100000
set_option maxHeartbeats 4000000
/-! unlike names, drawn -/
namespace S1
open PySem PySem.Spec PyProof.Rows L2
def spWords : Sp := fun vs H Q _ => ∃ (p : Addr) (c n : Nat), vs = [.ref p, .int n] ∧ Src H p c ∧ c ≤ 90000 ∧ n ≤ 14 ∧
  ∀ (l : Addr) (ws : List Str) (H' : Hp), H l = none → H' l = some (.lst (ws.map V.str)) → ws.length = n → ws.Nodup → (∀ x ∈ ws, Nm x ∧ x ∉ resv) → Src H' p (c + 200) → Same (del H p) (del H' p) → Q (.ref l) H'
theorem branch {c : Prop} [Decidable c] {t u : TS} {D : Ends} {σ : L2.St} {H : Hp} (I : L2.St → Hp → Prop) (R : ∀ σ' H', I σ' H' → D.nx σ' H') (h1 : c → (∀ σ' H', I σ' H' → D.nx σ' H') → t D σ H)
    (h2 : ¬ c → (∀ σ' H', I σ' H' → D.nx σ' H') → u D σ H) : if c then t D σ H else u D σ H := by
  by_cases h : c
  · rw [if_pos h]; exact h1 h R
  · rw [if_neg h]; exact h2 h R
theorem seq_nat {r : Int} {n : Nat} (h0 : 0 ≤ r) (h1 : r < n) : seqIndex? r n = some r.toNat := by
  unfold seqIndex?
  simp
  omega
theorem map_erase {α β : Type} (f : α → β) : ∀ (l : List α) (k : Nat), (l.map f).eraseIdx k = (l.eraseIdx k).map f
  | [], _ => rfl
  | _ :: _, 0 => rfl
  | x :: l, k + 1 => by rw [List.map_cons, List.eraseIdx_cons_succ, List.eraseIdx_cons_succ, List.map_cons, map_erase f l k]
theorem sd_of {H H' : Hp} {p : Addr} (s : Same H H') : Same (del H p) (del H' p) := fun b u e => by
  by_cases z : b = p
  · rw [z, del_same] at e; cases e
  · rw [del_ne z] at e ⊢; exact s b u e
theorem sd_put {H H' : Hp} {p l : Addr} {o : HO} (s : Same (del H p) (del H' p)) (h : H l = none) : Same (del H p) (del (upd H' l o) p) := fun b u e => by
  by_cases z : b = p
  · rw [z, del_same] at e; cases e
  · have z2 := s b u e
    rw [del_ne z] at e z2 ⊢
    rw [upd_ne (ne_of_none e h)]
    exact z2
theorem sd_at {H H' : Hp} {p : Addr} {o : HO} (s : Same (del H p) (del H' p)) : Same (del H p) (del (upd H' p o) p) := fun b u e => by
  by_cases z : b = p
  · rw [z, del_same] at e; cases e
  · have z2 := s b u e
    rw [del_ne z] at z2 ⊢
    rw [upd_ne z]
    exact z2
abbrev sg (c : Nat) : Str := ⟨#[c]⟩
theorem joinL_one : ∀ cs : List Nat, TL.joinL [] ((cs.map sg).map TL.tl) = cs
  | [] => rfl
  | [c] => rfl
  | c :: d :: cs => by
    show TL.tl (sg c) ++ ([] ++ TL.joinL [] (((d :: cs).map sg).map TL.tl)) = c :: d :: cs
    rw [joinL_one (d :: cs)]
    rfl
theorem join_one (cs : List Nat) : Txt.join "" (cs.map sg) = ⟨cs.toArray⟩ := by
  refine TL.ext_tl ((congrArg TL.tl (TL.join_eq _ _)).trans ((TL.tl_join _ _).trans ?_))
  have e : TL.tl ("" : Str) = [] := by decide +kernel
  rw [e, joinL_one]
theorem nm_join {cs : List Nat} (h1 : 1 ≤ cs.length) (h2 : cs.length ≤ 8) (h3 : ∀ c ∈ cs, 97 ≤ c ∧ c ≤ 122) : Nm (Txt.join "" (cs.map sg)) := by
  rw [join_one]
  exact ⟨by simpa [Str.length] using h1, by simpa [Str.length] using h2, by simpa using h3⟩
theorem join_len (cs : List Nat) : ((cs.map sg).map (·.length)).sum = cs.length := by
  induction cs with
  | nil => rfl
  | cons c cs ih =>
    rw [List.map_cons, List.map_cons, List.sum_cons, ih, List.length_cons]
    show 1 + cs.length = cs.length + 1
    omega
theorem abc_at {r : Int} (h0 : 0 ≤ r) (h1 : r < 26) : atI ("abcdefghijklmnopqrstuvwxyz" : Str).cps.toList r = some (97 + r.toNat) := by
  have z : ∀ k, k < 26 → ("abcdefghijklmnopqrstuvwxyz" : Str).cps.toList[k]? = some (97 + k) := by decide +kernel
  have z2 := atI_nat (z r.toNat (by omega))
  rwa [Int.toNat_of_nonneg h0] at z2
theorem gen_heap {D : L2.St → Hp → Prop} {σ : L2.St} {G : Hp} (F : Hp → Prop) (h : F G) (k : ∀ G', F G' → D σ G') : D σ G := k G h
theorem or_split {c : Prop} [Decidable c] {u : TT} {σ : L2.St} {H : Hp} {Q : Bool → Hp → Prop} (R : Hp → Prop) (k : ∀ H', R H' → Q true H') (h1 : c → (∀ H', R H' → Q true H') → Q true H) (h2 : ¬ c → (∀ H', R H' → Q true H') → u σ H Q) : if c then Q true H else u σ H Q := by
  by_cases h : c
  · rw [if_pos h]; exact h1 h k
  · rw [if_neg h]; exact h2 h k
theorem inV_str {x : Str} {xs : List Str} : inV (.str x) (xs.map V.str) = decide (x ∈ xs) := by
  unfold inV
  rw [List.any_map]
  by_cases h : x ∈ xs
  · rw [decide_eq_true h, List.any_eq_true]
    exact ⟨x, h, by simp [eqV]⟩
  · rw [decide_eq_false h, List.any_eq_false]
    intro y hy
    simp only [Function.comp, eqV]
    intro z
    have z2 : y = x := by simpa using z
    exact h (z2 ▸ hy)
theorem flat_strs (xs : List Str) : (xs.map V.str).all flatV = true := by
  rw [List.all_map, List.all_eq_true]
  exact fun _ _ => rfl
end S1

set_option Elab.async false
set_option linter.all false
set_option maxRecDepth 100000
set_option maxHeartbeats 4000000
/-! clauses, drawn -/
namespace S1
open PySem PySem.W PySem.Spec PyProof.Rows L2
theorem lst_ne_tup {xs ys : List V} : HO.lst xs ≠ HO.tup ys := fun z => by cases z
mutual
/-- tuples stay what they are while a list changes -/
theorem dat_del {H H' : Hp} {p : Addr} {xs : List V} (hp : H p = some (.lst xs)) (s : Same (del H p) (del H' p)) : ∀ {v : V} {d : PyData}, keyable d = true → Dat H v d → Dat H' v d
  | _, _, _, .non => .non
  | _, _, _, .bl b => .bl b
  | _, _, _, .int i => .int i
  | _, _, _, .str x => .str x
  | _, _, k, .lst e h => by simp [keyable] at k
  | _, _, k, .tup (a := a) e h => by
    have ne : a ≠ p := fun z => by rw [z, hp] at e; cases e
    have z := s a _ (by rw [del_ne ne]; exact e)
    rw [del_ne ne] at z
    exact .tup z (dats_del hp s (by simpa [keyable] using k) h)
  | _, _, k, .dct e h => by simp [keyable] at k
theorem dats_del {H H' : Hp} {p : Addr} {xs : List V} (hp : H p = some (.lst xs)) (s : Same (del H p) (del H' p)) : ∀ {vs : List V} {ds : List PyData}, keyables ds = true → DatAll H vs ds → DatAll H' vs ds
  | _, _, _, .nil => .nil
  | _, _, k, .cons h t => by
    rw [keyables, Bool.and_eq_true] at k
    exact .cons (dat_del hp s k.1 h) (dats_del hp s k.2 t)
end
theorem Src.lst {H : Hp} {p : Addr} {c : Nat} (h : Src H p c) : ∃ xs, H p = some (.lst xs) := by
  obtain ⟨_, _, _, z, _⟩ := h.at_
  exact ⟨_, z⟩
theorem dat_src {H H' : Hp} {p : Addr} {c : Nat} (h : Src H p c) (s : Same (del H p) (del H' p)) {v : V} {d : PyData} (k : keyable d = true) (D : Dat H v d) : Dat H' v d := by
  obtain ⟨xs, z⟩ := h.lst
  exact dat_del z s k D
theorem dat_upd {H : Hp} {p : Addr} {o : HO} {xs : List V} (hp : H p = some (.lst xs)) {v : V} {d : PyData} (k : keyable d = true) (D : Dat H v d) : Dat (upd H p o) v d := dat_del hp (sd_at (Same.refl _)) k D
theorem dat_new {H : Hp} {p : Addr} {o : HO} (hp : H p = none) {v : V} {d : PyData} (D : Dat H v d) : Dat (upd H p o) v d := D.same (same_new hp)
/-! ### letters and clauses, as data -/
abbrev Ltr := Str × Bool
def ltD (l : Ltr) : PyData := .tuple [.str l.1, .bool l.2]
def clD (cl : List Ltr) : PyData := .tuple (cl.map ltD)
theorem keyable_lt (l : Ltr) : keyable (ltD l) = true := rfl
theorem keyables_map {α : Type} (f : α → PyData) (h : ∀ x, keyable (f x) = true) : ∀ l : List α, keyables (l.map f) = true
  | [] => rfl
  | x :: l => by rw [List.map_cons, keyables, h x, keyables_map f h l]; rfl
theorem keyable_cl (cl : List Ltr) : keyable (clD cl) = true := by
  show keyables (cl.map ltD) = true
  exact keyables_map ltD keyable_lt cl
theorem alike_lt (a b : Ltr) : alike (ltD a) (ltD b) = true := by simp [ltD, alike, alikeAll]
theorem alikes_map {α : Type} (f : α → PyData) (h : ∀ x y, alike (f x) (f y) = true) : ∀ l m : List α, alikeAll (l.map f) (m.map f) = true
  | [], _ => by simp [alikeAll]
  | _ :: _, [] => by simp [alikeAll]
  | x :: l, y :: m => by simp only [List.map_cons, alikeAll, h x y, alikes_map f h l m, Bool.and_self]
theorem alike_cl (a b : List Ltr) : alike (clD a) (clD b) = true := by
  show alikeAll (a.map ltD) (b.map ltD) = true
  exact alikes_map ltD alike_lt a b
/-- one text below another -/
def tlt (x y : Str) : Prop := x.cps.toList < y.cps.toList
theorem lt_letters {a b : Ltr} (ne : a.1 ≠ b.1) (h : dataLt (ltD a) (ltD b) = true) : tlt a.1 b.1 := by
  unfold ltD at h
  rw [dataLt_pair (by simp [alike]) (by simp [alike])] at h
  have e : PyData.eqv (.str a.1) (.str b.1) = false := by
    simp only [PyData.eqv]
    exact beq_false_of_ne ne
  rw [e, if_neg (by decide), dataLt_str] at h
  rw [decide_eq_true_eq] at h
  exact h
/-- what a drawn clause is -/
structure ClOk (ws : List Str) (cl : List Ltr) : Prop where
  up : cl.Pairwise fun a b => tlt a.1 b.1
  mem : ∀ l ∈ cl, l.1 ∈ ws
theorem depth_lt (l : Ltr) : (ltD l).depth ≤ 1 := by simp [ltD, PyData.depth, PyData.depthAll]
theorem depths_map {α : Type} (f : α → PyData) (n : Nat) (h : ∀ x, (f x).depth ≤ n) : ∀ l : List α, PyData.depthAll (l.map f) ≤ n
  | [] => by simp [PyData.depthAll]
  | x :: l => by
    have := h x
    have := depths_map f n h l
    simp only [List.map_cons, PyData.depthAll]
    omega
theorem depth_cl (cl : List Ltr) : (clD cl).depth ≤ 2 := by
  have := depths_map ltD 1 depth_lt cl
  simp only [clD, PyData.depth]
  omega
def spClause : Sp := fun vs H Q _ => ∃ (p lw : Addr) (c : Nat) (ws : List Str), vs = [.ref p, .ref lw] ∧ Src H p c ∧ c ≤ 90000 ∧ H lw = some (.lst (ws.map V.str)) ∧ ws.Nodup ∧ ws.length ≤ 100 ∧ p ≠ lw ∧
  ∀ (v : V) (cl : List Ltr) (H' : Hp), Dat H' v (clD cl) → ClOk ws cl → Src H' p (c + 202) → Same (del H p) (del H' p) → Q v H'
theorem ite_intP {c : Prop} [Decidable c] {ta tb : TE} {σ : L2.St} {H : Hp} {Q : VK} (I : Int → Prop) (R : ∀ i : Int, I i → Q (.int i) H) (h1 : c → (∀ i : Int, I i → Q (.int i) H) → ta σ H Q) (h2 : ¬ c → (∀ i : Int, I i → Q (.int i) H) → tb σ H Q) : if c then ta σ H Q else tb σ H Q := by
  by_cases h : c
  · rw [if_pos h]; exact h1 h R
  · rw [if_neg h]; exact h2 h R
theorem sd_new {H H' : Hp} {p l : Addr} {o : HO} (s : Same (del H p) (del H' p)) (hl : H' l = none) (n : l ≠ p) : Same (del H p) (del (upd H' l o) p) := by
  refine sd_put s ?_
  cases z : H l with
  | none => rfl
  | some u =>
    have z2 := s l u (by rw [del_ne n]; exact z)
    rw [del_ne n, hl] at z2
    cases z2
theorem sd_free {H H' : Hp} {p l : Addr} (s : Same (del H p) (del H' p)) (hl : H' l = none) (n : l ≠ p) : H l = none := by
  cases z : H l with
  | none => rfl
  | some u =>
    have z2 := s l u (by rw [del_ne n]; exact z)
    rw [del_ne n, hl] at z2
    cases z2
theorem dats_rows {H : Hp} : ∀ {T : List TRow}, (∀ q ∈ T, Dat H q.v q.2) → DatAll H (T.map TRow.v) (T.map Prod.snd)
  | [], _ => .nil
  | q :: T, h => .cons (h q List.mem_cons_self) (dats_rows fun r hr => h r (List.mem_cons_of_mem _ hr))
theorem sorty_of {α : Type} {f : α → PyData} {T : List TRow} {l : List α} (e : T.map Prod.snd = l.map f) (al : ∀ x y, alike (f x) (f y) = true) (tp : ∀ x, ∃ xs, f x = .tuple xs) (dp : ∀ x, (f x).depth ≤ 8) : Sorty T := by
  have z : ∀ p ∈ T, ∃ x, p.2 = f x := fun p hp => by
    have m : p.2 ∈ l.map f := e ▸ List.mem_map_of_mem hp
    obtain ⟨x, _, hx⟩ := List.mem_map.mp m
    exact ⟨x, hx.symm⟩
  refine ⟨fun d hd d' hd' => ?_, fun p hp => ?_, fun p hp => ?_⟩
  · rw [e] at hd hd'
    obtain ⟨x, _, rfl⟩ := List.mem_map.mp hd
    obtain ⟨y, _, rfl⟩ := List.mem_map.mp hd'
    exact al x y
  · obtain ⟨x, hx⟩ := z p hp
    rw [hx]; exact tp x
  · obtain ⟨x, hx⟩ := z p hp
    rw [hx]; exact dp x
/-- the letters of sorted rows -/
theorem letters_back {T T' : List TRow} {cl : List Ltr} (pm : T'.Perm T) (e : T.map Prod.snd = cl.map ltD) (nd : (cl.map Prod.fst).Nodup) (up : (T.map Prod.snd).Nodup → T'.Pairwise fun p q => dataLt p.2 q.2 = true) :
    ∃ cl' : List Ltr, cl'.Perm cl ∧ T'.map Prod.snd = cl'.map ltD ∧ cl'.Pairwise fun a b => tlt a.1 b.1 := by
  obtain ⟨cl', p2, e2⟩ := perm_back (f := ltD) ((pm.map Prod.snd).trans (.of_eq e)) cl rfl
  have nl : cl.Nodup := nodup_of_map nd
  have nT : (T.map Prod.snd).Nodup := by
    rw [e]
    refine List.pairwise_map.mpr (nl.imp fun {a b} ne z => ne ?_)
    unfold ltD at z
    injection z with z
    injection z with z1 z2
    injection z1 with z1
    injection z2 with z2
    injection z2 with z2
    exact Prod.ext z1 z2
  have u1 : (T'.map Prod.snd).Pairwise fun d e => dataLt d e = true := List.pairwise_map.mpr (up nT)
  rw [e2] at u1
  have nd' : (cl'.map Prod.fst).Nodup := ((p2.map Prod.fst).nodup_iff).mpr nd
  exact ⟨cl', p2, e2, ((List.pairwise_map.mp u1).and (List.pairwise_map.mp nd')).imp fun {a b} z => lt_letters z.2 z.1⟩
end S1

set_option Elab.async false
set_option linter.all false
set_option maxRecDepth 100000
set_option maxHeartbeats 4000000
/-! sorted(list) of texts, and the data of sayings -/
namespace S1
open PySem PySem.W PySem.Spec PyProof.Rows L2
abbrev RS (v : Value) (x : Str) : Prop := RelV (.str x) v
theorem each_strs : ∀ {xs : List Str} {us : List Value}, Vals (xs.map V.str) us → EachIs RS us xs
  | [], _, .nil => .nil
  | _ :: _, _, .cons r t => .cons r (each_strs t)
theorem strs_each : ∀ {us : List Value} {xs : List Str}, EachIs RS us xs → Vals (xs.map V.str) us
  | _, _, .nil => .nil
  | _, _, .cons r t => .cons r (strs_each t)
theorem each_reads {h : Heap} : ∀ {us : List Value} {xs : List Str}, EachIs RS us xs → EachIs (fun v x => ∃ as, Reads h v (.str x) as) us xs
  | _, _, .nil => .nil
  | _, _, .cons r t => .cons (by obtain ⟨k, rfl⟩ := r; exact ⟨_, .str _ k⟩) (each_reads t)
def sortW (xs : List Str) : List Str := xs.mergeSort (dataLe false PyData.str)
theorem sortW_up {xs : List Str} (nd : xs.Nodup) : (sortW xs).Pairwise tlt := by
  have srt : (sortW xs).Pairwise fun p q => dataLe false PyData.str p q = true := sort_pairwise (sortLe_total (listOrd itemOrd) false fun p : Str => keyToks (.str p)) xs
  have nd' : (sortW xs).Nodup := (List.mergeSort_perm _ _).nodup_iff.mpr nd
  refine (srt.and nd').imp fun {p q} z => ?_
  have al : alike (.str p) (.str q) = true := by simp [alike]
  have ne : PyData.str p ≠ PyData.str q := fun e => z.2 (by injection e)
  rcases dataLt_or al ne with c | c
  · rw [dataLt_str, decide_eq_true_eq] at c
    exact c
  · have z3 : (!dataLt (.str q) (.str p)) = true := z.1
    rw [c] at z3
    exact absurd z3 (by decide)
section
variable {X : Cx}
/-- sorted(xs), xs a list of texts -/
def rSortW (K : PySem.W.Frag) : List V → Hp → VK → Prop := fun vs H Q => ∃ (l : Addr) (xs : List Str), vs = [V.ref l] ∧ SqL K H l (xs.map V.str) ∧
  ∀ (ys : List Str) (b : Addr), ys.Perm xs → (xs.Nodup → ys.Pairwise tlt) → H b = none → Q (.ref b) (upd H b (.lst (ys.map V.str)))
theorem cr_sortW (hu : X.A.units + 64 < cLine) : CallR X (.builtin "sorted") (rSortW X.K) := by
  intro pins s σ H vs us Q I r h
  obtain ⟨l, xs, rfl, hl, q⟩ := h
  rw [Vals.ref1 r]
  obtain ⟨its, rv, pl, hz⟩ := I.list hl
  have e0 := each_strs rv
  have rd := each_reads (h := sortingHeap (copyHeap s.heap its) (s.heap.objs.size + 1) its) e0
  have al : AllAlike (xs.map PyData.str) := AllAlike.of fun b b' => by simp [alike]
  have un : ∀ d, d ∈ xs.map PyData.str → X.A.in1.in1.units + d.depth < cLine := fun d z => by
    obtain ⟨p, _, rfl⟩ := List.mem_map.mp z
    simp only [Around.in1_units, PyData.depth]
    omega
  have srt := SortsAt.data (prog := X.prog) (w := X.w) (A := X.A.in1.in1) (s := { s with heap := sortingHeap (copyHeap s.heap its) (s.heap.objs.size + 1) its }) (each_map (R := fun v d => ∃ as, Reads _ v d as) PyData.str rd) al
    (Sortable.others fun b => ⟨fun z => (nomatch z), fun _ z => (nomatch z)⟩) un
  have out := strs_each (sortVals_data (R := RS) (enc := PyData.str) false e0 rd al)
  rw [List.length_map] at hz
  have len : its.length = xs.length := by rw [e0.length]
  refine sorted_vals pl.isList srt (by rw [len]; exact hz) ?_
  obtain ⟨c, hc⟩ := PyProof.Rows.sortedAll_at s.heap its (sortVals (dataKind (sortingHeap (copyHeap s.heap its) (s.heap.objs.size + 1) its) (xs.map PyData.str)) false its its).toArray
  have fresh : H (s.heap.objs.size + 1) = none := I.hok.fresh (Nat.le_succ _)
  have pm : (sortW xs).Perm xs := List.mergeSort_perm _ _
  exact ⟨.ref _, upd H (s.heap.objs.size + 1) (.lst ((sortW xs).map V.str)), I.laid (t' := s.toks) (fun _ _ => PyProof.Rows.sortedAll_old) (Nat.le_succ _) ⟨by rw [List.length_map, pm.length_eq]; exact hz, _, c, out, hc⟩, rfl,
    q (sortW xs) _ pm sortW_up fresh⟩
end
/-! ### the data of sayings -/
abbrev Own := Str × List Str
def nmsD (xs : List Str) : PyData := .tuple (xs.map .str)
def ownD (o : Own) : PyData := .tuple [.str o.1, nmsD o.2]
structure Say where
  picks : List Str
  owns : List Own
  cls : List (List Ltr)
def Say.d (s : Say) : PyData := .tuple [nmsD s.picks, .tuple (s.owns.map ownD), .tuple (s.cls.map clD)]
def Say.names (s : Say) : List Str := s.picks ++ s.owns.map Prod.fst
def copies (os : List Own) : Nat := (os.map fun o => 2 ^ o.2.length).sum
/-- a saying of at most so many picks, owns, copies, clauses -/
structure SayOk (a b c d : Nat) (s : Say) : Prop where
  pu : s.picks.Pairwise tlt
  pn : ∀ x ∈ s.picks, Nm x
  pl : s.picks.length ≤ a
  ou : s.owns.Pairwise fun x y => tlt x.1 y.1
  on : ∀ o ∈ s.owns, Nm o.1 ∧ o.1 ∉ s.picks ∧ o.2.Pairwise tlt ∧ ∀ x ∈ o.2, x ∈ s.picks
  ol : s.owns.length ≤ b
  oc : copies s.owns ≤ c
  cu : s.cls.Pairwise fun x y => dataLt (clD x) (clD y) = true
  ck : ∀ cl ∈ s.cls, ClOk s.names cl
  cl : s.cls.length ≤ d
theorem alike_nms (a b : List Str) : alike (nmsD a) (nmsD b) = true := by
  show alikeAll (a.map .str) (b.map .str) = true
  exact alikes_map PyData.str (fun _ _ => by simp [alike]) a b
theorem alike_own (a b : Own) : alike (ownD a) (ownD b) = true := by
  simp only [ownD, alike, alikeAll, alike_nms, Bool.and_self, Bool.and_true]
theorem depth_nms (a : List Str) : (nmsD a).depth ≤ 1 := by
  have := depths_map PyData.str 0 (fun _ => Nat.le_refl _) a
  simp only [nmsD, PyData.depth]
  omega
theorem depth_own (a : Own) : (ownD a).depth ≤ 2 := by
  have := depth_nms a.2
  simp only [ownD, PyData.depth, PyData.depthAll]
  omega
theorem keyable_nms (a : List Str) : keyable (nmsD a) = true := by
  show keyables (a.map .str) = true
  exact keyables_map PyData.str (fun _ => rfl) a
theorem keyable_own (a : Own) : keyable (ownD a) = true := by
  simp only [ownD, keyable, keyables, keyable_nms, Bool.and_self]
theorem lt_owns {a b : Own} (ne : a.1 ≠ b.1) (h : dataLt (ownD a) (ownD b) = true) : tlt a.1 b.1 := by
  unfold ownD at h
  rw [dataLt_pair (by simp [alike]) (alike_nms _ _)] at h
  have e : PyData.eqv (.str a.1) (.str b.1) = false := by
    simp only [PyData.eqv]
    exact beq_false_of_ne ne
  rw [e, if_neg (by decide), dataLt_str, decide_eq_true_eq] at h
  exact h
/-- a tuple that stands -/
def FT (H : Hp) (a : Addr) (xs : List V) : Prop := H a = some (.tup xs)
theorem FT.rd {H : Hp} {a : Addr} {xs : List V} (h : FT H a xs) : Rd H a (.tup xs) := .inl h
theorem FT.sq {K : PySem.W.Frag} {H : Hp} {a : Addr} {xs : List V} (h : FT H a xs) : SqT K H a xs := .inl h.rd
theorem FT.same {H H' : Hp} {a : Addr} {xs : List V} (h : FT H a xs) (S : Same H H') : FT H' a xs := S _ _ h
/-- the owns of a saying, as they stand -/
def DatO (H : Hp) (v : V) (os : List Own) : Prop := ∃ b us, v = .ref b ∧ FT H b us ∧ DatAll H us (os.map ownD)
theorem DatO.same {H H' : Hp} {v : V} {os : List Own} (h : DatO H v os) (S : Same H H') : DatO H' v os := let ⟨b, us, e, f, d⟩ := h; ⟨b, us, e, f.same S, DatAll.same S d⟩
/-- a saying, as it stands -/
def DatS (H : Hp) (v : V) (s : Say) : Prop := ∃ a p o c, v = .ref a ∧ H a = some (.tup [p, o, c]) ∧ Dat H p (nmsD s.picks) ∧ DatO H o s.owns ∧ Dat H c (.tuple (s.cls.map clD))
theorem DatS.same {H H' : Hp} {v : V} {s : Say} (h : DatS H v s) (S : Same H H') : DatS H' v s := let ⟨a, p, o, c, e, g, d1, d2, d3⟩ := h; ⟨a, p, o, c, e, S _ _ g, d1.same S, d2.same S, d3.same S⟩
end S1

set_option Elab.async false
set_option linter.all false
set_option maxRecDepth 100000
set_option maxHeartbeats 4000000
/-! sayings, drawn -/
namespace S1
open PySem PySem.W PySem.Spec PyProof.Rows L2
theorem cut_take {ws : List Str} {r : Nat} : cutV (ws.map V.str) none (some (r : Int)) = (ws.take r).map V.str := by
  unfold cutV
  rw [HT.sIx_nat, HT.sIx_none, List.drop_zero, List.map_take, Nat.sub_zero, ← List.take_eq_take_min]
theorem cut_mid {ws : List Str} {a r : Nat} (h : a + r ≤ ws.length) : cutV (ws.map V.str) (some (a : Int)) (some ((a + r : Nat) : Int)) = ((ws.drop a).take r).map V.str := by
  unfold cutV
  rw [HT.sIx_nat, HT.sIx_nat, List.length_map, Nat.min_eq_left (show a ≤ ws.length by omega), Nat.min_eq_left h, ← List.map_drop, ← List.map_take]
  congr 1
  congr 1
  omega
theorem dats_strs {H : Hp} : ∀ xs : List Str, DatAll H (xs.map V.str) (xs.map PyData.str)
  | [] => .nil
  | x :: xs => .cons (.str x) (dats_strs xs)
theorem copies_snoc (os : List Own) (o : Own) : copies (os ++ [o]) = copies os + 2 ^ o.2.length := by
  unfold copies
  rw [List.map_append, List.sum_append, List.map_cons, List.map_nil, List.sum_cons, List.sum_nil, Nat.add_zero]
theorem own_row {H : Hp} {q : TRow} {o : Own} (e : q.2 = ownD o) (D : Dat H q.v q.2) : ∃ t, H q.1 = some (.tup [.str o.1, .ref t]) ∧ H t = some (.tup (o.2.map V.str)) := by
  rw [e] at D
  have D2 : Dat H (.ref q.1) (.tuple [.str o.1, nmsD o.2]) := D
  cases D2 with
  | tup g h =>
    cases h with
    | cons h1 h2 =>
      cases h2 with
      | cons h3 h4 =>
        cases h4
        cases h1
        have h5 : Dat H _ (.tuple (o.2.map .str)) := h3
        cases h5 with
        | tup g2 h6 =>
          have key : ∀ {xs : List V} {l : List Str}, DatAll H xs (l.map PyData.str) → xs = l.map V.str := by
            intro xs l
            induction l generalizing xs with
            | nil => intro h; cases h; rfl
            | cons x l ih =>
              intro h
              cases h with
              | cons a b =>
                cases a
                rw [ih b, List.map_cons]
          rw [key h6] at g2
          exact ⟨_, g, g2⟩
theorem rows_back {α : Type} {f : α → PyData} {g : α → Str} (hg : ∀ a b, f a = f b → g a = g b) (hlt : ∀ a b, g a ≠ g b → dataLt (f a) (f b) = true → tlt (g a) (g b)) {T T' : List TRow} {l : List α} (pm : T'.Perm T) (e : T.map Prod.snd = l.map f)
    (nd : (l.map g).Nodup) (up : (T.map Prod.snd).Nodup → T'.Pairwise fun p q => dataLt p.2 q.2 = true) : ∃ l' : List α, l'.Perm l ∧ T'.map Prod.snd = l'.map f ∧ l'.Pairwise fun a b => tlt (g a) (g b) := by
  obtain ⟨l', p2, e2⟩ := perm_back (f := f) ((pm.map Prod.snd).trans (.of_eq e)) l rfl
  have nT : (T.map Prod.snd).Nodup := by
    rw [e]
    exact List.pairwise_map.mpr ((List.pairwise_map.mp nd).imp fun {a b} ne z => ne (hg a b z))
  have u1 : (T'.map Prod.snd).Pairwise fun d e => dataLt d e = true := List.pairwise_map.mpr (up nT)
  rw [e2] at u1
  have nd' : (l'.map g).Nodup := ((p2.map g).nodup_iff).mpr nd
  exact ⟨l', p2, e2, ((List.pairwise_map.mp u1).and (List.pairwise_map.mp nd')).imp fun {a b} z => hlt a b z.2 z.1⟩
theorem own_name (a b : Own) (h : ownD a = ownD b) : a.1 = b.1 := by
  unfold ownD at h
  injection h with h
  injection h with h _
  injection h
theorem nodup_le {α : Type} : ∀ {l m : List α}, l.Nodup → (∀ x ∈ l, x ∈ m) → l.length ≤ m.length
  | [], _, _, _ => Nat.zero_le _
  | x :: l, m, nd, h => by
    obtain ⟨s, t, e⟩ := List.append_of_mem (h x List.mem_cons_self)
    obtain ⟨n1, n2⟩ := List.nodup_cons.mp nd
    have ih := nodup_le (m := s ++ t) n2 fun y hy => by
      have z := h y (List.mem_cons_of_mem _ hy)
      rw [e] at z
      rcases List.mem_append.mp z with z | z
      · exact List.mem_append_left _ z
      · rcases List.mem_cons.mp z with z | z
        · exact absurd (z ▸ hy) n1
        · exact List.mem_append_right _ z
    rw [e, List.length_append, List.length_cons, List.length_cons]
    rw [List.length_append] at ih
    omega
theorem copies_perm {l m : List Own} (p : l.Perm m) : copies l = copies m := (p.map fun o : Own => 2 ^ o.2.length).sum_nat
theorem and_split {c : Prop} [Decidable c] {u : TT} {σ : L2.St} {H : Hp} {Q : Bool → Hp → Prop} (R : Hp → Prop) (k : ∀ H', R H' → Q false H') (h1 : c → (∀ H', R H' → Q false H') → u σ H Q) (h2 : ¬ c → (∀ H', R H' → Q false H') → Q false H) : if c then u σ H Q else Q false H := by
  by_cases h : c
  · rw [if_pos h]; exact h1 h k
  · rw [if_neg h]; exact h2 h k
end S1

set_option Elab.async false
set_option linter.all false
set_option maxRecDepth 100000
set_option maxHeartbeats 4000000
/-! < and == of data; what is_truth, is_tuple, is_pair, is_rising tell of good ones -/
namespace S1
open PySem PySem.W PySem.Spec PyProof.Rows L2
section
variable {X : Cx}
def rLtD : R2 := fun x y H Q => ∃ d e, Dat H x d ∧ Dat H y e ∧ alike d e = true ∧ d ≠ .none ∧ d.depth ≤ 8 ∧ Q (.bl (dataLt d e)) H
theorem op_ltD (hu : X.A.units + 64 < cLine) : OpR X (compareOp .Lt) rLtD := by
  intro pins s σ H x y v u Q I rx ry h
  obtain ⟨d, e, D1, D2, al, ne, dp, q⟩ := h
  obtain ⟨as, R1⟩ := reads_of_dat I.hok D1 rx
  obtain ⟨bs, R2⟩ := reads_of_dat I.hok D2 ry
  exact rcLt_alike d e X.A s v u as bs R1 R2 al ne (by have := Nat.min_le_left d.depth e.depth; omega) X.prog X.w X.xe _ ⟨.bl (dataLt d e), H, I, rfl, q⟩
def rEqD : R2 := fun x y H Q => ∃ d e, Dat H x d ∧ Dat H y e ∧ alike d e = true ∧ d.depth ≤ 8 ∧ Q (.bl (PyData.eqv d e)) H
end
/-! ### the small questions -/
def spIsTruth : Sp := fun vs H Q _ => ∃ b : Bool, vs = [.bl b] ∧ Q (.bl true) H
def spIsTuple : Sp := fun vs H Q _ => ∃ (a : Addr) (xs : List V) (n : Int), vs = [.ref a, .int n] ∧ Rd H a (.tup xs) ∧ (xs.length : Int) ≤ n ∧ Q (.bl true) H
def spIsPair : Sp := fun vs H Q _ => ∃ (a : Addr) (x y : V), vs = [.ref a] ∧ H a = some (.tup [x, y]) ∧ Q (.bl true) H
/-- each one below the next -/
def Rise : List PyData → Prop
  | [] => True
  | [_] => True
  | x :: y :: r => (alike x y = true ∧ x ≠ .none ∧ x.depth ≤ 8 ∧ dataLt x y = true) ∧ Rise (y :: r)
theorem Rise.at_ : ∀ {ds : List PyData}, Rise ds → ∀ (k : Nat) (x y : PyData), ds[k]? = some x → ds[k + 1]? = some y → alike x y = true ∧ x ≠ .none ∧ x.depth ≤ 8 ∧ dataLt x y = true
  | [], _, _, _, _, h, _ => by simp at h
  | [_], _, k, _, _, _, h => by simp at h
  | a :: b :: r, R, 0, x, y, h1, h2 => by
    cases (show some a = some x from h1)
    cases (show some b = some y from h2)
    exact R.1
  | a :: b :: r, R, k + 1, x, y, h1, h2 => Rise.at_ R.2 k x y h1 h2
theorem rise_of {α : Type} {f : α → PyData} (al : ∀ x y, alike (f x) (f y) = true) (nn : ∀ x, f x ≠ .none) (dp : ∀ x, (f x).depth ≤ 8) : ∀ {l : List α}, (l.Pairwise fun x y => dataLt (f x) (f y) = true) → Rise (l.map f)
  | [], _ => True.intro
  | [_], _ => True.intro
  | x :: y :: l, h => by
    obtain ⟨h1, h2⟩ := List.pairwise_cons.mp h
    exact ⟨⟨al x y, nn x, dp x, h1 y List.mem_cons_self⟩, rise_of al nn dp h2⟩
theorem rise_strs {l : List Str} (h : l.Pairwise tlt) : Rise (l.map PyData.str) := rise_of (f := PyData.str) (fun _ _ => by simp [alike]) (fun _ z => nomatch z) (fun _ => Nat.zero_le _) (h.imp fun {x y} z => by
  rw [dataLt_str]
  exact decide_eq_true z)
theorem same_tup {K : PySem.W.Frag} {H H' : Hp} {a : Addr} {xs : List V} (S : Same H H') (h : SqT K H a xs) : SqT K H' a xs := by
  rcases h with h | h
  · refine .inl ?_
    rcases h with h | ⟨o, h⟩
    · exact .inl (S _ _ h)
    · exact .inr ⟨o, S _ _ h⟩
  · exact .inr h
theorem same_sq {K : PySem.W.Frag} {H H' : Hp} {a : Addr} {xs : List V} (S : Same H H') (h : SqL K H a xs ∨ SqT K H a xs) : SqL K H' a xs ∨ SqT K H' a xs := h.elim (fun h => .inl (S.seq h)) fun h => .inr (same_tup S h)
theorem ix_any {K : PySem.W.Frag} {H : Hp} {a : Addr} {xs : List V} {i : Int} {v : V} {Q : VK} (h : SqL K H a xs ∨ SqT K H a xs) (e : atI xs i = some v) (q : Q v H) : rIx K (.ref a) (.int i) H Q :=
  h.elim (fun h => .inl ⟨a, xs, i, v, rfl, rfl, h, e, q⟩) fun h => .inr (.inl ⟨a, xs, i, v, rfl, rfl, h, e, q⟩)
def spIsRising (K : PySem.W.Frag) : Sp := fun vs H Q _ => ∃ (a : Addr) (xs : List V) (ds : List PyData), vs = [.ref a] ∧ (SqL K H a xs ∨ SqT K H a xs) ∧ DatAll H xs ds ∧ Rise ds ∧ ds.length ≤ 1000 ∧ ∀ H', Same H H' → Q (.bl true) H'
theorem dats_get {H : Hp} : ∀ {xs : List V} {ds : List PyData}, DatAll H xs ds → ∀ (k : Nat) (d : PyData), ds[k]? = some d → ∃ x, xs[k]? = some x ∧ Dat H x d
  | _, _, .nil, _, _, h => by simp at h
  | _, _, .cons (v := v) h t, 0, d, e => by
    cases (show some _ = some d from e)
    exact ⟨v, rfl, h⟩
  | _, _, .cons h t, k + 1, d, e => dats_get t k d e
section
variable {P : Program} {w : World} {K : PySem.W.Frag} {mg : Str → Option Value} {base : Heap}
theorem scIsTruth : FnScope ["value"] ["value"] (defScope sIsTruth) := ⟨rfl, rfl, rfl, by decide +kernel, rfl, by decide +kernel, by decide +kernel⟩
theorem scIsTuple : FnScope ["value", "most"] ["value", "most"] (defScope sIsTuple) := ⟨rfl, rfl, rfl, by decide +kernel, rfl, by decide +kernel, by decide +kernel⟩
theorem scIsPair : FnScope ["value"] ["value"] (defScope sIsPair) := ⟨rfl, rfl, rfl, by decide +kernel, rfl, by decide +kernel, by decide +kernel⟩
theorem scIsRising : FnScope ["parts", "k"] ["parts"] (defScope sIsRising) := ⟨rfl, rfl, rfl, by decide +kernel, rfl, by decide +kernel, by decide +kernel⟩
theorem ok_isTruth {f : Addr} {fd : FuncData} (F : Fun K "is_truth" "is_truth" sIsTruth f fd) : FnOk P w K mg base CX0 1 f fd ["value"] spIsTruth := by
  refine F.ok scIsTruth (fun vs H Q E h => ?_) (fun cdv A outer s H vs Q E hr h => ?_)
  · obtain ⟨b, rfl, _⟩ := h
    rfl
  · obtain ⟨b, rfl, q⟩ := h
    refine ⟨_, pss_one (ps_ret (pe_or (pe_cmpR op_is_bl (pv 0) pe_bl (nomark _)) (pe_one (pe_cmpR op_is_bl (pv 0) pe_bl (nomark _))))), ?_⟩
    refine ⟨_, rfl, b, true, rfl, rfl, _, rfl, ?_⟩
    cases b with
    | true => exact q
    | false => exact ⟨_, rfl, false, false, rfl, rfl, q⟩
theorem ty_rd {H : Hp} {a : Addr} {xs : List V} (h : Rd H a (.tup xs)) : TyX K H (.ref a) (.type "tuple") := h.elim (fun e => .base (.tup e)) fun ⟨_, e⟩ => .fTuple e
theorem ok_isTuple {f : Addr} {fd : FuncData} (F : Fun K "is_tuple" "is_tuple" sIsTuple f fd) (B : Blt mg) : FnOk P w K mg base CX0 1 f fd ["value", "most"] spIsTuple := by
  refine F.ok scIsTuple (fun vs H Q E h => ?_) (fun cdv A outer s H vs Q E hr h => ?_)
  · obtain ⟨a, xs, n, rfl, _⟩ := h
    rfl
  · obtain ⟨a, xs, n, rfl, e, le, q⟩ := h
    refine ⟨_, pss_one (ps_ret (pe_and (pe_callB call_isi (by rfl) B.isi (by decide +kernel) (pa_cons (pv 0) (pa_cons (pe_bltn (v := V.ty "tuple") (by rfl) B.tuple (by decide +kernel) rfl) pa_nil)))
      (pe_one (pe_cmpR op_le (pe_callB call_len_seq (by rfl) B.len (by decide +kernel) (pa_cons (pv 0) pa_nil)) (pv 1) (nomark _))))), ?_⟩
    refine ⟨_, rfl, _, _, _, _, true, rfl, .ty _, ty_rd e, kit_ty (by decide +kernel), true, rfl, ?_⟩
    show if true = true then _ else _
    rw [if_pos rfl]
    refine ⟨_, rfl, _, _, rfl, .inr (.inl e), _, rfl, _, _, rfl, rfl, ?_⟩
    show Q (.bl (decide ((xs.length : Int) ≤ n))) H
    rw [decide_eq_true le]
    exact q
theorem ok_isPair {f : Addr} {fd : FuncData} (F : Fun K "is_pair" "is_pair" sIsPair f fd) (B : Blt mg) : FnOk P w K mg base CX0 1 f fd ["value"] spIsPair := by
  refine F.ok scIsPair (fun vs H Q E h => ?_) (fun cdv A outer s H vs Q E hr h => ?_)
  · obtain ⟨a, x, y, rfl, _⟩ := h
    rfl
  · obtain ⟨a, x, y, rfl, e, q⟩ := h
    refine ⟨_, pss_one (ps_ret (pe_and (pe_callB call_isi (by rfl) B.isi (by decide +kernel) (pa_cons (pv 0) (pa_cons (pe_bltn (v := V.ty "tuple") (by rfl) B.tuple (by decide +kernel) rfl) pa_nil)))
      (pe_one (pe_cmpR op_eq (pe_callB call_len_seq (by rfl) B.len (by decide +kernel) (pa_cons (pv 0) pa_nil)) pe_int (nomark _))))), ?_⟩
    refine ⟨_, rfl, _, _, _, _, true, rfl, .ty _, .base (.tup e), kit_ty (by decide +kernel), true, rfl, ?_⟩
    show if true = true then _ else _
    rw [if_pos rfl]
    exact ⟨_, rfl, _, _, rfl, .inr (SqT.of e), rfl, q⟩
theorem ok_isRising {f : Addr} {fd : FuncData} (F : Fun K "is_rising" "is_rising" sIsRising f fd) (B : Blt mg) : FnOk P w K mg base CX0 1 f fd ["parts"] (spIsRising K) := by
  refine F.ok scIsRising (fun vs H Q E h => ?_) (fun cdv A outer s H vs Q E hr h => ?_)
  · obtain ⟨a, xs, ds, rfl, _⟩ := h
    rfl
  · obtain ⟨a, xs, ds, rfl, sq, D, R, len, q⟩ := h
    have hu : (A.deeper (envOfC "is_rising" (defScope sIsRising) s.heap.objs.size f cdv)).units + 64 < cLine := hr.units
    refine ⟨_, pss_one (ps_ret (pe_callB (cr_all rfl) (by rfl) B.all (by decide +kernel) (pa_cons (pe_lc (own := [("k", 1)]) (g := gName 1) (tt := tYes) (te := tOp rLtD (tOp (rIx K) (tVar 0) (tVar 1)) (tOp (rIx K) (tVar 0) (tOp (rI0 fun i j => V.int (i + j)) (tVar 1) (tC (V.int 1))))) rfl scIsRising.nd (pi_range1 rfl B.range (pa_cons (pe_op op_sub (pe_callB call_len_seq (by rfl) B.len (by decide +kernel) (pa_cons (pv 0) pa_nil)) pe_int) pa_nil))
      (blkOk_by (N := ["parts", "k"]) (sc := defScope sIsRising) (by decide +kernel)) (fun _ _ _ _ _ => pg_name (i := 1) scIsRising.nd rfl (Or.inl rfl)) (fun _ _ _ _ _ => pts_nil)
      (fun _ _ _ _ _ => by exact pe_cmpR (op_ltD (by exact hu)) (pe_ix ix_seq (pv 0) (pv 1) (fun _ _ => rfl)) (pe_ix ix_seq (pv 0) (pe_op op_add (pv 1) pe_int) (fun _ _ => rfl)) (nomark _))) pa_nil))), ?_⟩
    have lx : xs.length = ds.length := D.len
    refine ⟨_, rfl, _, _, rfl, sq, _, _, rfl, rfl, _, rfl, by omega, by omega, fun D0 hD0 => ?_⟩
    refine lc_range (lo := 0) (n := ((xs.length : Int) - 1).toNat) (fun j H4 => H4 D0 = some (.lst ((List.replicate j true).map V.bl)) ∧ Same H H4) ⟨upd_same, same_new hD0⟩ ?_ ?_
    · rintro j H4 hj ⟨eD, S⟩
      obtain ⟨x, hx⟩ : ∃ x, ds[j]? = some x := ⟨_, List.getElem?_eq_getElem (by omega)⟩
      obtain ⟨y, hy⟩ : ∃ y, ds[j + 1]? = some y := ⟨_, List.getElem?_eq_getElem (by omega)⟩
      obtain ⟨u, hu1, Du⟩ := dats_get D j x hx
      obtain ⟨v, hv1, Dv⟩ := dats_get D (j + 1) y hy
      obtain ⟨al, nn, dp, lt⟩ := R.at_ j x y hx hy
      refine ⟨rfl, yes_of ?_⟩
      refine ⟨_, rfl, _, rfl, ix_any (same_sq S sq) (by rw [Int.zero_add]; exact atI_nat hu1) ⟨_, rfl, _, rfl, _, _, rfl, rfl, ix_any (same_sq S sq) (by rw [Int.zero_add]; exact atI_nat hv1) ?_⟩⟩
      refine ⟨x, y, Du.same S, Dv.same S, al, nn, dp, _, eD, ?_, ?_, ?_⟩
      · rw [List.length_map, List.length_replicate]
        exact small1000 (by omega)
      · rw [upd_same, lt, List.replicate_succ', List.map_append]
        rfl
      · exact same_upd S hD0
    · rintro H4 ⟨eD, S⟩
      refine ⟨D0, _, rfl, SqL.of eD, ?_⟩
      have e : (List.replicate ((xs.length : Int) - 1).toNat true).all id = true := by
        rw [List.all_eq_true]
        exact fun b hb => (List.mem_replicate.mp hb).2
      show Q (.bl _) H4
      rw [e]
      exact q H4 S
end
end S1

set_option Elab.async false
set_option linter.all false
set_option maxRecDepth 100000
set_option maxHeartbeats 4000000
/-! all([.. for ..]) where each one is True -/
namespace S1
open PySem PySem.W PySem.Spec PyProof.Rows L2
abbrev trues (n : Nat) : HO := .lst ((List.replicate n true).map V.bl)
theorem trues_next {H : Hp} {D : Addr} {n : Nat} (e : H D = some (trues n)) : upd H D (.lst ((List.replicate n true).map V.bl ++ [V.bl true])) D = some (trues (n + 1)) := by
  rw [upd_same]
  show some _ = some (HO.lst ((List.replicate (n + 1) true).map V.bl))
  rw [List.replicate_succ', List.map_append]
  rfl
theorem trues_all (n : Nat) : (List.replicate n true).all id = true := by
  rw [List.all_eq_true]
  exact fun b hb => (List.mem_replicate.mp hb).2
section
variable {K : PySem.W.Frag} {g : TG} {te : TE} {vs : List Nat} {σ : L2.St} {H : Hp} {D : Addr} {Qd : Hp → Prop}
theorem lc_allT {a : Addr} {xs : List V} (sq : SqT K H a xs) (hD : H D = none) (len : xs.length ≤ 1000)
    (step : ∀ (i : Nat) (x : V) (H4 : Hp) (Qe : VK), xs[i]? = some x → Same H H4 → (∀ H5, Same H4 H5 → Qe (.bl true) H5) → g x (wipe σ vs) H4 fun σ2 H2 => wipe σ2 vs = wipe σ vs ∧ te σ2 H2 Qe)
    (gm : ∀ x σ1 H1 (A B : L2.St → Hp → Prop), (∀ σ2 H2, A σ2 H2 → B σ2 H2) → g x σ1 H1 A → g x σ1 H1 B)
    (hd : ∀ H5, H5 D = some (trues xs.length) → Same H H5 → Qd H5) :
    ∃ W : Nat → Nat → Hp → Prop, (∃ m, W 0 m (upd H D (.lst []))) ∧ ∀ i m H, W i m H →
      ((Itt K a).stop i H ∧ Qd H) ∨ ((Itt K a).go i H ∧ ∃ Nx : Hp → Prop, (∀ H', Nx H' → ∃ m', m' < m ∧ W (i + 1) m' H') ∧ ∀ x H', (Itt K a).yld i H x H' → g x (wipe σ vs) H' fun σ2 H2 => wipe σ2 vs = wipe σ vs ∧ tYes σ2 H2 fun b H3 =>
        if b = true then te σ2 H3 fun y H4 => ∃ acc, H4 D = some (.lst acc) ∧ acc.length < sizeLine ∧ Nx (upd H4 D (.lst (acc ++ [y]))) else Nx H3) := by
  refine lc_tup (K := K) (a := a) (xs := xs) (fun j H4 => H4 D = some (trues j) ∧ Same H H4) ⟨upd_same, same_new hD⟩ (fun i H4 _ h => same_tup h.2 sq) (fun i x H4 hx h => ?_) (fun H5 h => hd H5 h.1 h.2)
  have il : i < xs.length := (List.getElem?_eq_some_iff.mp hx).1
  refine gm x _ _ _ _ (fun σ2 H2 z => ⟨z.1, yes_of z.2⟩) (step i x H4 _ hx h.2 fun H5 S5 => ?_)
  have e5 := S5 _ _ h.1
  exact ⟨_, e5, by rw [List.length_map, List.length_replicate]; exact small1000 (by omega), trues_next e5, same_upd (h.2.trans S5) hD⟩
theorem lc_allL {a : Addr} {xs : List V} (sq : SqL K H a xs) (hD : H D = none) (len : xs.length ≤ 1000)
    (step : ∀ (i : Nat) (x : V) (H4 : Hp) (Qe : VK), xs[i]? = some x → Same H H4 → (∀ H5, Same H4 H5 → Qe (.bl true) H5) → g x (wipe σ vs) H4 fun σ2 H2 => wipe σ2 vs = wipe σ vs ∧ te σ2 H2 Qe)
    (gm : ∀ x σ1 H1 (A B : L2.St → Hp → Prop), (∀ σ2 H2, A σ2 H2 → B σ2 H2) → g x σ1 H1 A → g x σ1 H1 B)
    (hd : ∀ H5, H5 D = some (trues xs.length) → Same H H5 → Qd H5) :
    ∃ W : Nat → Nat → Hp → Prop, (∃ m, W 0 m (upd H D (.lst []))) ∧ ∀ i m H, W i m H →
      ((Itl K a).stop i H ∧ Qd H) ∨ ((Itl K a).go i H ∧ ∃ Nx : Hp → Prop, (∀ H', Nx H' → ∃ m', m' < m ∧ W (i + 1) m' H') ∧ ∀ x H', (Itl K a).yld i H x H' → g x (wipe σ vs) H' fun σ2 H2 => wipe σ2 vs = wipe σ vs ∧ tYes σ2 H2 fun b H3 =>
        if b = true then te σ2 H3 fun y H4 => ∃ acc, H4 D = some (.lst acc) ∧ acc.length < sizeLine ∧ Nx (upd H4 D (.lst (acc ++ [y]))) else Nx H3) := by
  refine lc_list (K := K) (a := a) (xs := xs) (fun j H4 => H4 D = some (trues j) ∧ Same H H4) ⟨upd_same, same_new hD⟩ (fun i H4 _ h => h.2.seq sq) (fun i x H4 hx h => ?_) (fun H5 h => hd H5 h.1 h.2)
  have il : i < xs.length := (List.getElem?_eq_some_iff.mp hx).1
  refine gm x _ _ _ _ (fun σ2 H2 z => ⟨z.1, yes_of z.2⟩) (step i x H4 _ hx h.2 fun H5 S5 => ?_)
  have e5 := S5 _ _ h.1
  exact ⟨_, e5, by rw [List.length_map, List.length_replicate]; exact small1000 (by omega), trues_next e5, same_upd (h.2.trans S5) hD⟩
theorem lc_allS {x : Str} (hD : H D = none) (len : x.cps.size ≤ 1000)
    (step : ∀ (c : Nat) (H4 : Hp) (Qe : VK), c ∈ x.cps.toList → Same H H4 → (∀ H5, Same H4 H5 → Qe (.bl true) H5) → g (.str ⟨#[c]⟩) (wipe σ vs) H4 fun σ2 H2 => wipe σ2 vs = wipe σ vs ∧ te σ2 H2 Qe)
    (gm : ∀ x σ1 H1 (A B : L2.St → Hp → Prop), (∀ σ2 H2, A σ2 H2 → B σ2 H2) → g x σ1 H1 A → g x σ1 H1 B)
    (hd : ∀ H5, H5 D = some (trues x.cps.size) → Same H H5 → Qd H5) :
    ∃ W : Nat → Nat → Hp → Prop, (∃ m, W 0 m (upd H D (.lst []))) ∧ ∀ i m H, W i m H →
      ((Its x).stop i H ∧ Qd H) ∨ ((Its x).go i H ∧ ∃ Nx : Hp → Prop, (∀ H', Nx H' → ∃ m', m' < m ∧ W (i + 1) m' H') ∧ ∀ y H', (Its x).yld i H y H' → g y (wipe σ vs) H' fun σ2 H2 => wipe σ2 vs = wipe σ vs ∧ tYes σ2 H2 fun b H3 =>
        if b = true then te σ2 H3 fun y H4 => ∃ acc, H4 D = some (.lst acc) ∧ acc.length < sizeLine ∧ Nx (upd H4 D (.lst (acc ++ [y]))) else Nx H3) := by
  refine ⟨fun i m H4 => m = x.cps.size - i ∧ i ≤ x.cps.size ∧ H4 D = some (trues i) ∧ Same H H4, ⟨_, rfl, Nat.zero_le _, upd_same, same_new hD⟩, ?_⟩
  rintro i m H4 ⟨rfl, hi, e4, S4⟩
  by_cases il : i < x.cps.size
  · refine .inr ⟨il, fun H5 => i + 1 ≤ x.cps.size ∧ H5 D = some (trues (i + 1)) ∧ Same H H5, fun H5 z => ⟨x.cps.size - (i + 1), by omega, rfl, z.1, z.2⟩, ?_⟩
    rintro y H' ⟨rfl, c, hc, rfl⟩
    have mc : c ∈ x.cps.toList := List.mem_of_getElem? (by rw [Array.getElem?_toList]; exact hc)
    refine gm _ _ _ _ _ (fun σ2 H2 z => ⟨z.1, yes_of z.2⟩) (step c _ _ mc S4 fun H5 S5 => ?_)
    have e5 := S5 _ _ e4
    exact ⟨_, e5, by rw [List.length_map, List.length_replicate]; exact small1000 (by omega), il, trues_next e5, same_upd (S4.trans S5) hD⟩
  · have e : i = x.cps.size := by omega
    subst e
    exact .inl ⟨Nat.le_refl _, hd H4 e4 S4⟩
end
theorem gName_mono {i : Nat} : ∀ (x : V) (σ1 : L2.St) (H1 : Hp) (A B : L2.St → Hp → Prop), (∀ σ2 H2, A σ2 H2 → B σ2 H2) → gName i x σ1 H1 A → gName i x σ1 H1 B := fun x σ1 H1 A B h z => h _ _ z
end S1

set_option Elab.async false
set_option linter.all false
set_option maxRecDepth 100000
set_option maxHeartbeats 4000000
/-! names, letters, clauses: told to be such -/
namespace S1
open PySem PySem.W PySem.Spec PyProof.Rows L2
/-- the numbers at the head of the program -/
structure Cst (mg : Str → Option Value) : Prop where
  small : ∃ t, mg "SMALL" = some (.str "abcdefghijklmnopqrstuvwxyz" t)
  signs : ∃ t, mg "MOST_SIGNS" = some (.int 8 t)
  picks : ∃ t, mg "MOST_PICKS" = some (.int 6 t)
  owns : ∃ t, mg "MOST_OWNS" = some (.int 8 t)
  clauses : ∃ t, mg "MOST_CLAUSES" = some (.int 40 t)
  copies : ∃ t, mg "MOST_COPIES" = some (.int 120 t)
theorem abc_mem {c : Nat} (h : 97 ≤ c ∧ c ≤ 122) : c ∈ ("abcdefghijklmnopqrstuvwxyz" : Str).cps.toList := by
  have z : ∀ k, k < 123 → 97 ≤ k → k ∈ ("abcdefghijklmnopqrstuvwxyz" : Str).cps.toList := by decide +kernel
  exact z c (by omega) h.1
def spIsName : Sp := fun vs H Q _ => ∃ x : Str, vs = [.str x] ∧ Nm x ∧ ∀ H', Same H H' → Q (.bl true) H'
def spIsLetter : Sp := fun vs H Q _ => ∃ (v : V) (l : Ltr), vs = [v] ∧ Dat H v (ltD l) ∧ Nm l.1 ∧ ∀ H', Same H H' → Q (.bl true) H'
section
variable {P : Program} {w : World} {K : PySem.W.Frag} {mg : Str → Option Value} {base : Heap}
theorem scIsName : FnScope ["value", "sign"] ["value"] (defScope sIsName) := ⟨rfl, rfl, rfl, by decide +kernel, rfl, by decide +kernel, by decide +kernel⟩
theorem scIsLetter : FnScope ["value"] ["value"] (defScope sIsLetter) := ⟨rfl, rfl, rfl, by decide +kernel, rfl, by decide +kernel, by decide +kernel⟩
theorem ok_isName {f : Addr} {fd : FuncData} (F : Fun K "is_name" "is_name" sIsName f fd) (B : Blt mg) (C : Cst mg) : FnOk P w K mg base CX0 1 f fd ["value"] spIsName := by
  obtain ⟨t1, c1⟩ := C.small
  obtain ⟨t2, c2⟩ := C.signs
  refine F.ok scIsName (fun vs H Q E h => ?_) (fun cdv A outer s H vs Q E hr h => ?_)
  · obtain ⟨x, rfl, _⟩ := h
    rfl
  · obtain ⟨x, rfl, nx, q⟩ := h
    refine ⟨_, pss_cons (ps_if (PW.pt (pw_or (pt_not (pt_val (pe_callB call_isi (by rfl) B.isi (by decide +kernel) (pa_cons (pv 0) (pa_cons (pe_bltn (v := V.ty "str") (by rfl) B.str (by decide +kernel) rfl) pa_nil)))))
        (pw_or1 (pt_not (pt_chain op_le op_le pe_int (pe_callB call_len_str (by rfl) B.len (by decide +kernel) (pa_cons (pv 0) pa_nil)) (pe_glob (v := V.int 8) rfl c2 ⟨_, rfl⟩)))))) (pss_one (ps_ret pe_bl)) pss_nil)
      (pss_one (ps_ret (pe_callB (cr_all rfl) (by rfl) B.all (by decide +kernel) (pa_cons (pe_lc (own := [("sign", 1)]) (g := gName 1) (tt := tYes) rfl scIsName.nd (pi_str (pv 0))
        (blkOk_by (N := ["value", "sign"]) (sc := defScope sIsName) (by decide +kernel)) (fun _ _ _ _ _ => pg_name (i := 1) scIsName.nd rfl (Or.inl rfl)) (fun _ _ _ _ _ => pts_nil)
        (fun _ _ _ _ _ => pe_cmpR op_in_sign (pv 1) (pe_glob (v := V.str "abcdefghijklmnopqrstuvwxyz") rfl c1 ⟨_, rfl⟩) (by with_unfolding_all rfl))) pa_nil)))), ?_⟩
    have len : x.length ≤ sizeLine := Nat.le_of_lt (small1000 (by have := nx.hi; omega))
    refine ⟨_, rfl, _, _, _, _, true, rfl, .ty _, .base (.str x), kit_ty (by decide +kernel), true, rfl, ?_⟩
    show if (!true) = true then _ else _
    rw [if_neg (by decide)]
    refine ⟨_, rfl, x, rfl, len, _, _, rfl, rfl, _, rfl, ?_⟩
    have l1 : (1 : Int) ≤ (x.length : Int) := by have := nx.lo; omega
    have l8 : (x.length : Int) ≤ 8 := by have := nx.hi; omega
    refine ite2 (fun _ => ?_) (fun h => absurd (decide_eq_true l1) h)
    refine ⟨_, _, rfl, rfl, _, rfl, ?_⟩
    rw [show decide ((x.length : Int) ≤ 8) = true from decide_eq_true l8]
    show if (!true) = true then _ else _
    rw [if_neg (by decide)]
    refine ⟨_, rfl, x, rfl, fun D hD => ?_⟩
    refine lc_allS hD (by have := nx.hi; show x.length ≤ 1000; omega) (fun c H4 Qe mc S4 k => ?_) gName_mono (fun H5 e5 S5 => ?_)
    · refine ⟨rfl, _, rfl, c, _, rfl, rfl, ?_⟩
      show Qe (.bl (decide _)) H4
      rw [decide_eq_true (abc_mem (nx.az c mc))]
      exact k H4 (Same.refl _)
    · refine ⟨D, _, rfl, SqL.of e5, ?_⟩
      show Q (.bl _) H5
      rw [trues_all]
      exact q H5 S5
theorem ok_isLetter {f fP fN fT : Addr} {fd fdP fdN fdT : FuncData} (F : Fun K "is_letter" "is_letter" sIsLetter f fd) (Pr : Has K mg "is_pair" sIsPair ["value"] fP fdP) (Nn : Has K mg "is_name" sIsName ["value"] fN fdN) (Tr : Has K mg "is_truth" sIsTruth ["value"] fT fdT)
    (B : Blt mg) (C : Cst mg) : FnOk P w K mg base CX0 2 f fd ["value"] spIsLetter := by
  have GP : FnOk P w K mg base CX0 1 fP fdP ["value"] spIsPair := ok_isPair Pr.F B
  have GN : FnOk P w K mg base CX0 1 fN fdN ["value"] spIsName := ok_isName Nn.F B C
  have GT : FnOk P w K mg base CX0 1 fT fdT ["value"] spIsTruth := ok_isTruth Tr.F
  refine F.ok scIsLetter (fun vs H Q E h => ?_) (fun cdv A outer s H vs Q E hr h => ?_)
  · obtain ⟨v, l, rfl, _⟩ := h
    rfl
  · obtain ⟨v, l, rfl, D, nl, q⟩ := h
    refine ⟨_, pss_one (ps_ret (pe_and (pe_call GP hr rfl Pr.g Pr.F.kp Pr.b .nil pass0 (pa_cons (pv 0) pa_nil)) (pe_and (pe_call GN hr rfl Nn.g Nn.F.kp Nn.b .nil pass0 (pa_cons (pe_ix ix_tup (pv 0) pe_int (fun _ _ => rfl)) pa_nil))
      (pe_one (pe_call GT hr rfl Tr.g Tr.F.kp Tr.b .nil pass0 (pa_cons (pe_ix ix_tup (pv 0) pe_int (fun _ _ => rfl)) pa_nil)))))), ?_⟩
    have D2 : Dat H v (.tuple [.str l.1, .bool l.2]) := D
    cases D2 with
    | @tup a _ _ e h =>
      cases h with
      | cons h1 h =>
        cases h1
        cases h with
        | cons h2 h =>
          cases h2
          cases h
          refine ⟨_, rfl, a, _, _, rfl, e, true, rfl, ?_⟩
          show if true = true then _ else _
          rw [if_pos rfl]
          refine ⟨_, rfl, a, _, 0, _, rfl, rfl, SqT.of e, rfl, l.1, rfl, nl, fun H' S => ⟨true, rfl, ?_⟩⟩
          show if true = true then _ else _
          rw [if_pos rfl]
          exact ⟨_, rfl, a, _, 1, _, rfl, rfl, SqT.of (S _ _ e), rfl, l.2, rfl, q H' S⟩
end
end S1

set_option Elab.async false
set_option linter.all false
set_option maxRecDepth 100000
set_option maxHeartbeats 4000000
/-! clauses of any names, rows of names, rows of truths: told to be such -/
namespace S1
open PySem PySem.W PySem.Spec PyProof.Rows L2
section
variable {K : PySem.W.Frag} {g : TG} {te : TE} {vs : List Nat} {σ : L2.St} {H : Hp} {D : Addr} {Qd : Hp → Prop}
/-- [f(x) for x in a tuple], what it gives known one by one -/
theorem lc_mapT {a : Addr} {xs ys : List V} (sq : SqT K H a xs) (hD : H D = none) (ly : ys.length = xs.length) (len : xs.length ≤ 1000)
    (step : ∀ (i : Nat) (x y : V) (H4 : Hp) (Qe : VK), xs[i]? = some x → ys[i]? = some y → Same H H4 → (∀ H5, Same H4 H5 → Qe y H5) → g x (wipe σ vs) H4 fun σ2 H2 => wipe σ2 vs = wipe σ vs ∧ te σ2 H2 Qe)
    (gm : ∀ x σ1 H1 (A B : L2.St → Hp → Prop), (∀ σ2 H2, A σ2 H2 → B σ2 H2) → g x σ1 H1 A → g x σ1 H1 B)
    (hd : ∀ H5, H5 D = some (.lst ys) → Same H H5 → Qd H5) :
    ∃ W : Nat → Nat → Hp → Prop, (∃ m, W 0 m (upd H D (.lst []))) ∧ ∀ i m H, W i m H →
      ((Itt K a).stop i H ∧ Qd H) ∨ ((Itt K a).go i H ∧ ∃ Nx : Hp → Prop, (∀ H', Nx H' → ∃ m', m' < m ∧ W (i + 1) m' H') ∧ ∀ x H', (Itt K a).yld i H x H' → g x (wipe σ vs) H' fun σ2 H2 => wipe σ2 vs = wipe σ vs ∧ tYes σ2 H2 fun b H3 =>
        if b = true then te σ2 H3 fun y H4 => ∃ acc, H4 D = some (.lst acc) ∧ acc.length < sizeLine ∧ Nx (upd H4 D (.lst (acc ++ [y]))) else Nx H3) := by
  refine lc_tup (K := K) (a := a) (xs := xs) (fun j H4 => H4 D = some (.lst (ys.take j)) ∧ Same H H4) ⟨by rw [upd_same, List.take_zero], same_new hD⟩ (fun i H4 _ h => same_tup h.2 sq) (fun i x H4 hx h => ?_) (fun H5 h => hd H5 (by rw [h.1, ← ly, List.take_length]) h.2)
  have il : i < xs.length := (List.getElem?_eq_some_iff.mp hx).1
  obtain ⟨y, hy⟩ : ∃ y, ys[i]? = some y := ⟨_, List.getElem?_eq_getElem (by omega)⟩
  refine gm x _ _ _ _ (fun σ2 H2 z => ⟨z.1, yes_of z.2⟩) (step i x y H4 _ hx hy h.2 fun H5 S5 => ?_)
  have e5 := S5 _ _ h.1
  exact ⟨_, e5, by rw [List.length_take]; exact small1000 (by omega), by rw [upd_same, take_next hy], same_upd (h.2.trans S5) hD⟩
end
def blsD (bs : List Bool) : PyData := .tuple (bs.map .bool)
def spIsAnyClause : Sp := fun vs H Q _ => ∃ (v : V) (cl : List Ltr), vs = [v] ∧ Dat H v (clD cl) ∧ (cl.Pairwise fun a b => tlt a.1 b.1) ∧ (∀ l ∈ cl, Nm l.1) ∧ cl.length ≤ 1000 ∧ ∀ H', Same H H' → Q (.bl true) H'
def spAreNames : Sp := fun vs H Q _ => ∃ (v : V) (xs : List Str) (n : Int), vs = [v, .int n] ∧ Dat H v (nmsD xs) ∧ xs.Pairwise tlt ∧ (∀ x ∈ xs, Nm x) ∧ (xs.length : Int) ≤ n ∧ xs.length ≤ 1000 ∧ ∀ H', Same H H' → Q (.bl true) H'
def spAreTruths : Sp := fun vs H Q _ => ∃ (v : V) (bs : List Bool), vs = [v, .int bs.length] ∧ Dat H v (blsD bs) ∧ bs.length ≤ 1000 ∧ ∀ H', Same H H' → Q (.bl true) H'
theorem dat_tup {H : Hp} {v : V} {ds : List PyData} (D : Dat H v (.tuple ds)) : ∃ a xs, v = .ref a ∧ H a = some (.tup xs) ∧ DatAll H xs ds := by
  cases D with
  | tup e h => exact ⟨_, _, rfl, e, h⟩
theorem dats_strs_eq {H : Hp} : ∀ {xs : List V} {l : List Str}, DatAll H xs (l.map PyData.str) → xs = l.map V.str
  | _, [], h => by cases h; rfl
  | _, x :: l, h => by
    cases h with
    | cons a b =>
      cases a
      rw [dats_strs_eq b, List.map_cons]
theorem dats_bls_eq {H : Hp} : ∀ {xs : List V} {l : List Bool}, DatAll H xs (l.map PyData.bool) → xs = l.map V.bl
  | _, [], h => by cases h; rfl
  | _, x :: l, h => by
    cases h with
    | cons a b =>
      cases a
      rw [dats_bls_eq b, List.map_cons]
theorem dats_get' {H : Hp} : ∀ {xs : List V} {ds : List PyData}, DatAll H xs ds → ∀ (k : Nat) (x : V), xs[k]? = some x → ∃ d, ds[k]? = some d ∧ Dat H x d
  | _, _, .nil, _, _, h => by simp at h
  | _, _, .cons (d := d) h t, 0, x, e => by
    cases (show some _ = some x from e)
    exact ⟨d, rfl, h⟩
  | _, _, .cons h t, k + 1, x, e => dats_get' t k x e
theorem ltr_row {H : Hp} {x : V} {l : Ltr} (D : Dat H x (ltD l)) : ∃ b, x = .ref b ∧ H b = some (.tup [.str l.1, .bl l.2]) := by
  obtain ⟨b, xs, rfl, e, h⟩ := dat_tup (ds := [.str l.1, .bool l.2]) D
  cases h with
  | cons h1 h =>
    cases h1
    cases h with
    | cons h2 h =>
      cases h2
      cases h
      exact ⟨b, rfl, e⟩
theorem get_map {α : Type} {f : α → PyData} {l : List α} {i : Nat} {d : PyData} (h : (l.map f)[i]? = some d) : ∃ x, l[i]? = some x ∧ d = f x := by
  rw [List.getElem?_map] at h
  obtain ⟨x, hx, e⟩ := Option.map_eq_some_iff.mp h
  exact ⟨x, hx, e.symm⟩
section
variable {P : Program} {w : World} {K : PySem.W.Frag} {mg : Str → Option Value} {base : Heap}
theorem scIsAnyClause : FnScope ["value", "part", "letter"] ["value"] (defScope sIsAnyClause) := ⟨rfl, rfl, rfl, by decide +kernel, rfl, by decide +kernel, by decide +kernel⟩
theorem scAreNames : FnScope ["value", "most", "part"] ["value", "most"] (defScope sAreNames) := ⟨rfl, rfl, rfl, by decide +kernel, rfl, by decide +kernel, by decide +kernel⟩
theorem ok_isAnyClause {f fL fR : Addr} {fd fdL fdR : FuncData} (F : Fun K "is_any_clause" "is_any_clause" sIsAnyClause f fd) (Le : Has K mg "is_letter" sIsLetter ["value"] fL fdL) (GL : FnOk P w K mg base CX0 2 fL fdL ["value"] spIsLetter)
    (Ri : Has K mg "is_rising" sIsRising ["parts"] fR fdR) (B : Blt mg) : FnOk P w K mg base CX0 3 f fd ["value"] spIsAnyClause := by
  have GR : FnOk P w K mg base CX0 1 fR fdR ["parts"] (spIsRising K) := ok_isRising Ri.F B
  refine F.ok scIsAnyClause (fun vs H Q E h => ?_) (fun cdv A outer s H vs Q E hr h => ?_)
  · obtain ⟨v, cl, rfl, _⟩ := h
    rfl
  · obtain ⟨v, cl, rfl, D, up, nm, len, q⟩ := h
    have hr1 := hr.mono (show 1 ≤ 2 by decide)
    refine ⟨_, pss_cons (ps_if (PW.pt (pw_or (pt_not (pt_val (pe_callB call_isi (by rfl) B.isi (by decide +kernel) (pa_cons (pv 0) (pa_cons (pe_bltn (v := V.ty "tuple") (by rfl) B.tuple (by decide +kernel) rfl) pa_nil)))))
        (pw_or1 (pt_not (pt_val (pe_callB (cr_all rfl) (by rfl) B.all (by decide +kernel) (pa_cons (pe_lc (own := [("part", 1)]) (g := gName 1) (tt := tYes) rfl scIsAnyClause.nd (pi_tup (pv 0))
          (blkOk_by (N := ["value", "part", "letter"]) (sc := defScope sIsAnyClause) (by decide +kernel)) (fun _ _ _ _ _ => pg_name (i := 1) scIsAnyClause.nd rfl (Or.inl rfl)) (fun _ _ _ _ _ => pts_nil)
          (fun _ _ _ _ _ => pe_call GL (by exact hr) (by rfl) Le.g Le.F.kp Le.b .nil pass0 (pa_cons (pv 1) pa_nil))) pa_nil))))))) (pss_one (ps_ret pe_bl)) pss_nil)
      (pss_one (ps_ret (pe_call GR hr1 rfl Ri.g Ri.F.kp Ri.b .nil pass0 (pa_cons (pe_lc (own := [("letter", 2)]) (g := gName 2) (tt := tYes) (te := tOp (rIxT K) (tVar 2) (tC (V.int 0))) rfl scIsAnyClause.nd (pi_tup (pv 0))
          (blkOk_by (N := ["value", "part", "letter"]) (sc := defScope sIsAnyClause) (by decide +kernel)) (fun _ _ _ _ _ => pg_name (i := 2) scIsAnyClause.nd rfl (Or.inl rfl)) (fun _ _ _ _ _ => pts_nil)
          (fun _ _ _ _ _ => by exact pe_ix ix_tup (pv 2) pe_int (fun _ _ => rfl))) pa_nil)))), ?_⟩
    obtain ⟨a, xs, rfl, e, Da⟩ := dat_tup (ds := cl.map ltD) D
    have lx : xs.length = cl.length := by rw [Da.len, List.length_map]
    refine ⟨_, rfl, _, _, _, _, true, rfl, .ty _, .base (.tup e), kit_ty (by decide +kernel), true, rfl, ?_⟩
    show if (!true) = true then _ else _
    rw [if_neg (by decide)]
    refine ⟨_, rfl, a, rfl, ⟨_, SqT.of e⟩, fun D0 hD0 => lc_allT (K := K) (SqT.of e) hD0 (by omega) (fun i x H4 Qe hx S4 k => ?_) gName_mono (fun H5 e5 S5 => ?_)⟩
    · obtain ⟨d, hd, Dx⟩ := dats_get' Da i x hx
      obtain ⟨l, hl, rfl⟩ := get_map hd
      exact ⟨rfl, _, rfl, x, l, rfl, Dx.same S4, nm l (List.mem_of_getElem? hl), k⟩
    · refine ⟨D0, _, rfl, SqL.of e5, _, rfl, ?_⟩
      rw [trues_all]
      show if (!true) = true then _ else _
      rw [if_neg (by decide)]
      refine ⟨_, rfl, a, rfl, ⟨_, SqT.of (S5 _ _ e)⟩, fun D1 hD1 => lc_mapT (K := K) (ys := (cl.map Prod.fst).map V.str) (SqT.of (S5 _ _ e)) hD1 (by rw [List.length_map, List.length_map, lx]) (by omega) (fun i x y H4 Qe hx hy S4 k => ?_) gName_mono (fun H6 e6 S6 => ?_)⟩
      · obtain ⟨d, hd, Dx⟩ := dats_get' Da i x hx
        obtain ⟨l, hl, rfl⟩ := get_map hd
        obtain ⟨b, rfl, eb⟩ := ltr_row Dx
        have ey : y = V.str l.1 := by
          rw [List.getElem?_map, List.getElem?_map, hl] at hy
          exact (Option.some.inj hy).symm
        rw [ey] at k
        exact ⟨rfl, _, rfl, b, _, 0, _, rfl, rfl, SqT.of (S4 _ _ (S5 _ _ eb)), rfl, k H4 (Same.refl _)⟩
      · exact ⟨D1, _, _, rfl, .inl (SqL.of e6), dats_strs (cl.map Prod.fst), rise_strs (List.pairwise_map.mpr up), by rw [List.length_map, List.length_map]; exact len, fun H' S => q H' ((S5.trans S6).trans S)⟩
theorem ok_areNames {f fU fN fR : Addr} {fd fdU fdN fdR : FuncData} (F : Fun K "are_names" "are_names" sAreNames f fd) (Tu : Has K mg "is_tuple" sIsTuple ["value", "most"] fU fdU) (Nn : Has K mg "is_name" sIsName ["value"] fN fdN)
    (Ri : Has K mg "is_rising" sIsRising ["parts"] fR fdR) (B : Blt mg) (C : Cst mg) : FnOk P w K mg base CX0 2 f fd ["value", "most"] spAreNames := by
  have GU : FnOk P w K mg base CX0 1 fU fdU ["value", "most"] spIsTuple := ok_isTuple Tu.F B
  have GN : FnOk P w K mg base CX0 1 fN fdN ["value"] spIsName := ok_isName Nn.F B C
  have GR : FnOk P w K mg base CX0 1 fR fdR ["parts"] (spIsRising K) := ok_isRising Ri.F B
  refine F.ok scAreNames (fun vs H Q E h => ?_) (fun cdv A outer s H vs Q E hr h => ?_)
  · obtain ⟨v, xs, n, rfl, _⟩ := h
    rfl
  · obtain ⟨v, xs, n, rfl, D, up, nm, le, len, q⟩ := h
    refine ⟨_, pss_cons (ps_if (PW.pt (pw_or (pt_not (pt_val (pe_call GU hr rfl Tu.g Tu.F.kp Tu.b .nil pass0 (pa_cons (pv 0) (pa_cons (pv 1) pa_nil)))))
        (pw_or1 (pt_not (pt_val (pe_callB (cr_all rfl) (by rfl) B.all (by decide +kernel) (pa_cons (pe_lc (own := [("part", 2)]) (g := gName 2) (tt := tYes) rfl scAreNames.nd (pi_tup (pv 0))
          (blkOk_by (N := ["value", "most", "part"]) (sc := defScope sAreNames) (by decide +kernel)) (fun _ _ _ _ _ => pg_name (i := 2) scAreNames.nd rfl (Or.inl rfl)) (fun _ _ _ _ _ => pts_nil)
          (fun _ _ _ _ _ => pe_call GN (by exact hr) (by rfl) Nn.g Nn.F.kp Nn.b .nil pass0 (pa_cons (pv 2) pa_nil))) pa_nil))))))) (pss_one (ps_ret pe_bl)) pss_nil)
      (pss_one (ps_ret (pe_call GR hr rfl Ri.g Ri.F.kp Ri.b .nil pass0 (pa_cons (pv 0) pa_nil)))), ?_⟩
    obtain ⟨a, us, rfl, e, Da⟩ := dat_tup (ds := xs.map PyData.str) D
    have eu := dats_strs_eq Da
    subst eu
    refine ⟨_, rfl, _, rfl, a, _, n, rfl, .inl e, by rw [List.length_map]; exact le, true, rfl, ?_⟩
    show if (!true) = true then _ else _
    rw [if_neg (by decide)]
    refine ⟨_, rfl, a, rfl, ⟨_, SqT.of e⟩, fun D0 hD0 => lc_allT (K := K) (SqT.of e) hD0 (by rw [List.length_map]; exact len) (fun i x H4 Qe hx S4 k => ?_) gName_mono (fun H5 e5 S5 => ?_)⟩
    · rw [List.getElem?_map] at hx
      obtain ⟨y, hy, rfl⟩ := Option.map_eq_some_iff.mp hx
      exact ⟨rfl, _, rfl, y, rfl, nm y (List.mem_of_getElem? hy), k⟩
    · refine ⟨D0, _, rfl, SqL.of e5, _, rfl, ?_⟩
      rw [trues_all]
      show if (!true) = true then _ else _
      rw [if_neg (by decide)]
      exact ⟨_, rfl, a, _, _, rfl, .inr (SqT.of (S5 _ _ e)), dats_strs xs, rise_strs up, by rw [List.length_map]; exact len, fun H' S => q H' (S5.trans S)⟩
end
end S1

set_option Elab.async false
set_option linter.all false
set_option maxRecDepth 100000
set_option maxHeartbeats 4000000
/-! sights, owns, clauses of a saying: told to be such -/
namespace S1
open PySem PySem.W PySem.Spec PyProof.Rows L2
/-- a def is there, and is as promised -/
def Good (P : Program) (w : World) (K : PySem.W.Frag) (mg : Str → Option Value) (base : Heap) (k : Nat) (x : Str) (st : Stmt) (ps : List Str) (sp : Sp) : Prop :=
  ∃ (f : Addr) (fd : FuncData), Has K mg x st ps f fd ∧ FnOk P w K mg base CX0 k f fd ps sp
/-- a def is there -/
def There (K : PySem.W.Frag) (mg : Str → Option Value) (x : Str) (st : Stmt) (ps : List Str) : Prop := ∃ (f : Addr) (fd : FuncData), Has K mg x st ps f fd
structure Shp (K : PySem.W.Frag) (mg : Str → Option Value) : Prop where
  isTruth : There K mg "is_truth" sIsTruth ["value"]
  isTuple : There K mg "is_tuple" sIsTuple ["value", "most"]
  isPair : There K mg "is_pair" sIsPair ["value"]
  isRising : There K mg "is_rising" sIsRising ["parts"]
  isName : There K mg "is_name" sIsName ["value"]
  isLetter : There K mg "is_letter" sIsLetter ["value"]
  isAnyClause : There K mg "is_any_clause" sIsAnyClause ["value"]
  areNames : There K mg "are_names" sAreNames ["value", "most"]
  isSight : There K mg "is_sight" sIsSight ["value", "picks"]
  isOwn : There K mg "is_own" sIsOwn ["value", "picks"]
  areOwns : There K mg "are_owns" sAreOwns ["value", "picks"]
  isClauseOver : There K mg "is_clause_over" sIsClauseOver ["value", "names"]
  areClauses : There K mg "are_clauses" sAreClauses ["value", "names"]
  namesOf : There K mg "names_of" sNamesOf ["picks", "owns"]
  fitsSaying : There K mg "fits_saying" sFitsSaying ["value"]
/-- all that the text is made of, as far as these defs go -/
structure Env1 (K : PySem.W.Frag) (mg : Str → Option Value) : Prop where
  B : Blt mg
  C : Cst mg
  Y : Shp K mg
def spIsSight : Sp := fun vs H Q _ => ∃ (v u : V) (s ps : List Str), vs = [v, u] ∧ Dat H v (nmsD s) ∧ Dat H u (nmsD ps) ∧ s.Pairwise tlt ∧ (∀ x ∈ s, Nm x) ∧ (∀ x ∈ s, x ∈ ps) ∧ s.length ≤ ps.length ∧ ps.length ≤ 1000 ∧ ∀ H', Same H H' → Q (.bl true) H'
def spIsOwn : Sp := fun vs H Q _ => ∃ (v u : V) (o : Own) (ps : List Str), vs = [v, u] ∧ Dat H v (ownD o) ∧ Dat H u (nmsD ps) ∧ Nm o.1 ∧ o.1 ∉ ps ∧ o.2.Pairwise tlt ∧ (∀ x ∈ o.2, Nm x) ∧ (∀ x ∈ o.2, x ∈ ps) ∧ o.2.length ≤ ps.length ∧ ps.length ≤ 1000 ∧ ∀ H', Same H H' → Q (.bl true) H'
section
variable {P : Program} {w : World} {K : PySem.W.Frag} {mg : Str → Option Value} {base : Heap}
theorem g_isTruth (e : Env1 K mg) : Good P w K mg base 1 "is_truth" sIsTruth ["value"] spIsTruth := by
  obtain ⟨f, fd, h⟩ := e.Y.isTruth
  exact ⟨f, fd, h, ok_isTruth h.F⟩
theorem g_isTuple (e : Env1 K mg) : Good P w K mg base 1 "is_tuple" sIsTuple ["value", "most"] spIsTuple := by
  obtain ⟨f, fd, h⟩ := e.Y.isTuple
  exact ⟨f, fd, h, ok_isTuple h.F e.B⟩
theorem g_isPair (e : Env1 K mg) : Good P w K mg base 1 "is_pair" sIsPair ["value"] spIsPair := by
  obtain ⟨f, fd, h⟩ := e.Y.isPair
  exact ⟨f, fd, h, ok_isPair h.F e.B⟩
theorem g_isRising (e : Env1 K mg) : Good P w K mg base 1 "is_rising" sIsRising ["parts"] (spIsRising K) := by
  obtain ⟨f, fd, h⟩ := e.Y.isRising
  exact ⟨f, fd, h, ok_isRising h.F e.B⟩
theorem g_isName (e : Env1 K mg) : Good P w K mg base 1 "is_name" sIsName ["value"] spIsName := by
  obtain ⟨f, fd, h⟩ := e.Y.isName
  exact ⟨f, fd, h, ok_isName h.F e.B e.C⟩
theorem g_isLetter (e : Env1 K mg) : Good P w K mg base 2 "is_letter" sIsLetter ["value"] spIsLetter := by
  obtain ⟨f, fd, h⟩ := e.Y.isLetter
  obtain ⟨_, _, h1⟩ := e.Y.isPair
  obtain ⟨_, _, h2⟩ := e.Y.isName
  obtain ⟨_, _, h3⟩ := e.Y.isTruth
  exact ⟨f, fd, h, ok_isLetter h.F h1 h2 h3 e.B e.C⟩
theorem g_isAnyClause (e : Env1 K mg) : Good P w K mg base 3 "is_any_clause" sIsAnyClause ["value"] spIsAnyClause := by
  obtain ⟨f, fd, h⟩ := e.Y.isAnyClause
  obtain ⟨_, _, h1, g1⟩ := g_isLetter (P := P) (w := w) (base := base) e
  obtain ⟨_, _, h2⟩ := e.Y.isRising
  exact ⟨f, fd, h, ok_isAnyClause h.F h1 g1 h2 e.B⟩
theorem g_areNames (e : Env1 K mg) : Good P w K mg base 2 "are_names" sAreNames ["value", "most"] spAreNames := by
  obtain ⟨f, fd, h⟩ := e.Y.areNames
  obtain ⟨_, _, h1⟩ := e.Y.isTuple
  obtain ⟨_, _, h2⟩ := e.Y.isName
  obtain ⟨_, _, h3⟩ := e.Y.isRising
  exact ⟨f, fd, h, ok_areNames h.F h1 h2 h3 e.B e.C⟩
theorem scIsSight : FnScope ["value", "picks", "name"] ["value", "picks"] (defScope sIsSight) := ⟨rfl, rfl, rfl, by decide +kernel, rfl, by decide +kernel, by decide +kernel⟩
theorem scIsOwn : FnScope ["value", "picks"] ["value", "picks"] (defScope sIsOwn) := ⟨rfl, rfl, rfl, by decide +kernel, rfl, by decide +kernel, by decide +kernel⟩
theorem g_isSight (e : Env1 K mg) : Good P w K mg base 3 "is_sight" sIsSight ["value", "picks"] spIsSight := by
  obtain ⟨f, fd, h⟩ := e.Y.isSight
  obtain ⟨fA, fdA, An, GA⟩ := g_areNames (P := P) (w := w) (base := base) e
  refine ⟨f, fd, h, ?_⟩
  refine h.F.ok scIsSight (fun vs H Q E h => ?_) (fun cdv A outer s H vs Q E hr h => ?_)
  · obtain ⟨v, u, s, ps, rfl, _⟩ := h
    rfl
  · obtain ⟨v, u, s, ps, rfl, D, Dp, up, nm, sub, le, len, q⟩ := h
    refine ⟨_, pss_one (ps_ret (pe_and (pe_call GA hr rfl An.g An.F.kp An.b .nil pass0 (pa_cons (pv 0) (pa_cons (pe_callB call_len_seq (by rfl) e.B.len (by decide +kernel) (pa_cons (pv 1) pa_nil)) pa_nil)))
      (pe_one (pe_callB (cr_all rfl) (by rfl) e.B.all (by decide +kernel) (pa_cons (pe_lc (own := [("name", 2)]) (g := gName 2) (tt := tYes) (te := tOp (rIn K false) (tVar 2) (tVar 1)) rfl scIsSight.nd (pi_tup (pv 0))
        (blkOk_by (N := ["value", "picks", "name"]) (sc := defScope sIsSight) (by decide +kernel)) (fun _ _ _ _ _ => pg_name (i := 2) scIsSight.nd rfl (Or.inl rfl)) (fun _ _ _ _ _ => pts_nil)
        (fun _ _ _ _ _ => by exact pe_cmpR op_in_seq (pv 2) (pv 1) (by with_unfolding_all rfl))) pa_nil))))), ?_⟩
    obtain ⟨a, us, rfl, ea, Da⟩ := dat_tup (ds := s.map PyData.str) D
    cases dats_strs_eq Da
    obtain ⟨b, ups, rfl, eb, Db⟩ := dat_tup (ds := ps.map PyData.str) Dp
    cases dats_strs_eq Db
    refine ⟨_, rfl, _, rfl, _, _, rfl, .inr (SqT.of eb), .ref a, s, _, rfl, D, up, nm, by rw [List.length_map]; omega, by omega, fun H' S => ⟨true, rfl, ?_⟩⟩
    show if true = true then _ else _
    rw [if_pos rfl]
    refine ⟨_, rfl, a, rfl, ⟨_, SqT.of (S _ _ ea)⟩, fun D0 hD0 => lc_allT (K := K) (SqT.of (S _ _ ea)) hD0 (by rw [List.length_map]; omega) (fun i x H4 Qe hx S4 k => ?_) gName_mono (fun H5 e5 S5 => ?_)⟩
    · rw [List.getElem?_map] at hx
      obtain ⟨y, hy, rfl⟩ := Option.map_eq_some_iff.mp hx
      refine ⟨rfl, _, rfl, _, rfl, b, _, rfl, .inr (SqT.of (S4 _ _ (S _ _ eb))), rfl, flat_strs ps, ?_⟩
      show Qe (.bl (inV (V.str y) (ps.map V.str))) H4
      rw [inV_str, decide_eq_true (sub y (List.mem_of_getElem? hy))]
      exact k H4 (Same.refl _)
    · refine ⟨D0, _, rfl, SqL.of e5, ?_⟩
      show Q (.bl _) H5
      rw [trues_all]
      exact q H5 (S.trans S5)
theorem g_isOwn (e : Env1 K mg) : Good P w K mg base 4 "is_own" sIsOwn ["value", "picks"] spIsOwn := by
  obtain ⟨f, fd, h⟩ := e.Y.isOwn
  obtain ⟨fP, fdP, Pr, GP⟩ := g_isPair (P := P) (w := w) (base := base) e
  obtain ⟨fN, fdN, Nn, GN⟩ := g_isName (P := P) (w := w) (base := base) e
  obtain ⟨fS, fdS, Si, GS⟩ := g_isSight (P := P) (w := w) (base := base) e
  refine ⟨f, fd, h, ?_⟩
  refine h.F.ok scIsOwn (fun vs H Q E h => ?_) (fun cdv A outer s H vs Q E hr h => ?_)
  · obtain ⟨v, u, o, ps, rfl, _⟩ := h
    rfl
  · obtain ⟨v, u, o, ps, rfl, D, Dp, no, out, up, nm, sub, le, len, q⟩ := h
    have hr1 := hr.mono (show 1 ≤ 3 by decide)
    refine ⟨_, pss_cons (ps_if (PW.pt (pw_or (pt_not (pt_val (pe_call GP hr1 rfl Pr.g Pr.F.kp Pr.b .nil pass0 (pa_cons (pv 0) pa_nil)))) (pw_or (pt_not (pt_val (pe_call GN hr1 rfl Nn.g Nn.F.kp Nn.b .nil pass0 (pa_cons (pe_ix ix_tup (pv 0) pe_int (fun _ _ => rfl)) pa_nil))))
        (pw_or1 (pt_cmpR op_in_seq (pe_ix ix_tup (pv 0) pe_int (fun _ _ => rfl)) (pv 1) (by with_unfolding_all rfl)))))) (pss_one (ps_ret pe_bl)) pss_nil)
      (pss_one (ps_ret (pe_call GS hr rfl Si.g Si.F.kp Si.b .nil pass0 (pa_cons (pe_ix ix_tup (pv 0) pe_int (fun _ _ => rfl)) (pa_cons (pv 1) pa_nil))))), ?_⟩
    obtain ⟨a, us, rfl, ea, Da⟩ := dat_tup (ds := [.str o.1, nmsD o.2]) D
    cases Da with
    | @cons v1 d1 _ _ h1 Da =>
      cases h1
      cases Da with
      | @cons v2 d2 _ _ h2 Da =>
        cases Da
        obtain ⟨b, ups, rfl, eb, Db⟩ := dat_tup (ds := ps.map PyData.str) Dp
        cases dats_strs_eq Db
        refine ⟨_, rfl, a, _, _, rfl, ea, true, rfl, ?_⟩
        show if (!true) = true then _ else _
        rw [if_neg (by decide)]
        refine ⟨_, rfl, a, _, 0, _, rfl, rfl, SqT.of ea, rfl, o.1, rfl, no, fun H' S => ⟨true, rfl, ?_⟩⟩
        show if (!true) = true then _ else _
        rw [if_neg (by decide)]
        refine ⟨_, rfl, a, _, 0, _, rfl, rfl, SqT.of (S _ _ ea), rfl, _, rfl, b, _, rfl, .inr (SqT.of (S _ _ eb)), rfl, flat_strs ps, _, rfl, ?_⟩
        show if inV (V.str o.1) (ps.map V.str) = true then _ else _
        rw [inV_str, decide_eq_false out, if_neg (by decide)]
        exact ⟨_, rfl, a, _, 1, _, rfl, rfl, SqT.of (S _ _ ea), rfl, _, rfl, v2, .ref b, o.2, ps, rfl, h2.same S, Dp.same S, up, nm, sub, le, len, fun H2 S2 => q H2 (S.trans S2)⟩
end
end S1

set_option Elab.async false
set_option linter.all false
set_option maxRecDepth 100000
set_option maxHeartbeats 4000000
/-! sayings told to be such -/
namespace S1
open PySem PySem.W PySem.Spec PyProof.Rows L2
theorem tlt_irrefl (x : Str) : ¬ tlt x x := fun h => by
  have z := dataLt_irrefl (.str x)
  rw [dataLt_str, decide_eq_false_iff_not] at z
  exact z h
theorem nodup_tlt {xs : List Str} (h : xs.Pairwise tlt) : xs.Nodup := List.Pairwise.imp (fun {a b} z => fun e : a = b => tlt_irrefl b (by rw [e] at z; exact z)) h
abbrev sizeI (o : Own) : Int := 1 * 2 ^ ((o.2.map V.str).length : Int).toNat
theorem sizes_sum (os : List Own) : (os.map sizeI).sum = (copies os : Int) := by
  induction os with
  | nil => rfl
  | cons o os ih =>
    rw [List.map_cons, List.sum_cons, ih]
    show (1 : Int) * 2 ^ ((o.2.map V.str).length : Int).toNat + (copies os : Int) = ((2 ^ o.2.length + copies os : Nat) : Int)
    rw [List.length_map, Int.toNat_natCast, Int.one_mul]
    push_cast
    rfl
theorem cl_len {ns : List Str} {cl : List Ltr} (h : ClOk ns cl) : cl.length ≤ ns.length := by
  have nd : (cl.map Prod.fst).Nodup := nodup_tlt (List.pairwise_map.mpr h.up)
  have z := nodup_le nd fun x hx => by
    obtain ⟨l, hl, rfl⟩ := List.mem_map.mp hx
    exact h.mem l hl
  rwa [List.length_map] at z
/-- an own of a saying with these picks -/
structure OwnOk (ps : List Str) (o : Own) : Prop where
  n : Nm o.1
  out : o.1 ∉ ps
  up : o.2.Pairwise tlt
  nm : ∀ x ∈ o.2, Nm x
  sub : ∀ x ∈ o.2, x ∈ ps
  le : o.2.length ≤ ps.length
theorem SayOk.own {a b c d : Nat} {s : Say} (h : SayOk a b c d s) {o : Own} (ho : o ∈ s.owns) : OwnOk s.picks o := by
  obtain ⟨h1, h2, h3, h4⟩ := h.on o ho
  exact ⟨h1, h2, h3, fun x hx => h.pn x (h4 x hx), h4, nodup_le (nodup_tlt h3) h4⟩
def spAreOwns : Sp := fun vs H Q _ => ∃ (v u : V) (os : List Own) (ps : List Str), vs = [v, u] ∧ DatO H v os ∧ Dat H u (nmsD ps) ∧ (∀ o ∈ os, OwnOk ps o) ∧ (os.Pairwise fun x y => tlt x.1 y.1) ∧ os.length ≤ 8 ∧ copies os ≤ 120 ∧ ps.length ≤ 1000 ∧ ∀ H', Same H H' → Q (.bl true) H'
def spIsClauseOver : Sp := fun vs H Q _ => ∃ (v : V) (b : Addr) (cl : List Ltr) (ns : List Str), vs = [v, .ref b] ∧ Dat H v (clD cl) ∧ H b = some (.lst (ns.map V.str)) ∧ ClOk ns cl ∧ (∀ x ∈ ns, Nm x) ∧ ns.length ≤ 1000 ∧ ∀ H', Same H H' → Q (.bl true) H'
def spAreClauses : Sp := fun vs H Q _ => ∃ (v : V) (b : Addr) (cls : List (List Ltr)) (ns : List Str), vs = [v, .ref b] ∧ Dat H v (.tuple (cls.map clD)) ∧ H b = some (.lst (ns.map V.str)) ∧ (∀ cl ∈ cls, ClOk ns cl) ∧ (∀ x ∈ ns, Nm x) ∧ ns.length ≤ 1000 ∧
  cls.length ≤ 40 ∧ (cls.Pairwise fun x y => dataLt (clD x) (clD y) = true) ∧ ∀ H', Same H H' → Q (.bl true) H'
def spNamesOf : Sp := fun vs H Q _ => ∃ (u v : V) (ps : List Str) (os : List Own), vs = [u, v] ∧ Dat H u (nmsD ps) ∧ DatO H v os ∧ ps.length ≤ 500 ∧ os.length ≤ 500 ∧ ∀ (l : Addr) (H' : Hp), Same H H' → H l = none → H' l = some (.lst ((ps ++ os.map Prod.fst).map V.str)) → Q (.ref l) H'
section
variable {P : Program} {w : World} {K : PySem.W.Frag} {mg : Str → Option Value} {base : Heap}
theorem scAreOwns : FnScope ["value", "picks", "part", "own"] ["value", "picks"] (defScope sAreOwns) := ⟨rfl, rfl, rfl, by decide +kernel, rfl, by decide +kernel, by decide +kernel⟩
theorem scIsClauseOver : FnScope ["value", "names", "letter"] ["value", "names"] (defScope sIsClauseOver) := ⟨rfl, rfl, rfl, by decide +kernel, rfl, by decide +kernel, by decide +kernel⟩
theorem scAreClauses : FnScope ["value", "names", "part"] ["value", "names"] (defScope sAreClauses) := ⟨rfl, rfl, rfl, by decide +kernel, rfl, by decide +kernel, by decide +kernel⟩
theorem scNamesOf : FnScope ["picks", "owns", "own"] ["picks", "owns"] (defScope sNamesOf) := ⟨rfl, rfl, rfl, by decide +kernel, rfl, by decide +kernel, by decide +kernel⟩
theorem g_areOwns (e : Env1 K mg) : Good P w K mg base 5 "are_owns" sAreOwns ["value", "picks"] spAreOwns := by
  obtain ⟨f, fd, h⟩ := e.Y.areOwns
  obtain ⟨fU, fdU, Tu, GU⟩ := g_isTuple (P := P) (w := w) (base := base) e
  obtain ⟨fO, fdO, Ow, GO⟩ := g_isOwn (P := P) (w := w) (base := base) e
  obtain ⟨fR, fdR, Ri, GR⟩ := g_isRising (P := P) (w := w) (base := base) e
  obtain ⟨t1, c1⟩ := e.C.owns
  obtain ⟨t2, c2⟩ := e.C.copies
  refine ⟨f, fd, h, ?_⟩
  refine h.F.ok scAreOwns (fun vs H Q E h => ?_) (fun cdv A outer s H vs Q E hr h => ?_)
  · obtain ⟨v, u, os, ps, rfl, _⟩ := h
    rfl
  · obtain ⟨v, u, os, ps, rfl, D, Dp, good, up, len, cop, lp, q⟩ := h
    have hr1 := hr.mono (show 1 ≤ 4 by decide)
    refine ⟨_, pss_cons (ps_if (PW.pt (pw_or (pt_not (pt_val (pe_call GU hr1 rfl Tu.g Tu.F.kp Tu.b .nil pass0 (pa_cons (pv 0) (pa_cons (pe_glob (v := V.int 8) rfl c1 ⟨_, rfl⟩) pa_nil)))))
        (pw_or1 (pt_not (pt_val (pe_callB (cr_all rfl) (by rfl) e.B.all (by decide +kernel) (pa_cons (pe_lc (own := [("part", 2)]) (g := gName 2) (tt := tYes) rfl scAreOwns.nd (pi_tup (pv 0))
          (blkOk_by (N := ["value", "picks", "part", "own"]) (sc := defScope sAreOwns) (by decide +kernel)) (fun _ _ _ _ _ => pg_name (i := 2) scAreOwns.nd rfl (Or.inl rfl)) (fun _ _ _ _ _ => pts_nil)
          (fun _ _ _ _ _ => pe_call GO (by exact hr) (by rfl) Ow.g Ow.F.kp Ow.b .nil pass0 (pa_cons (pv 2) (pa_cons (pv 1) pa_nil)))) pa_nil))))))) (pss_one (ps_ret pe_bl)) pss_nil)
      (pss_cons (ps_if (pt_not (pt_val (pe_call GR hr1 rfl Ri.g Ri.F.kp Ri.b .nil pass0 (pa_cons (pe_lc (own := [("own", 3)]) (g := gName 3) (tt := tYes) (te := tOp (rIxT K) (tVar 3) (tC (V.int 0))) rfl scAreOwns.nd (pi_tup (pv 0))
          (blkOk_by (N := ["value", "picks", "part", "own"]) (sc := defScope sAreOwns) (by decide +kernel)) (fun _ _ _ _ _ => pg_name (i := 3) scAreOwns.nd rfl (Or.inl rfl)) (fun _ _ _ _ _ => pts_nil)
          (fun _ _ _ _ _ => by exact pe_ix ix_tup (pv 3) pe_int (fun _ _ => rfl))) pa_nil)))) (pss_one (ps_ret pe_bl)) pss_nil)
      (pss_one (ps_ret (pe_cmpR op_le (pe_callB (cr_sum rfl) (by rfl) e.B.sum (by decide +kernel) (pa_cons (pe_lc (own := [("own", 3)]) (g := gName 3) (tt := tYes)
            (te := tOp (rI CPow fun i j => V.int (i * 2 ^ j.toNat)) (tC (V.int 1)) (tCB (fun xs H Q => ∃ p ys, xs = [V.ref p] ∧ (SqL K H p ys ∨ SqT K H p ys) ∧ Q (V.int ys.length) H) (tCons (tOp (rIxT K) (tVar 3) (tC (V.int 1))) tNil))) rfl scAreOwns.nd (pi_tup (pv 0))
          (blkOk_by (N := ["value", "picks", "part", "own"]) (sc := defScope sAreOwns) (by decide +kernel)) (fun _ _ _ _ _ => pg_name (i := 3) scAreOwns.nd rfl (Or.inl rfl)) (fun _ _ _ _ _ => pts_nil)
          (fun _ _ _ _ _ => by exact pe_op op_shl pe_int (pe_callB call_len_seq (by rfl) e.B.len (by decide +kernel) (pa_cons (pe_ix ix_tup (pv 3) pe_int (fun _ _ => rfl)) pa_nil)))) pa_nil)) (pe_glob (v := V.int 120) rfl c2 ⟨_, rfl⟩) (nomark _))))), ?_⟩
    obtain ⟨a, us, rfl, ea, Da⟩ := D
    have lu : us.length = os.length := by rw [Da.len, List.length_map]
    refine ⟨_, rfl, a, us, 8, rfl, ea.rd, by omega, true, rfl, ?_⟩
    show if (!true) = true then _ else _
    rw [if_neg (by decide)]
    refine ⟨_, rfl, a, rfl, ⟨_, FT.sq ea⟩, fun D0 hD0 => lc_allT (K := K) (FT.sq ea) hD0 (by omega) (fun i x H4 Qe hx S4 k => ?_) gName_mono (fun H5 e5 S5 => ?_)⟩
    · obtain ⟨d, hd, Dx⟩ := dats_get' Da i x hx
      obtain ⟨o, ho, rfl⟩ := get_map hd
      have g := good o (List.mem_of_getElem? ho)
      exact ⟨rfl, _, rfl, _, rfl, x, u, o, ps, rfl, Dx.same S4, Dp.same S4, g.n, g.out, g.up, g.nm, g.sub, g.le, lp, k⟩
    · refine ⟨D0, _, rfl, SqL.of e5, _, rfl, ?_⟩
      rw [trues_all]
      show if (!true) = true then _ else _
      rw [if_neg (by decide)]
      have names : ∀ {H4 : Hp} {x : V} {i : Nat}, Same H H4 → us[i]? = some x → ∃ (o : Own) (t t' : Addr), os[i]? = some o ∧ x = .ref t ∧ H4 t = some (.tup [.str o.1, .ref t']) ∧ H4 t' = some (.tup (o.2.map V.str)) := fun {H4 x i} S hx => by
        obtain ⟨d, hd, Dx⟩ := dats_get' Da i x hx
        obtain ⟨o, ho, rfl⟩ := get_map hd
        obtain ⟨t, rfl⟩ := tuple_ref (ds := [.str o.1, nmsD o.2]) Dx
        obtain ⟨t', g1, g2⟩ := own_row (q := (t, ownD o)) rfl Dx
        exact ⟨o, t, t', ho, rfl, S _ _ g1, S _ _ g2⟩
      refine ⟨_, rfl, a, rfl, ⟨_, FT.sq (FT.same ea S5)⟩, fun D1 hD1 => lc_mapT (K := K) (ys := (os.map Prod.fst).map V.str) (FT.sq (FT.same ea S5)) hD1 (by rw [List.length_map, List.length_map, lu]) (by omega) (fun i x y H4 Qe hx hy S4 k => ?_) gName_mono (fun H6 e6 S6 => ?_)⟩
      · obtain ⟨o, t, t', ho, rfl, g1, _⟩ := names (S5.trans S4) hx
        have ey : y = V.str o.1 := by
          rw [List.getElem?_map, List.getElem?_map, ho] at hy
          exact (Option.some.inj hy).symm
        rw [ey] at k
        exact ⟨rfl, _, rfl, t, _, 0, _, rfl, rfl, SqT.of g1, rfl, k H4 (Same.refl _)⟩
      · refine ⟨D1, _, _, rfl, .inl (SqL.of e6), dats_strs (os.map Prod.fst), rise_strs (List.pairwise_map.mpr up), by rw [List.length_map, List.length_map]; omega, fun H7 S7 => ⟨true, rfl, ?_⟩⟩
        show if (!true) = true then _ else _
        rw [if_neg (by decide)]
        have S8 := (S5.trans S6).trans S7
        refine ⟨_, rfl, a, rfl, ⟨_, FT.sq (FT.same ea S8)⟩, fun D2 hD2 => lc_mapT (K := K) (ys := (os.map sizeI).map V.int) (FT.sq (FT.same ea S8)) hD2 (by rw [List.length_map, List.length_map, lu]) (by omega) (fun i x y H4 Qe hx hy S4 k => ?_) gName_mono (fun H9 e9 S9 => ?_)⟩
        · obtain ⟨o, t, t', ho, rfl, g1, g2⟩ := names (S8.trans S4) hx
          have ey : y = V.int (sizeI o) := by
            rw [List.getElem?_map, List.getElem?_map, ho] at hy
            exact (Option.some.inj hy).symm
          rw [ey] at k
          have g := good o (List.mem_of_getElem? ho)
          have := g.le
          exact ⟨rfl, _, rfl, t, _, 1, _, rfl, rfl, SqT.of g1, rfl, t', _, rfl, .inr (SqT.of g2), _, _, rfl, rfl, ⟨by omega, by rw [List.length_map]; omega, by decide⟩, k H4 (Same.refl _)⟩
        · refine ⟨D2, _, rfl, SqL.of e9, _, _, rfl, rfl, ?_⟩
          rw [sizes_sum]
          show Q (.bl (decide ((copies os : Int) ≤ 120))) H9
          rw [decide_eq_true (by omega)]
          exact q H9 (S8.trans S9)
theorem g_isClauseOver (e : Env1 K mg) : Good P w K mg base 4 "is_clause_over" sIsClauseOver ["value", "names"] spIsClauseOver := by
  obtain ⟨f, fd, h⟩ := e.Y.isClauseOver
  obtain ⟨fA, fdA, An, GA⟩ := g_isAnyClause (P := P) (w := w) (base := base) e
  refine ⟨f, fd, h, ?_⟩
  refine h.F.ok scIsClauseOver (fun vs H Q E h => ?_) (fun cdv A outer s H vs Q E hr h => ?_)
  · obtain ⟨v, b, cl, ns, rfl, _⟩ := h
    rfl
  · obtain ⟨v, b, cl, ns, rfl, D, eb, ck, nm, len, q⟩ := h
    refine ⟨_, pss_one (ps_ret (pe_and (pe_call GA hr rfl An.g An.F.kp An.b .nil pass0 (pa_cons (pv 0) pa_nil))
      (pe_one (pe_callB (cr_all rfl) (by rfl) e.B.all (by decide +kernel) (pa_cons (pe_lc (own := [("letter", 2)]) (g := gName 2) (tt := tYes) (te := tOp (rIn K false) (tOp (rIxT K) (tVar 2) (tC (V.int 0))) (tVar 1)) rfl scIsClauseOver.nd (pi_tup (pv 0))
        (blkOk_by (N := ["value", "names", "letter"]) (sc := defScope sIsClauseOver) (by decide +kernel)) (fun _ _ _ _ _ => pg_name (i := 2) scIsClauseOver.nd rfl (Or.inl rfl)) (fun _ _ _ _ _ => pts_nil)
        (fun _ _ _ _ _ => by exact pe_cmpR op_in_seq (pe_ix ix_tup (pv 2) pe_int (fun _ _ => rfl)) (pv 1) (by with_unfolding_all rfl))) pa_nil))))), ?_⟩
    obtain ⟨a, us, rfl, ea, Da⟩ := dat_tup (ds := cl.map ltD) D
    have lu : us.length = cl.length := by rw [Da.len, List.length_map]
    have lc := cl_len ck
    refine ⟨_, rfl, .ref a, cl, rfl, D, ck.up, fun l hl => nm _ (ck.mem l hl), by omega, fun H' S => ⟨true, rfl, ?_⟩⟩
    show if true = true then _ else _
    rw [if_pos rfl]
    refine ⟨_, rfl, a, rfl, ⟨_, SqT.of (S _ _ ea)⟩, fun D0 hD0 => lc_allT (K := K) (SqT.of (S _ _ ea)) hD0 (by omega) (fun i x H4 Qe hx S4 k => ?_) gName_mono (fun H5 e5 S5 => ?_)⟩
    · obtain ⟨d, hd, Dx⟩ := dats_get' Da i x hx
      obtain ⟨l, hl, rfl⟩ := get_map hd
      obtain ⟨t, rfl, et⟩ := ltr_row Dx
      refine ⟨rfl, _, rfl, t, _, 0, _, rfl, rfl, SqT.of (S4 _ _ (S _ _ et)), rfl, _, rfl, b, _, rfl, .inl (SqL.of (S4 _ _ (S _ _ eb))), rfl, flat_strs ns, ?_⟩
      show Qe (.bl (inV (V.str l.1) (ns.map V.str))) H4
      rw [inV_str, decide_eq_true (ck.mem l (List.mem_of_getElem? hl))]
      exact k H4 (Same.refl _)
    · refine ⟨D0, _, rfl, SqL.of e5, ?_⟩
      show Q (.bl _) H5
      rw [trues_all]
      exact q H5 (S.trans S5)
theorem g_areClauses (e : Env1 K mg) : Good P w K mg base 5 "are_clauses" sAreClauses ["value", "names"] spAreClauses := by
  obtain ⟨f, fd, h⟩ := e.Y.areClauses
  obtain ⟨fU, fdU, Tu, GU⟩ := g_isTuple (P := P) (w := w) (base := base) e
  obtain ⟨fO, fdO, Ov, GO⟩ := g_isClauseOver (P := P) (w := w) (base := base) e
  obtain ⟨fR, fdR, Ri, GR⟩ := g_isRising (P := P) (w := w) (base := base) e
  obtain ⟨t1, c1⟩ := e.C.clauses
  refine ⟨f, fd, h, ?_⟩
  refine h.F.ok scAreClauses (fun vs H Q E h => ?_) (fun cdv A outer s H vs Q E hr h => ?_)
  · obtain ⟨v, b, cls, ns, rfl, _⟩ := h
    rfl
  · obtain ⟨v, b, cls, ns, rfl, D, eb, ck, nm, len, lcs, up, q⟩ := h
    have hr1 := hr.mono (show 1 ≤ 4 by decide)
    refine ⟨_, pss_cons (ps_if (pt_not (pt_val (pe_call GU hr1 rfl Tu.g Tu.F.kp Tu.b .nil pass0 (pa_cons (pv 0) (pa_cons (pe_glob (v := V.int 40) rfl c1 ⟨_, rfl⟩) pa_nil))))) (pss_one (ps_ret pe_bl)) pss_nil)
      (pss_one (ps_ret (pe_and (pe_callB (cr_all rfl) (by rfl) e.B.all (by decide +kernel) (pa_cons (pe_lc (own := [("part", 2)]) (g := gName 2) (tt := tYes) rfl scAreClauses.nd (pi_tup (pv 0))
          (blkOk_by (N := ["value", "names", "part"]) (sc := defScope sAreClauses) (by decide +kernel)) (fun _ _ _ _ _ => pg_name (i := 2) scAreClauses.nd rfl (Or.inl rfl)) (fun _ _ _ _ _ => pts_nil)
          (fun _ _ _ _ _ => pe_call GO (by exact hr) (by rfl) Ov.g Ov.F.kp Ov.b .nil pass0 (pa_cons (pv 2) (pa_cons (pv 1) pa_nil)))) pa_nil))
        (pe_one (pe_call GR hr1 rfl Ri.g Ri.F.kp Ri.b .nil pass0 (pa_cons (pv 0) pa_nil)))))), ?_⟩
    obtain ⟨a, us, rfl, ea, Da⟩ := dat_tup D
    have lu : us.length = cls.length := by rw [Da.len, List.length_map]
    refine ⟨_, rfl, a, us, 40, rfl, .inl ea, by omega, true, rfl, ?_⟩
    show if (!true) = true then _ else _
    rw [if_neg (by decide)]
    refine ⟨_, rfl, a, rfl, ⟨_, SqT.of ea⟩, fun D0 hD0 => lc_allT (K := K) (SqT.of ea) hD0 (by omega) (fun i x H4 Qe hx S4 k => ?_) gName_mono (fun H5 e5 S5 => ?_)⟩
    · obtain ⟨d, hd, Dx⟩ := dats_get' Da i x hx
      obtain ⟨cl, hcl, rfl⟩ := get_map hd
      exact ⟨rfl, _, rfl, _, rfl, x, b, cl, ns, rfl, Dx.same S4, S4 _ _ eb, ck cl (List.mem_of_getElem? hcl), nm, len, k⟩
    · refine ⟨D0, _, rfl, SqL.of e5, ?_⟩
      rw [trues_all]
      refine ⟨true, rfl, ?_⟩
      show if true = true then _ else _
      rw [if_pos rfl]
      exact ⟨_, rfl, a, us, _, rfl, .inr (SqT.of (S5 _ _ ea)), DatAll.same S5 Da, rise_of alike_cl (fun _ z => nomatch z) (fun x => by have := depth_cl x; omega) up, by rw [List.length_map]; omega, fun H' S => q H' (S5.trans S)⟩
theorem g_namesOf (e : Env1 K mg) : Good P w K mg base 1 "names_of" sNamesOf ["picks", "owns"] spNamesOf := by
  obtain ⟨f, fd, h⟩ := e.Y.namesOf
  refine ⟨f, fd, h, ?_⟩
  refine h.F.ok scNamesOf (fun vs H Q E h => ?_) (fun cdv A outer s H vs Q E hr h => ?_)
  · obtain ⟨u, v, ps, os, rfl, _⟩ := h
    rfl
  · obtain ⟨u, v, ps, os, rfl, Dp, D, lp, lo, q⟩ := h
    refine ⟨_, pss_one (ps_ret (pe_op op_cat (pe_callTy call_list_of (by rfl) e.B.list (by decide +kernel) (pa_cons (pv 0) pa_nil)) (pe_lc (own := [("own", 2)]) (g := gName 2) (tt := tYes) (te := tOp (rIxT K) (tVar 2) (tC (V.int 0))) rfl scNamesOf.nd (pi_tup (pv 1))
          (blkOk_by (N := ["picks", "owns", "own"]) (sc := defScope sNamesOf) (by decide +kernel)) (fun _ _ _ _ _ => pg_name (i := 2) scNamesOf.nd rfl (Or.inl rfl)) (fun _ _ _ _ _ => pts_nil)
          (fun _ _ _ _ _ => by exact pe_ix ix_tup (pv 2) pe_int (fun _ _ => rfl))))), ?_⟩
    obtain ⟨b, ups, rfl, eb, Db⟩ := dat_tup (ds := ps.map PyData.str) Dp
    cases dats_strs_eq Db
    obtain ⟨a, us, rfl, ea, Da⟩ := D
    have lu : us.length = os.length := by rw [Da.len, List.length_map]
    refine ⟨_, rfl, b, _, rfl, .inr (SqT.of eb), fun l1 hl1 => ?_⟩
    have S1 : Same H (upd H l1 (.lst (ps.map V.str))) := same_new hl1
    have e1 : upd H l1 (.lst (ps.map V.str)) l1 = some (.lst (ps.map V.str)) := upd_same
    generalize upd H l1 (.lst (ps.map V.str)) = H1 at S1 e1 ⊢
    refine ⟨_, rfl, a, rfl, ⟨_, FT.sq (FT.same ea S1)⟩, fun D1 hD1 => lc_mapT (K := K) (ys := (os.map Prod.fst).map V.str) (FT.sq (FT.same ea S1)) hD1 (by rw [List.length_map, List.length_map, lu]) (by omega) (fun i x y H4 Qe hx hy S4 k => ?_) gName_mono (fun H6 e6 S6 => ?_)⟩
    · obtain ⟨d, hd, Dx⟩ := dats_get' Da i x hx
      obtain ⟨o, ho, rfl⟩ := get_map hd
      obtain ⟨t, rfl⟩ := tuple_ref (ds := [.str o.1, nmsD o.2]) Dx
      obtain ⟨t', g1, _⟩ := own_row (q := (t, ownD o)) rfl Dx
      have ey : y = V.str o.1 := by
        rw [List.getElem?_map, List.getElem?_map, ho] at hy
        exact (Option.some.inj hy).symm
      rw [ey] at k
      exact ⟨rfl, _, rfl, t, _, 0, _, rfl, rfl, SqT.of (S4 _ _ (S1 _ _ g1)), rfl, k H4 (Same.refl _)⟩
    · refine ⟨_, _, _, _, rfl, rfl, S6 _ _ e1, e6, ?_, fun l hl => ?_⟩
      · rw [List.length_map, List.length_map, List.length_map]
        exact Nat.le_of_lt (small1000 (by omega))
      · exact q l _ ((S1.trans S6).trans (same_new hl)) ((S1.trans S6).free hl) (by rw [upd_same, List.map_append])
end
end S1

set_option Elab.async false
set_option linter.all false
set_option maxRecDepth 100000
set_option maxHeartbeats 4000000
/-! good arguments are let by -/
namespace S1
open PySem PySem.W PySem.Spec PyProof.Rows L2
section
variable {X : Cx}
/-- if c: ..., where c is known to be False -/
def tIfNo (tc : TT) (u : TS) : TS := fun D σ H => tc σ H fun b H1 => b = false ∧ u D σ H1
theorem ps_ifNo {c : Expr} {p q : List Stmt} {tc : TT} {u : TS} {pos : Pos} (hc : PT X c tc) (hb : PSs X q u) : PS X (.If c p q pos) (tIfNo tc u) := by
  refine ⟨fun pins s σ H D I h => ?_⟩
  refine wpAny_If (thn (hc.run pins s σ H _ I h) fun k s1 ⟨H1, I1, e, q1⟩ => ?_)
  subst e
  exact hb.run pins s1 σ H1 D I1 q1
end
def spFitsSaying : Sp := fun vs H Q _ => ∃ (v : V) (s : Say), vs = [v] ∧ DatS H v s ∧ SayOk 6 8 120 40 s ∧ ∀ H', Same H H' → Q (.bl true) H'
def spFitsClause : Sp := fun vs H Q _ => ∃ (v u : V) (s : Say) (cl : List Ltr), vs = [v, u] ∧ DatS H v s ∧ Dat H u (clD cl) ∧ SayOk 6 8 120 40 s ∧ ClOk s.names cl ∧ ∀ H', Same H H' → Q (.bl true) H'
def spFitsPlay : Sp := fun vs H Q _ => ∃ (v u : V) (s : Say) (bs : List Bool), vs = [v, u] ∧ DatS H v s ∧ Dat H u (blsD bs) ∧ SayOk 6 8 120 40 s ∧ bs.length = s.picks.length ∧ ∀ H', Same H H' → Q (.bl true) H'
theorem say_row {H : Hp} {v : V} {s : Say} (D : DatS H v s) : ∃ a p o c, v = .ref a ∧ H a = some (.tup [p, o, c]) ∧ Dat H p (nmsD s.picks) ∧ DatO H o s.owns ∧ Dat H c (.tuple (s.cls.map clD)) := D
theorem SayOk.nm {a b c d : Nat} {s : Say} (h : SayOk a b c d s) : ∀ x ∈ s.names, Nm x := fun x hx => by
  rcases List.mem_append.mp hx with y | y
  · exact h.pn x y
  · obtain ⟨o, ho, rfl⟩ := List.mem_map.mp y
    exact (h.on o ho).1
theorem SayOk.nlen {s : Say} (h : SayOk 6 8 120 40 s) : s.names.length ≤ 14 := by
  have h1 := h.pl
  have h2 := h.ol
  show (s.picks ++ s.owns.map Prod.fst).length ≤ 14
  rw [List.length_append, List.length_map]
  omega
section
variable {P : Program} {w : World} {K : PySem.W.Frag} {mg : Str → Option Value} {base : Heap}
theorem scFitsSaying : FnScope ["value", "picks", "owns", "clauses"] ["value"] (defScope sFitsSaying) := ⟨rfl, rfl, rfl, by decide +kernel, rfl, by decide +kernel, by decide +kernel⟩
theorem g_fitsSaying (e : Env1 K mg) : Good P w K mg base 6 "fits_saying" sFitsSaying ["value"] spFitsSaying := by
  obtain ⟨f, fd, h⟩ := e.Y.fitsSaying
  obtain ⟨fA, fdA, An, GA⟩ := g_areNames (P := P) (w := w) (base := base) e
  obtain ⟨fO, fdO, Ow, GO⟩ := g_areOwns (P := P) (w := w) (base := base) e
  obtain ⟨fC, fdC, Cl, GC⟩ := g_areClauses (P := P) (w := w) (base := base) e
  obtain ⟨fN, fdN, No, GN⟩ := g_namesOf (P := P) (w := w) (base := base) e
  obtain ⟨t1, c1⟩ := e.C.picks
  refine ⟨f, fd, h, ?_⟩
  refine h.F.ok scFitsSaying (fun vs H Q E h => ?_) (fun cdv A outer s H vs Q E hr h => ?_)
  · obtain ⟨v, sy, rfl, _⟩ := h
    rfl
  · obtain ⟨v, sy, rfl, D, ok, q⟩ := h
    have hr1 := hr.mono (show 1 ≤ 5 by decide)
    have hr2 := hr.mono (show 2 ≤ 5 by decide)
    refine ⟨_, pss_cons (ps_if (PW.pt (pw_or (pt_not (pt_val (pe_callB call_isi (by rfl) e.B.isi (by decide +kernel) (pa_cons (pv 0) (pa_cons (pe_bltn (v := V.ty "tuple") (by rfl) e.B.tuple (by decide +kernel) rfl) pa_nil)))))
        (pw_or1 (pt_cmpR op_ne (pe_callB call_len_seq (by rfl) e.B.len (by decide +kernel) (pa_cons (pv 0) pa_nil)) pe_int (nomark _))))) (pss_one (ps_ret pe_bl)) pss_nil)
      (pss_cons (ps_asg (pv 0) (pg_tup rfl (pgs_cons (pg_name (i := 1) scFitsSaying.nd rfl (.inl rfl)) (pgs_cons (pg_name (i := 2) scFitsSaying.nd rfl (.inl rfl)) (pgs_cons (pg_name (i := 3) scFitsSaying.nd rfl (.inl rfl)) pgs_nil)))))
      (pss_cons (ps_if (PW.pt (pw_or (pt_not (pt_val (pe_call GA hr2 rfl An.g An.F.kp An.b .nil pass0 (pa_cons (pv 1) (pa_cons (pe_glob (v := V.int 6) rfl c1 ⟨_, rfl⟩) pa_nil)))))
        (pw_or1 (pt_not (pt_val (pe_call GO hr rfl Ow.g Ow.F.kp Ow.b .nil pass0 (pa_cons (pv 2) (pa_cons (pv 1) pa_nil)))))))) (pss_one (ps_ret pe_bl)) pss_nil)
      (pss_one (ps_ret (pe_call GC hr rfl Cl.g Cl.F.kp Cl.b .nil pass0 (pa_cons (pv 3) (pa_cons (pe_call GN hr1 rfl No.g No.F.kp No.b .nil pass0 (pa_cons (pv 1) (pa_cons (pv 2) pa_nil))) pa_nil))))))), ?_⟩
    obtain ⟨a, p, o, c, rfl, ea, Dp, Do, Dc⟩ := say_row D
    refine ⟨_, rfl, _, _, _, _, true, rfl, .ty _, .base (.tup ea), kit_ty (by decide +kernel), true, rfl, ?_⟩
    show if (!true) = true then _ else _
    rw [if_neg (by decide)]
    refine ⟨_, rfl, _, _, rfl, .inr (SqT.of ea), rfl, _, rfl, iteNS rfl ?_⟩
    refine ⟨_, rfl, a, _, rfl, SqT.of ea, rfl, _, _, rfl, _, _, rfl, _, _, rfl, rfl, ?_⟩
    have lp := ok.pl
    have lo := ok.ol
    refine ⟨_, rfl, p, sy.picks, 6, rfl, Dp, ok.pu, ok.pn, by omega, by omega, fun H1 S1 => ⟨true, rfl, ?_⟩⟩
    show if (!true) = true then _ else _
    rw [if_neg (by decide)]
    refine ⟨_, rfl, _, rfl, o, p, sy.owns, sy.picks, rfl, Do.same S1, Dp.same S1, fun x hx => ok.own hx, ok.ou, lo, ok.oc, by omega, fun H2 S2 => ⟨true, rfl, ?_⟩⟩
    show if (!true) = true then _ else _
    rw [if_neg (by decide)]
    have S12 := S1.trans S2
    refine ⟨_, rfl, _, rfl, _, rfl, p, o, sy.picks, sy.owns, rfl, Dp.same S12, Do.same S12, by omega, by omega, fun l H3 S3 _ el => ?_⟩
    have S13 := S12.trans S3
    have nl := ok.nlen
    exact ⟨c, l, sy.cls, sy.names, rfl, Dc.same S13, el, ok.ck, ok.nm, by omega, ok.cl, ok.cu, fun H4 S4 => q H4 (S13.trans S4)⟩
end
end S1

set_option Elab.async false
set_option linter.all false
set_option maxRecDepth 100000
set_option maxHeartbeats 4000000
/-! the checks ahead of each function let good arguments by -/
namespace S1
open PySem PySem.W PySem.Spec PyProof.Rows L2
structure Wnt (K : PySem.W.Frag) (mg : Str → Option Value) : Prop where
  saying : There K mg "want_saying" sWantSaying ["saying"]
def spWantSaying : Sp := fun vs H Q _ => ∃ (v : V) (s : Say), vs = [v] ∧ DatS H v s ∧ SayOk 6 8 120 40 s ∧ ∀ H', Same H H' → Q .non H'
def spWantClause : Sp := fun vs H Q _ => ∃ (v u : V) (s : Say) (cl : List Ltr), vs = [v, u] ∧ DatS H v s ∧ Dat H u (clD cl) ∧ SayOk 6 8 120 40 s ∧ ClOk s.names cl ∧ ∀ H', Same H H' → Q .non H'
def spWantPlay : Sp := fun vs H Q _ => ∃ (v u : V) (s : Say) (bs : List Bool), vs = [v, u] ∧ DatS H v s ∧ Dat H u (blsD bs) ∧ SayOk 6 8 120 40 s ∧ bs.length = s.picks.length ∧ ∀ H', Same H H' → Q .non H'
def spWantOwn : Sp := fun vs H Q _ => ∃ (v : V) (s : Say) (o : Own), vs = [v, .str o.1] ∧ DatS H v s ∧ SayOk 6 8 120 40 s ∧ o ∈ s.owns ∧ ∀ H', Same H H' → Q .non H'
section
variable {P : Program} {w : World} {K : PySem.W.Frag} {mg : Str → Option Value} {base : Heap}
theorem scWantSaying : FnScope ["saying"] ["saying"] (defScope sWantSaying) := ⟨rfl, rfl, rfl, by decide +kernel, rfl, by decide +kernel, by decide +kernel⟩
theorem g_wantSaying (e : Env1 K mg) (Wn : Wnt K mg) : Good P w K mg base 7 "want_saying" sWantSaying ["saying"] spWantSaying := by
  obtain ⟨f, fd, h⟩ := Wn.saying
  obtain ⟨fA, fdA, An, GA⟩ := g_fitsSaying (P := P) (w := w) (base := base) e
  refine ⟨f, fd, h, ?_⟩
  refine h.F.ok scWantSaying (fun vs H Q E h => ?_) (fun cdv A outer s H vs Q E hr h => ?_)
  · obtain ⟨v, sy, rfl, _⟩ := h
    rfl
  · obtain ⟨v, sy, rfl, D, ok, q⟩ := h
    refine ⟨_, pss_one (ps_if (pt_not (pt_val (pe_call GA hr rfl An.g An.F.kp An.b .nil pass0 (pa_cons (pv 0) pa_nil)))) pss_never pss_nil), ?_⟩
    refine ⟨_, rfl, v, sy, rfl, D, ok, fun H' S => ⟨true, rfl, ?_⟩⟩
    show if (!true) = true then _ else _
    rw [if_neg (by decide)]
    exact q H' S
end
end S1

set_option Elab.async false
set_option linter.all false
set_option maxRecDepth 100000
set_option maxHeartbeats 4000000
/-! a call of a def by keywords alone -/
namespace S1
open PySem PySem.W PySem.Spec PyProof.Rows L2
/-- how a call by keywords alone binds: g puts their values in the parameters' order -/
structure KB0 (K : PySem.W.Frag) (fd : FuncData) (ps ks : List Str) (g : List Value → List Value) (gV : List V → List V) : Prop where
  to : ∀ (s : Shared) (ws : List Value), K.In s.heap → ws.length = ks.length → BindsTo s fd ⟨[], ks.zip ws⟩ (ps.zip (g ws))
  rel : ∀ {zs : List V} {ws : List Value}, Vals zs ws → Vals (gV zs) (g ws)
def tCallK0 (sp : Sp) (gV : List V → List V) (n : Nat) (E : XK) (tk : TA) : TE := fun σ H Q => tk σ H fun zs H2 => zs.length = n ∧ sp (gV zs) H2 Q E
section
variable {X : Cx} {CX : CXT} {k : Nat} {f : Addr} {fd : FuncData} {ps ks : List Str} {sp : Sp} {E : XK} {x : Str} {p pos : Pos} {kws : List Keyword} {tk : TA} {g : List Value → List Value} {gV : List V → List V}
theorem run_fnk0 {pins : List (Addr × Obj)} {σ : L2.St} {H : Hp} {s : Shared} {Q : VK} {ws : List Value} {zs : List V} (F : FnOk X.prog X.w X.K X.mg X.base CX k f fd ps sp) (hr : Room k X.A) (hb : KB0 X.K fd ps ks g gV) (hx : Passes CX X E)
    (I : Inv X pins σ H s) (rz : Vals zs ws) (hn : zs.length = ks.length) (h : sp (gV zs) H Q E) : wpAny (model X.prog X.w) X.A (call (.ref f) [] (ks.zip ws)) (EP X pins σ Q) X.xe s := by
  have r2 := hb.rel rz
  have hl : ws.length = ks.length := by rw [← rz.length]; exact hn
  refine wpAny_call (codeAny_mono (F.run X.A X.stack s H ⟨[], ks.zip ws⟩ (g ws) (gV zs) Q E hr I.env0 (hb.to s ws I.kIn hl) r2 h) fun r s' hq => ?_)
  cases r with
  | error e => exact hx pins σ H s e s' I hq
  | ok fl =>
    cases fl with
    | ret u => exact I.after hq
    | next => exact False.elim hq
    | brk => exact False.elim hq
    | cont => exact False.elim hq
/-- f(k = v, ..) -/
theorem pe_callK0 (F : FnOk X.prog X.w X.K X.mg X.base CX k f fd ps sp) (hr : Room k X.A) (hg : Gl X x) (hm : X.mg x = some (.ref f)) (hk : PySem.W.keepIn X.K (.ref f) = true) (hb : KB0 X.K fd ps ks g gV) (hx : Passes CX X E)
    (hkw : PK X kws tk) (hall : (backToKw pos (keywordEach kws X.env)).all (·.1.isSome) = true := by rfl) (hks : (backToKw pos (keywordEach kws X.env)).filterMap (·.1) = ks := by rfl)
    (hdb : (x == ("__debug__" : Str)) = false := by decide)
    (hpl : ((backTo pos (starEach [] X.env)).any (·.1) || (backToKw pos (keywordEach kws X.env)).any (·.1.isNone)) = false := by rfl) :
    PE X (.Call (.Name x p) [] kws pos) (tCallK0 sp gV ks.length E tk) := by
  refine ⟨fun pins s σ H Q I h => ?_⟩
  refine wpAny_Call_Name_kw (ld_glob I hg hm ?_ hdb)
  refine PySem.W.callWith_KW0 (h₀ := X.base) I.ok.mod.kin hk hall (thn (hkw.run pos pins s σ H _ I h) fun ws s2 ⟨zs, H2, I2, rz, hn, q2⟩ => ⟨I2.kIn, ?_⟩) hpl
  rw [hks]
  exact run_fnk0 F hr hb hx I2 rz hn q2
end
section
variable {K : PySem.W.Frag}
theorem vals_rev {zs : List V} {ws : List Value} (h : Vals zs ws) : Vals zs.reverse ws.reverse := by
  induction h with
  | nil => exact .nil
  | cons a b ih =>
    rw [List.reverse_cons, List.reverse_cons]
    exact Vals.append ih (.cons a .nil)
/-- the keywords in the parameters' order -/
theorem Fun.kb1 {x qual a : Str} {st : Stmt} {f : Addr} {fd : FuncData} (F : Fun K x qual st f fd)
    (h : ∀ (kV doc pm : Value) (an : Option Addr) (cdv ct u : Value), bindArgs (PySem.W.fnOf x qual (defArgs st) (defBody st) (defScope st) .none kV doc pm an cdv ct) ⟨[], [(a, u)]⟩ = pure [(a, u)]) : KB0 K fd [a] [a] id id := by
  obtain ⟨oc, od, kV, doc, pm, an, cdv, ct, osl, rfl, lk, hcd⟩ := F.ex
  refine ⟨fun s ws X l => ?_, fun r => r⟩
  match ws, l with
  | [u], _ => exact .of_eq (h kV doc pm an cdv ct u)
/-- three keywords, the last first -/
theorem Fun.kb3 {x qual a b c : Str} {st : Stmt} {f : Addr} {fd : FuncData} (F : Fun K x qual st f fd)
    (h : ∀ (kV doc pm : Value) (an : Option Addr) (cdv ct u v z : Value), bindArgs (PySem.W.fnOf x qual (defArgs st) (defBody st) (defScope st) .none kV doc pm an cdv ct) ⟨[], [(c, u), (b, v), (a, z)]⟩ = pure [(a, z), (b, v), (c, u)]) : KB0 K fd [a, b, c] [c, b, a] List.reverse List.reverse := by
  obtain ⟨oc, od, kV, doc, pm, an, cdv, ct, osl, rfl, lk, hcd⟩ := F.ex
  refine ⟨fun s ws X l => ?_, fun r => ?_⟩
  · match ws, l with
    | [u, v, z], _ => exact .of_eq (h kV doc pm an cdv ct u v z)
  · exact vals_rev r
end
end S1

set_option Elab.async false
set_option linter.all false
set_option maxRecDepth 100000
set_option maxHeartbeats 4000000
/-! dict(zip(a, b)) where a and b are whatever an iterator draws from: two tuples, say -/
namespace S1
open PySem PySem.W
section
variable {prog : Program} {w : World} {A : Around} {E : Value → Shared → Prop} {s : Shared} {z TI TO T i1 i2 : Addr} {f : Bool} {oT : Obj} {fp1 fp2 : List Addr} {n1 n2 i : Nat} {P1 P2 : Nat → Value → Prop} {St1 St2 : Nat → Heap → Prop}
/-- what a turn of a zip leaves as it is, whose last tuple is still out -/
def HeldKeeps (z i1 i2 : Addr) (h h' : Heap) : Prop := ∀ c o, c ≠ z → c ≠ i1 → c ≠ i2 → h.get? c = some o → h'.get? c = some o
theorem held_item {Q : Value → Shared → Prop} (S : ZipSep2 z TI TO i1 i2 fp1 fp2) (D1 : Draws prog w A i1 fp1 n1 P1 St1) (D2 : Draws prog w A i2 fp2 n2 P2 St2)
    (hz : IsZipHeld s.heap z TI TO T f) (hT : s.heap.get? T = some oT) (hTI : IsTupOf2 s.heap TI (.ref i1) (.ref i2)) (st1 : St1 i s.heap) (st2 : St2 i s.heap) (l1 : i < n1) (l2 : i < n2)
    (hQ : ∀ x1 x2 h' tk, P1 i x1 → P2 i x2 → IsZipHeld h' z TI TO T true → St1 (i + 1) h' → St2 (i + 1) h' → IsTupOf2 h' s.heap.objs.size x1 x2 → HeldKeeps z i1 i2 s.heap h' → Q (.ref s.heap.objs.size) { s with heap := h', toks := tk }) :
    wpAny (model prog w) A (Builtin.«zip.__next__» ⟨[.ref z], []⟩) (fun fin s' => ∃ v, fin = .done (.ret v) ∧ Q v s') E s := by
  obtain ⟨hp, g, d, tk0, os⟩ := s
  show wpAny _ _ (field (.ref z) 2 >>= _) _ _ _
  refine wpAny_bind (wpAny_field hz rfl (x := .bool false) rfl ?_)
  show wpAny _ _ (field (.ref z) 3 >>= _) _ _ _
  refine wpAny_bind (wpAny_field hz rfl (x := .ref TI) rfl (wpAny_bind (wpAny_seqItems hTI rfl ?_)))
  show wpAny _ _ (Builtin.SmallTypes.ownedTupleIsFree (.ref z) >>= _) _ _ _
  refine wpAny_bind (wpAny_tupleHeld_zip hz hT fun a hza sa => ?_)
  replace sa : Heap.SameBut z hp a := sa
  replace hza : IsZipHeld a z TI TO T true := hza
  simp only [Bool.false_eq_true, if_false]
  refine wpAny_bind ?_
  rw [← Array.forIn_toList]
  simp only [List.forIn_cons, List.forIn_nil]
  refine wpAny_bind (wpAny_bind (wpAny_holding ?_))
  show wpAny _ _ (Builtin.SmallTypes.nextOf (.ref i1) >>= _) _ _ ⟨a, g, d, tk0, os⟩
  refine wpAny_bind (D1.item i _ _ _ l1 (D1.over st1 sa S.zf1) fun x1 b tk1 hx1 sn1 sb => wpAny_pure (wpAny_pure ?_))
  replace sb : Heap.SameBut i1 a b := sb
  refine wpAny_bind (wpAny_bind (wpAny_holding ?_))
  show wpAny _ _ (Builtin.SmallTypes.nextOf (.ref i2) >>= _) _ _ ⟨b, g, d, tk1, os⟩
  refine wpAny_bind (D2.item i _ _ _ l2 (D2.over (D2.over st2 sa S.zf2) sb S.sep1_2) fun x2 c tk2 hx2 sn2 sc => wpAny_pure (wpAny_pure (wpAny_pure ?_)))
  replace sc : Heap.SameBut i2 b c := sc
  show wpAny _ _ (newTuple [x1, x2] >>= _) _ _ ⟨c, g, d, tk2, os⟩
  refine wpAny_bind (wpAny_newTuple (wpAny_pure ⟨_, rfl, ?_⟩))
  have sz : c.objs.size = hp.objs.size := by rw [sc.1, sb.1, sa.1]
  have up : ∀ b o, c.get? b = some o → (c.push { cls := .type "tuple", data := .seq #[x1, x2] }).get? b = some o := fun b o e => Heap.get?_push_of_some _ e
  have nt : IsTupOf2 (c.push { cls := .type "tuple", data := .seq #[x1, x2] }) c.objs.size x1 x2 := Heap.get?_push_size _ rfl
  show Q (.ref c.objs.size) _
  rw [sz] at nt ⊢
  exact hQ x1 x2 _ tk2 hx1 hx2 (up _ _ (sc.extBut _ _ S.zi2 (sb.extBut _ _ S.zi1 hza))) (D1.frame _ _ _ (D1.over sn1 sc S.sep2_1) fun b _ o e => up b o e) (D2.frame _ _ _ sn2 fun b _ o e => up b o e) nt
    fun q o q0 q1 q2 e => up q o (sc.extBut _ _ q2 (sb.extBut _ _ q1 (sa.extBut _ _ q0 e)))
theorem held_end {Q : Fin → Shared → Prop} (S : ZipSep2 z TI TO i1 i2 fp1 fp2) (D1 : Draws prog w A i1 fp1 n1 P1 St1) (D2 : Draws prog w A i2 fp2 n2 P2 St2)
    (hz : IsZipHeld s.heap z TI TO T f) (hT : s.heap.get? T = some oT) (hTI : IsTupOf2 s.heap TI (.ref i1) (.ref i2)) (st1 : St1 i s.heap) (st2 : St2 i s.heap) (l1 : i ≤ n1) (l2 : i ≤ n2) (hend : i = n1 ∨ i = n2)
    (hE : ∀ h' tk e, HeldKeeps z i1 i2 s.heap h' → (∃ o, h'.get? e = some o ∧ o.cls = .type "StopIteration") → E (.ref e) { s with heap := h', toks := tk }) :
    wpAny (model prog w) A (Builtin.«zip.__next__» ⟨[.ref z], []⟩) Q E s := by
  obtain ⟨hp, g, d, tk0, os⟩ := s
  show wpAny _ _ (field (.ref z) 2 >>= _) _ _ _
  refine wpAny_bind (wpAny_field hz rfl (x := .bool false) rfl ?_)
  show wpAny _ _ (field (.ref z) 3 >>= _) _ _ _
  refine wpAny_bind (wpAny_field hz rfl (x := .ref TI) rfl (wpAny_bind (wpAny_seqItems hTI rfl ?_)))
  show wpAny _ _ (Builtin.SmallTypes.ownedTupleIsFree (.ref z) >>= _) _ _ _
  refine wpAny_bind (wpAny_tupleHeld_zip hz hT fun a hza sa => ?_)
  replace sa : Heap.SameBut z hp a := sa
  simp only [Bool.false_eq_true, if_false]
  refine wpAny_bind ?_
  rw [← Array.forIn_toList]
  simp only [List.forIn_cons, List.forIn_nil]
  refine wpAny_bind (wpAny_bind (wpAny_holding ?_))
  show wpAny _ _ (Builtin.SmallTypes.nextOf (.ref i1) >>= _) _ _ ⟨a, g, d, tk0, os⟩
  by_cases q1 : i < n1
  · have e2 : i = n2 := by omega
    refine wpAny_bind (D1.item i _ _ _ q1 (D1.over st1 sa S.zf1) fun x1 b tk1 hx1 sn1 sb => wpAny_pure (wpAny_pure ?_))
    replace sb : Heap.SameBut i1 a b := sb
    refine wpAny_bind (wpAny_bind (wpAny_holding ?_))
    show wpAny _ _ (Builtin.SmallTypes.nextOf (.ref i2) >>= _) _ _ ⟨b, g, d, tk1, os⟩
    refine wpAny_bind (D2.done ⟨b, g, d, tk1, os⟩ _ _ (by rw [← e2]; exact D2.over (D2.over st2 sa S.zf2) sb S.sep1_2) fun c e sc he => ?_)
    exact hE c tk1 e (fun q o q0 q1 q2 x => sc _ _ q2 (sb.extBut _ _ q1 (sa.extBut _ _ q0 x))) he
  · have e1 : i = n1 := by omega
    refine wpAny_bind (D1.done ⟨a, g, d, tk0, os⟩ _ _ (by rw [← e1]; exact D1.over st1 sa S.zf1) fun c e sc he => ?_)
    exact hE c tk0 e (fun q o q0 q1 q2 x => sc _ _ q1 (sa.extBut _ _ q0 x)) he
theorem next_held_item {Q : Option Value → Shared → Prop} (S : ZipSep2 z TI TO i1 i2 fp1 fp2) (D1 : Draws prog w A.in1 i1 fp1 n1 P1 St1) (D2 : Draws prog w A.in1 i2 fp2 n2 P2 St2)
    (hz : IsZipHeld s.heap z TI TO T f) (hT : s.heap.get? T = some oT) (hTI : IsTupOf2 s.heap TI (.ref i1) (.ref i2)) (st1 : St1 i s.heap) (st2 : St2 i s.heap) (l1 : i < n1) (l2 : i < n2)
    (hQ : ∀ x1 x2 h' tk, P1 i x1 → P2 i x2 → IsZipHeld h' z TI TO T true → St1 (i + 1) h' → St2 (i + 1) h' → IsTupOf2 h' s.heap.objs.size x1 x2 → HeldKeeps z i1 i2 s.heap h' → Q (some (.ref s.heap.objs.size)) { s with heap := h', toks := tk }) :
    wpAny (model prog w) A (pyNext (.ref z)) Q E s := by
  have ty : s.TypeIs (.ref z) "zip" := ⟨_, hz, rfl⟩
  unfold pyNext
  exact wpAny_bind (wpAny_attempt (wpAny_callSpecial?_slot (name := Str.ofString "__next__") ty F.slot_zip_next
    (wpAny_call_entry F.slot_zip_next ty F.entry_zip_next
      (held_item S D1 D2 hz hT hTI st1 st2 l1 l2 fun x1 x2 h' tk a b c d e f g => wpAny_pure (hQ x1 x2 h' tk a b c d e f g)) (F.args_zip_next_1 _))))
theorem next_held_end {Q : Option Value → Shared → Prop} (S : ZipSep2 z TI TO i1 i2 fp1 fp2) (D1 : Draws prog w A.in1 i1 fp1 n1 P1 St1) (D2 : Draws prog w A.in1 i2 fp2 n2 P2 St2)
    (hz : IsZipHeld s.heap z TI TO T f) (hT : s.heap.get? T = some oT) (hTI : IsTupOf2 s.heap TI (.ref i1) (.ref i2)) (st1 : St1 i s.heap) (st2 : St2 i s.heap) (l1 : i ≤ n1) (l2 : i ≤ n2) (hend : i = n1 ∨ i = n2)
    (hQ : ∀ h' tk, HeldKeeps z i1 i2 s.heap h' → Q none { s with heap := h', toks := tk }) : wpAny (model prog w) A (pyNext (.ref z)) Q E s := by
  have ty : s.TypeIs (.ref z) "zip" := ⟨_, hz, rfl⟩
  unfold pyNext
  refine wpAny_bind (wpAny_attempt (wpAny_callSpecial?_slot (name := Str.ofString "__next__") ty F.slot_zip_next
    (wpAny_call_entry F.slot_zip_next ty F.entry_zip_next (held_end S D1 D2 hz hT hTI st1 st2 l1 l2 hend fun h' tk e hk he => ?_) (F.args_zip_next_1 _))))
  obtain ⟨o, ho, hc⟩ := he
  exact wpAny_bind (wpAny_isInstance (T := "StopIteration") (b := true) ⟨o, ho, hc⟩ isSubtype_stop (wpAny_pure (hQ _ _ hk)))
end
section
variable {prog : Program} {w : World} {z TI TO i1 i2 l1 l2 : Addr} {fp1 fp2 : List Addr} {n1 n2 : Nat} {P1 P2 : Nat → Value → Prop} {St1 St2 : Nat → Heap → Prop}
/-- zip(a, b) as what dict() may be filled from -/
theorem pairArg_zip (S : ZipSep2 z TI TO i1 i2 fp1 fp2) (D1 : ∀ A : Around, A.handled = none → Draws prog w A i1 fp1 n1 P1 St1) (D2 : ∀ A : Around, A.handled = none → Draws prog w A i2 fp2 n2 P2 St2) (kp1 : ∀ h h', St1 0 h → (∀ b o, h.get? b = some o → h'.get? b = some o) → St1 0 h') (kp2 : ∀ h h', St2 0 h → (∀ b o, h.get? b = some o → h'.get? b = some o) → St2 0 h') (lv1 : ∀ h, St1 0 h → ∀ b ∈ fp1, ∃ o, h.get? b = some o) (lv2 : ∀ h, St2 0 h → ∀ b ∈ fp2, ∃ o, h.get? b = some o) :
    PairArg prog w "zip" z (z :: TI :: TO :: (fp1 ++ fp2)) [z, TO, i1, i2] (min n1 n2) (fun i k v => P1 i k ∧ P2 i v)
      (fun h => IsZip h z TI TO .none ∧ IsTupOf2 h TI (.ref i1) (.ref i2) ∧ (∃ a b, IsTupOf2 h TO a b) ∧ St1 0 h ∧ St2 0 h) where
  type := fun s ok => ⟨_, ok.1, rfl⟩
  notDict := by decide
  keep := fun h h' ok hk => by
    obtain ⟨hz, hTI, ⟨a, b, hTO⟩, s1, s2⟩ := ok
    exact ⟨hk _ _ hz, hk _ _ hTI, ⟨a, b, hk _ _ hTO⟩, kp1 h h' s1 hk, kp2 h h' s2 hk⟩
  there := fun h ok b hb => by
    obtain ⟨hz, hTI, ⟨a, c, hTO⟩, s1, s2⟩ := ok
    rcases List.mem_cons.mp hb with rfl | hb
    · exact ⟨_, hz⟩
    rcases List.mem_cons.mp hb with rfl | hb
    · exact ⟨_, hTI⟩
    rcases List.mem_cons.mp hb with rfl | hb
    · exact ⟨_, hTO⟩
    rcases List.mem_append.mp hb with hb | hb
    · exact lv1 h s1 b hb
    · exact lv2 h s2 b hb
  sub := fun b hb => by
    have q : b = z ∨ b = TO ∨ b = i1 ∨ b = i2 := by simpa using hb
    rcases q with rfl | rfl | rfl | rfl
    · simp
    · simp
    · simp [S.mem1]
    · simp [S.mem2]
  noKeys := fun A s Q E hA ok h => getAttrOr_miss_zip ok.1 rfl rfl rfl zip_no_keys (by decide +kernel) hA h
  iter := fun A s d Q E hA ok hd hdf h => by
    obtain ⟨hz, hTI, ⟨a, b, hTO⟩, s1, s2⟩ := ok
    have D1 := D1 A.in1 hA
    have D2 := D2 A.in1 hA
    simp only [List.mem_cons, List.mem_append, not_or] at hdf
    obtain ⟨dz, dTI, dTO, d1, d2⟩ := hdf
    refine wpAny_pyIter_zip hz (h z [z, TO, i1, i2] (fun i h => i ≤ min n1 n2 ∧ IsTupOf2 h TI (.ref i1) (.ref i2) ∧ St1 i h ∧ St2 i h ∧
      ((IsZip h z TI TO .none ∧ ∃ a b, IsTupOf2 h TO a b) ∨ ∃ T f oT, IsZipHeld h z TI TO T f ∧ h.get? T = some oT ∧ T ≠ z ∧ T ≠ i1 ∧ T ≠ i2 ∧ T ≠ d)) s.heap s.toks ?_
      ⟨Nat.zero_le _, hTI, s1, s2, .inl ⟨hz, a, b, hTO⟩⟩ (fun _ _ e => e) fun b hb => .inl hb)
    exact {
      off := fun hm => by
        have q : d = z ∨ d = TO ∨ d = i1 ∨ d = i2 := by simpa using hm
        rcases q with e | e | e | e
        · exact dz e
        · exact dTO e
        · exact d1 (e ▸ S.mem1)
        · exact d2 (e ▸ S.mem2)
      frame := fun i h₁ h₂ st hk => by
        obtain ⟨hi, hTI, s1, s2, hz⟩ := st
        refine ⟨hi, hk _ _ (Ne.symm dTI) hTI, D1.frame _ _ _ s1 fun b hb o e => hk b o (fun q => d1 (q ▸ hb)) e, D2.frame _ _ _ s2 fun b hb o e => hk b o (fun q => d2 (q ▸ hb)) e, ?_⟩
        rcases hz with ⟨hz, a, b, hTO⟩ | ⟨T, f, oT, hz, hT, r1, r2, r3, r4⟩
        · exact .inl ⟨hk _ _ (Ne.symm dz) hz, a, b, hk _ _ (Ne.symm dTO) hTO⟩
        · exact .inr ⟨T, f, oT, hk _ _ (Ne.symm dz) hz, hk _ _ r4 hT, r1, r2, r3, r4⟩
      item := fun i s₁ Q₁ E₁ hi st hds hQ => by
        obtain ⟨_, hTI, s1, s2, hz⟩ := st
        have m1 : i < n1 := by omega
        have m2 : i < n2 := by omega
        have lt : ∀ {c o}, s₁.heap.get? c = some o → s₁.heap.objs.size ≠ c := fun e => Nat.ne_of_gt (Heap.lt_size e)
        have k1 : s₁.heap.objs.size ≠ i1 := let ⟨_, e⟩ := D1.live _ _ s1; lt e
        have k2 : s₁.heap.objs.size ≠ i2 := let ⟨_, e⟩ := D2.live _ _ s2; lt e
        rcases hz with ⟨hz, a, b, hTO⟩ | ⟨T, f, oT, hz, hT, r1, r2, r3, r4⟩
        · refine wpAny_pyNext_zipD2_item S D1 D2 hz hTI hTO s1 s2 m1 m2 fun x1 x2 h' tk y1 y2 a1 a2 a3 a4 a5 a6 hk => ?_
          exact hQ s₁.heap.objs.size _ _ h' tk ⟨y1, y2⟩ (.inl ⟨_, a5, rfl, _, rfl⟩)
            ⟨by omega, hk _ _ S.TIz S.TITO S.TIi1 S.TIi2 hTI, a3, a4, .inr ⟨s₁.heap.objs.size, false, _, a1, a5, lt hz, k1, k2, Nat.ne_of_gt hds⟩⟩
            fun c o hc e => hk c o (fun x => hc (by simp [x])) (fun x => hc (by simp [x])) (fun x => hc (by simp [x])) (fun x => hc (by simp [x])) e
        · refine next_held_item S D1 D2 hz hT hTI s1 s2 m1 m2 fun x1 x2 h' tk y1 y2 a1 a3 a4 a5 hk => ?_
          exact hQ s₁.heap.objs.size _ _ h' tk ⟨y1, y2⟩ (.inl ⟨_, a5, rfl, _, rfl⟩)
            ⟨by omega, hk _ _ S.TIz S.TIi1 S.TIi2 hTI, a3, a4, .inr ⟨T, true, oT, a1, hk _ _ r1 r2 r3 hT, r1, r2, r3, r4⟩⟩
            fun c o hc e => hk c o (fun x => hc (by simp [x])) (fun x => hc (by simp [x])) (fun x => hc (by simp [x])) e
      done := fun s₁ Q₁ E₁ st hQ => by
        obtain ⟨_, hTI, s1, s2, hz⟩ := st
        rcases hz with ⟨hz, a, b, hTO⟩ | ⟨T, f, oT, hz, hT, r1, r2, r3, r4⟩
        · exact wpAny_pyNext_zipD2_end S D1 D2 hz hTI hTO s1 s2 (by omega) (by omega) (by omega) fun h' tk hk => hQ h' tk fun c o hc e =>
            hk c o (fun x => hc (by simp [x])) (fun x => hc (by simp [x])) (fun x => hc (by simp [x])) (fun x => hc (by simp [x])) e
        · exact next_held_end S D1 D2 hz hT hTI s1 s2 (by omega) (by omega) (by omega) fun h' tk hk => hQ h' tk fun c o hc e =>
            hk c o (fun x => hc (by simp [x])) (fun x => hc (by simp [x])) (fun x => hc (by simp [x])) e }
/-- zip(a, b) over two tuples -/
theorem pairArg_zipT (S : ZipSep2 z TI TO i1 i2 [i1, l1] [i2, l2]) (h1 : l1 ≠ i1) (h2 : l2 ≠ i2) (xs ys : Array Value) :
    PairArg prog w "zip" z (z :: TI :: TO :: ([i1, l1] ++ [i2, l2])) [z, TO, i1, i2] (min xs.size ys.size) (fun i k v => xs[i]? = some k ∧ ys[i]? = some v)
      (fun h => IsZip h z TI TO .none ∧ IsTupOf2 h TI (.ref i1) (.ref i2) ∧ (∃ a b, IsTupOf2 h TO a b) ∧ (h.IsTupleIter i1 l1 0 ∧ h.IsTuple l1 xs) ∧ (h.IsTupleIter i2 l2 0 ∧ h.IsTuple l2 ys)) := by
  have lv : ∀ {i l : Addr} {xs : Array Value} {h : Heap}, h.IsTupleIter i l 0 ∧ h.IsTuple l xs → ∀ b ∈ [i, l], ∃ o, h.get? b = some o := by
    intro i l xs h st b hb
    obtain ⟨⟨o, ho, _⟩, ⟨o2, ho2, _⟩⟩ := st
    simp only [List.mem_cons, List.not_mem_nil, or_false] at hb
    rcases hb with rfl | rfl
    · exact ⟨_, ho⟩
    · exact ⟨_, ho2⟩
  exact pairArg_zip S (fun A hA => Draws.tuple hA i1 l1 h1 xs) (fun A hA => Draws.tuple hA i2 l2 h2 ys) (fun h h' st hk => ⟨st.1.at fun o e => hk _ o e, st.2.at fun o e => hk _ o e⟩) (fun h h' st hk => ⟨st.1.at fun o e => hk _ o e, st.2.at fun o e => hk _ o e⟩) (fun _ st => lv st) fun _ st => lv st
end
end S1

set_option Elab.async false
set_option linter.all false
set_option maxRecDepth 100000
set_option maxHeartbeats 4000000
/-! the rule for dict(zip(a, b)) of two tuples -/
namespace S1
open PySem PySem.W PySem.Spec PyProof.Rows L2
section
variable {X : Cx}
theorem sep5 (n a b : Nat) (la : a < n) (lb : b < n) : ZipSep2 (n + 4) (n + 2) (n + 3) n (n + 1) [n, a] [n + 1, b] := by
  have nn : ∀ {x p q : Nat}, x ≠ p → x ≠ q → (x : Addr) ∉ [(p : Addr), q] := fun h h' m => by
    rcases List.mem_cons.mp m with e | m
    · exact h e
    · exact h' (List.mem_singleton.mp m)
  have ne : ∀ {x y : Nat}, (x < y ∨ y < x) → x ≠ y := fun h => by omega
  refine ⟨ne (by omega), ne (by omega), ne (by omega), ne (by omega), List.mem_cons_self, nn (ne (by omega)) (ne (by omega)), nn (ne (by omega)) (ne (by omega)), ne (by omega), List.mem_cons_self, nn (ne (by omega)) (ne (by omega)), nn (ne (by omega)) (ne (by omega)), nn (ne (by omega)) (ne (by omega)), nn (ne (by omega)) (ne (by omega))⟩
theorem far5 (n c : Nat) (l : c < n) (h : c = n + 4 ∨ c = n + 3 ∨ c = n ∨ c = n + 1) : False := by omega
/-- a pair's key and value, as the tuples have them -/
theorem pairs_zip {P : Program} {w : World} : ∀ {ks : List Key} {xs : List V} {us vs : List Value}, Vals (ks.map kV) us → Vals xs vs → ks.length = xs.length →
    ∃ prs : List (Key × Value), KV (ks.zip xs) prs ∧ prs.length = ks.length ∧ ∀ (i : Nat) (u v : Value), us[i]? = some u → vs[i]? = some v → ∃ k, prs[i]? = some (k, v) ∧ (mixKind P w).is k u = true
  | [], [], _, _, ru, _, _ => by
    cases ru
    exact ⟨[], .nil, rfl, fun i u v e _ => by simp at e⟩
  | k :: ks, x :: xs, us, vs, ru, rv, hl => by
    cases ru with
    | @cons _ u _ us r0 ru =>
      cases rv with
      | @cons _ v _ vs r1 rv =>
        obtain ⟨prs, a, b, c⟩ := pairs_zip (P := P) (w := w) ru rv (by simpa using hl)
        refine ⟨(k, v) :: prs, .cons ⟨rfl, r1⟩ a, by simp [b], fun i u' v' e e' => ?_⟩
        cases i with
        | zero =>
          simp at e e'
          subst e e'
          exact ⟨k, rfl, kV_is r0⟩
        | succ i => simpa using c i u' v' (by simpa using e) (by simpa using e')
/-- dict(zip(a, b)), a a tuple of keys -/
def tDictZip (K : PySem.W.Frag) (ta : TA) : TE := fun σ H Q => ta σ H fun vs H1 => ∃ (a b : Addr) (ks : List Key) (xs : List V), vs = [.ref a, .ref b] ∧ SqT K H1 a (ks.map kV) ∧ SqT K H1 b xs ∧ ks.length = xs.length ∧
  ∀ p, H1 p = none → Q (.ref p) (upd H1 p (.dK (mergeK [] (ks.zip xs))))
theorem pe_dictZip {e e2 : Expr} {ta : TA} {p p2 pos pos2 : Pos} (hcalm : X.calm = true) (hg : Gl X "dict") (hm : X.mg "dict" = none) (hg2 : Gl X "zip") (hm2 : X.mg "zip" = none) (ha : PA X [e, e2] ta)
    (hs : starEach [e, e2] X.env = (false, eval e X.env) :: starEach [e2] X.env := by rfl) (hpl : (backTo pos2 (starEach [e2] X.env)).any (·.1) = false := by rfl) :
    PE X (.Call (.Name "dict" p) [.Call (.Name "zip" p2) [e, e2] [] pos2] [] pos) (tDictZip X.K ta) := by
  refine ⟨fun pins s σ H Q I h => ?_⟩
  refine Call_ (ld_blt I hg hm PyProof.Rows.boot_dict (PyProof.Rows.callWith_type1 ?_ rfl rfl))
  show wpAny _ _ (spliced ((false, eval (.Call (.Name "zip" p2) [e, e2] [] pos2) X.env) :: backTo pos (starEach [] X.env))) _ _ s
  refine Calls.spliced_cons ?_
  refine Call_ (ld_blt I hg2 hm2 PyProof.Rows.boot_zip (PyProof.Rows.callWith_type1 (thn (ha.run pos2 pins s σ H _ I h) fun us s1 ⟨vs, H1, I1, r1, q1⟩ => ?_) hs hpl))
  obtain ⟨a, b, ks, xs, ex, ta, tb, hl, q⟩ := q1
  subst ex
  obtain ⟨ua, ub, eu, ra, rb⟩ := vals2 r1
  subst eu
  cases ra
  cases rb
  obtain ⟨its, rv, pa, za⟩ := I1.tuple ta
  obtain ⟨its2, rv2, pb, zb⟩ := I1.tuple tb
  obtain ⟨o1, ho1, _⟩ := id pa
  obtain ⟨o2, ho2, _⟩ := id pb
  have la : a < s1.heap.objs.size := Heap.lt_size ho1
  have lb : b < s1.heap.objs.size := Heap.lt_size ho2
  refine RZ.call_zipT (show s1.heap.IsTuple a its.toArray from pa) (show s1.heap.IsTuple b its2.toArray from pb) fun h' hz hTI hTO h1 h2 hsz hk => Calls.spliced_nil ?_
  have S : ZipSep2 (s1.heap.objs.size + 4) (s1.heap.objs.size + 2) (s1.heap.objs.size + 3) s1.heap.objs.size (s1.heap.objs.size + 1) [s1.heap.objs.size, a] [s1.heap.objs.size + 1, b] := sep5 _ _ _ la lb
  obtain ⟨prs, kv, hlp, hp⟩ := pairs_zip (P := X.prog) (w := X.w) rv rv2 hl
  have hk1 : (ks.map kV).length = its.length := rv.length
  have hk2 : xs.length = its2.length := rv2.length
  rw [List.length_map] at hk1
  have hmin : min its.toArray.size its2.toArray.size = ks.length := by simp; omega
  refine call_dict_pairs (knd := mixKind X.prog X.w) (kvs := prs) (pairArg_zipT S (Nat.ne_of_lt la) (Nat.ne_of_lt (Nat.lt_succ_of_lt lb)) its.toArray its2.toArray) (I1.ok.hd hcalm)
    ⟨hz, hTI, ⟨_, _, hTO⟩, ⟨h1, (show s1.heap.IsTuple a its.toArray from pa).at fun o e => hk _ o e⟩, ⟨h2, (show s1.heap.IsTuple b its2.toArray from pb).at fun o e => hk _ o e⟩⟩
    ⟨by rw [hlp, hmin], fun i u v r => hp i u v (by simpa using r.1) (by simpa using r.2)⟩ (by rw [hmin, ← List.length_map (f := kV)]; exact za) fun h'' tk hd' k => ?_
  have big : s1.heap.objs.size ≤ h'.objs.size := by rw [hsz]; exact Nat.le_add_right _ _
  have hmm : (h'.objs.size == sysModules) = false := beq_eq_false_iff_ne.mpr (Nat.ne_of_gt (Nat.lt_of_lt_of_le I1.big big))
  have hlen : (mergeK [] (ks.zip xs)).length ≤ sizeLine := by
    refine Nat.le_trans (length_mergeK _ []) ?_
    rw [List.length_nil, Nat.zero_add, List.length_zip, ← hl, Nat.min_self, ← List.length_map (f := kV)]
    exact za
  refine ⟨.ref h'.objs.size, upd H1 h'.objs.size (.dK (mergeK [] (ks.zip xs))), I1.laid (t' := tk) (fun c o e => ?_) big (show ObjOk X.prog X.w _ _ _ (.dK (mergeK [] (ks.zip xs))) from ⟨hlen, hmm, merged [] prs, KV.merge kv .nil, hd'⟩), rfl, q _ (I1.hok.fresh big)⟩
  have lc : c < s1.heap.objs.size := Heap.lt_size e
  refine k c o (fun z => ?_) (hk c o e)
  have z' : c = s1.heap.objs.size + 4 ∨ c = s1.heap.objs.size + 3 ∨ c = s1.heap.objs.size ∨ c = s1.heap.objs.size + 1 := by simpa using z
  exact far5 s1.heap.objs.size c lc z'
end
end S1

set_option Elab.async false
set_option linter.all false
set_option maxRecDepth 100000
set_option maxHeartbeats 4000000
/-! the truths of a play by their picks, and what is seen of them -/
namespace S1
open PySem PySem.W PySem.Spec PyProof.Rows L2
theorem mergeK_new : ∀ (more kvs : List (Key × V)), (∀ p ∈ more, ∀ q ∈ kvs, q.1 ≠ p.1) → (more.map Prod.fst).Nodup → mergeK kvs more = kvs ++ more
  | [], kvs, _, _ => by rw [List.append_nil]; rfl
  | p :: more, kvs, h, nd => by
    have nd' := List.nodup_cons.mp (by simpa using nd : (p.1 :: more.map Prod.fst).Nodup)
    have no : (kvs.any fun kv => decide (kv.1 = p.1)) = false := by
      rw [List.any_eq_false]
      intro q hq z
      exact h p List.mem_cons_self q hq (of_decide_eq_true z)
    have e : putK kvs p.1 p.2 = kvs ++ [p] := by unfold putK; rw [no]; rfl
    show mergeK (putK kvs p.1 p.2) more = kvs ++ p :: more
    rw [e, mergeK_new more _ (fun x hx q hq => ?_) nd'.2, List.append_assoc]
    · rfl
    · rcases List.mem_append.mp hq with hq | hq
      · exact h x (List.mem_cons_of_mem _ hx) q hq
      · cases List.mem_singleton.mp hq
        intro z
        exact nd'.1 (List.mem_map.mpr ⟨x, hx, z.symm⟩)
/-- the picks' truths -/
def truK (picks : List Str) (bs : List Bool) : List (Key × V) := (picks.map Sum.inr).zip (bs.map V.bl)
/-- the truth of one of the picks -/
def truOf (picks : List Str) (bs : List Bool) (x : Str) : Option Bool := ((picks.zip bs).find? fun p => decide (p.1 = x)).map Prod.snd
theorem tru_val (x : Str) : ∀ (picks : List Str) (bs : List Bool), valV (truK picks bs) (.inr x) = (truOf picks bs x).map V.bl
  | [], _ => rfl
  | _ :: _, [] => rfl
  | y :: picks, b :: bs => by
    have ih := tru_val x picks bs
    unfold truOf at ih ⊢
    show valV ((Sum.inr y, V.bl b) :: truK picks bs) (.inr x) = _
    by_cases e : y = x
    · rw [valV_pos (p := (Sum.inr y, V.bl b)) (by rw [e])]
      simp [e]
    · rw [valV_neg (p := (Sum.inr y, V.bl b)) (fun z => e (Sum.inr.inj z)), ih]
      simp [e]
theorem fst_sub : ∀ (a : List Key) (b : List V), ((a.zip b).map Prod.fst).Sublist a
  | [], _ => by simp
  | x :: a, [] => by simp
  | x :: a, y :: b => by
    show (x :: (a.zip b).map Prod.fst).Sublist (x :: a)
    exact (fst_sub a b).cons₂ x
theorem tru_merge {picks : List Str} (bs : List Bool) (nd : picks.Nodup) : mergeK [] (truK picks bs) = truK picks bs := by
  refine mergeK_new _ [] (fun _ _ q hq => absurd hq (by simp)) ?_
  unfold truK
  have h : (picks.map (Sum.inr : Str → Key)).Nodup := by
    unfold List.Nodup at nd ⊢
    rw [List.pairwise_map]
    exact nd.imp fun h z => h (Sum.inr.inj z)
  exact h.sublist (fst_sub _ _)
def spTruthsAt : Sp := fun vs H Q _ => ∃ (v u : V) (sy : Say) (bs : List Bool), vs = [v, u] ∧ DatS H v sy ∧ Dat H u (blsD bs) ∧ sy.picks.Pairwise tlt ∧ bs.length = sy.picks.length ∧ ∀ p, H p = none → Q (.ref p) (upd H p (.dK (truK sy.picks bs)))
section
variable {P : Program} {w : World} {K : PySem.W.Frag} {mg : Str → Option Value} {base : Heap}
theorem scTruthsAt : FnScope ["saying", "play"] ["saying", "play"] (defScope sTruthsAt) := ⟨rfl, rfl, rfl, by decide +kernel, rfl, by decide +kernel, by decide +kernel⟩
theorem ok_truthsAt {f : Addr} {fd : FuncData} (F : Fun K "truths_at" "truths_at" sTruthsAt f fd) (B : Blt mg) : FnOk P w K mg base CX0 1 f fd ["saying", "play"] spTruthsAt := by
  refine F.ok scTruthsAt (fun vs H Q E h => ?_) (fun cdv A outer s H vs Q E hr h => ?_)
  · obtain ⟨v, u, sy, bs, rfl, _⟩ := h
    rfl
  · obtain ⟨v, u, sy, bs, rfl, D, Dp, up, hl, q⟩ := h
    refine ⟨_, pss_one (ps_ret (pe_dictZip rfl (by rfl) B.dict (by rfl) B.zip (pa_cons (pe_ix ix_tup (pv 0) pe_int (fun _ _ => rfl)) (pa_cons (pv 1) pa_nil)))), ?_⟩
    obtain ⟨a, pk, ow, c, rfl, ea, Dk, _, _⟩ := say_row D
    obtain ⟨b, ups, rfl, eb, Db⟩ := dat_tup (ds := sy.picks.map PyData.str) Dk
    cases dats_strs_eq Db
    obtain ⟨t, us, rfl, et, Dt⟩ := dat_tup (ds := bs.map PyData.bool) Dp
    cases dats_bls_eq Dt
    refine ⟨_, rfl, a, _, 0, _, rfl, rfl, SqT.of ea, rfl, _, rfl, b, t, sy.picks.map Sum.inr, bs.map V.bl, rfl, ?_, SqT.of et, by rw [List.length_map, List.length_map, hl], fun p hp => ?_⟩
    · rw [List.map_map]
      exact SqT.of eb
    · show Q (.ref p) (upd H p (.dK (mergeK [] (truK sy.picks bs))))
      rw [tru_merge bs (nodup_tlt up)]
      exact q p hp
end
end S1

set_option Elab.async false
set_option linter.all false
set_option maxRecDepth 100000
set_option maxHeartbeats 4000000
/-! all plays, as the law lists them -/
namespace S1
open PySem PySem.W PySem.Spec PyProof.Rows L2
def playsD : Nat → List (List Bool)
  | 0 => [[]]
  | n + 1 => (playsD n).flatMap fun p => [p ++ [false], p ++ [true]]
theorem plays_len : ∀ n, (playsD n).length = 2 ^ n
  | 0 => rfl
  | n + 1 => by
    have key : ∀ l : List (List Bool), (l.flatMap fun p => [p ++ [false], p ++ [true]]).length = 2 * l.length := by
      intro l
      induction l with
      | nil => rfl
      | cons x l ih =>
        rw [List.flatMap_cons, List.length_append, ih, List.length_cons]
        show 2 + 2 * l.length = 2 * (l.length + 1)
        omega
    rw [playsD, key, plays_len n, Nat.pow_succ]
    omega
theorem plays_bits : ∀ n, ∀ p ∈ playsD n, p.length = n
  | 0, p, h => by
    cases List.mem_singleton.mp h
    rfl
  | n + 1, p, h => by
    obtain ⟨x, hx, hp⟩ := List.mem_flatMap.mp h
    have := plays_bits n x hx
    rcases List.mem_cons.mp hp with rfl | hp
    · rw [List.length_append, this]; rfl
    · cases List.mem_singleton.mp hp
      rw [List.length_append, this]; rfl
/-- a list of rows, new -/
structure Rows (H H' : Hp) (l : Addr) (ds : List PyData) : Prop where
  S : Same H H'
  new : H l = none
  ex : ∃ T : List TRow, H' l = some (.lst (T.map TRow.v)) ∧ T.map Prod.snd = ds ∧ ∀ q ∈ T, Dat H' q.v q.2
def spLPlays0 : Sp := fun vs H Q _ => ∃ n : Nat, vs = [.int n] ∧ n ≤ 8 ∧ ∀ (l : Addr) (H' : Hp), Rows H H' l ((playsD n).map blsD) → Q (.ref l) H'
theorem bls_row {H : Hp} {x : V} {bs : List Bool} (D : Dat H x (blsD bs)) : ∃ t, x = .ref t ∧ H t = some (.tup (bs.map V.bl)) := by
  obtain ⟨t, xs, rfl, e, h⟩ := dat_tup (ds := bs.map PyData.bool) D
  cases dats_bls_eq h
  exact ⟨t, rfl, e⟩
theorem dats_bls {H : Hp} : ∀ bs : List Bool, DatAll H (bs.map V.bl) (bs.map PyData.bool)
  | [] => .nil
  | b :: bs => .cons (.bl b) (dats_bls bs)
theorem cat_bl {K : PySem.W.Frag} {H : Hp} {t t1 : Addr} {bs : List Bool} {c : Bool} {Q : VK} (e : H t = some (.tup (bs.map V.bl))) (e1 : H t1 = some (.tup [.bl c])) (len : bs.length ≤ 500)
    (q : ∀ r H', Same H H' → Dat H' (.ref r) (blsD (bs ++ [c])) → Q (.ref r) H') : rCatA K (.ref t) (.ref t1) H Q := by
  refine ⟨t, t1, _, _, rfl, rfl, SqT.of e, SqT.of e1, ?_, fun z => ?_, fun _ z => (nomatch z), fun _ _ p hp => ?_⟩
  · rw [List.length_map]
    exact Nat.le_of_lt (small1000 (by show bs.length + 1 ≤ 1000; omega))
  · cases bs with
    | nil => exact q t1 H (Same.refl _) (.tup e1 (.cons (.bl c) .nil))
    | cons b bs => cases z
  · refine q p _ (same_new hp) (.tup upd_same ?_)
    have z : bs.map V.bl ++ [V.bl c] = (bs ++ [c]).map V.bl := by rw [List.map_append]; rfl
    rw [z]
    exact dats_bls (bs ++ [c])
end S1

set_option Elab.async false
set_option linter.all false
set_option maxRecDepth 100000
set_option maxHeartbeats 4000000
/-! all plays, and all that is seen, as the program lists them -/
namespace S1
open PySem PySem.W PySem.Spec PyProof.Rows L2
section
variable {K : PySem.W.Frag} {a : Addr} {xs : List V} {F : V → Hp → (Hp → Prop) → Prop} {H0 : Hp} {Qd : Hp → Prop}
theorem turns_list (Pv : Nat → Hp → Prop) (h0 : Pv 0 H0) (hl : ∀ i H, i ≤ xs.length → Pv i H → SqL K H a xs) (hs : ∀ i x H, xs[i]? = some x → Pv i H → F x H (Pv (i + 1))) (hd : ∀ H, Pv xs.length H → Qd H) :
    ∃ W : Nat → Nat → Hp → Prop, (∃ m, W 0 m H0) ∧ ∀ i m H, W i m H →
      ((Itl K a).stop i H ∧ Qd H) ∨ ((Itl K a).go i H ∧ ∃ Nx : Hp → Prop, (∀ H', Nx H' → ∃ m', m' < m ∧ W (i + 1) m' H') ∧ ∀ x H', (Itl K a).yld i H x H' → F x H' Nx) := by
  refine ⟨fun i m H => m = xs.length - i ∧ i ≤ xs.length ∧ Pv i H, ⟨_, rfl, Nat.zero_le _, h0⟩, ?_⟩
  rintro i m H ⟨rfl, hi, p⟩
  have q := hl i H hi p
  by_cases lt : i < xs.length
  · refine .inr ⟨⟨xs, xs[i], q, List.getElem?_eq_getElem lt⟩, Pv (i + 1), fun H' p' => ⟨xs.length - (i + 1), by omega, rfl, lt, p'⟩, ?_⟩
    rintro x H' ⟨e, y⟩
    subst e
    exact hs i x _ (y xs q) p
  · have e : i = xs.length := by omega
    subst e
    exact .inl ⟨⟨xs, q, Nat.le_refl _⟩, hd H p⟩
theorem turns_tup (Pv : Nat → Hp → Prop) (h0 : Pv 0 H0) (hl : ∀ i H, i ≤ xs.length → Pv i H → SqT K H a xs) (hs : ∀ i x H, xs[i]? = some x → Pv i H → F x H (Pv (i + 1))) (hd : ∀ H, Pv xs.length H → Qd H) :
    ∃ W : Nat → Nat → Hp → Prop, (∃ m, W 0 m H0) ∧ ∀ i m H, W i m H →
      ((Itt K a).stop i H ∧ Qd H) ∨ ((Itt K a).go i H ∧ ∃ Nx : Hp → Prop, (∀ H', Nx H' → ∃ m', m' < m ∧ W (i + 1) m' H') ∧ ∀ x H', (Itt K a).yld i H x H' → F x H' Nx) := by
  refine ⟨fun i m H => m = xs.length - i ∧ i ≤ xs.length ∧ Pv i H, ⟨_, rfl, Nat.zero_le _, h0⟩, ?_⟩
  rintro i m H ⟨rfl, hi, p⟩
  have q := hl i H hi p
  by_cases lt : i < xs.length
  · refine .inr ⟨⟨xs, xs[i], q, List.getElem?_eq_getElem lt⟩, Pv (i + 1), fun H' p' => ⟨xs.length - (i + 1), by omega, rfl, lt, p'⟩, ?_⟩
    rintro x H' ⟨e, y⟩
    subst e
    exact hs i x _ (y xs q) p
  · have e : i = xs.length := by omega
    subst e
    exact .inl ⟨⟨xs, q, Nat.le_refl _⟩, hd H p⟩
end
def spAllPlays : Sp := fun vs H Q _ => ∃ (v : V) (s : Say), vs = [v] ∧ DatS H v s ∧ SayOk 6 8 120 40 s ∧ ∀ (l : Addr) (H' : Hp), Rows H H' l ((playsD s.picks.length).map blsD) → Q (.ref l) H'
theorem flat_len : ∀ l : List (List Bool), (l.flatMap fun p => [p ++ [false], p ++ [true]]).length = 2 * l.length
  | [] => rfl
  | x :: l => by
    rw [List.flatMap_cons, List.length_append, flat_len l, List.length_cons]
    show 2 + 2 * l.length = 2 * (l.length + 1)
    omega
section
variable {P : Program} {w : World} {K : PySem.W.Frag} {mg : Str → Option Value} {base : Heap}
theorem scAllPlays : FnScope ["saying", "found", "_", "play", "truth"] ["saying"] (defScope sAllPlays) := ⟨rfl, rfl, rfl, by decide +kernel, rfl, by decide +kernel, by decide +kernel⟩
theorem ok_allPlays {f : Addr} {fd : FuncData} (F : Fun K "all_plays" "all_plays" sAllPlays f fd) : FnOk P w K mg base CX0 1 f fd ["saying"] spAllPlays := by
  refine F.ok scAllPlays (fun vs H Q E h => ?_) (fun cdv A outer s H vs Q E hr h => ?_)
  · obtain ⟨v, sy, rfl, _⟩ := h
    rfl
  · obtain ⟨v, sy, rfl, D, ok, q⟩ := h
    refine ⟨_, pss_cons (ps_set (i := 1) scAllPlays.nd rfl (.inl rfl) (pe_lst (pa_cons (pe_tup pa_nil) pa_nil)))
      (pss_cons (ps_for PassesOwn.never rfl (pi_tup (pe_ix ix_tup (pv 0) pe_int (fun _ _ => rfl))) (pg_name (i := 2) scAllPlays.nd rfl (.inl rfl))
        (pss_one (ps_setLc2 (i := 1) (own := [("play", 3), ("truth", 4)]) (vs1 := [4]) (g := gName 3) (tt := tYes) (g1 := gName 4) (tt1 := tYes) (wi1 := iTup K (tTup (tCons (tC (V.bl false)) (tCons (tC (V.bl true)) tNil)))) (te := tOp (rCatA K) (tVar 3) (tTup (tCons (tVar 4) tNil)))
          rfl scAllPlays.nd rfl rfl (sw_true rfl rfl rfl (by decide +kernel)) (pi_list (pv 1)) (blkOk_by (N := ["saying", "found", "_", "play", "truth"]) (sc := defScope sAllPlays) (by decide +kernel)) (by decide)
          (fun _ _ _ _ _ => pg_name (i := 3) scAllPlays.nd rfl (Or.inl rfl)) (fun _ _ _ _ _ => pts_nil) (fun _ _ _ _ _ => by exact pi_tup (pe_tup (pa_cons pe_bl (pa_cons pe_bl pa_nil))))
          (fun _ _ _ _ _ => pg_name (i := 4) scAllPlays.nd rfl (Or.inl rfl)) (fun _ _ _ _ _ => pts_nil) (fun _ _ _ _ _ => by exact pe_op op_catA (pv 3) (pe_tup (pa_cons (pv 4) pa_nil))))))
      (pss_one (ps_ret (pv 1)))), ?_⟩
    obtain ⟨a, pk, ow, c, rfl, ea, Dp, Do, Dc⟩ := say_row D
    obtain ⟨b, ups, rfl, eb, Db⟩ := dat_tup (ds := sy.picks.map PyData.str) Dp
    cases dats_strs_eq Db
    have lp := ok.pl
    refine ⟨Nat.zero_le _, fun t0 ht0 => ⟨(by show 1 ≤ sizeLine; decide), fun l0 hl0 => ?_⟩⟩
    refine gen_heap (F := fun G => Rows H G l0 ((playsD 0).map blsD)) ⟨(same_new ht0).trans (same_new hl0), (same_new ht0).free hl0, [(t0, blsD [])], upd_same, rfl, fun q' hq' => ?_⟩ (fun G RG => ?_)
    · cases List.mem_singleton.mp hq'
      exact .tup (xs := []) ((same_new hl0) _ _ upd_same) .nil
    · refine ⟨_, rfl, a, _, 0, _, rfl, rfl, SqT.of (RG.S _ _ ea), rfl, b, rfl, ⟨_, SqT.of (RG.S _ _ eb)⟩, ?_⟩
      refine for_tup (K := K) (a := b) (xs := sy.picks.map V.str) (fun i σ H' => ∃ (l : Addr) (o2 o3 o4 : Option V), σ = [some (.ref a), some (.ref l), o2, o3, o4] ∧ Rows H H' l ((playsD i).map blsD)) ⟨l0, _, _, _, rfl, RG⟩ (fun i σ H' _ ⟨_, _, _, _, _, R⟩ => SqT.of (R.S _ _ eb)) ?_ ?_
      · rintro i x σ H' hx ⟨l, o2, o3, o4, rfl, R⟩
        have il : i < 6 := by
          have z := (List.getElem?_eq_some_iff.mp hx).1
          rw [List.length_map] at z
          omega
        obtain ⟨T, eT, dT, DT⟩ := R.ex
        have lenT : T.length = 2 ^ i := by rw [← List.length_map (f := Prod.snd), dT, List.length_map, plays_len]
        have small : 2 ^ i ≤ 128 := Nat.pow_le_pow_right (n := 2) (by decide) (show i ≤ 7 by omega)
        refine ⟨_, rfl, l, rfl, ⟨_, SqL.of eT⟩, fun D0 hD0 => ?_⟩
        refine turns_list (K := K) (a := l) (xs := T.map TRow.v) (fun j H4 => ∃ T4 : List TRow, H4 D0 = some (.lst (T4.map TRow.v)) ∧ T4.map Prod.snd = (((playsD i).take j).flatMap fun p => [p ++ [false], p ++ [true]]).map blsD ∧ (∀ q' ∈ T4, Dat H4 q'.v q'.2) ∧ Same H' H4)
          ⟨[], upd_same, rfl, fun q' hq' => absurd hq' (by simp), same_new hD0⟩ (fun j H4 _ ⟨_, _, _, _, S4⟩ => SqL.of (S4 _ _ eT)) ?_ ?_
        · rintro j x4 H4 hx4 ⟨T4, e4, d4, D4, S4⟩
          rw [List.getElem?_map] at hx4
          obtain ⟨y, hy, rfl⟩ := Option.map_eq_some_iff.mp hx4
          have ey : ((playsD i).map blsD)[j]? = some y.2 := by rw [← dT, List.getElem?_map, hy]; rfl
          obtain ⟨p, hp, ep⟩ := get_map ey
          have Dy := DT y (List.mem_of_getElem? hy)
          rw [ep] at Dy
          obtain ⟨t, et, e0⟩ := bls_row Dy
          have lpp : p.length ≤ 500 := by rw [plays_bits i p (List.mem_of_getElem? hp)]; omega
          have jl : j < (playsD i).length := (List.getElem?_eq_some_iff.mp hp).1
          rw [plays_len] at jl
          have len4 : T4.length = 2 * j := by rw [← List.length_map (f := Prod.snd), d4, List.length_map, flat_len, List.length_take, plays_len, Nat.min_eq_left (Nat.le_of_lt jl)]
          rw [et]
          refine ⟨rfl, yes_of ?_⟩
          refine ⟨(by show 2 ≤ sizeLine; decide), fun tt htt => ⟨tt, rfl, ⟨_, SqT.of upd_same⟩, ?_⟩⟩
          have S5 := same_new (o := .tup [V.bl false, .bl true]) htt
          refine turns_tup (K := K) (a := tt) (xs := [V.bl false, .bl true]) (fun k H5 => ∃ T5 : List TRow, H5 D0 = some (.lst (T5.map TRow.v)) ∧ T5.map Prod.snd = T4.map Prod.snd ++ (([false, true].take k).map fun c => blsD (p ++ [c])) ∧ (∀ q' ∈ T5, Dat H5 q'.v q'.2) ∧ Same H' H5 ∧
            H5 tt = some (.tup [V.bl false, .bl true])) ⟨T4, S5 _ _ e4, by simp, fun q' hq' => (D4 q' hq').same S5, S4.trans S5, upd_same⟩ (fun k H5 _ ⟨_, _, _, _, _, z⟩ => SqT.of z) ?_ ?_
          · rintro k x5 H5 hx5 ⟨T5, e5, d5, D5, S6, ett⟩
            obtain ⟨cc, rfl, hcc, kl⟩ : ∃ cc : Bool, x5 = .bl cc ∧ [false, true][k]? = some cc ∧ k < 2 := by
              match k, hx5 with
              | 0, h => exact ⟨false, (Option.some.inj h).symm, rfl, by decide⟩
              | 1, h => exact ⟨true, (Option.some.inj h).symm, rfl, by decide⟩
              | k + 2, h => simp at h
            have len5 : T5.length = 2 * j + k := by
              rw [← List.length_map (f := Prod.snd), d5, List.length_append, List.length_map, List.length_map, len4, List.length_take]
              show 2 * j + min k 2 = 2 * j + k
              omega
            refine ⟨rfl, yes_of ?_⟩
            refine ⟨_, rfl, _, rfl, (by show 1 ≤ sizeLine; decide), fun t1 ht1 => ?_⟩
            refine cat_bl ((same_new ht1) _ _ (S6 _ _ e0)) upd_same lpp fun r1 H6 S7 D6 => ?_
            have S57 : Same H5 H6 := (same_new ht1).trans S7
            have e6 := S57 _ _ e5
            refine ⟨_, e6, by rw [List.length_map, len5]; exact small1000 (by omega), T5 ++ [(r1, blsD (p ++ [cc]))], by rw [upd_same, List.map_append]; rfl, ?_, fun q' hq' => ?_, same_upd (S6.trans S57) hD0, ?_⟩
            · rw [List.map_append, d5, take_next hcc, List.map_append, List.append_assoc]
              rfl
            · rcases List.mem_append.mp hq' with m | m
              · have kq : keyable q'.2 = true := by
                  have m2 : q'.2 ∈ T5.map Prod.snd := List.mem_map_of_mem m
                  rw [d5, d4] at m2
                  rcases List.mem_append.mp m2 with m2 | m2
                  · obtain ⟨z, _, hz⟩ := List.mem_map.mp m2
                    rw [← hz]
                    exact keyables_map PyData.bool (fun _ => rfl) z
                  · obtain ⟨z, _, hz⟩ := List.mem_map.mp m2
                    rw [← hz]
                    exact keyables_map PyData.bool (fun _ => rfl) _
                exact dat_upd e6 kq ((D5 q' m).same S57)
              · cases List.mem_singleton.mp m
                exact dat_upd e6 (keyables_map PyData.bool (fun _ => rfl) _) D6
            · have nt : tt ≠ D0 := fun z => by rw [z, e5] at ett; cases ett
              rw [upd_ne nt]
              exact S57 _ _ ett
          · rintro H5 ⟨T5, e5, d5, D5, S6, _⟩
            refine ⟨T5, e5, ?_, D5, S6⟩
            rw [d5, d4, take_next hp, List.flatMap_append, List.map_append]
            rfl
        · rintro H4 ⟨T4, e4, d4, D4, S4⟩
          have tk : (playsD i).take (T.map TRow.v).length = playsD i := by
            rw [List.length_map, lenT, ← plays_len]
            exact List.take_length
          rw [tk] at d4
          exact ⟨D0, _, _, _, rfl, R.S.trans S4, R.S.free hD0, T4, e4, d4, D4⟩
      · rintro σ H' ⟨l, o2, o3, o4, rfl, R⟩
        rw [List.length_map] at R
        exact ⟨_, rfl, q l H' R⟩
end
end S1

set_option Elab.async false
set_option linter.all false
set_option maxRecDepth 100000
set_option maxHeartbeats 4000000
/-! all that is seen, as the program lists it -/
namespace S1
open PySem PySem.W PySem.Spec PyProof.Rows L2
def seenD : Nat → List (List Bool)
  | 0 => [[]]
  | n + 1 => (seenD n).map (· ++ [false]) ++ (seenD n).map (· ++ [true])
theorem seen_len : ∀ n, (seenD n).length = 2 ^ n
  | 0 => rfl
  | n + 1 => by
    rw [seenD, List.length_append, List.length_map, List.length_map, seen_len n, Nat.pow_succ]
    omega
theorem seen_bits : ∀ n, ∀ p ∈ seenD n, p.length = n
  | 0, p, h => by
    cases List.mem_singleton.mp h
    rfl
  | n + 1, p, h => by
    rcases List.mem_append.mp h with h | h
    · obtain ⟨x, hx, rfl⟩ := List.mem_map.mp h
      rw [List.length_append, seen_bits n x hx]
      rfl
    · obtain ⟨x, hx, rfl⟩ := List.mem_map.mp h
      rw [List.length_append, seen_bits n x hx]
      rfl
def spAllSeen : Sp := fun vs H Q _ => ∃ (v : V) (xs : List Str), vs = [v] ∧ Dat H v (nmsD xs) ∧ xs.length ≤ 6 ∧ ∀ (l : Addr) (H' : Hp), Rows H H' l ((seenD xs.length).map blsD) → Q (.ref l) H'
theorem keyable_bls (p : List Bool) : keyable (blsD p) = true := keyables_map PyData.bool (fun _ => rfl) p
section
variable {P : Program} {w : World} {K : PySem.W.Frag} {mg : Str → Option Value} {base : Heap}
theorem scAllSeen : FnScope ["sight", "found", "_", "truth", "truths"] ["sight"] (defScope sAllSeen) := ⟨rfl, rfl, rfl, by decide +kernel, rfl, by decide +kernel, by decide +kernel⟩
theorem ok_allSeen {f : Addr} {fd : FuncData} (F : Fun K "all_seen" "all_seen" sAllSeen f fd) : FnOk P w K mg base CX0 1 f fd ["sight"] spAllSeen := by
  refine F.ok scAllSeen (fun vs H Q E h => ?_) (fun cdv A outer s H vs Q E hr h => ?_)
  · obtain ⟨v, xs, rfl, _⟩ := h
    rfl
  · obtain ⟨v, xs, rfl, D, lx, q⟩ := h
    refine ⟨_, pss_cons (ps_set (i := 1) scAllSeen.nd rfl (.inr rfl) (pe_lst (pa_cons (pe_tup pa_nil) pa_nil)))
      (pss_cons (ps_for PassesOwn.never rfl (pi_tup (pv 0)) (pg_name (i := 2) scAllSeen.nd rfl (.inl rfl))
        (pss_one (ps_set (i := 1) scAllSeen.nd rfl (.inr rfl) (pe_lc2 (own := [("truth", 3), ("truths", 4)]) (vs1 := [4]) (g := gName 3) (tt := tYes) (g1 := gName 4) (tt1 := tYes) (wi1 := iList K (tVar 1)) (te := tOp (rCatA K) (tVar 4) (tTup (tCons (tVar 3) tNil)))
          rfl scAllSeen.nd (pi_tup (pe_tup (pa_cons pe_bl (pa_cons pe_bl pa_nil)))) (blkOk_by (N := ["sight", "found", "_", "truth", "truths"]) (sc := defScope sAllSeen) (by decide +kernel)) (by decide)
          (fun _ _ _ _ _ => pg_name (i := 3) scAllSeen.nd rfl (Or.inl rfl)) (fun _ _ _ _ _ => pts_nil) (fun _ _ _ _ _ => by exact pi_list (pv 1))
          (fun _ _ _ _ _ => pg_name (i := 4) scAllSeen.nd rfl (Or.inl rfl)) (fun _ _ _ _ _ => pts_nil) (fun _ _ _ _ _ => by exact pe_op op_catA (pv 4) (pe_tup (pa_cons (pv 3) pa_nil)))))))
      (pss_one (ps_ret (pv 1)))), ?_⟩
    obtain ⟨b, ups, rfl, eb, Db⟩ := dat_tup (ds := xs.map PyData.str) D
    cases dats_strs_eq Db
    refine ⟨Nat.zero_le _, fun t0 ht0 => ⟨(by show 1 ≤ sizeLine; decide), fun l0 hl0 => ?_⟩⟩
    refine gen_heap (F := fun G => Rows H G l0 ((seenD 0).map blsD)) ⟨(same_new ht0).trans (same_new hl0), (same_new ht0).free hl0, [(t0, blsD [])], upd_same, rfl, fun q' hq' => ?_⟩ (fun G RG => ?_)
    · cases List.mem_singleton.mp hq'
      exact .tup (xs := []) ((same_new hl0) _ _ upd_same) .nil
    · refine ⟨_, rfl, b, rfl, ⟨_, SqT.of (RG.S _ _ eb)⟩, ?_⟩
      refine for_tup (K := K) (a := b) (xs := xs.map V.str) (fun i σ H' => ∃ (l : Addr) (o2 o3 o4 : Option V), σ = [some (.ref b), some (.ref l), o2, o3, o4] ∧ Rows H H' l ((seenD i).map blsD)) ⟨l0, _, _, _, rfl, RG⟩ (fun i σ H' _ ⟨_, _, _, _, _, R⟩ => SqT.of (R.S _ _ eb)) ?_ ?_
      · rintro i x σ H' hx ⟨l, o2, o3, o4, rfl, R⟩
        have il : i < 6 := by
          have z := (List.getElem?_eq_some_iff.mp hx).1
          rw [List.length_map] at z
          omega
        obtain ⟨T, eT, dT, DT⟩ := R.ex
        have lenT : T.length = 2 ^ i := by rw [← List.length_map (f := Prod.snd), dT, List.length_map, seen_len]
        have small : 2 ^ i ≤ 128 := Nat.pow_le_pow_right (n := 2) (by decide) (show i ≤ 7 by omega)
        refine ⟨(by show 2 ≤ sizeLine; decide), fun tt htt => ⟨tt, rfl, ⟨_, SqT.of upd_same⟩, fun D0 hD0 => ?_⟩⟩
        have S0 := same_new (o := .tup [V.bl false, .bl true]) htt
        have e0 : upd H' tt (.tup [V.bl false, .bl true]) tt = some (.tup [V.bl false, .bl true]) := upd_same
        generalize upd H' tt (.tup [V.bl false, .bl true]) = G' at S0 hD0 e0 ⊢
        refine turns_tup (K := K) (a := tt) (xs := [V.bl false, .bl true]) (fun k H4 => ∃ T4 : List TRow, H4 D0 = some (.lst (T4.map TRow.v)) ∧ T4.map Prod.snd = (([false, true].take k).flatMap fun c => (seenD i).map (· ++ [c])).map blsD ∧ (∀ q' ∈ T4, Dat H4 q'.v q'.2) ∧ Same G' H4)
          ⟨[], upd_same, rfl, fun q' hq' => absurd hq' (by simp), same_new hD0⟩ (fun k H4 _ ⟨_, _, _, _, S4⟩ => SqT.of (S4 _ _ e0)) ?_ ?_
        · rintro k x4 H4 hx4 ⟨T4, e4, d4, D4, S4⟩
          obtain ⟨cc, rfl, hcc, kl⟩ : ∃ cc : Bool, x4 = .bl cc ∧ [false, true][k]? = some cc ∧ k < 2 := by
            match k, hx4 with
            | 0, h => exact ⟨false, (Option.some.inj h).symm, rfl, by decide⟩
            | 1, h => exact ⟨true, (Option.some.inj h).symm, rfl, by decide⟩
            | k + 2, h => simp at h
          have len4 : T4.length = k * 2 ^ i := by
            rw [← List.length_map (f := Prod.snd), d4, List.length_map]
            match k, kl with
            | 0, _ => simp
            | 1, _ =>
              show ([false].flatMap fun c => (seenD i).map (· ++ [c])).length = 1 * 2 ^ i
              rw [List.flatMap_cons, List.length_append, List.length_map, seen_len, List.flatMap_nil, List.length_nil]
              omega
          refine ⟨rfl, yes_of ?_⟩
          refine ⟨_, rfl, l, rfl, ⟨_, SqL.of (S4 _ _ (S0 _ _ eT))⟩, ?_⟩
          refine turns_list (K := K) (a := l) (xs := T.map TRow.v) (fun j H5 => ∃ T5 : List TRow, H5 D0 = some (.lst (T5.map TRow.v)) ∧ T5.map Prod.snd = T4.map Prod.snd ++ (((seenD i).take j).map (· ++ [cc])).map blsD ∧ (∀ q' ∈ T5, Dat H5 q'.v q'.2) ∧ Same G' H5)
            ⟨T4, e4, by simp, D4, S4⟩ (fun j H5 _ ⟨_, _, _, _, S5⟩ => SqL.of (S5 _ _ (S0 _ _ eT))) ?_ ?_
          · rintro j x5 H5 hx5 ⟨T5, e5, d5, D5, S5⟩
            rw [List.getElem?_map] at hx5
            obtain ⟨y, hy, rfl⟩ := Option.map_eq_some_iff.mp hx5
            have ey : ((seenD i).map blsD)[j]? = some y.2 := by rw [← dT, List.getElem?_map, hy]; rfl
            obtain ⟨p, hp, ep⟩ := get_map ey
            have Dy := DT y (List.mem_of_getElem? hy)
            rw [ep] at Dy
            obtain ⟨t, et, e1⟩ := bls_row Dy
            have lpp : p.length ≤ 500 := by rw [seen_bits i p (List.mem_of_getElem? hp)]; omega
            have jl : j < (seenD i).length := (List.getElem?_eq_some_iff.mp hp).1
            rw [seen_len] at jl
            have len5 : T5.length = k * 2 ^ i + j := by
              rw [← List.length_map (f := Prod.snd), d5, List.length_append, List.length_map, List.length_map, List.length_map, len4, List.length_take, seen_len, Nat.min_eq_left (Nat.le_of_lt jl)]
            have kk : k * 2 ^ i ≤ 128 := Nat.le_trans (Nat.mul_le_mul_right _ (show k ≤ 1 by omega)) (by omega)
            rw [et]
            refine ⟨rfl, yes_of ?_⟩
            refine ⟨_, rfl, _, rfl, (by show 1 ≤ sizeLine; decide), fun t1 ht1 => ?_⟩
            refine cat_bl ((same_new ht1) _ _ (S5 _ _ (S0 _ _ e1))) upd_same lpp fun r1 H6 S7 D6 => ?_
            have S57 : Same H5 H6 := (same_new ht1).trans S7
            have e6 := S57 _ _ e5
            refine ⟨_, e6, by rw [List.length_map, len5]; exact small1000 (by omega), T5 ++ [(r1, blsD (p ++ [cc]))], by rw [upd_same, List.map_append]; rfl, ?_, fun q' hq' => ?_, same_upd (S5.trans S57) hD0⟩
            · rw [List.map_append, d5, take_next hp, List.map_append, List.map_append, List.append_assoc]
              rfl
            · rcases List.mem_append.mp hq' with m | m
              · have kq : keyable q'.2 = true := by
                  have m2 : q'.2 ∈ T5.map Prod.snd := List.mem_map_of_mem m
                  rw [d5, d4, ← List.map_append] at m2
                  obtain ⟨z, _, hz⟩ := List.mem_map.mp m2
                  rw [← hz]
                  exact keyable_bls z
                exact dat_upd e6 kq ((D5 q' m).same S57)
              · cases List.mem_singleton.mp m
                exact dat_upd e6 (keyable_bls _) D6
          · rintro H5 ⟨T5, e5, d5, D5, S5⟩
            have tk : (seenD i).take (T.map TRow.v).length = seenD i := by
              rw [List.length_map, lenT, ← seen_len]
              exact List.take_length
            rw [tk] at d5
            refine ⟨T5, e5, ?_, D5, S5⟩
            rw [d5, d4, take_next hcc, List.flatMap_append, List.map_append, List.flatMap_cons, List.flatMap_nil, List.append_nil]
        · rintro H4 ⟨T4, e4, d4, D4, S4⟩
          have e : ([false, true].take [V.bl false, V.bl true].length).flatMap (fun c => (seenD i).map (· ++ [c])) = seenD (i + 1) := by
            show [false, true].flatMap (fun c => (seenD i).map (· ++ [c])) = _
            rw [List.flatMap_cons, List.flatMap_cons, List.flatMap_nil, List.append_nil]
            rfl
          rw [e] at d4
          exact ⟨D0, _, _, _, rfl, (R.S.trans S0).trans S4, (R.S.trans S0).free hD0, T4, e4, d4, D4⟩
      · rintro σ H' ⟨l, o2, o3, o4, rfl, R⟩
        rw [List.length_map] at R
        exact ⟨_, rfl, q l H' R⟩
end
end S1

set_option Elab.async false
set_option linter.all false
set_option maxRecDepth 100000
set_option maxHeartbeats 4000000
/-! all copies, as the program lists them -/
namespace S1
open PySem PySem.W PySem.Spec PyProof.Rows L2
abbrev Cpy := Str × List Bool
def cpD (c : Cpy) : PyData := .tuple [.str c.1, blsD c.2]
def copD (os : List Own) : List Cpy := os.flatMap fun o => (seenD o.2.length).map fun t => (o.1, t)
theorem keyable_cp (c : Cpy) : keyable (cpD c) = true := by
  show (true && (keyable (blsD c.2) && true)) = true
  rw [keyable_bls]
  rfl
theorem cop_len : ∀ os : List Own, (copD os).length = copies os
  | [] => rfl
  | o :: os => by
    show ((o :: os).flatMap _).length = _
    rw [List.flatMap_cons, List.length_append, List.length_map, seen_len]
    show _ + (copD os).length = _
    rw [cop_len os]
    rfl
theorem copies_take (os : List Own) (j : Nat) : copies (os.take j) ≤ copies os := by
  unfold copies
  have e : os.map (fun o : Own => 2 ^ o.2.length) = (os.take j).map (fun o : Own => 2 ^ o.2.length) ++ (os.drop j).map (fun o : Own => 2 ^ o.2.length) := by rw [← List.map_append, List.take_append_drop]
  rw [e, List.sum_append]
  omega
def spAllCopies : Sp := fun vs H Q _ => ∃ (v : V) (s : Say), vs = [v] ∧ DatS H v s ∧ SayOk 6 8 120 40 s ∧ ∀ (l : Addr) (H' : Hp), Rows H H' l ((copD s.owns).map cpD) → Q (.ref l) H'
section
variable {P : Program} {w : World} {K : PySem.W.Frag} {mg : Str → Option Value} {base : Heap}
theorem scAllCopies : FnScope ["saying", "name", "sight", "truths"] ["saying"] (defScope sAllCopies) := ⟨rfl, rfl, rfl, by decide +kernel, rfl, by decide +kernel, by decide +kernel⟩
theorem ok_allCopies {f fA : Addr} {fd fdA : FuncData} (F : Fun K "all_copies" "all_copies" sAllCopies f fd) (As : Has K mg "all_seen" sAllSeen ["sight"] fA fdA) : FnOk P w K mg base CX0 2 f fd ["saying"] spAllCopies := by
  have GA : FnOk P w K mg base CX0 1 fA fdA ["sight"] spAllSeen := ok_allSeen As.F
  refine F.ok scAllCopies (fun vs H Q E h => ?_) (fun cdv A outer s H vs Q E hr h => ?_)
  · obtain ⟨v, sy, rfl, _⟩ := h
    rfl
  · obtain ⟨v, sy, rfl, D, ok, q⟩ := h
    refine ⟨_, pss_one (ps_ret (pe_lc2 (own := [("name", 1), ("sight", 2), ("truths", 3)]) (vs1 := [3]) (g := gTup K 2 (gCons (gName 1) (gCons (gName 2) gNil))) (tt := tYes) (g1 := gName 3) (tt1 := tYes) (wi1 := iList K (tCall spAllSeen [] E0 (tCons (tVar 2) tNil))) (te := tTup (tCons (tVar 1) (tCons (tVar 3) tNil)))
          rfl scAllCopies.nd (pi_tup (pe_ix ix_tup (pv 0) pe_int (fun _ _ => rfl))) (blkOk_by (N := ["saying", "name", "sight", "truths"]) (sc := defScope sAllCopies) (by decide +kernel)) (by decide)
          (fun _ _ _ _ _ => by exact pg_tup rfl (pgs_cons (pg_name (i := 1) scAllCopies.nd rfl (.inl rfl)) (pgs_cons (pg_name (i := 2) scAllCopies.nd rfl (.inl rfl)) pgs_nil))) (fun _ _ _ _ _ => pts_nil)
          (fun _ _ _ _ _ => by exact pi_list (pe_call GA (by exact hr) (by rfl) As.g As.F.kp As.b .nil pass0 (pa_cons (pv 2) pa_nil)))
          (fun _ _ _ _ _ => pg_name (i := 3) scAllCopies.nd rfl (Or.inl rfl)) (fun _ _ _ _ _ => pts_nil) (fun _ _ _ _ _ => by exact pe_tup (pa_cons (pv 1) (pa_cons (pv 3) pa_nil))))), ?_⟩
    obtain ⟨a, pk, ow, c, rfl, ea, Dp, Do, Dc⟩ := say_row D
    obtain ⟨b, us, rfl, eb, Db⟩ := Do
    have lu : us.length = sy.owns.length := by rw [Db.len, List.length_map]
    have lo := ok.ol
    have oc := ok.oc
    refine ⟨_, rfl, a, _, 1, _, rfl, rfl, SqT.of ea, rfl, b, rfl, ⟨_, FT.sq eb⟩, fun D0 hD0 => ?_⟩
    refine turns_tup (K := K) (a := b) (xs := us) (fun j H4 => ∃ T4 : List TRow, H4 D0 = some (.lst (T4.map TRow.v)) ∧ T4.map Prod.snd = (copD (sy.owns.take j)).map cpD ∧ (∀ q' ∈ T4, Dat H4 q'.v q'.2) ∧ Same H H4)
      ⟨[], upd_same, rfl, fun q' hq' => absurd hq' (by simp), same_new hD0⟩ (fun j H4 _ ⟨_, _, _, _, S4⟩ => FT.sq (FT.same eb S4)) ?_ ?_
    · rintro j x4 H4 hx4 ⟨T4, e4, d4, D4, S4⟩
      obtain ⟨d, hd, Dx⟩ := dats_get' Db j x4 hx4
      obtain ⟨o, ho, rfl⟩ := get_map hd
      obtain ⟨t, rfl⟩ := tuple_ref (ds := [.str o.1, nmsD o.2]) Dx
      obtain ⟨t', g1, g2⟩ := own_row (q := (t, ownD o)) rfl Dx
      have Ds : Dat H (.ref t') (nmsD o.2) := .tup g2 (dats_strs o.2)
      have og := ok.own (List.mem_of_getElem? ho)
      have ole := og.le
      have opl := ok.pl
      have tkj : sy.owns.take (j + 1) = sy.owns.take j ++ [o] := take_next ho
      have len4 : T4.length = copies (sy.owns.take j) := by rw [← List.length_map (f := Prod.snd), d4, List.length_map, cop_len]
      have cj := copies_take sy.owns (j + 1)
      rw [tkj, copies_snoc] at cj
      refine ⟨t, _, rfl, SqT.of (S4 _ _ g1), rfl, _, _, rfl, _, _, rfl, rfl, rfl, yes_of ?_⟩
      refine ⟨_, rfl, .ref t', o.2, rfl, Ds.same S4, by omega, fun l H5 R => ⟨l, rfl, ?_⟩⟩
      obtain ⟨T, eT, dT, DT⟩ := R.ex
      have lenT : T.length = 2 ^ o.2.length := by rw [← List.length_map (f := Prod.snd), dT, List.length_map, seen_len]
      refine ⟨⟨_, SqL.of eT⟩, ?_⟩
      have hD5 := R.S _ _ e4
      have nlD : l ≠ D0 := fun z => by
        have z2 := R.new
        rw [z, e4] at z2
        cases z2
      refine turns_list (K := K) (a := l) (xs := T.map TRow.v) (fun i H6 => ∃ T6 : List TRow, H6 D0 = some (.lst (T6.map TRow.v)) ∧ T6.map Prod.snd = T4.map Prod.snd ++ (((seenD o.2.length).take i).map fun t => (o.1, t)).map cpD ∧ (∀ q' ∈ T6, Dat H6 q'.v q'.2) ∧ Same H H6 ∧ H6 l = some (.lst (T.map TRow.v)) ∧ (∀ q' ∈ T, Dat H6 q'.v q'.2))
        ⟨T4, hD5, by simp, fun q' hq' => (D4 q' hq').same R.S, S4.trans R.S, eT, DT⟩ (fun i H6 _ ⟨_, _, _, _, _, z, _⟩ => SqL.of z) ?_ ?_
      · rintro i x6 H6 hx6 ⟨T6, e6, d6, D6, S6, el6, DT6⟩
        rw [List.getElem?_map] at hx6
        obtain ⟨y, hy, rfl⟩ := Option.map_eq_some_iff.mp hx6
        have ey : ((seenD o.2.length).map blsD)[i]? = some y.2 := by rw [← dT, List.getElem?_map, hy]; rfl
        obtain ⟨p, hp, ep⟩ := get_map ey
        have il : i < (seenD o.2.length).length := (List.getElem?_eq_some_iff.mp hp).1
        rw [seen_len] at il
        have len6 : T6.length = copies (sy.owns.take j) + i := by
          rw [← List.length_map (f := Prod.snd), d6, List.length_append, List.length_map, List.length_map, List.length_map, len4, List.length_take, seen_len, Nat.min_eq_left (Nat.le_of_lt il)]
        refine ⟨rfl, yes_of ?_⟩
        refine ⟨_, rfl, _, rfl, (by show 2 ≤ sizeLine; decide), fun t1 ht1 => ?_⟩
        have S7 := same_new (o := .tup [V.str o.1, y.v]) ht1
        have e7 := S7 _ _ e6
        have Dy := DT6 y (List.mem_of_getElem? hy)
        rw [ep] at Dy
        have kT : ∀ q' ∈ T, keyable q'.2 = true := fun q' hq' => by
          have m2 : q'.2 ∈ (seenD o.2.length).map blsD := dT ▸ List.mem_map_of_mem hq'
          obtain ⟨z, _, hz⟩ := List.mem_map.mp m2
          rw [← hz]
          exact keyable_bls z
        refine ⟨_, e7, by rw [List.length_map, len6]; exact small1000 (by omega), T6 ++ [(t1, cpD (o.1, p))], by rw [upd_same, List.map_append]; rfl, ?_, fun q' hq' => ?_, same_upd (S6.trans S7) hD0, ?_, fun q' hq' => dat_upd e7 (kT q' hq') ((DT6 q' hq').same S7)⟩
        · rw [List.map_append, d6, take_next hp, List.map_append, List.map_append, List.append_assoc]
          rfl
        · rcases List.mem_append.mp hq' with m | m
          · have kq : keyable q'.2 = true := by
              have m2 : q'.2 ∈ T6.map Prod.snd := List.mem_map_of_mem m
              rw [d6, d4, ← List.map_append] at m2
              obtain ⟨z, _, hz⟩ := List.mem_map.mp m2
              rw [← hz]
              exact keyable_cp z
            exact dat_upd e7 kq ((D6 q' m).same S7)
          · cases List.mem_singleton.mp m
            refine dat_upd e7 (keyable_cp _) (.tup upd_same (.cons (.str o.1) (.cons (Dy.same S7) .nil)))
        · rw [upd_ne nlD]
          exact S7 _ _ el6
      · rintro H6 ⟨T6, e6, d6, D6, S6, _, _⟩
        have tk : (seenD o.2.length).take (T.map TRow.v).length = seenD o.2.length := by
          rw [List.length_map, lenT, ← seen_len]
          exact List.take_length
        rw [tk] at d6
        refine ⟨T6, e6, ?_, D6, S6⟩
        rw [d6, d4, tkj, ← List.map_append]
        congr 1
        show _ = (sy.owns.take j ++ [o]).flatMap _
        rw [List.flatMap_append, List.flatMap_cons, List.flatMap_nil, List.append_nil]
        rfl
    · rintro H4 ⟨T4, e4, d4, D4, S4⟩
      rw [lu, List.take_length] at d4
      exact q D0 H4 ⟨S4, hD0, T4, e4, d4, D4⟩
end
end S1

set_option Elab.async false
set_option linter.all false
set_option maxRecDepth 100000
set_option maxHeartbeats 4000000
/-! what an own sees of a play, as the program tells it -/
namespace S1
open PySem PySem.W PySem.Spec PyProof.Rows L2
/-- what a sight has of a play -/
def seesD (ps si : List Str) (bs : List Bool) : List Bool := ((ps.zip bs).filter fun x => decide (x.1 ∈ si)).map Prod.snd
theorem tlt_asym {x y : Str} (h : tlt x y) (h' : tlt y x) : False := tlt_irrefl x (by
  unfold tlt at h h' ⊢
  exact List.lt_trans h h')
theorem tru_pos {p : Str} {ps : List Str} {b : Bool} {bs : List Bool} : truOf (p :: ps) (b :: bs) p = some b := by simp [truOf]
theorem tru_neg {p x : Str} {ps : List Str} {b : Bool} {bs : List Bool} (h : p ≠ x) : truOf (p :: ps) (b :: bs) x = truOf ps bs x := by simp [truOf, h]
theorem sees_skip (s : Str) : ∀ (ps si : List Str) (bs : List Bool), s ∉ ps → seesD ps (s :: si) bs = seesD ps si bs := fun ps si bs h => by
  unfold seesD
  congr 1
  refine List.filter_congr fun x hx => ?_
  have hm : x.1 ∈ ps := (List.of_mem_zip (show (x.1, x.2) ∈ ps.zip bs from hx)).1
  have hne : x.1 ≠ s := fun e => h (e ▸ hm)
  simp [hne]
/-- the truths of the picks that are seen, pick by pick -/
theorem sees_is : ∀ (ps si : List Str) (bs : List Bool), ps.Pairwise tlt → si.Pairwise tlt → (∀ x ∈ si, x ∈ ps) → bs.length = ps.length → si.map (fun x => truOf ps bs x) = (seesD ps si bs).map some
  | [], si, bs, _, _, sub, _ => by
    cases si with
    | nil => rfl
    | cons x si => exact absurd (sub x List.mem_cons_self) (by simp)
  | p :: ps, si, [], _, _, _, l => by simp at l
  | p :: ps, [], b :: bs, _, _, _, _ => by
    have e : seesD (p :: ps) [] (b :: bs) = [] := by simp [seesD]
    rw [e]
    rfl
  | p :: ps, s :: si, b :: bs, up, us, sub, l => by
    have up' := List.pairwise_cons.mp up
    have us' := List.pairwise_cons.mp us
    have pn : p ∉ ps := fun h => tlt_irrefl p (up'.1 p h)
    have l' : bs.length = ps.length := by simpa using l
    by_cases e : p = s
    · subst e
      have ne : ∀ x ∈ si, p ≠ x := fun x hx z => tlt_irrefl p (by have := us'.1 x hx; rwa [← z] at this)
      have sub' : ∀ x ∈ si, x ∈ ps := fun x hx => (List.mem_cons.mp (sub x (List.mem_cons_of_mem _ hx))).elim (fun z => absurd z.symm (ne x hx)) id
      have e1 : seesD (p :: ps) (p :: si) (b :: bs) = b :: seesD ps (p :: si) bs := by simp [seesD]
      rw [e1, sees_skip p ps si bs pn, List.map_cons, List.map_cons, tru_pos, ← sees_is ps si bs up'.2 us'.2 sub' l']
      congr 1
      exact List.map_congr_left fun x hx => tru_neg (ne x hx)
    · have sp : s ∈ ps := (List.mem_cons.mp (sub s List.mem_cons_self)).elim (fun z => absurd z.symm e) id
      have ne : ∀ x ∈ s :: si, p ≠ x := fun x hx z => by
        rcases List.mem_cons.mp hx with h | h
        · exact e (z.trans h)
        · exact tlt_asym (up'.1 s sp) (by have := us'.1 x h; rwa [← z] at this)
      have sub' : ∀ x ∈ s :: si, x ∈ ps := fun x hx => (List.mem_cons.mp (sub x hx)).elim (fun z => absurd z.symm (ne x hx)) id
      have e1 : seesD (p :: ps) (s :: si) (b :: bs) = seesD ps (s :: si) bs := by
        have z : p ∉ s :: si := fun h => ne p h rfl
        simp only [seesD, List.zip_cons_cons]
        rw [List.filter_cons_of_neg (by simpa using z)]
      rw [e1, ← sees_is ps (s :: si) bs up'.2 us sub' l']
      exact List.map_congr_left fun x hx => tru_neg (ne x hx)
def spSeenBy : Sp := fun vs H Q _ => ∃ (v : V) (d : Addr) (ps si : List Str) (bs : List Bool), vs = [v, .ref d] ∧ Dat H v (nmsD si) ∧ Rd H d (.dK (truK ps bs)) ∧ ps.Pairwise tlt ∧ si.Pairwise tlt ∧ (∀ x ∈ si, x ∈ ps) ∧ bs.length = ps.length ∧ si.length ≤ 1000 ∧
  ∀ (r : V) (H' : Hp), Same H H' → Dat H' r (blsD (seesD ps si bs)) → Q r H'
section
variable {P : Program} {w : World} {K : PySem.W.Frag} {mg : Str → Option Value} {base : Heap}
theorem scSeenBy : FnScope ["sight", "truths", "pick"] ["sight", "truths"] (defScope sSeenBy) := ⟨rfl, rfl, rfl, by decide +kernel, rfl, by decide +kernel, by decide +kernel⟩
theorem same_rd {H H' : Hp} {a : Addr} {u : HO} (S : Same H H') (h : Rd H a u) : Rd H' a u := h.elim (fun e => .inl (S _ _ e)) fun ⟨o, e⟩ => .inr ⟨o, S _ _ e⟩
theorem ok_seenBy {f : Addr} {fd : FuncData} (F : Fun K "seen_by" "seen_by" sSeenBy f fd) (B : Blt mg) : FnOk P w K mg base CX0 1 f fd ["sight", "truths"] spSeenBy := by
  refine F.ok scSeenBy (fun vs H Q E h => ?_) (fun cdv A outer s H vs Q E hr h => ?_)
  · obtain ⟨v, d, ps, si, bs, rfl, _⟩ := h
    rfl
  · obtain ⟨v, d, ps, si, bs, rfl, D, hd, up, us, sub, hl, len, q⟩ := h
    have hu : (A.deeper (envOfC "seen_by" (defScope sSeenBy) s.heap.objs.size f cdv)).units + 1 < cLine := by
      have h64 : (A.deeper (envOfC "seen_by" (defScope sSeenBy) s.heap.objs.size f cdv)).units + 64 < cLine := hr.units
      omega
    refine ⟨_, pss_one (ps_ret (pe_tupleOf rfl B.tuple (pe_lc (own := [("pick", 2)]) (g := gName 2) (tt := tYes) (te := tDGet (tVar 1) (tVar 2)) rfl scSeenBy.nd
      (pi_tup (pv 0)) (blkOk_by (N := ["sight", "truths", "pick"]) (sc := defScope sSeenBy) (by decide +kernel)) (fun _ _ _ _ _ => pg_name (i := 2) scSeenBy.nd rfl (Or.inl rfl))
      (fun _ _ _ _ _ => pts_nil) (fun _ _ _ _ _ => by exact pe_dget (by exact hu) (pv 1) (pv 2) (fun _ _ => rfl))))), ?_⟩
    obtain ⟨a, us', rfl, ea, Da⟩ := dat_tup (ds := si.map PyData.str) D
    cases dats_strs_eq Da
    have e0 := sees_is ps si bs up us sub hl
    have l0 : (seesD ps si bs).length = si.length := by
      have := congrArg List.length e0
      simpa using this.symm
    refine ⟨_, rfl, a, rfl, ⟨_, SqT.of ea⟩, fun D0 hD0 => lc_mapT (K := K) (ys := (seesD ps si bs).map V.bl) (SqT.of ea) hD0 (by rw [List.length_map, List.length_map, l0]) (by rw [List.length_map]; exact len) (fun i x y H4 Qe hx hy S4 k => ?_) gName_mono (fun H6 e6 S6 => ?_)⟩
    · rw [List.getElem?_map] at hx hy
      obtain ⟨n, hn, rfl⟩ := Option.map_eq_some_iff.mp hx
      obtain ⟨b, hb, rfl⟩ := Option.map_eq_some_iff.mp hy
      have z : truOf ps bs n = some b := by
        have h1 : (si.map (fun x => truOf ps bs x))[i]? = some (truOf ps bs n) := by rw [List.getElem?_map, hn]; rfl
        have h2 : ((seesD ps si bs).map some)[i]? = some (some b) := by rw [List.getElem?_map, hb]; rfl
        rw [e0, h2] at h1
        exact (Option.some.inj h1).symm
      refine ⟨rfl, _, rfl, _, rfl, d, .bl b, rfl, .inl ⟨truK ps bs, .inr n, same_rd S4 hd, rfl, ?_⟩, k H4 (Same.refl _)⟩
      rw [tru_val, z]
      rfl
    · exact .inl ⟨D0, _, rfl, SqL.of e6, fun t1 ht1 => q _ _ (S6.trans (same_new ht1)) (.tup upd_same (dats_bls _))⟩
end
end S1

set_option Elab.async false
set_option linter.all false
set_option maxRecDepth 100000
set_option maxHeartbeats 4000000
/-! list(text); list.count of a list of truths -/
namespace L2
open PySem PySem.W PySem.Spec PyProof.Rows
section
variable {X : Cx}
def signV (x : Str) : List V := x.cps.toList.map fun c => V.str ⟨#[c]⟩
theorem vals_signs {x : Str} {acc : Array Value} (h : ItemsOf (SignAt x) acc x.cps.size) : Vals (signV x) acc.toList := by
  refine vals_of_idx _ _ (by rw [Array.length_toList, h.1, signV, List.length_map, Array.length_toList]) fun j u hj => ?_
  obtain ⟨c, t, hc, rfl⟩ := h.2 j u (by rw [← Array.getElem?_toList]; exact hj)
  refine ⟨V.str ⟨#[c]⟩, ?_, ⟨t, rfl⟩⟩
  rw [signV, List.getElem?_map, Array.getElem?_toList, hc]
  rfl
/-- list(x), x a text: a new list of its signV -/
def rListStr : List V → Hp → VK → Prop := fun xs H Q => ∃ x : Str, xs = [.str x] ∧ x.cps.size ≤ sizeLine ∧ ∀ l, H l = none → Q (.ref l) (upd H l (.lst (signV x)))
theorem call_listStr (hc : X.calm = true) : CallR X (.type "list") rListStr := by
  intro pins s σ H xs us Q I r h
  obtain ⟨x, rfl, hn, q⟩ := h
  obtain ⟨u, rfl, rx⟩ := vals1 r
  obtain ⟨t, rfl⟩ := rx
  refine call_list_str (I.ok.hd hc) x t (fun h' tk acc c' kp e ia => ?_) hn
  have rv := vals_signs ia
  exact ⟨.ref s.heap.objs.size, _, I.laid (t' := tk) kp (Nat.le_refl _) (show ObjOk X.prog X.w _ h' _ (.lst (signV x)) from ⟨by rw [signV, List.length_map, Array.length_toList]; exact hn, acc.toList, c', rv, by simpa using e⟩), rfl, q _ (I.hok.fresh (Nat.le_refl _))⟩
theorem bls_vals : ∀ {bs : List Bool} {us : List Value}, Vals (bs.map V.bl) us → us = bs.map Value.bool
  | [], _, .nil => rfl
  | b :: bs, _, .cons r t => by
    cases (show _ = Value.bool b from r)
    rw [bls_vals t, List.map_cons]
/-- xs.count(b), xs a list of truths -/
def rCntB (K : PySem.W.Frag) : V → List V → Hp → VK → Prop := fun x xs H Q => ∃ (p : Addr) (bs : List Bool) (k : Bool), x = .ref p ∧ xs = [.bl k] ∧ SqL K H p (bs.map V.bl) ∧ Q (.int (bs.count k : Nat)) H
theorem mt_lcountB : MtR X "list.count" (rCntB X.K) := by
  intro pins s σ H x xs v us Q I rx rxs h
  obtain ⟨p, bs, k, rfl, rfl, hs, q⟩ := h
  cases rx
  obtain ⟨u, rfl, ru⟩ := rxs.one
  cases (show u = Value.bool k from ru)
  obtain ⟨its, rv, ⟨⟨cls, dd, data, sl⟩, n, ho, hc, hdn, hd⟩, hlen⟩ := I.list hs
  simp only at hc hd
  subst hc hd
  have e := bls_vals rv
  subst e
  refine call_meets PySem.F.slot_list_count ⟨_, ho, rfl⟩ PySem.F.entry_list_count (PySem.F.args_list_count_2 _ _)
    (SeqAt.list_countAt p (bs.map Value.bool).toArray n dd sl (.bool k) (isBoolOf k)) ⟨ho, fun y hy => ?_, ?_⟩
  · obtain ⟨b, _, rfl⟩ := List.mem_map.mp (show y ∈ bs.map Value.bool by simpa using hy)
    exact SeqAt.EqAt.bool_bool b k
  · have ec : (bs.map Value.bool).toArray.toList.countP (isBoolOf k) = bs.count k := by
      rw [List.toList_toArray, List.countP_map, List.count]
      rfl
    refine ⟨.int (bs.count k : Nat), H, I.tok _, ⟨s.toks, ?_⟩, q⟩
    show Value.int (((bs.map Value.bool).toArray.toList.countP (isBoolOf k) : Nat) : Int) s.toks = Value.int ((bs.count k : Nat) : Int) s.toks
    rw [ec]
end
end L2

set_option Elab.async false
set_option linter.all false
set_option maxRecDepth 100000
set_option maxHeartbeats 4000000
/-! a heap off another one by draws and new things; parts drawn out of lists -/
namespace S1
open PySem PySem.W PySem.Spec PyProof.Rows L2
/-- G comes of H by draws at p and by new things -/
structure Dr (H : Hp) (p : Addr) (c : Nat) (G : Hp) : Prop where
  s : Src G p c
  m : Same (del H p) (del G p)
section
variable {H G : Hp} {p : Addr} {c c' : Nat}
theorem Dr.start (h : Src H p c) : Dr H p c H := ⟨h, Same.refl _⟩
theorem Dr.up (d : Dr H p c G) (le : c ≤ c') : Dr H p c' G := ⟨d.s.mono rfl le, d.m⟩
theorem Dr.src {o : HO} (d : Dr H p c G) (h : Src (upd G p o) p c') : Dr H p c' (upd G p o) := ⟨h, sd_at d.m⟩
theorem Dr.ne {l : Addr} (d : Dr H p c G) (h : G l = none) : l ≠ p := (d.s.ne h).symm
theorem Dr.free {l : Addr} (d : Dr H p c G) (h : G l = none) : H l = none := sd_free d.m h (d.ne h)
theorem Dr.new {l : Addr} {o : HO} (d : Dr H p c G) (h : G l = none) : Dr H p c (upd G l o) :=
  ⟨d.s.mono (upd_ne (d.ne h).symm) (Nat.le_refl _), sd_new d.m h (d.ne h)⟩
theorem Dr.put {l : Addr} {o : HO} (d : Dr H p c G) (h : H l = none) (n : l ≠ p) : Dr H p c (upd G l o) :=
  ⟨d.s.mono (upd_ne n.symm) (Nat.le_refl _), sd_put d.m h⟩
theorem Dr.keep {x : Addr} {o : HO} (d : Dr H p c G) (e : H x = some o) (n : x ≠ p) : G x = some o := by
  have z := d.m x o (by rw [del_ne n]; exact e)
  rwa [del_ne n] at z
theorem Dr.dat {c0 : Nat} (d : Dr H p c G) (h : Src H p c0) {v : V} {u : PyData} (k : keyable u = true) (D : Dat H v u) : Dat G v u := dat_src h d.m k D
theorem Dr.trans {G2 : Hp} (d : Dr H p c G) (d2 : Dr G p c' G2) : Dr H p c' G2 := ⟨d2.s, d.m.trans d2.m⟩
theorem Dr.same {G2 : Hp} (d : Dr H p c G) (S : Same G G2) : Dr H p c G2 := by
  obtain ⟨xs, hx⟩ := d.s.lst
  exact ⟨d.s.mono (by rw [hx, S _ _ hx]) (Nat.le_refl _), d.m.trans (sd_of S)⟩
end
theorem Src.nes {H : Hp} {p l : Addr} {c : Nat} {xs : List Str} (h : Src H p c) (e : H l = some (.lst (xs.map V.str))) : l ≠ p := fun z => by
  obtain ⟨a, b, d, hp, _⟩ := h.at_
  rw [z, hp] at e
  injection e with e
  injection e with e
  cases xs with
  | nil => cases e
  | cons x xs =>
    rw [List.map_cons] at e
    injection e with e
    cases e
def spLPick : Sp := fun vs H Q _ => ∃ (p l : Addr) (c : Nat) (is : List Int), vs = [.ref p, .ref l] ∧ Src H p c ∧ c ≤ 90000 ∧ H l = some (.lst (is.map V.int)) ∧ l ≠ p ∧ 0 < is.length ∧ is.length ≤ 100 ∧
  ∀ (i : Int) (o : HO), i ∈ is → Src (upd H p o) p (c + 1) → Q (.int i) (upd H p o)
def spLot : Sp := fun vs H Q _ => ∃ (p l : Addr) (c : Nat) (xs : List Str), vs = [.ref p, .ref l] ∧ Src H p c ∧ c ≤ 90000 ∧ H l = some (.lst (xs.map V.str)) ∧ xs.length ≤ 100 ∧
  ∀ (b : Addr) (ys : List Str) (H' : Hp), ys.Sublist xs → H b = none → H' b = some (.lst (ys.map V.str)) → Dr H p (c + 1 + xs.length) H' → Q (.ref b) H'
def spLetters : Sp := fun vs H Q _ => ∃ (p l : Addr) (c : Nat) (xs : List Str), vs = [.ref p, .ref l] ∧ Src H p c ∧ c ≤ 90000 ∧ H l = some (.lst (xs.map V.str)) ∧ xs.length ≤ 100 ∧
  ∀ (b : Addr) (T : List TRow) (cl : List Ltr) (H' : Hp), H b = none → H' b = some (.lst (T.map TRow.v)) → T.map Prod.snd = cl.map ltD → cl.map Prod.fst = xs → (∀ q ∈ T, Dat H' q.v q.2) → Dr H p (c + xs.length) H' → Q (.ref b) H'
def spLSome (K : PySem.W.Frag) : Sp := fun vs H Q _ => ∃ (p l : Addr) (c : Nat) (xs : List Str) (m : Nat), vs = [.ref p, .ref l, .int m] ∧ Src H p c ∧ c ≤ 90000 ∧ (SqL K H l (xs.map V.str) ∨ SqT K H l (xs.map V.str)) ∧ xs.Nodup ∧ xs.length ≤ 100 ∧ m ≤ 1000 ∧
  ∀ (b : Addr) (ys : List Str) (H' : Hp), ys.Nodup → (∀ y ∈ ys, y ∈ xs) → ys.length ≤ xs.length → H b = none → H' b = some (.lst (ys.map V.str)) → Dr H p (c + 1 + xs.length) H' → Q (.ref b) H'
section
variable {P : Program} {w : World} {K : PySem.W.Frag} {mg : Str → Option Value} {base : Heap}
theorem scLPick : FnScope ["tank", "things"] ["tank", "things"] (defScope sLPick) := ⟨rfl, rfl, rfl, by decide +kernel, rfl, by decide +kernel, by decide +kernel⟩
theorem scLot : FnScope ["tank", "things", "way", "thing"] ["tank", "things"] (defScope sLot) := ⟨rfl, rfl, rfl, by decide +kernel, rfl, by decide +kernel, by decide +kernel⟩
theorem scLetters : FnScope ["tank", "names", "name"] ["tank", "names"] (defScope sLetters) := ⟨rfl, rfl, rfl, by decide +kernel, rfl, by decide +kernel, by decide +kernel⟩
theorem scLSome : FnScope ["tank", "names", "most", "left", "found", "turn"] ["tank", "names", "most"] (defScope sLSome) := ⟨rfl, rfl, rfl, by decide +kernel, rfl, by decide +kernel, by decide +kernel⟩
theorem ok_lPick {f fP : Addr} {fd fdP : FuncData} (F : Fun K "_law_pick" "_law_pick" sLPick f fd) (Pk : Has K mg "_law_drop" sDrop ["tank", "many"] fP fdP) (B : Blt mg) : FnOk P w K mg base CX0 2 f fd ["tank", "things"] spLPick := by
  have GP : FnOk P w K mg base CX0 1 fP fdP ["tank", "many"] spPick := ok_pick Pk.F B
  refine F.ok scLPick (fun vs H Q E h => ?_) (fun cdv A outer s H vs Q E hr h => ?_)
  · obtain ⟨p, l, c, xs, rfl, _⟩ := h
    rfl
  · obtain ⟨p, l, c, xs, rfl, hs, hc, hl, npl, h0, h1, q⟩ := h
    refine ⟨_, pss_one (ps_ret (pe_ix ix_list (pv 1) (pe_call GP hr rfl Pk.g Pk.F.kp Pk.b .nil pass0 (pa_cons (pv 0) (pa_cons (pe_callB call_len_seq (by rfl) B.len (by decide +kernel) (pa_cons (pv 1) pa_nil)) pa_nil))) (fun _ _ => rfl))), ?_⟩
    refine ⟨_, rfl, _, rfl, _, rfl, _, _, rfl, .inl (SqL.of hl), p, _, _, rfl, hs, by omega, by rw [List.length_map]; omega, by rw [List.length_map]; omega, fun r o r0 r1 hp1 => ?_⟩
    rw [List.length_map] at r1
    obtain ⟨v, hv, hm, _⟩ := at_ok (xs := xs.map V.int) r0 (by rw [List.length_map]; exact r1)
    obtain ⟨z, hz, rfl⟩ := List.mem_map.mp hm
    exact ⟨l, _, r, _, rfl, rfl, SqL.of (by rw [upd_ne npl]; exact hl), hv, q z o hz hp1⟩
theorem ok_lot {f fP : Addr} {fd fdP : FuncData} (F : Fun K "_law_lot" "_law_lot" sLot f fd) (Pk : Has K mg "_law_drop" sDrop ["tank", "many"] fP fdP) (B : Blt mg) : FnOk P w K mg base CX0 2 f fd ["tank", "things"] spLot := by
  have GP : FnOk P w K mg base CX0 1 fP fdP ["tank", "many"] spPick := ok_pick Pk.F B
  refine F.ok scLot (fun vs H Q E h => ?_) (fun cdv A outer s H vs Q E hr h => ?_)
  · obtain ⟨p, l, c, xs, rfl, _⟩ := h
    rfl
  · obtain ⟨p, l, c, xs, rfl, hs, hc, hl, h1, q⟩ := h
    refine ⟨_, pss_cons (ps_set (i := 2) scLot.nd rfl (.inl rfl) (pe_call GP hr rfl Pk.g Pk.F.kp Pk.b .nil pass0 (pa_cons (pv 0) (pa_cons pe_int pa_nil))))
      (pss_cons (ps_if (pt_cmpR op_lt (pv 2) pe_int (nomark _)) (pss_one (ps_ret (pe_ifExp (pt_cmpR op_eq (pv 2) pe_int (nomark _)) (pe_callTy call_list_of (by rfl) B.list (by decide +kernel) (pa_cons (pv 1) pa_nil)) (pe_lst pa_nil)))) pss_nil)
      (pss_one (ps_ret (pe_lc (own := [("thing", 3)]) (g := gName 3) rfl scLot.nd (pi_list (pv 1)) (blkOk_by (N := ["tank", "things", "way", "thing"]) (sc := defScope sLot) (by decide +kernel))
            (fun _ _ _ _ _ => pg_name (i := 3) scLot.nd rfl (Or.inl rfl)) (fun _ _ _ _ _ => pts_one (pt_cmpR op_eq (pe_call GP (by exact hr) (by rfl) Pk.g Pk.F.kp Pk.b .nil pass0 (pa_cons (pv 0) (pa_cons pe_int pa_nil))) pe_int (nomark _))) (fun _ _ _ _ _ => pv 3))))), ?_⟩
    have npl := hs.nes hl
    refine ⟨_, rfl, p, _, 6, rfl, hs, by omega, by decide, by decide, fun r o _ _ hp1 => ?_⟩
    have d1 : Dr H p (c + 1) (upd H p o) := (Dr.start hs).src hp1
    have el1 : upd H p o l = some (.lst (xs.map V.str)) := by rw [upd_ne npl]; exact hl
    generalize upd H p o = H1 at d1 el1 ⊢
    refine ⟨_, rfl, _, _, rfl, rfl, _, rfl, ?_⟩
    refine ite2 (fun _ => ?_) (fun _ => ?_)
    · refine ⟨_, rfl, rfl, _, rfl, ?_⟩
      refine ite2 (fun _ => ?_) (fun _ => ?_)
      · refine ⟨_, rfl, l, _, rfl, .inl (SqL.of el1), fun b hb => ?_⟩
        exact q b xs _ (List.Sublist.refl _) (d1.free hb) upd_same ((d1.new hb).up (by omega))
      · refine ⟨(by show 0 ≤ sizeLine; decide), fun b hb => ?_⟩
        exact q b [] _ (List.nil_sublist _) (d1.free hb) upd_same ((d1.new hb).up (by omega))
    · refine ⟨_, rfl, l, rfl, ⟨_, SqL.of el1⟩, fun D hD => ?_⟩
      have D0 := d1.free hD
      have Dp := d1.ne hD
      have nlD : l ≠ D := ne_of_none el1 hD
      refine lc_list (K := K) (a := l) (xs := xs.map V.str) (fun j H4 => ∃ ys : List Str, H4 D = some (.lst (ys.map V.str)) ∧ ys.Sublist (xs.take j) ∧ Dr H p (c + 1 + j) H4 ∧ H4 l = some (.lst (xs.map V.str))) ⟨[], upd_same, List.nil_sublist _, d1.new hD, by rw [upd_ne nlD]; exact el1⟩
        (fun j H4 _ ⟨_, _, _, _, e⟩ => SqL.of e) ?_ ?_
      · rintro j x H4 hx ⟨ys, eD, sub, d4, el4⟩
        rw [List.getElem?_map] at hx
        obtain ⟨y, hy, rfl⟩ := Option.map_eq_some_iff.mp hx
        have jl : j < xs.length := (List.getElem?_eq_some_iff.mp hy).1
        refine ⟨rfl, _, rfl, p, _, 2, rfl, d4.s, by omega, by decide, by decide, fun k4 o4 _ _ hp4 => ⟨rfl, _, rfl, ?_⟩⟩
        have d5 := d4.src hp4
        have eD5 : upd H4 p o4 D = some (.lst (ys.map V.str)) := by rw [upd_ne Dp]; exact eD
        have el5 : upd H4 p o4 l = some (.lst (xs.map V.str)) := by rw [upd_ne npl]; exact el4
        have tk : xs.take (j + 1) = xs.take j ++ [y] := take_next hy
        refine ite2 (fun _ => ?_) (fun _ => ?_)
        · refine ⟨_, rfl, _, eD5, ?_, ys ++ [y], by rw [upd_same, List.map_append]; rfl, by rw [tk]; exact sub.append (List.Sublist.refl _), (d5.put D0 Dp).up (by omega), by rw [upd_ne nlD]; exact el5⟩
          rw [List.length_map]
          have := sub.length_le
          rw [List.length_take] at this
          exact small1000 (by omega)
        · exact ⟨ys, eD5, by rw [tk]; exact sub.trans (List.sublist_append_left _ _), d5.up (by omega), el5⟩
      · rintro H4 ⟨ys, eD, sub, d4, el4⟩
        rw [List.length_map] at d4
        exact q D ys H4 (sub.trans (List.take_sublist _ _)) D0 eD d4
theorem ok_letters {f fP : Addr} {fd fdP : FuncData} (F : Fun K "_law_letters" "_law_letters" sLetters f fd) (Pk : Has K mg "_law_drop" sDrop ["tank", "many"] fP fdP) (B : Blt mg) : FnOk P w K mg base CX0 2 f fd ["tank", "names"] spLetters := by
  have GP : FnOk P w K mg base CX0 1 fP fdP ["tank", "many"] spPick := ok_pick Pk.F B
  refine F.ok scLetters (fun vs H Q E h => ?_) (fun cdv A outer s H vs Q E hr h => ?_)
  · obtain ⟨p, l, c, xs, rfl, _⟩ := h
    rfl
  · obtain ⟨p, l, c, xs, rfl, hs, hc, hl, h1, q⟩ := h
    refine ⟨_, pss_one (ps_ret (pe_lc (own := [("name", 2)]) (g := gName 2) (tt := tYes) rfl scLetters.nd (pi_list (pv 1)) (blkOk_by (N := ["tank", "names", "name"]) (sc := defScope sLetters) (by decide +kernel))
            (fun _ _ _ _ _ => pg_name (i := 2) scLetters.nd rfl (Or.inl rfl)) (fun _ _ _ _ _ => pts_nil)
            (fun _ _ _ _ _ => pe_tup (pa_cons (pv 2) (pa_cons (pe_cmpR op_eq (pe_call GP (by exact hr) (by rfl) Pk.g Pk.F.kp Pk.b .nil pass0 (pa_cons (pv 0) (pa_cons pe_int pa_nil))) pe_int (nomark _)) pa_nil))))), ?_⟩
    have npl := hs.nes hl
    refine ⟨_, rfl, l, rfl, ⟨_, SqL.of hl⟩, fun D hD => ?_⟩
    have d1 := Dr.start hs
    have Dp := d1.ne hD
    have nlD : l ≠ D := ne_of_none hl hD
    refine lc_list (K := K) (a := l) (xs := xs.map V.str) (fun j H4 => ∃ (T : List TRow) (cl : List Ltr), H4 D = some (.lst (T.map TRow.v)) ∧ T.map Prod.snd = cl.map ltD ∧ cl.map Prod.fst = xs.take j ∧ (∀ q ∈ T, Dat H4 q.v q.2) ∧ Dr H p (c + j) H4 ∧ H4 l = some (.lst (xs.map V.str)))
      ⟨[], [], upd_same, rfl, rfl, fun q hq => absurd hq (by simp), d1.new hD, by rw [upd_ne nlD]; exact hl⟩ (fun j H4 _ ⟨_, _, _, _, _, _, _, e⟩ => SqL.of e) ?_ ?_
    · rintro j x H4 hx ⟨T, cl, eD, eT, ecl, hT, d4, el4⟩
      rw [List.getElem?_map] at hx
      obtain ⟨y, hy, rfl⟩ := Option.map_eq_some_iff.mp hx
      have jl : j < xs.length := (List.getElem?_eq_some_iff.mp hy).1
      have kq : ∀ q ∈ T, keyable q.2 = true := fun q hq => by
        have m : q.2 ∈ cl.map ltD := eT ▸ List.mem_map_of_mem hq
        obtain ⟨x, _, hx⟩ := List.mem_map.mp m
        rw [← hx]
        rfl
      refine ⟨rfl, yes_of ⟨_, rfl, _, rfl, p, _, 2, rfl, d4.s, by omega, by decide, by decide, fun k4 o4 _ _ hp4 => ⟨rfl, (by show 2 ≤ sizeLine; decide), fun t ht => ?_⟩⟩⟩
      have d5 := d4.src hp4
      have eD5 : upd H4 p o4 D = some (.lst (T.map TRow.v)) := by rw [upd_ne Dp]; exact eD
      have el5 : upd H4 p o4 l = some (.lst (xs.map V.str)) := by rw [upd_ne npl]; exact el4
      have hT5 : ∀ q ∈ T, Dat (upd H4 p o4) q.v q.2 := fun q hq => by
        obtain ⟨zs, hz⟩ := d4.s.lst
        exact dat_upd hz (kq q hq) (hT q hq)
      generalize upd H4 p o4 = H5 at d5 eD5 el5 hT5 ht ⊢
      have nDt : D ≠ t := ne_of_none eD5 ht
      have nlt : l ≠ t := ne_of_none el5 ht
      have d6 := d5.new (o := .tup [.str y, .bl (decide (V.int k4 = V.int 0))]) ht
      have eD6 : upd H5 t (.tup [.str y, .bl (decide (V.int k4 = V.int 0))]) D = some (.lst (T.map TRow.v)) := by rw [upd_ne nDt]; exact eD5
      have lT : T.length = j := by
        rw [← List.length_map (f := Prod.snd), eT, List.length_map, ← List.length_map (f := Prod.fst), ecl, List.length_take]
        omega
      refine ⟨_, eD6, by rw [List.length_map, lT]; exact small1000 (by omega), T ++ [(t, ltD (y, decide (V.int k4 = V.int 0)))], cl ++ [(y, decide (V.int k4 = V.int 0))], by rw [upd_same, List.map_append]; rfl, by rw [List.map_append, List.map_append, eT]; rfl,
        by rw [List.map_append, ecl, take_next hy]; rfl, fun q hq => ?_, (d6.put (d1.free hD) Dp).up (by omega), by rw [upd_ne nlD, upd_ne nlt]; exact el5⟩
      rcases List.mem_append.mp hq with m | m
      · exact dat_upd eD6 (kq q m) (dat_new ht (hT5 q m))
      · cases List.mem_singleton.mp m
        exact dat_upd eD6 rfl (.tup (xs := [.str y, .bl (decide (V.int k4 = V.int 0))]) upd_same (.cons (.str _) (.cons (.bl _) .nil)))
    · rintro H4 ⟨T, cl, eD, eT, ecl, hT, d4, el4⟩
      rw [List.length_map] at ecl d4
      rw [List.take_length] at ecl
      exact q D T cl H4 (d1.free hD) eD eT ecl hT d4
theorem ok_lSome {f fP : Addr} {fd fdP : FuncData} (F : Fun K "_law_some" "_law_some" sLSome f fd) (Pk : Has K mg "_law_drop" sDrop ["tank", "many"] fP fdP) (B : Blt mg) : FnOk P w K mg base CX0 2 f fd ["tank", "names", "most"] (spLSome K) := by
  have GP : FnOk P w K mg base CX0 1 fP fdP ["tank", "many"] spPick := ok_pick Pk.F B
  refine F.ok scLSome (fun vs H Q E h => ?_) (fun cdv A outer s H vs Q E hr h => ?_)
  · obtain ⟨p, l, c, xs, m, rfl, _⟩ := h
    rfl
  · obtain ⟨p, l, c, xs, m, rfl, hs, hc, hl, nd, h1, hm, q⟩ := h
    refine ⟨_, pss_cons (ps_par (i := 3) (j := 4) (by rfl) scLSome.nd rfl rfl (by decide) rfl rfl (pa_cons (pe_callTy call_list_of (by rfl) B.list (by decide +kernel) (pa_cons (pv 1) pa_nil)) (pa_cons (pe_lst pa_nil) pa_nil)) (by rfl))
      (pss_cons (ps_for PassesOwn.never rfl (pi_range1 rfl B.range (pa_cons (pe_callB (call_min2 rfl) (by rfl) B.min (by decide +kernel) (pa_cons (pe_callB call_len_seq (by rfl) B.len (by decide +kernel) (pa_cons (pv 3) pa_nil))
            (pa_cons (pe_call GP hr rfl Pk.g Pk.F.kp Pk.b .nil pass0 (pa_cons (pv 0) (pa_cons (pe_op op_add (pv 2) pe_int) pa_nil))) pa_nil))) pa_nil)) (pg_name (i := 5) scLSome.nd rfl (.inl rfl))
        (pss_one (ps_expr (pe_bm PySem.F.plainAttrs_list PySem.F.slot_list_append PySem.F.type_list_append mt_append (pv 4) (pa_cons
          (pe_bm PySem.F.plainAttrs_list PySem.F.slot_list_pop PySem.F.type_list_pop mt_popAt (pv 3) (pa_cons (pe_call GP hr rfl Pk.g Pk.F.kp Pk.b .nil pass0 (pa_cons (pv 0) (pa_cons (pe_callB call_len_seq (by rfl) B.len (by decide +kernel) (pa_cons (pv 3) pa_nil)) pa_nil))) pa_nil)) pa_nil)))))
      (pss_one (ps_ret (pv 4)))), ?_⟩
    have d0 := Dr.start hs
    refine ⟨_, rfl, l, _, rfl, hl, fun aL hL => ⟨(by show 0 ≤ sizeLine; decide), fun aF hF => ⟨_, _, rfl, ?_⟩⟩⟩
    have Lp := d0.ne hL
    have d1 := d0.new (o := .lst (xs.map V.str)) hL
    have Fp := d1.ne hF
    have hF0 := d1.free hF
    have nLF : aL ≠ aF := ne_of_none upd_same hF
    have d2 := d1.new (o := .lst []) hF
    refine gen_heap (F := fun G => Dr H p c G ∧ G aL = some (.lst (xs.map V.str)) ∧ G aF = some (.lst [])) ⟨d2, by rw [upd_ne nLF, upd_same], upd_same⟩ (fun G ⟨dG, gL, gF⟩ => ?_)
    refine ⟨_, rfl, _, _, rfl, .inl (SqL.of gL), _, rfl, _, rfl, _, _, rfl, rfl, p, _, _, rfl, dG.s, by omega, by omega, by omega, fun r o r0 r1 hp1 => ?_⟩
    have d3 := dG.src hp1
    have eL3 : upd G p o aL = some (.lst (xs.map V.str)) := by rw [upd_ne Lp]; exact gL
    have eF3 : upd G p o aF = some (.lst ([] : List V)) := by rw [upd_ne Fp]; exact gF
    generalize upd G p o = H3 at d3 eL3 eF3 ⊢
    rw [List.length_map]
    obtain ⟨n, en, hn⟩ : ∃ n : Nat, (if (r : Int) < (xs.length : Int) then r else (xs.length : Int)) = (n : Int) ∧ n ≤ xs.length := by
      split
      · exact ⟨r.toNat, by omega, by omega⟩
      · exact ⟨xs.length, rfl, Nat.le_refl _⟩
    refine ⟨_, _, rfl, ?_⟩
    show ∃ n : Int, _
    rw [en]
    refine ⟨_, rfl, by omega, by omega, ?_⟩
    refine for_range (lo := 0) (n := n) (fun i σ H' => ∃ (L W : List Str) (o5 : Option V), σ = [some (.ref p), some (.ref l), some (.int m), some (.ref aL), some (.ref aF), o5] ∧
        H' aL = some (.lst (L.map V.str)) ∧ H' aF = some (.lst (W.map V.str)) ∧ W.length = i ∧ i ≤ n ∧ (W ++ L).Perm xs ∧ Dr H p (c + 1 + i) H') ?_ ?_ ?_
    · exact ⟨xs, [], _, rfl, eL3, eF3, rfl, Nat.zero_le _, List.Perm.refl _, d3⟩
    · rintro i σ H' hi ⟨L, W, o5, rfl, eL, eF, hW, hin, pm, d4⟩
      have len : W.length + L.length = xs.length := by rw [← List.length_append, pm.length_eq]
      refine ⟨_, rfl, .inl ⟨rfl, _, SqL.of eF⟩, _, rfl, .inl ⟨rfl, _, SqL.of eL⟩, _, rfl, _, rfl, _, _, rfl, .inl (SqL.of eL), p, _, _, rfl, d4.s, by omega, by rw [List.length_map]; omega, by rw [List.length_map]; omega, fun k o k0 k1 hp1 => ?_⟩
      rw [List.length_map] at k1
      have kl : k.toNat < L.length := by omega
      have pp := pop_perm L k.toNat kl
      have d5 := d4.src hp1
      have eL5 : upd H' p o aL = some (.lst (L.map V.str)) := by rw [upd_ne Lp]; exact eL
      have eF5 : upd H' p o aF = some (.lst (W.map V.str)) := by rw [upd_ne Fp]; exact eF
      refine ⟨aL, _, k, k.toNat, .str L[k.toNat], rfl, rfl, eL5, by omega, by omega, by rw [List.length_map]; exact seq_nat k0 k1, by rw [List.getElem?_map, List.getElem?_eq_getElem kl]; rfl, ?_⟩
      rw [map_erase]
      refine ⟨aF, _, _, rfl, rfl, by rw [upd_ne nLF.symm]; exact eF5, by rw [List.length_map]; exact small1000 (by omega), ?_⟩
      refine ⟨L.eraseIdx k.toNat, W ++ [L[k.toNat]], _, rfl, by rw [upd_ne nLF, upd_same], by rw [upd_same, List.map_append]; rfl, by rw [List.length_append, hW]; rfl, by omega, ?_, ((d5.put (d0.free hL) Lp).put hF0 Fp).up (by omega)⟩
      rw [List.append_assoc]
      exact ((List.Perm.refl W).append pp.symm).trans pm
    · rintro σ H' ⟨L, W, o5, rfl, eL, eF, hW, hin, pm, d4⟩
      have ndW : (W ++ L).Nodup := pm.nodup_iff.mpr nd
      refine ⟨_, rfl, q aF W H' (List.nodup_append.mp ndW).1 (fun y hy => pm.mem_iff.mp (List.mem_append_left _ hy)) (by omega) hF0 eF (d4.up (by omega))⟩
end
end S1

set_option Elab.async false
set_option linter.all false
set_option maxRecDepth 100000
set_option maxHeartbeats 4000000
/-! unlike names, drawn -/
namespace S1
open PySem PySem.W PySem.Spec PyProof.Rows L2
theorem app_tl (x y : Str) : (x ++ y).cps.toList = x.cps.toList ++ y.cps.toList := by
  show (x.cps ++ y.cps).toList = _
  rw [Array.toList_append]
theorem str_ext {x y : Str} (h : x.cps.toList = y.cps.toList) : x = y := by
  cases x; cases y
  congr 1
  exact Array.toList_inj.mp h
def abcN : List Nat := ("abcdefghijklmnopqrstuvwxyz" : Str).cps.toList
theorem abcN_az : ∀ c ∈ abcN, 97 ≤ c ∧ c ≤ 122 := by decide +kernel
theorem abcN_nd : abcN.Nodup := by decide +kernel
theorem abcN_len : abcN.length = 26 := by decide +kernel
theorem abc_signs : signV "abcdefghijklmnopqrstuvwxyz" = (abcN.map sg).map V.str := by
  rw [List.map_map]
  rfl
theorem nm_two {x y : Str} (h1 : 1 ≤ x.cps.size + y.cps.size) (h2 : x.cps.size + y.cps.size ≤ 8) (hx : ∀ c ∈ x.cps.toList, 97 ≤ c ∧ c ≤ 122) (hy : ∀ c ∈ y.cps.toList, 97 ≤ c ∧ c ≤ 122) : Nm (x ++ y) := by
  have e : (x ++ y).length = x.cps.size + y.cps.size := by
    show (x.cps ++ y.cps).size = _
    rw [Array.size_append]
  refine ⟨by rw [e]; exact h1, by rw [e]; exact h2, fun c hc => ?_⟩
  rw [app_tl] at hc
  rcases List.mem_append.mp hc with z | z
  · exact hx c z
  · exact hy c z
/-- a word that is put to each letter -/
structure Wd (x : Str) : Prop where
  le : x.cps.size ≤ 7
  az : ∀ c ∈ x.cps.toList, 97 ≤ c ∧ c ≤ 122
def behind (x : Str) : List Str := abcN.map fun c => x ++ sg c
def ahead (x : Str) : List Str := abcN.map fun c => sg c ++ x
/-- names to draw from -/
structure Pot (L : List Str) : Prop where
  nd : L.Nodup
  nm : ∀ x ∈ L, Nm x
  lo : 16 ≤ L.length
  hi : L.length ≤ 26
theorem sg_az {c : Nat} (h : c ∈ abcN) : ∀ d ∈ (sg c).cps.toList, 97 ≤ d ∧ d ≤ 122 := fun d hd => by
  have e : d = c := by simpa using hd
  rw [e]
  exact abcN_az c h
theorem pot_behind {x : Str} (W : Wd x) : Pot (behind x) := by
  have nd : (behind x).Nodup := by
    refine List.pairwise_map.mpr (abcN_nd.imp ?_)
    intro c d ne z
    refine ne ?_
    have e := congrArg (fun s : Str => s.cps.toList) z
    simp only [app_tl] at e
    have e2 := List.append_cancel_left e
    simpa using e2
  refine ⟨nd, fun y hy => ?_, by rw [behind, List.length_map, abcN_len]; decide, by rw [behind, List.length_map, abcN_len]; decide⟩
  · obtain ⟨c, hc, rfl⟩ := List.mem_map.mp hy
    exact nm_two (by simp) (by have := W.le; simp; omega) W.az (sg_az hc)
theorem pot_ahead {x : Str} (W : Wd x) : Pot (ahead x) := by
  have nd : (ahead x).Nodup := by
    refine List.pairwise_map.mpr (abcN_nd.imp ?_)
    intro c d ne z
    refine ne ?_
    have e := congrArg (fun s : Str => s.cps.toList) z
    simp only [app_tl] at e
    have e2 := List.append_cancel_right e
    simpa using e2
  refine ⟨nd, fun y hy => ?_, by rw [ahead, List.length_map, abcN_len]; decide, by rw [ahead, List.length_map, abcN_len]; decide⟩
  · obtain ⟨c, hc, rfl⟩ := List.mem_map.mp hy
    exact nm_two (by simp) (by have := W.le; simp; omega) (sg_az hc) W.az
def pot0 : List Str := ["a", "b", "ab", "ba", "x", "xy", "xyz", "q", "qq", "abcdefgh", "abcdefgi", "m", "z", "k", "aa", "yes"]
theorem pot_pot0 : Pot pot0 := by
  refine ⟨by decide +kernel, fun x hx => ?_, by decide +kernel, by decide +kernel⟩
  have z : (pot0.all nmB) = true := by decide +kernel
  exact nm_of (List.all_eq_true.mp z x hx)
theorem branchH {c : Prop} [Decidable c] {t u : TS} {D : Ends} {σ : L2.St} {H : Hp} (F : Hp → Prop) (hF : F H) (I : L2.St → Hp → Prop) (R : ∀ σ' H', I σ' H' → D.nx σ' H') (h1 : c → ∀ G, F G → (∀ σ' H', I σ' H' → D.nx σ' H') → t D σ G)
    (h2 : ¬ c → ∀ G, F G → (∀ σ' H', I σ' H' → D.nx σ' H') → u D σ G) : if c then t D σ H else u D σ H := by
  by_cases h : c
  · rw [if_pos h]; exact h1 h _ hF R
  · rw [if_neg h]; exact h2 h _ hF R
def spNames : Sp := fun vs H Q _ => ∃ (p : Addr) (c n : Nat), vs = [.ref p, .int n] ∧ Src H p c ∧ c ≤ 80000 ∧ n ≤ 14 ∧
  ∀ (b : Addr) (ws : List Str) (H' : Hp), ws.length = n → ws.Nodup → (∀ x ∈ ws, Nm x) → H b = none → H' b = some (.lst (ws.map V.str)) → Dr H p (c + 30) H' → Q (.ref b) H'
abbrev tLen (K : PySem.W.Frag) (i : Nat) : TE := tCB (fun xs H Q => ∃ p ys, xs = [V.ref p] ∧ (SqL K H p ys ∨ SqT K H p ys) ∧ Q (V.int ys.length) H) (tCons (tVar i) tNil)
abbrev nNames : List Str := ["tank", "many", "left", "letters", "word", "turn", "letter"]
section
variable {P : Program} {w : World} {K : PySem.W.Frag} {mg : Str → Option Value} {base : Heap}
theorem scNames : FnScope nNames ["tank", "many"] (defScope sNames) := ⟨rfl, rfl, rfl, by decide +kernel, rfl, by decide +kernel, by decide +kernel⟩
theorem ok_names {f fP : Addr} {fd fdP : FuncData} (F : Fun K "_law_names" "_law_names" sNames f fd) (Pk : Has K mg "_law_drop" sDrop ["tank", "many"] fP fdP) (B : Blt mg) : FnOk P w K mg base CX0 2 f fd ["tank", "many"] spNames := by
  have GP : FnOk P w K mg base CX0 1 fP fdP ["tank", "many"] spPick := ok_pick Pk.F B
  refine F.ok scNames (fun vs H Q E h => ?_) (fun cdv A outer s H vs Q E hr h => ?_)
  · obtain ⟨p, c, n, rfl, _⟩ := h
    rfl
  · obtain ⟨p, c, n, rfl, hs, hc, hn, q⟩ := h
    refine ⟨_, pss_cons (ps_set (i := 2) scNames.nd rfl (.inr rfl) (pe_lst (pa_cons pe_str (pa_cons pe_str (pa_cons pe_str (pa_cons pe_str (pa_cons pe_str (pa_cons pe_str (pa_cons pe_str (pa_cons pe_str (pa_cons pe_str (pa_cons pe_str
          (pa_cons pe_str (pa_cons pe_str (pa_cons pe_str (pa_cons pe_str (pa_cons pe_str (pa_cons pe_str pa_nil))))))))))))))))))
      (pss_cons (ps_if (pt_cmpR op_eq (pe_call GP hr rfl Pk.g Pk.F.kp Pk.b .nil pass0 (pa_cons (pv 0) (pa_cons pe_int pa_nil))) pe_int (nomark _))
        (pss_cons (ps_set (i := 3) scNames.nd rfl (.inr rfl) (pe_callTy (call_listStr rfl) (by rfl) B.list (by decide +kernel) (pa_cons pe_str pa_nil)))
        (pss_cons (ps_set (i := 4) scNames.nd rfl (.inr rfl) (pe_join pe_str (pe_lc (own := [("turn", 5)]) (g := gName 5) (tt := tYes) (te := tOp (rIxL K) (tVar 3) (tCall spPick [] E0 (tCons (tVar 0) (tCons (tC (V.int 26)) tNil)))) rfl scNames.nd
            (pi_range1 rfl B.range (pa_cons (pe_call GP hr rfl Pk.g Pk.F.kp Pk.b .nil pass0 (pa_cons (pv 0) (pa_cons pe_int pa_nil))) pa_nil))
            (blkOk_by (N := nNames) (sc := defScope sNames) (by decide +kernel)) (fun _ _ _ _ _ => pg_name (i := 5) scNames.nd rfl (.inl rfl)) (fun _ _ _ _ _ => pts_nil)
            (fun _ _ _ _ _ => by exact pe_ix ix_list (pv 3) (pe_call GP (by exact hr) (by rfl) Pk.g Pk.F.kp Pk.b .nil pass0 (pa_cons (pv 0) (pa_cons pe_int pa_nil))) (fun _ _ => rfl)))))
        (pss_cons (ps_set (i := 2) scNames.nd rfl (.inr rfl) (pe_lc (own := [("letter", 6)]) (g := gName 6) (tt := tYes) rfl scNames.nd (pi_list (pv 3)) (blkOk_by (N := nNames) (sc := defScope sNames) (by decide +kernel))
            (fun _ _ _ _ _ => pg_name (i := 6) scNames.nd rfl (.inl rfl)) (fun _ _ _ _ _ => pts_nil) (fun _ _ _ _ _ => pe_op op_add_str (pv 4) (pv 6))))
        (pss_one (ps_if (pt_cmpR op_eq (pe_call GP hr rfl Pk.g Pk.F.kp Pk.b .nil pass0 (pa_cons (pv 0) (pa_cons pe_int pa_nil))) pe_int (nomark _))
          (pss_one (ps_set (i := 2) scNames.nd rfl (.inr rfl) (pe_lc (own := [("letter", 6)]) (g := gName 6) (tt := tYes) rfl scNames.nd (pi_list (pv 3)) (blkOk_by (N := nNames) (sc := defScope sNames) (by decide +kernel))
            (fun _ _ _ _ _ => pg_name (i := 6) scNames.nd rfl (.inl rfl)) (fun _ _ _ _ _ => pts_nil) (fun _ _ _ _ _ => pe_op op_add_str (pv 6) (pv 4))))) pss_nil))))) pss_nil)
      (pss_one (ps_ret (pe_lc (own := [("turn", 5)]) (g := gName 5) (tt := tYes) (te := tBM K "list" rPopAt (tVar 2) (tCons (tCall spPick [] E0 (tCons (tVar 0) (tCons (tLen K 2) tNil))) tNil)) rfl scNames.nd
            (pi_range1 rfl B.range (pa_cons (pv 1) pa_nil)) (blkOk_by (N := nNames) (sc := defScope sNames) (by decide +kernel)) (fun _ _ _ _ _ => pg_name (i := 5) scNames.nd rfl (.inl rfl)) (fun _ _ _ _ _ => pts_nil)
            (fun _ _ _ _ _ => by exact pe_bm PySem.F.plainAttrs_list PySem.F.slot_list_pop PySem.F.type_list_pop mt_popAt (pv 2) (pa_cons (pe_call GP (by exact hr) (by rfl) Pk.g Pk.F.kp Pk.b .nil pass0 (pa_cons (pv 0) (pa_cons (pe_callB call_len_seq (by rfl) B.len (by decide +kernel) (pa_cons (pv 2) pa_nil)) pa_nil))) pa_nil)))))), ?_⟩
    have d0 := Dr.start hs
    refine ⟨(by show 16 ≤ sizeLine; decide), fun l0 hl0 => ?_⟩
    have d1 := d0.new (o := .lst (pot0.map V.str)) hl0
    have l0p := d0.ne hl0
    have e1 : upd H l0 (.lst (pot0.map V.str)) l0 = some (.lst (pot0.map V.str)) := upd_same
    refine ⟨_, rfl, p, _, 3, rfl, d1.s, by omega, by decide, by decide, fun r o _ _ hp1 => ⟨rfl, _, rfl, ?_⟩⟩
    have d2 := d1.src hp1
    have e2 : upd (upd H l0 (.lst (pot0.map V.str))) p o l0 = some (.lst (pot0.map V.str)) := by rw [upd_ne l0p]; exact e1
    refine branchH (fun G => Dr H p (c + 1) G ∧ G l0 = some (.lst (pot0.map V.str))) ⟨d2, e2⟩ (fun σ' H3 => ∃ (aL : Addr) (L : List Str) (o3 o4 o5 o6 : Option V), σ' = [some (.ref p), some (.int n), some (.ref aL), o3, o4, o5, o6] ∧ H aL = none ∧ H3 aL = some (.lst (L.map V.str)) ∧ Pot L ∧ Dr H p (c + 12) H3) ?_ (fun _ H2 ⟨d2, e2⟩ R => ?_) (fun _ H2 ⟨d2, e2⟩ R => ?_)
    · rintro σ' H3 ⟨aL, L, o3, o4, o5, o6, rfl, hL, eL, PL, d3⟩
      have aLp : aL ≠ p := fun z => by
        obtain ⟨xs, hx⟩ := hs.lst
        rw [z, hx] at hL
        cases hL
      refine ⟨_, rfl, _, rfl, by omega, by omega, fun D hD => ?_⟩
      have Dp := d3.ne hD
      have hD0 := d3.free hD
      have nLD : aL ≠ D := ne_of_none eL hD
      refine lc_range (lo := 0) (n := ((n : Nat) : Int).toNat) (fun i H4 => ∃ (L1 W : List Str), H4 D = some (.lst (W.map V.str)) ∧ H4 aL = some (.lst (L1.map V.str)) ∧ W.length = i ∧ (W ++ L1).Perm L ∧ Dr H p (c + 12 + i) H4) ?_ ?_ ?_
      · exact ⟨L, [], upd_same, by rw [upd_ne nLD]; exact eL, rfl, List.Perm.refl _, d3.new hD⟩
      · rintro i H4 hi ⟨L1, W, eD, eL4, hW, pm, d4⟩
        have len : W.length + L1.length = L.length := by rw [← List.length_append, pm.length_eq]
        have := PL.lo
        have := PL.hi
        refine ⟨rfl, yes_of ?_⟩
        refine ⟨_, rfl, .inl ⟨rfl, _, SqL.of eL4⟩, _, rfl, _, rfl, _, _, rfl, .inl (SqL.of eL4), p, _, _, rfl, d4.s, by omega, by rw [List.length_map]; omega, by rw [List.length_map]; omega, fun k o k0 k1 hp5 => ?_⟩
        rw [List.length_map] at k1
        have kl : k.toNat < L1.length := by omega
        have pp := pop_perm L1 k.toNat kl
        have d5 := d4.src hp5
        have eL5 : upd H4 p o aL = some (.lst (L1.map V.str)) := by rw [upd_ne aLp]; exact eL4
        have eD5 : upd H4 p o D = some (.lst (W.map V.str)) := by rw [upd_ne Dp]; exact eD
        refine ⟨aL, _, k, k.toNat, .str L1[k.toNat], rfl, rfl, eL5, by omega, by omega, by rw [List.length_map]; exact seq_nat k0 k1, by rw [List.getElem?_map, List.getElem?_eq_getElem kl]; rfl, ?_⟩
        rw [map_erase]
        refine ⟨_, by rw [upd_ne nLD.symm]; exact eD5, by rw [List.length_map]; exact small1000 (by omega), L1.eraseIdx k.toNat, W ++ [L1[k.toNat]], by rw [upd_same, List.map_append]; rfl, by rw [upd_ne nLD, upd_same], by rw [List.length_append, hW]; rfl, ?_, ((d5.put hL aLp).put hD0 Dp).up (by omega)⟩
        rw [List.append_assoc]
        exact ((List.Perm.refl W).append pp.symm).trans pm
      · rintro H4 ⟨L1, W, eD, eL4, hW, pm, d4⟩
        have ndW : (W ++ L1).Nodup := pm.nodup_iff.mpr PL.nd
        exact q D W H4 (by omega) (List.nodup_append.mp ndW).1 (fun y hy => PL.nm y (pm.mem_iff.mp (List.mem_append_left _ hy))) hD0 eD (d4.up (by omega))
    · refine ⟨_, rfl, by decide +kernel, fun aA hA => ?_⟩
      rw [abc_signs]
      have Ap := d2.ne hA
      have d3 := d2.new (o := .lst ((abcN.map sg).map V.str)) hA
      have eA : upd H2 aA (.lst ((abcN.map sg).map V.str)) aA = some (.lst ((abcN.map sg).map V.str)) := upd_same
      refine ⟨⟨_, rfl⟩, _, rfl, p, _, 8, rfl, d3.s, by omega, by decide, by decide, fun r2 o2 r20 r21 hp3 => ⟨_, rfl, by omega, by omega, fun D hD => ?_⟩⟩
      have d4 := d3.src hp3
      have eA4 : upd (upd H2 aA (.lst ((abcN.map sg).map V.str))) p o2 aA = some (.lst ((abcN.map sg).map V.str)) := by rw [upd_ne Ap]; exact eA
      generalize upd (upd H2 aA (.lst ((abcN.map sg).map V.str))) p o2 = H4 at d4 eA4 hD ⊢
      have Dp := d4.ne hD
      have hD0 := d4.free hD
      have nAD : aA ≠ D := ne_of_none eA4 hD
      refine lc_range (lo := 0) (n := r2.toNat) (fun j H5 => ∃ cs : List Nat, H5 D = some (.lst ((cs.map sg).map V.str)) ∧ cs.length = j ∧ (∀ x ∈ cs, 97 ≤ x ∧ x ≤ 122) ∧ H5 aA = some (.lst ((abcN.map sg).map V.str)) ∧ Dr H p (c + 2 + j) H5) ?_ ?_ ?_
      · exact ⟨[], upd_same, rfl, fun x hx => absurd hx (by simp), by rw [upd_ne nAD]; exact eA4, d4.new hD⟩
      · rintro j H5 hj ⟨cs, eD, hcs, az, eA5, d5⟩
        refine ⟨rfl, yes_of ?_⟩
        refine ⟨_, rfl, _, rfl, p, _, 26, rfl, d5.s, by omega, by decide, by decide, fun r4 o4 r40 r41 hp6 => ?_⟩
        have d6 := d5.src hp6
        have kl : r4.toNat < abcN.length := by rw [abcN_len]; omega
        have hv := atI_nat (xs := (abcN.map sg).map V.str) (j := r4.toNat) (v := V.str (sg abcN[r4.toNat])) (by rw [List.getElem?_map, List.getElem?_map, List.getElem?_eq_getElem kl]; rfl)
        rw [Int.toNat_of_nonneg r40] at hv
        refine ⟨aA, _, r4, _, rfl, rfl, SqL.of (by rw [upd_ne Ap]; exact eA5), hv, _, by rw [upd_ne Dp]; exact eD, by rw [List.length_map, List.length_map]; exact small1000 (by omega), cs ++ [abcN[r4.toNat]], ?_, by rw [List.length_append, hcs]; rfl, fun x hx => ?_, by rw [upd_ne nAD, upd_ne Ap]; exact eA5, (d6.put hD0 Dp).up (by omega)⟩
        · rw [upd_same, List.map_append, List.map_append]; rfl
        · rcases List.mem_append.mp hx with z | z
          · exact az x z
          · cases List.mem_singleton.mp z
            exact abcN_az _ (List.getElem_mem _)
      · rintro H5 ⟨cs, eD, hcs, az, eA5, d5⟩
        refine ⟨_, D, _, rfl, rfl, .inl (SqL.of eD), by rw [join_len]; show cs.length + _ * 0 ≤ 16777216; omega, ?_⟩
        rw [join_one]
        have W : Wd ⟨cs.toArray⟩ := ⟨by simp; omega, by simpa using az⟩
        generalize (⟨cs.toArray⟩ : Str) = x at W ⊢
        have d7 := d5.up (show c + 2 + r2.toNat ≤ c + 10 by omega)
        clear eD
        refine ⟨_, rfl, aA, rfl, ⟨_, SqL.of eA5⟩, fun D2 hD2 => ?_⟩
        have D2p := d7.ne hD2
        have hD20 := d7.free hD2
        have nA2 : aA ≠ D2 := ne_of_none eA5 hD2
        refine lc_list (K := K) (a := aA) (xs := (abcN.map sg).map V.str) (fun j H6 => H6 D2 = some (.lst ((((behind x).take j)).map V.str)) ∧ H6 aA = some (.lst ((abcN.map sg).map V.str)) ∧ Dr H p (c + 10) H6) ⟨upd_same, by rw [upd_ne nA2]; exact eA5, d7.new hD2⟩ (fun j H6 _ ⟨_, e, _⟩ => SqL.of e) ?_ ?_
        · rintro j y H6 hy ⟨eD2, eA6, d8⟩
          rw [List.getElem?_map] at hy
          obtain ⟨y1, hy1, rfl⟩ := Option.map_eq_some_iff.mp hy
          rw [List.getElem?_map] at hy1
          obtain ⟨ch, hch, rfl⟩ := Option.map_eq_some_iff.mp hy1
          have jl : j < 26 := by rw [← abcN_len]; exact (List.getElem?_eq_some_iff.mp hch).1
          refine ⟨rfl, yes_of ⟨_, rfl, _, rfl, x, sg ch, rfl, rfl, Nat.le_of_lt (small1000 (by have := W.le; show x.cps.size + 1 ≤ 1000; omega)), _, eD2, ?_, ?_, by rw [upd_ne nA2]; exact eA6, d8.put hD20 D2p⟩⟩
          · rw [List.length_map, List.length_take]; exact small1000 (by omega)
          · rw [upd_same, take_next (x := x ++ sg ch) (by rw [behind, List.getElem?_map, hch]; rfl), List.map_append]
            rfl
        · rintro H6 ⟨eD2, eA6, d8⟩
          have tk : (behind x).take ((abcN.map sg).map V.str).length = behind x := by
            rw [List.length_map, List.length_map]
            exact List.take_of_length_le (by rw [behind, List.length_map]; exact Nat.le_refl _)
          rw [tk] at eD2
          refine ⟨_, rfl, p, _, 2, rfl, d8.s, by omega, by decide, by decide, fun r7 o7 _ _ hp9 => ⟨rfl, _, rfl, ?_⟩⟩
          have d9 := d8.src hp9
          have eD9 : upd H6 p o7 D2 = some (.lst ((behind x).map V.str)) := by rw [upd_ne D2p]; exact eD2
          have eA9 : upd H6 p o7 aA = some (.lst ((abcN.map sg).map V.str)) := by rw [upd_ne Ap]; exact eA6
          generalize upd H6 p o7 = H9 at d9 eD9 eA9 ⊢
          refine ite2 (fun _ => ?_) (fun _ => ?_)
          · refine ⟨_, rfl, aA, rfl, ⟨_, SqL.of eA9⟩, fun D3 hD3 => ?_⟩
            have D3p := d9.ne hD3
            have hD30 := d9.free hD3
            have nA3 : aA ≠ D3 := ne_of_none eA9 hD3
            refine lc_list (K := K) (a := aA) (xs := (abcN.map sg).map V.str) (fun j H6 => H6 D3 = some (.lst ((((ahead x).take j)).map V.str)) ∧ H6 aA = some (.lst ((abcN.map sg).map V.str)) ∧ Dr H p (c + 11) H6) ⟨upd_same, by rw [upd_ne nA3]; exact eA9, d9.new hD3⟩ (fun j H6 _ ⟨_, e, _⟩ => SqL.of e) ?_ ?_
            · rintro j y H6 hy ⟨eD3, eA6, d8⟩
              rw [List.getElem?_map] at hy
              obtain ⟨y1, hy1, rfl⟩ := Option.map_eq_some_iff.mp hy
              rw [List.getElem?_map] at hy1
              obtain ⟨ch, hch, rfl⟩ := Option.map_eq_some_iff.mp hy1
              have jl : j < 26 := by rw [← abcN_len]; exact (List.getElem?_eq_some_iff.mp hch).1
              refine ⟨rfl, yes_of ⟨_, rfl, _, rfl, sg ch, x, rfl, rfl, Nat.le_of_lt (small1000 (by have := W.le; show 1 + x.cps.size ≤ 1000; omega)), _, eD3, ?_, ?_, by rw [upd_ne nA3]; exact eA6, d8.put hD30 D3p⟩⟩
              · rw [List.length_map, List.length_take]; exact small1000 (by omega)
              · rw [upd_same, take_next (x := sg ch ++ x) (by rw [ahead, List.getElem?_map, hch]; rfl), List.map_append]
                rfl
            · rintro H6 ⟨eD3, eA6, d8⟩
              have tk : (ahead x).take ((abcN.map sg).map V.str).length = ahead x := by
                rw [List.length_map, List.length_map]
                exact List.take_of_length_le (by rw [ahead, List.length_map]; exact Nat.le_refl _)
              rw [tk] at eD3
              exact R _ _ ⟨D3, _, _, _, _, _, rfl, hD30, eD3, pot_ahead W, d8.up (by omega)⟩
          · exact R _ _ ⟨D2, _, _, _, _, _, rfl, hD20, eD9, pot_behind W, d9.up (by omega)⟩
    · exact R _ _ ⟨l0, pot0, _, _, _, _, rfl, d0.free hl0, e2, pot_pot0, d2.up (by omega)⟩
end
end S1

set_option Elab.async false
set_option linter.all false
set_option maxRecDepth 100000
set_option maxHeartbeats 4000000
/-! picks and owns, drawn -/
namespace S1
open PySem PySem.W PySem.Spec PyProof.Rows L2
theorem for_enum {K : PySem.W.Frag} {a : Addr} {xs : List V} {g : TG} {tb : TS} {D : Ends} {σ : L2.St} {H : Hp} (Pv : Nat → L2.St → Hp → Prop) (h0 : Pv 0 σ H) (hl : ∀ i σ H, i ≤ xs.length → Pv i σ H → SqL K H a xs)
    (hs : ∀ i x σ H T, xs[i]? = some x → H T = none → Pv i σ H → g (.ref T) σ (upd H T (.tup [.int (i : Nat), x])) fun σ2 H2 => tb { D with nx := Pv (i + 1), ct := Pv (i + 1), bk := D.nx } σ2 H2) (hd : ∀ σ H, Pv xs.length σ H → D.nx σ H) :
    ∃ W : Nat → Nat → L2.St → Hp → Prop, (∃ m, W 0 m σ H) ∧ ∀ i m σ H, W i m σ H →
      ((Ite K a).stop i H ∧ D.nx σ H) ∨ ((Ite K a).go i H ∧ ∃ N : L2.St → Hp → Prop, (∀ σ' H', N σ' H' → ∃ m', m' < m ∧ W (i + 1) m' σ' H') ∧ ∀ x H', (Ite K a).yld i H x H' → g x σ H' fun σ2 H2 => tb { D with nx := N, ct := N, bk := D.nx } σ2 H2) := by
  refine ⟨fun i m σ H => m = xs.length - i ∧ i ≤ xs.length ∧ Pv i σ H, ⟨xs.length, by simp, Nat.zero_le _, h0⟩, ?_⟩
  rintro i m σ H ⟨rfl, hi, p⟩
  have q := hl i σ H hi p
  by_cases hlt : i < xs.length
  · refine .inr ⟨⟨xs, xs[i], q, by simp [hlt]⟩, Pv (i + 1), fun σ' H' p' => ⟨xs.length - (i + 1), by omega, rfl, hlt, p'⟩, fun x H' y => ?_⟩
    obtain ⟨T, z, rfl, hT, rfl, y⟩ := y
    exact hs i z σ _ T (y xs q) hT p
  · have e : i = xs.length := by omega
    subst e
    exact .inl ⟨⟨xs, q, Nat.le_refl _⟩, hd _ _ p⟩
theorem cut_drop {ws : List Str} {r : Nat} (h : r ≤ ws.length) : cutV (ws.map V.str) (some (r : Int)) none = (ws.drop r).map V.str := by
  unfold cutV
  rw [HT.sIx_nat, HT.sIx_none, List.length_map, Nat.min_eq_left h, ← List.map_drop, ← List.map_take]
  congr 1
  exact List.take_of_length_le (by rw [List.length_drop]; omega)
/-- picks and owns as of a saying -/
structure FrOk (a b m : Nat) (picks : List Str) (owns : List Own) : Prop where
  pu : picks.Pairwise tlt
  pn : ∀ x ∈ picks, Nm x
  pl : picks.length ≤ a
  ou : owns.Pairwise fun x y => tlt x.1 y.1
  on : ∀ o ∈ owns, Nm o.1 ∧ o.1 ∉ picks ∧ o.2.Pairwise tlt ∧ ∀ x ∈ o.2, x ∈ picks
  ol : owns.length ≤ b
  oc : copies owns ≤ m
/-- what a turn of _law_frame leaves as it is -/
structure Fr (H : Hp) (p b0 b1 aO : Addr) (ys zs : List Str) (T : List TRow) (c : Nat) (G : Hp) : Prop where
  d : Dr H p c G
  b : G b0 = some (.lst (ys.map V.str))
  n : G b1 = some (.lst (zs.map V.str))
  o : G aO = some (.lst (T.map TRow.v))
  t : ∀ q ∈ T, Dat G q.v q.2
  k : ∀ q ∈ T, keyable q.2 = true
  pb : b0 ≠ p
  pn : b1 ≠ p
  po : aO ≠ p
section
variable {H G : Hp} {p b0 b1 aO : Addr} {ys zs : List Str} {T : List TRow} {c c' : Nat}
theorem Fr.up (F : Fr H p b0 b1 aO ys zs T c G) (le : c ≤ c') : Fr H p b0 b1 aO ys zs T c' G := { F with d := F.d.up le }
theorem Fr.src {o : HO} (F : Fr H p b0 b1 aO ys zs T c G) (h : Src (upd G p o) p c') : Fr H p b0 b1 aO ys zs T c' (upd G p o) := by
  obtain ⟨xs, hx⟩ := F.d.s.lst
  exact ⟨F.d.src h, by rw [upd_ne F.pb]; exact F.b, by rw [upd_ne F.pn]; exact F.n, by rw [upd_ne F.po]; exact F.o, fun q hq => dat_upd hx (F.k q hq) (F.t q hq), F.k, F.pb, F.pn, F.po⟩
theorem Fr.new {D : Addr} {o : HO} (F : Fr H p b0 b1 aO ys zs T c G) (h : G D = none) : Fr H p b0 b1 aO ys zs T c (upd G D o) :=
  ⟨F.d.new h, by rw [upd_ne (ne_of_none F.b h)]; exact F.b, by rw [upd_ne (ne_of_none F.n h)]; exact F.n, by rw [upd_ne (ne_of_none F.o h)]; exact F.o, fun q hq => dat_new h (F.t q hq), F.k, F.pb, F.pn, F.po⟩
theorem Fr.put {D : Addr} {o : HO} {xs : List V} (F : Fr H p b0 b1 aO ys zs T c G) (h : H D = none) (n : D ≠ p) (nb : D ≠ b0) (nn : D ≠ b1) (no : D ≠ aO) (e : G D = some (.lst xs)) : Fr H p b0 b1 aO ys zs T c (upd G D o) :=
  ⟨F.d.put h n, by rw [upd_ne nb.symm]; exact F.b, by rw [upd_ne nn.symm]; exact F.n, by rw [upd_ne no.symm]; exact F.o, fun q hq => dat_upd e (F.k q hq) (F.t q hq), F.k, F.pb, F.pn, F.po⟩
theorem Fr.trans {G2 : Hp} (F : Fr H p b0 b1 aO ys zs T c G) (d : Dr G p c' G2) : Fr H p b0 b1 aO ys zs T c' G2 :=
  ⟨F.d.trans d, d.keep F.b F.pb, d.keep F.n F.pn, d.keep F.o F.po, fun q hq => d.dat F.d.s (F.k q hq) (F.t q hq), F.k, F.pb, F.pn, F.po⟩
end
def spFrame : Sp := fun vs H Q _ => ∃ (p : Addr) (c a b m : Nat), vs = [.ref p, .int a, .int b, .int m] ∧ Src H p c ∧ c ≤ 50000 ∧ a + b ≤ 14 ∧ b ≤ m ∧ m ≤ 1000 ∧
  ∀ (t : Addr) (v1 v2 : V) (picks : List Str) (owns : List Own) (H' : Hp), H t = none → H' t = some (.tup [v1, v2]) → Dat H' v1 (nmsD picks) → Dat H' v2 (.tuple (owns.map ownD)) → FrOk a b m picks owns → Dr H p (c + 700) H' → Q (.ref t) H'
abbrev nFrame : List Str := ["tank", "most_picks", "most_owns", "most_copies", "many", "names", "picks", "own", "room", "owns", "at", "name", "sight"]
section
variable {P : Program} {w : World} {K : PySem.W.Frag} {mg : Str → Option Value} {base : Heap}
theorem scFrame : FnScope nFrame ["tank", "most_picks", "most_owns", "most_copies"] (defScope sFrame) := ⟨rfl, rfl, rfl, by decide +kernel, rfl, by decide +kernel, by decide +kernel⟩
theorem ok_frame {f fP fN fL : Addr} {fd fdP fdN fdL : FuncData} (F : Fun K "_law_frame" "_law_frame" sFrame f fd) (Pk : Has K mg "_law_drop" sDrop ["tank", "many"] fP fdP) (Nn : Has K mg "_law_names" sNames ["tank", "many"] fN fdN)
    (Lo : Has K mg "_law_lot" sLot ["tank", "things"] fL fdL) (B : Blt mg) (en : mg "enumerate" = none) : FnOk P w K mg base CX0 3 f fd ["tank", "most_picks", "most_owns", "most_copies"] spFrame := by
  have GP : FnOk P w K mg base CX0 1 fP fdP ["tank", "many"] spPick := ok_pick Pk.F B
  have GN : FnOk P w K mg base CX0 2 fN fdN ["tank", "many"] spNames := ok_names Nn.F Pk B
  have GL : FnOk P w K mg base CX0 2 fL fdL ["tank", "things"] spLot := ok_lot Lo.F Pk B
  refine F.ok scFrame (fun vs H Q E h => ?_) (fun cdv A outer s H vs Q E hr h => ?_)
  · obtain ⟨p, c, a, b, m, rfl, _⟩ := h
    rfl
  · obtain ⟨p, c, a, b, m, rfl, hs, hc, hab, hbm, hm, q⟩ := h
    have hu : (A.deeper (envOfC "_law_frame" (defScope sFrame) s.heap.objs.size f cdv)).units + 64 < cLine := hr.units
    have hr1 := hr.mono (show 1 ≤ 2 by decide)
    refine ⟨_, pss_cons (ps_set (i := 4) scFrame.nd rfl (.inl rfl) (pe_call GP hr1 rfl Pk.g Pk.F.kp Pk.b .nil pass0 (pa_cons (pv 0) (pa_cons (pe_op op_add (pv 1) pe_int) pa_nil))))
      (pss_cons (ps_set (i := 5) scFrame.nd rfl (.inl rfl) (pe_call GN hr rfl Nn.g Nn.F.kp Nn.b .nil pass0 (pa_cons (pv 0) (pa_cons (pe_op op_add (pv 4) (pe_call GP hr1 rfl Pk.g Pk.F.kp Pk.b .nil pass0 (pa_cons (pv 0) (pa_cons (pe_op op_add (pv 2) pe_int) pa_nil)))) pa_nil))))
      (pss_cons (ps_asg (pe_tup (pa_cons (pe_callB (cr_sortW (by exact hu)) (by rfl) B.sorted (by decide +kernel) (pa_cons (pe_slice sl_list (pv 5) po_none (po_some (pv 4))) pa_nil))
          (pa_cons (pe_callB (cr_sortW (by exact hu)) (by rfl) B.sorted (by decide +kernel) (pa_cons (pe_slice sl_list (pv 5) (po_some (pv 4)) po_none) pa_nil)) (pa_cons (pv 3) (pa_cons (pe_lst pa_nil) pa_nil)))))
        (pg_tup rfl (pgs_cons (pg_name (i := 6) scFrame.nd rfl (.inl rfl)) (pgs_cons (pg_name (i := 7) scFrame.nd rfl (.inl rfl)) (pgs_cons (pg_name (i := 8) scFrame.nd rfl (.inl rfl)) (pgs_cons (pg_name (i := 9) scFrame.nd rfl (.inl rfl)) pgs_nil))))))
      (pss_cons (ps_for PassesOwn.never rfl (pi_enum (by rfl) en (pa_cons (pv 7) pa_nil)) (pg_tup rfl (pgs_cons (pg_name (i := 10) scFrame.nd rfl (.inl rfl)) (pgs_cons (pg_name (i := 11) scFrame.nd rfl (.inl rfl)) pgs_nil)))
        (pss_cons (ps_set (i := 12) scFrame.nd rfl (.inl rfl) (pe_call GL hr rfl Lo.g Lo.F.kp Lo.b .nil pass0 (pa_cons (pv 0) (pa_cons (pv 6) pa_nil))))
        (pss_cons (ps_while PassesOwn.never (pt_cmpR op_gt (pe_op op_shl pe_int (pe_callB call_len_seq (by rfl) B.len (by decide +kernel) (pa_cons (pv 12) pa_nil)))
              (pe_op op_sub (pv 8) (pe_op op_sub (pe_op op_sub (pe_callB call_len_seq (by rfl) B.len (by decide +kernel) (pa_cons (pv 7) pa_nil)) (pv 10)) pe_int)) (nomark _))
            (pss_one (ps_expr (pe_bm PySem.F.plainAttrs_list PySem.F.slot_list_pop PySem.F.type_list_pop mt_popAt (pv 12) (pa_cons (pe_call GP hr1 rfl Pk.g Pk.F.kp Pk.b .nil pass0 (pa_cons (pv 0) (pa_cons (pe_callB call_len_seq (by rfl) B.len (by decide +kernel) (pa_cons (pv 12) pa_nil)) pa_nil))) pa_nil)))))
        (pss_cons (ps_set (i := 8) scFrame.nd rfl (.inl rfl) (pe_op op_sub (pv 8) (pe_op op_shl pe_int (pe_callB call_len_seq (by rfl) B.len (by decide +kernel) (pa_cons (pv 12) pa_nil)))))
        (pss_one (ps_expr (pe_bm PySem.F.plainAttrs_list PySem.F.slot_list_append PySem.F.type_list_append mt_append (pv 9) (pa_cons (pe_tup (pa_cons (pv 11) (pa_cons (pe_tupleOf rfl B.tuple (pv 12)) pa_nil))) pa_nil))))))))
      (pss_one (ps_ret (pe_tup (pa_cons (pe_tupleOf rfl B.tuple (pv 6)) (pa_cons (pe_tupleOf rfl B.tuple (pv 9)) pa_nil)))))))), ?_⟩
    have d0 := Dr.start hs
    refine ⟨_, rfl, _, rfl, _, _, rfl, rfl, p, _, _, rfl, hs, by omega, by omega, by omega, fun r o r0 r1 hp1 => ?_⟩
    have d1 := d0.src hp1
    refine ⟨_, rfl, _, rfl, _, rfl, _, rfl, _, _, rfl, rfl, p, _, _, rfl, d1.s, by omega, by omega, by omega, fun r2 o2 r20 r21 hp2 => ?_⟩
    have d2 := d1.src hp2
    obtain ⟨k, rfl⟩ : ∃ k : Nat, r = (k : Int) := ⟨r.toNat, by omega⟩
    obtain ⟨k2, rfl⟩ : ∃ k : Nat, r2 = (k : Int) := ⟨r2.toNat, by omega⟩
    generalize upd (upd H p o) p o2 = H2 at d2 ⊢
    refine ⟨_, _, rfl, rfl, p, _, k + k2, rfl, d2.s, by omega, by omega, fun l ws H3 wl nd nm hl el d3' => ?_⟩
    have d3 := d2.trans d3'
    have npl := d2.ne hl
    refine ⟨_, rfl, _, rfl, k, rfl, l, _, rfl, SqL.of el, fun n0 hn0 => ⟨n0, ws.take k, rfl, SqL.of (by rw [cut_take]; exact upd_same), fun ys b0 pm up hb0 => ?_⟩⟩
    rw [cut_take] at hb0 ⊢
    have d4 := d3.new (o := .lst ((ws.take k).map V.str)) hn0
    have el4 : upd H3 n0 (.lst ((ws.take k).map V.str)) l = some (.lst (ws.map V.str)) := by rw [upd_ne (ne_of_none el hn0)]; exact el
    have d5 := d4.new (o := .lst (ys.map V.str)) hb0
    have el5 : upd (upd H3 n0 (.lst ((ws.take k).map V.str))) b0 (.lst (ys.map V.str)) l = some (.lst (ws.map V.str)) := by rw [upd_ne (ne_of_none el4 hb0)]; exact el4
    have b0p := d4.ne hb0
    have eb5 : upd (upd H3 n0 (.lst ((ws.take k).map V.str))) b0 (.lst (ys.map V.str)) b0 = some (.lst (ys.map V.str)) := upd_same
    generalize upd (upd H3 n0 (.lst ((ws.take k).map V.str))) b0 (.lst (ys.map V.str)) = H5 at d5 el5 eb5 ⊢
    refine ⟨_, rfl, _, rfl, k, rfl, l, _, rfl, SqL.of el5, fun n1 hn1 => ⟨n1, ws.drop k, rfl, SqL.of (by rw [cut_drop (by omega)]; exact upd_same), fun zs b1 pm1 up1 hb1 => ?_⟩⟩
    rw [cut_drop (by omega)] at hb1 ⊢
    have d6 := d5.new (o := .lst ((ws.drop k).map V.str)) hn1
    have eb6 : upd H5 n1 (.lst ((ws.drop k).map V.str)) b0 = some (.lst (ys.map V.str)) := by rw [upd_ne (ne_of_none eb5 hn1)]; exact eb5
    have d7 := d6.new (o := .lst (zs.map V.str)) hb1
    have b1p := d6.ne hb1
    have eb7 : upd (upd H5 n1 (.lst ((ws.drop k).map V.str))) b1 (.lst (zs.map V.str)) b0 = some (.lst (ys.map V.str)) := by rw [upd_ne (ne_of_none eb6 hb1)]; exact eb6
    have en7 : upd (upd H5 n1 (.lst ((ws.drop k).map V.str))) b1 (.lst (zs.map V.str)) b1 = some (.lst (zs.map V.str)) := upd_same
    generalize upd (upd H5 n1 (.lst ((ws.drop k).map V.str))) b1 (.lst (zs.map V.str)) = H7 at d7 eb7 en7 ⊢
    refine ⟨_, rfl, (by show 0 ≤ sizeLine; decide), fun aO hO => ⟨(by show 4 ≤ sizeLine; decide), fun t ht => ?_⟩⟩
    have d8 := d7.new (o := .lst []) hO
    have aOp := d7.ne hO
    have hO0 := d7.free hO
    have eb8 : upd H7 aO (.lst []) b0 = some (.lst (ys.map V.str)) := by rw [upd_ne (ne_of_none eb7 hO)]; exact eb7
    have en8 : upd H7 aO (.lst []) b1 = some (.lst (zs.map V.str)) := by rw [upd_ne (ne_of_none en7 hO)]; exact en7
    have n0O : b0 ≠ aO := ne_of_none eb7 hO
    have n1O : b1 ≠ aO := ne_of_none en7 hO
    have F8 : Fr H p b0 b1 aO ys zs [] (c + 32) (upd H7 aO (.lst [])) := ⟨d8, eb8, en8, upd_same, fun q hq => absurd hq (by simp), fun q hq => absurd hq (by simp), b0p, b1p, aOp⟩
    have F9 := F8.new (o := .tup [.ref b0, .ref b1, .int (m : Nat), .ref aO]) ht
    refine ⟨t, _, rfl, SqT.of upd_same, rfl, _, _, rfl, _, _, rfl, _, _, rfl, _, _, rfl, rfl, ?_⟩
    refine ⟨_, rfl, b1, _, rfl, SqL.of F9.n, ?_⟩
    have ysl : ys.length = k := by rw [pm.length_eq, List.length_take]; omega
    have zsl : zs.length = k2 := by rw [pm1.length_eq, List.length_drop]; omega
    refine for_enum (K := K) (a := b1) (xs := zs.map V.str) (fun i σ H' => ∃ (os : List Own) (T : List TRow) (room : Nat) (o10 o11 o12 : Option V), σ = [some (.ref p), some (.int a), some (.int b), some (.int m), some (.int k), some (.ref l), some (.ref b0), some (.ref b1), some (.int (room : Int)), some (.ref aO), o10, o11, o12] ∧
      T.map Prod.snd = os.map ownD ∧ copies os + room = m ∧ os.map Prod.fst = zs.take i ∧ (∀ o ∈ os, o.2.Sublist ys) ∧ k2 ≤ room + i ∧ Fr H p b0 b1 aO ys zs T (c + 32 + 40 * i) H') ?_ (fun i σ H' _ ⟨_, _, _, _, _, _, _, _, _, _, _, _, F⟩ => SqL.of F.n) ?_ ?_
    · exact ⟨[], [], m, _, _, _, rfl, rfl, by show 0 + m = m; omega, rfl, fun o ho => absurd ho (by simp), by omega, F9⟩
    · rintro i x σ H' T0 hx hT0 ⟨os, T, room, o10, o11, o12, rfl, eT, hroom, hfst, hsg, hrm, F0⟩
      rw [List.getElem?_map] at hx
      obtain ⟨u, hu2, rfl⟩ := Option.map_eq_some_iff.mp hx
      have il : i < zs.length := (List.getElem?_eq_some_iff.mp hu2).1
      have F1 := F0.new (o := .tup [.int (i : Nat), .str u]) hT0
      refine ⟨T0, _, rfl, SqT.of upd_same, rfl, _, _, rfl, _, _, rfl, rfl, ?_⟩
      generalize upd H' T0 (.tup [.int (i : Nat), .str u]) = H1 at F1 ⊢
      refine ⟨_, rfl, _, rfl, p, b0, _, ys, rfl, F1.d.s, by omega, F1.b, by omega, fun D sg H2 sub hD eD d2' => ?_⟩
      have F2 := F1.trans d2'
      have hD0 := F1.d.free hD
      have Dp := F1.d.ne hD
      have Db : D ≠ b0 := (ne_of_none F1.b hD).symm
      have Dn : D ≠ b1 := (ne_of_none F1.n hD).symm
      have Do : D ≠ aO := (ne_of_none F1.o hD).symm
      refine ⟨fun m' σ6 H6 => ∃ sg6 : List Str, σ6 = [some (.ref p), some (.int a), some (.int b), some (.int m), some (.int k), some (.ref l), some (.ref b0), some (.ref b1), some (.int (room : Int)), some (.ref aO), some (.int (i : Nat)), some (.str u), some (.ref D)] ∧ m' = sg6.length ∧ H6 D = some (.lst (sg6.map V.str)) ∧ sg6.Sublist ys ∧
        Fr H p b0 b1 aO ys zs T (c + 32 + 40 * i + 16 + (14 - sg6.length)) H6, ⟨_, sg, rfl, rfl, eD, sub, F2.up (by have := sub.length_le; omega)⟩, ?_⟩
      rintro m' σ6 H6 ⟨sg6, rfl, rfl, eD6, sub6, F6⟩
      have l6 : sg6.length ≤ 14 := by have := sub6.length_le; omega
      refine ⟨_, rfl, _, _, rfl, .inl (SqL.of eD6), _, _, rfl, rfl, ⟨by omega, by rw [List.length_map]; omega, by decide⟩, _, rfl, _, rfl, _, _, rfl, .inl (SqL.of F6.n), _, rfl, _, _, rfl, rfl, _, _, rfl, rfl, _, _, rfl, rfl, _, _, rfl, rfl, _, rfl, ?_⟩
      have key : ((1 : Int) * 2 ^ ((sg6.map V.str).length : Int).toNat) = ((2 ^ sg6.length : Nat) : Int) := by
        rw [List.length_map, Int.toNat_natCast, Int.one_mul]
        push_cast
        rfl
      refine ite2 (fun hgt => ?_) (fun hle => ?_)
      · have hgt2 := of_decide_eq_true hgt
        rw [key, List.length_map, zsl] at hgt2
        have lp : 0 < sg6.length := by
          rcases Nat.eq_zero_or_pos sg6.length with e | e
          · rw [e] at hgt2
            simp only [Nat.pow_zero] at hgt2
            omega
          · exact e
        refine ⟨fun σ8 H8 => ∃ sg8 : List Str, σ8 = [some (.ref p), some (.int a), some (.int b), some (.int m), some (.int k), some (.ref l), some (.ref b0), some (.ref b1), some (.int (room : Int)), some (.ref aO), some (.int (i : Nat)), some (.str u), some (.ref D)] ∧ sg8.length + 1 = sg6.length ∧ H8 D = some (.lst (sg8.map V.str)) ∧ sg8.Sublist ys ∧
          Fr H p b0 b1 aO ys zs T (c + 32 + 40 * i + 16 + (14 - sg8.length)) H8, fun σ8 H8 ⟨sg8, y1, y2, y3, y4, y5⟩ => ⟨sg8.length, by omega, sg8, y1, rfl, y3, y4, y5⟩, ?_⟩
        refine ⟨_, rfl, .inl ⟨rfl, _, SqL.of eD6⟩, _, rfl, _, rfl, _, _, rfl, .inl (SqL.of eD6), p, _, _, rfl, F6.d.s, by omega, by rw [List.length_map]; omega, by rw [List.length_map]; omega, fun k9 o9 k90 k91 hp9 => ?_⟩
        rw [List.length_map] at k91
        have kl : k9.toNat < sg6.length := by omega
        have eD9 : upd H6 p o9 D = some (.lst (sg6.map V.str)) := by rw [upd_ne Dp]; exact eD6
        have lenE : (sg6.eraseIdx k9.toNat).length + 1 = sg6.length := by
          rw [List.length_eraseIdx, if_pos kl]
          omega
        refine ⟨D, _, k9, k9.toNat, .str sg6[k9.toNat], rfl, rfl, eD9, by omega, by omega, by rw [List.length_map]; exact seq_nat k90 k91, by rw [List.getElem?_map, List.getElem?_eq_getElem kl]; rfl, ?_⟩
        rw [map_erase]
        exact ⟨sg6.eraseIdx k9.toNat, rfl, lenE, upd_same, (List.eraseIdx_sublist _ _).trans sub6, ((F6.src hp9).put hD0 Dp Db Dn Do eD9).up (by omega)⟩
      · have hle2 : ¬ _ := fun y => hle (decide_eq_true y)
        rw [key, List.length_map, zsl] at hle2
        have fit : 2 ^ sg6.length ≤ room := by omega
        have rest : k2 ≤ room - 2 ^ sg6.length + (i + 1) := by omega
        refine ⟨_, rfl, _, rfl, _, _, rfl, .inl (SqL.of eD6), _, _, rfl, rfl, ⟨by omega, by rw [List.length_map]; omega, by decide⟩, _, _, rfl, rfl, ?_⟩
        have er : (room : Int) - 1 * 2 ^ ((sg6.map V.str).length : Int).toNat = ((room - 2 ^ sg6.length : Nat) : Int) := by
          rw [key]
          omega
        refine ⟨_, rfl, .inl ⟨rfl, _, SqL.of F6.o⟩, _, rfl, _, rfl, .inl ⟨D, _, rfl, SqL.of eD6, fun t1 ht1 => ⟨(by show 2 ≤ sizeLine; decide), fun t2 ht2 => ?_⟩⟩⟩
        have F7 := F6.new (o := .tup (sg6.map V.str)) ht1
        have F8 := F7.new (o := .tup [.str u, .ref t1]) ht2
        have t12 : t1 ≠ t2 := ne_of_none upd_same ht2
        have e1 : upd (upd H6 t1 (.tup (sg6.map V.str))) t2 (.tup [.str u, .ref t1]) t1 = some (.tup (sg6.map V.str)) := by rw [upd_ne t12, upd_same]
        have e2' : upd (upd H6 t1 (.tup (sg6.map V.str))) t2 (.tup [.str u, .ref t1]) t2 = some (.tup [.str u, .ref t1]) := upd_same
        generalize upd (upd H6 t1 (.tup (sg6.map V.str))) t2 (.tup [.str u, .ref t1]) = H8 at F8 e1 e2' ⊢
        have lenT : T.length = i := by
          rw [← List.length_map (f := Prod.snd), eT, List.length_map, ← List.length_map (f := Prod.fst), hfst, List.length_take]
          omega
        refine ⟨aO, _, _, rfl, rfl, F8.o, by rw [List.length_map, lenT]; exact small1000 (by omega), ?_⟩
        refine ⟨os ++ [(u, sg6)], T ++ [(t2, ownD (u, sg6))], room - 2 ^ sg6.length, _, _, _, by rw [← er]; rfl, by rw [List.map_append, List.map_append, eT]; rfl, by rw [copies_snoc]; show copies os + 2 ^ sg6.length + _ = m; omega,
          by rw [List.map_append, hfst, take_next hu2]; rfl, fun o ho => ?_, rest, ?_⟩
        · rcases List.mem_append.mp ho with y | y
          · exact hsg o y
          · cases List.mem_singleton.mp y
            exact sub6
        · have F9 := F8.up (show _ ≤ c + 32 + 40 * (i + 1) by omega)
          refine ⟨F9.d.put hO0 aOp, by rw [upd_ne n0O]; exact F9.b, by rw [upd_ne n1O]; exact F9.n, by rw [upd_same, List.map_append]; rfl, fun q hq => ?_, fun q hq => ?_, b0p, b1p, aOp⟩
          · rcases List.mem_append.mp hq with y | y
            · exact dat_upd F8.o (F8.k q y) (F8.t q y)
            · cases List.mem_singleton.mp y
              refine dat_upd F8.o (keyable_own _) ?_
              exact .tup e2' (.cons (.str u) (.cons (.tup e1 (dats_strs sg6)) .nil))
          · rcases List.mem_append.mp hq with y | y
            · exact F8.k q y
            · cases List.mem_singleton.mp y
              exact keyable_own _
    · rintro σ H' ⟨os, T, room, o10, o11, o12, rfl, eT, hroom, hfst, hsg, hrm, F0⟩
      rw [List.length_map] at hfst F0
      rw [List.take_length] at hfst
      refine ⟨_, rfl, .inl ⟨b0, _, rfl, SqL.of F0.b, fun t1 ht1 => ?_⟩⟩
      have F1 := F0.new (o := .tup (ys.map V.str)) ht1
      refine ⟨_, rfl, .inl ⟨aO, _, rfl, SqL.of F1.o, fun t2 ht2 => ⟨(by show 2 ≤ sizeLine; decide), fun t3 ht3 => ?_⟩⟩⟩
      have F2 := F1.new (o := .tup (T.map TRow.v)) ht2
      have F3 := F2.new (o := .tup [.ref t1, .ref t2]) ht3
      have e1 : upd H' t1 (.tup (ys.map V.str)) t1 = some (.tup (ys.map V.str)) := upd_same
      have S2 := same_new (o := .tup (T.map TRow.v)) ht2
      have S3 := same_new (o := .tup [.ref t1, .ref t2]) ht3
      have e2' := S3 _ _ (show upd (upd H' t1 (.tup (ys.map V.str))) t2 (.tup (T.map TRow.v)) t2 = some (.tup (T.map TRow.v)) from upd_same)
      have e1' := S3 _ _ (S2 _ _ e1)
      refine q t3 (.ref t1) (.ref t2) ys os _ (F2.d.free ht3) upd_same (.tup e1' (dats_strs ys)) ?_ ?_ (F3.d.up (by omega))
      · rw [← eT]
        exact .tup e2' (dats_rows F3.t)
      · have ndT : (ws.take k).Nodup := nd.sublist (List.take_sublist _ _)
        have ndD : (ws.drop k).Nodup := nd.sublist (List.drop_sublist _ _)
        have dis : ∀ x ∈ ws.take k, ∀ y ∈ ws.drop k, x ≠ y := by
          have z : (ws.take k ++ ws.drop k).Nodup := by rw [List.take_append_drop]; exact nd
          exact (List.nodup_append.mp z).2.2
        have upY := up ndT
        have upZ := up1 ndD
        have mz : ∀ o ∈ os, o.1 ∈ zs := fun o ho => hfst ▸ List.mem_map_of_mem ho
        refine ⟨upY, fun x hx => nm x (List.take_subset _ _ (pm.mem_iff.mp hx)), by omega, ?_, fun o ho => ⟨nm _ (List.drop_subset _ _ (pm1.mem_iff.mp (mz o ho))), fun h' => dis _ (pm.mem_iff.mp h') _ (pm1.mem_iff.mp (mz o ho)) rfl, upY.sublist (hsg o ho), fun x hx => (hsg o ho).subset hx⟩, ?_, by omega⟩
        · rw [← hfst] at upZ
          exact List.pairwise_map.mp upZ
        · rw [← List.length_map (f := Prod.fst), hfst]
          omega
end
end S1

set_option Elab.async false
set_option linter.all false
set_option maxRecDepth 100000
set_option maxHeartbeats 4000000
/-! places of copies -/
namespace S1
open PySem PySem.W PySem.Spec PyProof.Rows L2
theorem alike_bls (p q : List Bool) : alike (blsD p) (blsD q) = true := alikes_map PyData.bool (fun _ _ => rfl) p q
theorem alike_cpD (a b : Cpy) : alike (cpD a) (cpD b) = true := by
  show (true && (alike (blsD a.2) (blsD b.2) && true)) = true
  rw [alike_bls]
  rfl
theorem bls_inj {p q : List Bool} (h : blsD p = blsD q) : p = q := by
  unfold blsD at h
  injection h with h
  induction p generalizing q with
  | nil => cases q with
    | nil => rfl
    | cons _ _ => cases h
  | cons x p ih => cases q with
    | nil => cases h
    | cons y q =>
      injection h with h1 h2
      injection h1 with h1
      rw [h1, ih h2]
theorem cpD_inj {a b : Cpy} (h : cpD a = cpD b) : a = b := by
  obtain ⟨x, p⟩ := a
  obtain ⟨y, q⟩ := b
  unfold cpD at h
  injection h with h
  injection h with h1 h
  injection h with h2 h
  injection h1 with h1
  have e := bls_inj h2
  dsimp only at h1 e
  rw [h1, e]
theorem nkey_cpD {a b : Cpy} : nkey (cpD a) = nkey (cpD b) ↔ a = b := ⟨fun h => cpD_inj (nkey_inj _ _ (keyable_cp a) (keyable_cp b) (alike_cpD a b) h), fun h => by rw [h]⟩
theorem depth_bls (p : List Bool) : (blsD p).depth ≤ 1 := by
  have z := depths_map PyData.bool 0 (fun _ => Nat.le_refl _) p
  simp only [blsD, PyData.depth]
  omega
theorem depth_cpD (c : Cpy) : (cpD c).depth ≤ 2 := by
  have z := depth_bls c.2
  simp only [cpD, PyData.depth, PyData.depthAll]
  omega
theorem seen_nodup : ∀ n, (seenD n).Nodup
  | 0 => by simp [seenD]
  | n + 1 => by
    have h := seen_nodup n
    have inj : ∀ c : Bool, ((seenD n).map (· ++ [c])).Nodup := fun c => by
      unfold List.Nodup at h ⊢
      rw [List.pairwise_map]
      exact h.imp fun q z => q (List.append_cancel_right z)
    refine List.nodup_append.mpr ⟨inj false, inj true, fun a ha b hb e => ?_⟩
    obtain ⟨x, _, rfl⟩ := List.mem_map.mp ha
    obtain ⟨y, _, rfl⟩ := List.mem_map.mp hb
    have z := congrArg List.getLast? e
    simp at z
theorem cop_nodup : ∀ os : List Own, (os.map Prod.fst).Nodup → (copD os).Nodup
  | [], _ => List.nodup_nil
  | o :: os, h => by
    have h' := List.nodup_cons.mp (by simpa using h : (o.1 :: os.map Prod.fst).Nodup)
    show ((o :: os).flatMap _).Nodup
    rw [List.flatMap_cons]
    refine List.nodup_append.mpr ⟨?_, cop_nodup os h'.2, fun a ha b hb e => ?_⟩
    · have z := seen_nodup o.2.length
      unfold List.Nodup at z ⊢
      rw [List.pairwise_map]
      exact z.imp fun q z => q (Prod.mk.inj z).2
    · obtain ⟨x, _, rfl⟩ := List.mem_map.mp ha
      obtain ⟨o', ho', hb'⟩ := List.mem_flatMap.mp hb
      obtain ⟨y, _, rfl⟩ := List.mem_map.mp hb'
      exact h'.1 (List.mem_map.mpr ⟨o', ho', (Prod.mk.inj e).1.symm⟩)
theorem mem_cop {os : List Own} {c : Cpy} : c ∈ copD os ↔ ∃ o ∈ os, c.1 = o.1 ∧ c.2 ∈ seenD o.2.length := by
  unfold copD
  rw [List.mem_flatMap]
  constructor
  · rintro ⟨o, ho, h⟩
    obtain ⟨t, ht, rfl⟩ := List.mem_map.mp h
    exact ⟨o, ho, rfl, ht⟩
  · rintro ⟨o, ho, e, h⟩
    exact ⟨o, ho, List.mem_map.mpr ⟨c.2, h, by rw [← e]⟩⟩
theorem mem_seen : ∀ (n : Nat) (p : List Bool), p.length = n → p ∈ seenD n
  | 0, p, h => by
    rw [List.length_eq_zero_iff.mp h]
    exact List.mem_singleton.mpr rfl
  | n + 1, p, h => by
    have np : p ≠ [] := fun e => by rw [e] at h; cases h
    have e := List.dropLast_concat_getLast np
    have l : p.dropLast.length = n := by rw [List.length_dropLast, h]; rfl
    have m := mem_seen n _ l
    rw [← e, seenD]
    cases p.getLast np with
    | false => exact List.mem_append_left _ (List.mem_map.mpr ⟨_, m, rfl⟩)
    | true => exact List.mem_append_right _ (List.mem_map.mpr ⟨_, m, rfl⟩)
/-- what entries say, their addresses aside -/
def sayN (E : List DRow) : List (PyData × V) := E.map fun p => (p.1.2, p.2)
theorem look_say (E : List DRow) (d : PyData) : lookN E d = ((sayN E).find? fun p => decide (nkey p.1 = nkey d)).map (·.2) := by
  induction E with
  | nil => rfl
  | cons p E ih =>
    rw [lookN_cons, ih]
    show _ = (((p.1.2, p.2) :: sayN E).find? _).map _
    by_cases h : nkey p.1.2 = nkey d <;> simp [h]
/-- the copies' places -/
def plcE (cs : List Cpy) (k : Nat) : List (PyData × V) := match cs with
  | [] => []
  | c :: cs => (cpD c, V.int (k : Nat)) :: plcE cs (k + 1)
theorem plcE_snoc : ∀ (cs : List Cpy) (k : Nat) (c : Cpy), plcE (cs ++ [c]) k = plcE cs k ++ [(cpD c, V.int ((k + cs.length : Nat) : Int))]
  | [], k, c => rfl
  | x :: cs, k, c => by
    show (cpD x, V.int (k : Nat)) :: plcE (cs ++ [c]) (k + 1) = _
    rw [plcE_snoc cs (k + 1) c]
    show _ = (cpD x, V.int (k : Nat)) :: (plcE cs (k + 1) ++ _)
    rw [List.length_cons, Nat.add_right_comm k 1 cs.length]
    rfl
theorem plcE_find : ∀ (cs : List Cpy) (k : Nat) (c : Cpy), c ∈ cs → ((plcE cs k).find? fun p => decide (nkey p.1 = nkey (cpD c))).map (·.2) = some (V.int ((k + cs.idxOf c : Nat) : Int))
  | x :: cs, k, c, h => by
    show (((cpD x, V.int (k : Nat)) :: plcE cs (k + 1)).find? _).map _ = _
    by_cases e : x = c
    · subst e
      simp
    · have hc : c ∈ cs := (List.mem_cons.mp h).elim (fun z => absurd z.symm e) id
      have nk : ¬ nkey (cpD x) = nkey (cpD c) := fun z => e (nkey_cpD.mp z)
      have ie : (x :: cs).idxOf c = cs.idxOf c + 1 := by
        rw [List.idxOf_cons]
        rw [show (x == c) = false from beq_false_of_ne e]
        rfl
      rw [List.find?_cons_of_neg (by simpa using nk), plcE_find cs (k + 1) c hc, ie]
      congr 3
      omega
theorem plcE_new : ∀ (cs : List Cpy) (k : Nat) (c : Cpy), c ∉ cs → ((plcE cs k).find? fun p => decide (nkey p.1 = nkey (cpD c))) = none
  | [], k, c, _ => rfl
  | x :: cs, k, c, h => by
    have nk : ¬ nkey (cpD x) = nkey (cpD c) := fun z => h (by rw [← nkey_cpD.mp z]; exact List.mem_cons_self)
    show ((cpD x, V.int (k : Nat)) :: plcE cs (k + 1)).find? _ = none
    rw [List.find?_cons_of_neg (by simpa using nk)]
    exact plcE_new cs (k + 1) c fun m => h (List.mem_cons_of_mem _ m)
/-- the place of a copy -/
def plc (os : List Own) (c : Cpy) : Nat := (copD os).idxOf c
/-- a dict that holds the copies' places -/
def Plc (w : World) (H : Hp) (D : Addr) (os : List Own) : Prop := ∃ E, DnAt w H D E ∧ KeysAt H E ∧ sayN E = plcE (copD os) 0
theorem Plc.same {w : World} {H H' : Hp} {D : Addr} {os : List Own} (h : Plc w H D os) (S : Same H H') : Plc w H' D os := let ⟨E, a, b, c⟩ := h; ⟨E, a.same S, b.same S, c⟩
theorem Plc.look {w : World} {H : Hp} {D : Addr} {os : List Own} (h : Plc w H D os) : ∃ E, DnAt w H D E ∧ KeysAt H E ∧ ∀ c ∈ copD os, lookN E (cpD c) = some (V.int ((plc os c : Nat) : Int)) := by
  obtain ⟨E, a, b, e⟩ := h
  refine ⟨E, a, b, fun c hc => ?_⟩
  rw [look_say, e, plcE_find _ _ _ hc]
  congr 3
  unfold plc
  omega
/-- what is a tuple stays one -/
def Tups (H H' : Hp) : Prop := ∀ a xs, H a = some (.tup xs) → H' a = some (.tup xs)
theorem Tups.refl (H : Hp) : Tups H H := fun _ _ e => e
theorem Tups.of {H H' : Hp} (S : Same H H') : Tups H H' := fun a _ e => S a _ e
theorem Tups.trans {H H' G : Hp} (h : Tups H H') (g : Tups H' G) : Tups H G := fun a xs e => g a xs (h a xs e)
theorem Tups.upd {H : Hp} {p : Addr} {o : HO} (h : ∀ xs, H p ≠ some (.tup xs)) : Tups H (upd H p o) := fun a xs e => by
  rw [upd_ne (fun z => h xs (by rw [← z]; exact e))]
  exact e
theorem dn_noTup {w : World} {H : Hp} {D : Addr} {E : List DRow} (h : DnAt w H D E) (xs : List V) : H D ≠ some (.tup xs) := fun z => by
  rcases h with h | h
  · rw [h] at z
    cases z
  · rw [h.1] at z
    cases z
mutual
theorem Tups.dat {H H' : Hp} (h : Tups H H') : ∀ {v : V} {d : PyData}, keyable d = true → Dat H v d → Dat H' v d
  | _, _, _, .non => .non
  | _, _, _, .bl b => .bl b
  | _, _, _, .int i => .int i
  | _, _, _, .str x => .str x
  | _, _, k, .lst e g => by simp [keyable] at k
  | _, _, k, .tup (a := a) e g => .tup (h _ _ e) (Tups.dats h (by simpa [keyable] using k) g)
  | _, _, k, .dct e g => by simp [keyable] at k
theorem Tups.dats {H H' : Hp} (h : Tups H H') : ∀ {vs : List V} {ds : List PyData}, keyables ds = true → DatAll H vs ds → DatAll H' vs ds
  | _, _, _, .nil => .nil
  | _, _, k, .cons g t => by
    rw [keyables, Bool.and_eq_true] at k
    exact .cons (Tups.dat h k.1 g) (Tups.dats h k.2 t)
end
theorem keys_tups {H H' : Hp} {E : List DRow} (h : KeysAt H E) (S : Tups H H') : KeysAt H' E := fun p hp => ⟨S.dat (h p hp).2.1 (h p hp).1, (h p hp).2⟩
theorem keys_snoc {H : Hp} {E : List DRow} {r : TRow} {v : V} (h : KeysAt H E) (d : Dat H r.v r.2) (k : keyable r.2 = true) (z : r.2.depth ≤ 8) : KeysAt H (E ++ [(r, v)]) := fun p hp => by
  rcases List.mem_append.mp hp with m | m
  · exact h p m
  · cases List.mem_singleton.mp m
    exact ⟨d, k, z⟩
theorem sayN_snoc (E : List DRow) (r : TRow) (v : V) : sayN (E ++ [(r, v)]) = sayN E ++ [(r.2, v)] := by
  unfold sayN
  rw [List.map_append]
  rfl
theorem plcE_len : ∀ (cs : List Cpy) (k : Nat), (plcE cs k).length = cs.length
  | [], _ => rfl
  | _ :: cs, k => by
    show (plcE cs (k + 1)).length + 1 = cs.length + 1
    rw [plcE_len cs]
theorem sayN_len (E : List DRow) : (sayN E).length = E.length := List.length_map _
section
variable {K : PySem.W.Frag} {a : Addr} {xs : List V} {F : V → Hp → (Hp → Prop) → Prop} {H0 : Hp} {Qd : Hp → Prop}
theorem turns_enum (Pv : Nat → Hp → Prop) (h0 : Pv 0 H0) (hl : ∀ i H, i ≤ xs.length → Pv i H → SqL K H a xs) (hs : ∀ i x H T, xs[i]? = some x → H T = none → Pv i H → F (.ref T) (upd H T (.tup [.int (i : Nat), x])) (Pv (i + 1))) (hd : ∀ H, Pv xs.length H → Qd H) :
    ∃ W : Nat → Nat → Hp → Prop, (∃ m, W 0 m H0) ∧ ∀ i m H, W i m H →
      ((Ite K a).stop i H ∧ Qd H) ∨ ((Ite K a).go i H ∧ ∃ Nx : Hp → Prop, (∀ H', Nx H' → ∃ m', m' < m ∧ W (i + 1) m' H') ∧ ∀ x H', (Ite K a).yld i H x H' → F x H' Nx) := by
  refine ⟨fun i m H => m = xs.length - i ∧ i ≤ xs.length ∧ Pv i H, ⟨_, rfl, Nat.zero_le _, h0⟩, ?_⟩
  rintro i m H ⟨rfl, hi, p⟩
  have q := hl i H hi p
  by_cases lt : i < xs.length
  · refine .inr ⟨⟨xs, xs[i], q, List.getElem?_eq_getElem lt⟩, Pv (i + 1), fun H' p' => ⟨xs.length - (i + 1), by omega, rfl, lt, p'⟩, fun x H' y => ?_⟩
    obtain ⟨T, z, rfl, hT, rfl, y⟩ := y
    exact hs i z _ T (y xs q) hT p
  · have e : i = xs.length := by omega
    subst e
    exact .inl ⟨⟨xs, q, Nat.le_refl _⟩, hd H p⟩
end
end S1

set_option Elab.async false
set_option linter.all false
set_option maxRecDepth 100000
set_option maxHeartbeats 4000000
/-! places of copies, as the program has them -/
namespace S1
open PySem PySem.W PySem.Spec PyProof.Rows L2
def spPlacesOf (w : World) : Sp := fun vs H Q _ => ∃ (v : V) (s : Say), vs = [v] ∧ DatS H v s ∧ SayOk 6 8 120 40 s ∧ ∀ (D : Addr) (H' : Hp), Same H H' → H D = none → Plc w H' D s.owns → Q (.ref D) H'
theorem put_same {H G : Hp} {D : Addr} {o : HO} (S : Same H G) (h : H D = none) : Same H (upd G D o) := same_upd S h
theorem own_nd {a b c d : Nat} {s : Say} (ok : SayOk a b c d s) : (s.owns.map Prod.fst).Nodup := nodup_tlt (List.pairwise_map.mpr ok.ou)
section
variable {P : Program} {w : World} {K : PySem.W.Frag} {mg : Str → Option Value} {base : Heap}
theorem scPlacesOf : FnScope ["saying", "place", "copy"] ["saying"] (defScope sPlacesOf) := ⟨rfl, rfl, rfl, by decide +kernel, rfl, by decide +kernel, by decide +kernel⟩
theorem ok_placesOf {f fC fA : Addr} {fd fdC fdA : FuncData} (F : Fun K "places_of" "places_of" sPlacesOf f fd) (Cs : Has K mg "all_copies" sAllCopies ["saying"] fC fdC) (As : Has K mg "all_seen" sAllSeen ["sight"] fA fdA) (en : mg "enumerate" = none) : FnOk P w K mg base CX0 3 f fd ["saying"] (spPlacesOf w) := by
  have GC : FnOk P w K mg base CX0 2 fC fdC ["saying"] spAllCopies := ok_allCopies Cs.F As
  refine F.ok scPlacesOf (fun vs H Q E h => ?_) (fun cdv A outer s H vs Q E hr h => ?_)
  · obtain ⟨v, sy, rfl, _⟩ := h
    rfl
  · obtain ⟨v, sy, rfl, D, ok, q⟩ := h
    have hu : (A.deeper (envOfC "places_of" (defScope sPlacesOf) s.heap.objs.size f cdv)).units + 16 < cLine := by
      have h64 : (A.deeper (envOfC "places_of" (defScope sPlacesOf) s.heap.objs.size f cdv)).units + 64 < cLine := hr.units
      omega
    refine ⟨_, pss_one (ps_ret (pe_dcN (own := [("place", 1), ("copy", 2)]) (g := gTup K 2 (gCons (gName 1) (gCons (gName 2) gNil))) (tt := tYes) (tk := tVar 2) (tv := tVar 1) hu rfl scPlacesOf.nd
      (pi_enum (by rfl) en (pa_cons (pe_call GC (by exact hr) (by rfl) Cs.g Cs.F.kp Cs.b .nil pass0 (pa_cons (pv 0) pa_nil)) pa_nil))
      (blkOk_by (N := ["saying", "place", "copy"]) (sc := defScope sPlacesOf) (by decide +kernel))
      (fun _ _ _ _ _ => by exact pg_tup rfl (pgs_cons (pg_name (i := 1) scPlacesOf.nd rfl (.inl rfl)) (pgs_cons (pg_name (i := 2) scPlacesOf.nd rfl (.inl rfl)) pgs_nil))) (fun _ _ _ _ _ => pts_nil)
      (fun _ _ _ _ _ => by exact pv 2) (fun _ _ _ _ _ => by exact pv 1))), ?_⟩
    refine ⟨_, rfl, v, sy, rfl, D, ok, fun l H1 R => ?_⟩
    obtain ⟨T, eT, dT, DT⟩ := R.ex
    have lenT : T.length = copies sy.owns := by rw [← List.length_map (f := Prod.snd), dT, List.length_map, cop_len]
    have oc := ok.oc
    have nd := cop_nodup sy.owns (own_nd ok)
    refine ⟨l, T.map TRow.v, rfl, SqL.of eT, fun D0 hD0 => ?_⟩
    have nl : l ≠ D0 := fun z => by rw [z, hD0] at eT; cases eT
    refine turns_enum (K := K) (a := l) (xs := T.map TRow.v) (fun i H2 => ∃ E, DnAt w H2 D0 E ∧ KeysAt H2 E ∧ sayN E = plcE ((copD sy.owns).take i) 0 ∧ Same H1 H2) ⟨[], .inr ⟨upd_same, rfl⟩, fun _ h => absurd h (by simp), rfl, same_new hD0⟩
      (fun i H2 _ ⟨_, _, _, _, S2⟩ => SqL.of (S2 _ _ eT)) ?_ ?_
    · rintro i x H2 t hx ht ⟨E, dE, kE, sE, S2⟩
      rw [List.getElem?_map] at hx
      obtain ⟨y, hy, rfl⟩ := Option.map_eq_some_iff.mp hx
      have ey : ((copD sy.owns).map cpD)[i]? = some y.2 := by rw [← dT, List.getElem?_map, hy]; rfl
      obtain ⟨c, hc, ec⟩ := get_map ey
      have il : i < (copD sy.owns).length := (List.getElem?_eq_some_iff.mp hc).1
      have S3 := same_new (o := .tup [.int (i : Nat), y.v]) ht
      refine ⟨t, _, rfl, SqT.of upd_same, rfl, _, _, rfl, _, _, rfl, rfl, rfl, yes_of ?_⟩
      refine ⟨_, rfl, _, rfl, y.1, y.2, E, rfl, dE.same S3, kE.same S3, (DT y (List.mem_of_getElem? hy)).same (S2.trans S3), by rw [ec]; exact keyable_cp c, by rw [ec]; exact Nat.le_trans (depth_cpD c) (by decide), ?_, ?_⟩
      · rw [← sayN_len, sE, plcE_len, List.length_take]
        exact small1000 (by have := cop_len sy.owns; omega)
      · have e3 := dE.same S3
        have nw : c ∉ (copD sy.owns).take i := fun m => by
          obtain ⟨j, hj, z⟩ := List.getElem_of_mem m
          rw [List.length_take] at hj
          rw [List.getElem_take] at z
          have zi := (List.getElem?_eq_some_iff.mp hc).2
          exact List.pairwise_iff_getElem.mp nd j i (by omega) il (by omega) (z.trans zi.symm)
        have look : lookN E y.2 = none := by rw [look_say, sE, ec, plcE_new _ _ _ nw]; rfl
        rw [putN_new (r := (y.1, y.2)) look]
        have ty : Dat (upd H2 t (.tup [.int (i : Nat), y.v])) y.v y.2 := (DT y (List.mem_of_getElem? hy)).same (S2.trans S3)
        refine ⟨_, .inl upd_same, keys_tups (keys_snoc (r := y) (kE.same S3) ty (by rw [ec]; exact keyable_cp c) (by rw [ec]; exact Nat.le_trans (depth_cpD c) (by decide))) (.upd (dn_noTup e3)), ?_, put_same (S2.trans S3) hD0⟩
        rw [sayN_snoc, sE, take_next hc, plcE_snoc, List.length_take, Nat.min_eq_left (Nat.le_of_lt il), Nat.zero_add, ec]
    · rintro H2 ⟨E, dE, kE, sE, S2⟩
      refine q D0 H2 (R.S.trans S2) ?_ ⟨E, dE, kE, ?_⟩
      · cases z : H D0 with
        | none => rfl
        | some o => rw [R.S _ _ z] at hD0; cases hD0
      · rw [sE, List.length_map, lenT, ← cop_len, List.take_length]
end
end S1

set_option Elab.async false
set_option linter.all false
set_option maxRecDepth 100000
set_option maxHeartbeats 4000000
/-! the places of the copies that a play reaches -/
namespace S1
open PySem PySem.W PySem.Spec PyProof.Rows L2
theorem sees_len {s : Say} {a b c d : Nat} (ok : SayOk a b c d s) {bs : List Bool} (hl : bs.length = s.picks.length) {o : Own} (ho : o ∈ s.owns) : (seesD s.picks o.2 bs).length = o.2.length := by
  have h := ok.on o ho
  have := congrArg List.length (sees_is s.picks o.2 bs ok.pu h.2.2.1 h.2.2.2 hl)
  simpa using this.symm
theorem sees_cop {s : Say} {a b c d : Nat} (ok : SayOk a b c d s) {bs : List Bool} (hl : bs.length = s.picks.length) {o : Own} (ho : o ∈ s.owns) : ((o.1, seesD s.picks o.2 bs) : Cpy) ∈ copD s.owns := mem_cop.mpr ⟨o, ho, rfl, mem_seen _ _ (sees_len ok hl ho)⟩
theorem valV_none {k : Key} : ∀ {kvs : List (Key × V)}, (∀ q ∈ kvs, q.1 ≠ k) → valV kvs k = none
  | [], _ => rfl
  | q :: kvs, h => by
    rw [valV_neg (h q List.mem_cons_self)]
    exact valV_none fun q' hq' => h q' (List.mem_cons_of_mem _ hq')
/-- the place of the copy of an own at a play -/
def hereOf (s : Say) (bs : List Bool) (o : Own) : Nat := plc s.owns (o.1, seesD s.picks o.2 bs)
def hereK (s : Say) (bs : List Bool) : List (Key × V) := s.owns.map fun o => (Sum.inr o.1, V.int ((hereOf s bs o : Nat) : Int))
def spCopiesAt (w : World) : Sp := fun vs H Q _ => ∃ (v u : V) (D : Addr) (s : Say) (bs : List Bool), vs = [v, .ref D, u] ∧ DatS H v s ∧ SayOk 6 8 120 40 s ∧ Plc w H D s.owns ∧ Dat H u (blsD bs) ∧ bs.length = s.picks.length ∧
  ∀ (r : Addr) (H' : Hp), Same H H' → H r = none → H' r = some (.dK (hereK s bs)) → Q (.ref r) H'
section
variable {P : Program} {w : World} {K : PySem.W.Frag} {mg : Str → Option Value} {base : Heap}
theorem scCopiesAt : FnScope ["saying", "places", "play", "truths", "name", "sight"] ["saying", "places", "play"] (defScope sCopiesAt) := ⟨rfl, rfl, rfl, by decide +kernel, rfl, by decide +kernel, by decide +kernel⟩
theorem ok_copiesAt {f fT fS : Addr} {fd fdT fdS : FuncData} (F : Fun K "copies_at" "copies_at" sCopiesAt f fd) (Ts : Has K mg "truths_at" sTruthsAt ["saying", "play"] fT fdT) (Sb : Has K mg "seen_by" sSeenBy ["sight", "truths"] fS fdS) (B : Blt mg) :
    FnOk P w K mg base CX0 2 f fd ["saying", "places", "play"] (spCopiesAt w) := by
  have GT : FnOk P w K mg base CX0 1 fT fdT ["saying", "play"] spTruthsAt := ok_truthsAt Ts.F B
  have GS : FnOk P w K mg base CX0 1 fS fdS ["sight", "truths"] spSeenBy := ok_seenBy Sb.F B
  refine F.ok scCopiesAt (fun vs H Q E h => ?_) (fun cdv A outer s H vs Q E hr h => ?_)
  · obtain ⟨v, u, D, sy, bs, rfl, _⟩ := h
    rfl
  · obtain ⟨v, u, pD, sy, bs, rfl, D, ok, pl, Du, hl, q⟩ := h
    have hu : (A.deeper (envOfC "copies_at" (defScope sCopiesAt) s.heap.objs.size f cdv)).units + 16 < cLine := by
      have h64 : (A.deeper (envOfC "copies_at" (defScope sCopiesAt) s.heap.objs.size f cdv)).units + 64 < cLine := hr.units
      omega
    refine ⟨_, pss_cons (ps_set (i := 3) scCopiesAt.nd rfl (.inr rfl) (pe_call GT (by exact hr) (by rfl) Ts.g Ts.F.kp Ts.b .nil pass0 (pa_cons (pv 0) (pa_cons (pv 2) pa_nil))))
      (pss_one (ps_ret (pe_dc (own := [("name", 4), ("sight", 5)]) (g := gTup K 2 (gCons (gName 4) (gCons (gName 5) gNil))) (tt := tYes) (tk := tVar 4) (tv := tNGet w (tVar 1) (tTup (tCons (tVar 4) (tCons (tCall spSeenBy [] E0 (tCons (tVar 5) (tCons (tVar 3) tNil))) tNil)))) rfl scCopiesAt.nd
      (pi_tup (pe_ix ix_tup (pv 0) pe_int (fun _ _ => rfl)))
      (blkOk_by (N := ["saying", "places", "play", "truths", "name", "sight"]) (sc := defScope sCopiesAt) (by decide +kernel))
      (fun _ _ _ _ _ => by exact pg_tup rfl (pgs_cons (pg_name (i := 4) scCopiesAt.nd rfl (.inl rfl)) (pgs_cons (pg_name (i := 5) scCopiesAt.nd rfl (.inl rfl)) pgs_nil))) (fun _ _ _ _ _ => pts_nil)
      (fun _ _ _ _ _ => by exact pv 4) (fun _ _ _ _ _ => by exact pe_nget (by exact hu) (pv 1) (pe_tup (pa_cons (pv 4) (pa_cons (pe_call GS (by exact hr) (by rfl) Sb.g Sb.F.kp Sb.b .nil pass0 (pa_cons (pv 5) (pa_cons (pv 3) pa_nil))) pa_nil))) (fun _ _ => rfl))))), ?_⟩
    obtain ⟨a, pk, ow, c, rfl, ea, Dp, Do, Dc⟩ := say_row D
    obtain ⟨b, us, rfl, eb, Db⟩ := Do
    have lu : us.length = sy.owns.length := by rw [Db.len, List.length_map]
    have lo := ok.ol
    refine ⟨_, rfl, _, rfl, _, u, sy, bs, rfl, D, Du, ok.pu, hl, fun p hp => ?_⟩
    have S1 := same_new (o := .dK (truK sy.picks bs)) hp
    have ep : upd H p (.dK (truK sy.picks bs)) p = some (.dK (truK sy.picks bs)) := upd_same
    refine ⟨_, rfl, a, _, 1, _, rfl, rfl, SqT.of (S1 _ _ ea), rfl, b, rfl, ⟨_, FT.sq (FT.same eb S1)⟩, fun D0 hD0 => ?_⟩
    have hD : H D0 = none := by
      cases z : H D0 with
      | none => rfl
      | some o => rw [S1 _ _ z] at hD0; cases hD0
    refine turns_tup (K := K) (a := b) (xs := us) (fun j H4 => H4 D0 = some (.dK (hereK sy bs |>.take j)) ∧ Same (upd H p (.dK (truK sy.picks bs))) H4)
      ⟨upd_same, same_new hD0⟩ (fun j H4 _ ⟨_, S4⟩ => FT.sq (FT.same eb (S1.trans S4))) ?_ ?_
    · rintro j x4 H4 hx4 ⟨e4, S4⟩
      have SH := S1.trans S4
      obtain ⟨d, hd, Dx⟩ := dats_get' Db j x4 hx4
      obtain ⟨o, ho, rfl⟩ := get_map hd
      obtain ⟨t, rfl⟩ := tuple_ref (ds := [.str o.1, nmsD o.2]) Dx
      obtain ⟨t', g1, g2⟩ := own_row (q := (t, ownD o)) rfl Dx
      have Ds : Dat H (.ref t') (nmsD o.2) := .tup g2 (dats_strs o.2)
      have om := List.mem_of_getElem? ho
      have og := ok.on o om
      have ol : o.2.length ≤ 1000 := by
        have := ok.pl
        have h2 := (ok.own om).le
        omega
      refine ⟨t, _, rfl, SqT.of (SH _ _ g1), rfl, _, _, rfl, _, _, rfl, rfl, rfl, yes_of ?_⟩
      refine ⟨_, rfl, _, rfl, _, rfl, _, rfl, _, rfl, .ref t', p, sy.picks, o.2, bs, rfl, Ds.same SH, .inl (S4 _ _ ep), ok.pu, og.2.2.1, og.2.2.2, hl, ol, fun r H5 S5 Dr => ?_⟩
      refine ⟨(by show 2 ≤ sizeLine; decide), fun tt htt => ?_⟩
      have S6 := same_new (o := .tup [V.str o.1, r]) htt
      obtain ⟨E, dE, kE, look⟩ := (pl.same ((SH.trans S5).trans S6)).look
      have hh := look _ (sees_cop ok hl om)
      have jl : j < sy.owns.length := (List.getElem?_eq_some_iff.mp ho).1
      have hk : (hereK sy bs)[j]? = some (Sum.inr o.1, V.int ((hereOf sy bs o : Nat) : Int)) := by unfold hereK; rw [List.getElem?_map, ho]; rfl
      have lk : (hereK sy bs).length = sy.owns.length := List.length_map _
      refine ⟨pD, tt, E, cpD (o.1, seesD sy.picks o.2 bs), V.int ((hereOf sy bs o : Nat) : Int), rfl, rfl, dE, kE, .tup upd_same (.cons (.str o.1) (.cons (Dr.same S6) .nil)), keyable_cp _, Nat.le_trans (depth_cpD _) (by decide), hh, ?_⟩
      have e7 := S6 _ _ (S5 _ _ e4)
      refine ⟨_, .inr o.1, rfl, e7, by rw [List.length_take, lk]; exact small1000 (by omega), ?_, same_upd ((S4.trans S5).trans S6) hD0⟩
      rw [upd_same, putK_new _ ?_, take_next hk]
      refine valV_none fun q' hq' z => ?_
      obtain ⟨i', hi', rfl⟩ := List.getElem_of_mem hq'
      rw [List.length_take, lk] at hi'
      rw [List.getElem_take] at z
      have i2 : i' < sy.owns.length := by omega
      have zz : ((hereK sy bs)[i']'(by rw [lk]; exact i2)).1 = Sum.inr (sy.owns[i']'i2).1 := by unfold hereK; rw [List.getElem_map]
      rw [zz] at z
      have lt := List.pairwise_iff_getElem.mp ok.ou i' j i2 jl (by omega)
      have ej := (List.getElem?_eq_some_iff.mp ho).2
      rw [ej, Sum.inr.inj z] at lt
      exact tlt_irrefl _ lt
    · rintro H4 ⟨e4, S4⟩
      refine q D0 H4 (S1.trans S4) hD ?_
      rw [e4, lu, List.take_of_length_le (by unfold hereK; rw [List.length_map]; exact Nat.le_refl _)]
end
end S1

set_option Elab.async false
set_option linter.all false
set_option maxRecDepth 100000
set_option maxHeartbeats 4000000
/-! what a clause tells at a play, by places -/
namespace S1
open PySem PySem.W PySem.Spec PyProof.Rows L2
/-- where an own's copy stands, by its name -/
def hereAt (s : Say) (bs : List Bool) (x : Str) : Option Nat := (s.owns.find? fun o => decide (o.1 = x)).map (hereOf s bs)
theorem here_val (s : Say) (bs : List Bool) (x : Str) : valV (hereK s bs) (.inr x) = (hereAt s bs x).map fun n => V.int ((n : Nat) : Int) := by
  unfold hereK hereAt
  induction s.owns with
  | nil => rfl
  | cons o os ih =>
    rw [List.map_cons]
    by_cases e : o.1 = x
    · rw [valV_pos (by rw [e])]
      simp [e]
    · rw [valV_neg (fun z => e (Sum.inr.inj z)), ih]
      simp [e]
theorem here_none {s : Say} {bs : List Bool} {x : Str} : hereAt s bs x = none ↔ x ∉ s.owns.map Prod.fst := by
  unfold hereAt
  rw [Option.map_eq_none_iff, List.find?_eq_none]
  constructor
  · intro h m
    obtain ⟨o, ho, e⟩ := List.mem_map.mp m
    exact h o ho (decide_eq_true e)
  · intro h o ho z
    exact h (List.mem_map.mpr ⟨o, ho, of_decide_eq_true z⟩)
def b2n (b : Bool) : Nat := if b = true then 1 else 0
/-- the letters of owns, by places -/
def codes (s : Say) (bs : List Bool) (cl : List Ltr) : List Nat := cl.filterMap fun l => (hereAt s bs l.1).map fun n => 2 * n + b2n l.2
/-- some letter of a pick is so -/
def dead (s : Say) (bs : List Bool) (cl : List Ltr) : Bool := cl.any fun l => (hereAt s bs l.1).isNone && decide (truOf s.picks bs l.1 = some l.2)
def ltrsD (ns : List Nat) : PyData := .tuple (ns.map fun n => PyData.int ((n : Nat) : Int))
theorem codes_len (s : Say) (bs : List Bool) (cl : List Ltr) : (codes s bs cl).length ≤ cl.length := List.length_filterMap_le _ _
theorem codes_snoc (s : Say) (bs : List Bool) (cl : List Ltr) (l : Ltr) : codes s bs (cl ++ [l]) = codes s bs cl ++ ((hereAt s bs l.1).map fun n => 2 * n + b2n l.2).toList := by
  unfold codes
  rw [List.filterMap_append]
  cases h : hereAt s bs l.1 <;> simp [h]
theorem dead_snoc (s : Say) (bs : List Bool) (cl : List Ltr) (l : Ltr) : dead s bs (cl ++ [l]) = (dead s bs cl || ((hereAt s bs l.1).isNone && decide (truOf s.picks bs l.1 = some l.2))) := by
  unfold dead
  rw [List.any_append]
  simp
theorem dats_ints {H : Hp} : ∀ ns : List Nat, DatAll H (ns.map fun n => V.int ((n : Nat) : Int)) (ns.map fun n => PyData.int ((n : Nat) : Int))
  | [] => .nil
  | n :: ns => .cons (.int _) (dats_ints ns)
def spLettersIn : Sp := fun vs H Q _ => ∃ (u : V) (tr he : Addr) (s : Say) (bs : List Bool) (cl : List Ltr), vs = [u, .ref tr, .ref he] ∧ Dat H u (clD cl) ∧ H tr = some (.dK (truK s.picks bs)) ∧ H he = some (.dK (hereK s bs)) ∧ bs.length = s.picks.length ∧ (∀ l ∈ cl, l.1 ∈ s.names) ∧ cl.length ≤ 14 ∧ copies s.owns ≤ 120 ∧
  ∀ H', Same H H' → (dead s bs cl = true → Q .non H') ∧ (dead s bs cl = false → ∀ r, Dat H' (.ref r) (ltrsD (codes s bs cl)) → Q (.ref r) H')
theorem here_lt {s : Say} {bs : List Bool} {x : Str} {n : Nat} (h : hereAt s bs x = some n) : n ≤ copies s.owns := by
  unfold hereAt at h
  obtain ⟨o, _, rfl⟩ := Option.map_eq_some_iff.mp h
  unfold hereOf plc
  rw [← cop_len]
  exact List.idxOf_le_length
theorem tru_some {x : Str} : ∀ {ps : List Str} {bs : List Bool}, bs.length = ps.length → x ∈ ps → ∃ b, truOf ps bs x = some b
  | p :: ps, [], l, _ => by simp at l
  | p :: ps, b :: bs, l, h => by
    by_cases e : p = x
    · subst e
      exact ⟨b, tru_pos⟩
    · rw [tru_neg e]
      exact tru_some (by simpa using l) ((List.mem_cons.mp h).elim (fun z => absurd z.symm e) id)
section
variable {P : Program} {w : World} {K : PySem.W.Frag} {mg : Str → Option Value} {base : Heap}
theorem scLettersIn : FnScope ["clause", "truths", "places", "letters", "name", "truth"] ["clause", "truths", "places"] (defScope sLettersIn) := ⟨rfl, rfl, rfl, by decide +kernel, rfl, by decide +kernel, by decide +kernel⟩
theorem ok_lettersIn {f : Addr} {fd : FuncData} (F : Fun K "letters_of" "letters_of" sLettersIn f fd) (B : Blt mg) : FnOk P w K mg base CX0 1 f fd ["clause", "truths", "places"] spLettersIn := by
  refine F.ok scLettersIn (fun vs H Q E h => ?_) (fun cdv A outer s H vs Q E hr h => ?_)
  · obtain ⟨u, tr, he, sy, bs, cl, rfl, _⟩ := h
    rfl
  · obtain ⟨u, tr, he, sy, bs, cl, rfl, Du, et, eh, hl, nm, lc, cp, q⟩ := h
    have hu1 : (A.deeper (envOfC "letters_of" (defScope sLettersIn) s.heap.objs.size f cdv)).units + 1 < cLine := by
      have h64 : (A.deeper (envOfC "letters_of" (defScope sLettersIn) s.heap.objs.size f cdv)).units + 64 < cLine := hr.units
      omega
    refine ⟨_, pss_cons (ps_set (i := 3) scLettersIn.nd rfl (.inl rfl) (pe_lst pa_nil))
      (pss_cons (ps_for PassesOwn.never rfl (pi_tup (pv 0)) (pg_tup rfl (pgs_cons (pg_name (i := 4) scLettersIn.nd rfl (.inl rfl)) (pgs_cons (pg_name (i := 5) scLettersIn.nd rfl (.inl rfl)) pgs_nil)))
        (pss_one (ps_if (pt_cmp (pc_din (by exact hu1) (pv 4) (pv 2)))
          (pss_one (ps_expr (pe_bm PySem.F.plainAttrs_list PySem.F.slot_list_append PySem.F.type_list_append mt_append (pv 3) (pa_cons (pe_op op_add_ib (pe_op op_mul pe_int (pe_dget (by exact hu1) (pv 2) (pv 4) (fun _ _ => rfl))) (pv 5)) pa_nil))))
          (pss_one (ps_if (pt_cmpR op_eq (pe_dget (by exact hu1) (pv 1) (pv 4) (fun _ _ => rfl)) (pv 5) (nomark _)) (pss_one (ps_ret pe_non)) pss_nil)))))
      (pss_one (ps_ret (pe_tupleOf rfl B.tuple (pv 3))))), ?_⟩
    obtain ⟨k, xs, rfl, ek, Dk⟩ := dat_tup (ds := cl.map ltD) Du
    have lx : xs.length = cl.length := by rw [Dk.len, List.length_map]
    refine ⟨Nat.zero_le _, fun l0 hl0 => ?_⟩
    have S0 := same_new (o := .lst []) hl0
    refine ⟨_, rfl, k, rfl, ⟨_, SqT.of (S0 _ _ ek)⟩, ?_⟩
    refine for_tup (K := K) (a := k) (xs := xs) (fun i σ H' => ∃ (o4 o5 : Option V), σ = [some (.ref k), some (.ref tr), some (.ref he), some (.ref l0), o4, o5] ∧ dead sy bs (cl.take i) = false ∧ H' l0 = some (.lst ((codes sy bs (cl.take i)).map fun n => V.int ((n : Nat) : Int))) ∧ Same H H') ⟨_, _, rfl, rfl, upd_same, S0⟩ (fun i σ H' _ ⟨_, _, _, _, _, S⟩ => SqT.of (S _ _ ek)) ?_ ?_
    · rintro i x σ H' hx ⟨o4, o5, rfl, dd, el, S1⟩
      obtain ⟨d, hd, Dx⟩ := dats_get' Dk i x hx
      obtain ⟨l, hl', rfl⟩ := get_map hd
      obtain ⟨t, rfl, e2⟩ := ltr_row Dx
      have lm := List.mem_of_getElem? hl'
      have tk := take_next hl'
      have dn := dead_snoc sy bs (cl.take i) l
      have cn := codes_snoc sy bs (cl.take i) l
      rw [← tk] at dn cn
      have cl2 := codes_len sy bs (cl.take i)
      rw [List.length_take] at cl2
      have hv := here_val sy bs l.1
      refine ⟨t, _, rfl, SqT.of (S1 _ _ e2), rfl, _, _, rfl, _, _, rfl, rfl, ?_⟩
      refine ⟨_, rfl, _, rfl, he, _, rfl, .inl ⟨hereK sy bs, .inr l.1, .inl (S1 _ _ eh), rfl, rfl⟩, _, rfl, ?_⟩
      rw [hv]
      cases hh : hereAt sy bs l.1 with
      | some n =>
        rw [hh] at hv dn cn
        have nl := here_lt hh
        rw [if_pos (by rfl)]
        have e2 : (2 : Int) * ((n : Nat) : Int) + b2i l.2 = ((2 * n + b2n l.2 : Nat) : Int) := by
          cases l.2 <;> simp [b2i, b2n]
        refine ⟨_, rfl, .inl ⟨rfl, _, SqL.of el⟩, _, rfl, _, rfl, he, _, rfl, .inl ⟨hereK sy bs, .inr l.1, .inl (S1 _ _ eh), rfl, hv.symm⟩, 2, _, rfl, rfl, .inl (by decide), _, rfl, _, _, rfl, rfl, ?_⟩
        rw [e2]
        refine ⟨l0, _, _, rfl, rfl, el, by rw [List.length_map]; exact small1000 (by omega), ?_⟩
        refine ⟨_, _, rfl, ?_, ?_, same_upd S1 hl0⟩
        · rw [dn, dd]
          rfl
        · rw [upd_same, cn, List.map_append]
          rfl
      | none =>
        rw [hh] at hv dn cn
        rw [if_neg (by decide)]
        have lo : l.1 ∉ sy.owns.map Prod.fst := here_none.mp hh
        have lp : l.1 ∈ sy.picks := by
          have z := nm l lm
          unfold Say.names at z
          exact (List.mem_append.mp z).elim id fun z => absurd z lo
        obtain ⟨tb, htb⟩ := tru_some (x := l.1) hl lp
        have tv := tru_val l.1 sy.picks bs
        rw [htb] at tv
        refine ⟨_, rfl, _, rfl, tr, .bl tb, rfl, .inl ⟨_, .inr l.1, .inl (S1 _ _ et), rfl, tv.symm⟩, _, rfl, rfl, _, rfl, ?_⟩
        show if decide (V.bl tb = V.bl l.2) = true then _ else _
        have ed : decide (truOf sy.picks bs l.1 = some l.2) = decide (V.bl tb = V.bl l.2) := by
          rw [htb]
          by_cases z : tb = l.2
          · rw [decide_eq_true (by rw [z]), decide_eq_true (by rw [z])]
          · rw [decide_eq_false (fun y => z (Option.some.inj y)), decide_eq_false (fun y => z (V.bl.inj y))]
        rw [ed] at dn
        cases hd2 : decide (V.bl tb = V.bl l.2) with
        | true =>
          rw [if_pos rfl]
          refine (q _ S1).1 ?_
          rw [hd2] at dn
          have dall : dead sy bs (cl.take (i + 1)) = true := by rw [dn]; simp
          unfold dead at dall ⊢
          obtain ⟨z, hz, hz2⟩ := List.any_eq_true.mp dall
          exact List.any_eq_true.mpr ⟨z, List.mem_of_mem_take hz, hz2⟩
        | false =>
          rw [if_neg (by decide)]
          rw [hd2, dd] at dn
          refine ⟨_, _, rfl, ?_, ?_, S1⟩
          · rw [dn]
            rfl
          · rw [cn, el]
            simp
    · rintro σ H' ⟨o4, o5, rfl, dd, el, S1⟩
      rw [lx, List.take_length] at dd el
      refine ⟨_, rfl, .inl ⟨l0, _, rfl, SqL.of el, fun t1 ht1 => ?_⟩⟩
      exact (q _ (S1.trans (same_new ht1))).2 dd t1 (.tup upd_same (dats_ints _))
end
end S1

set_option Elab.async false
set_option linter.all false
set_option maxRecDepth 100000
set_option maxHeartbeats 4000000
/-! zip of a tuple and a list -/
namespace L2
open PySem PySem.Spec PyProof.Rows
def ItzM (K : PySem.W.Frag) (a b : Addr) : It :=
  ⟨fun i H => ∃ (xs ys : List V) (x y : V), SqT K H a xs ∧ SqL K H b ys ∧ xs[i]? = some x ∧ ys[i]? = some y,
    fun i H v H' => ∃ T x y, v = .ref T ∧ H T = none ∧ H' = upd H T (.tup [x, y]) ∧ (∀ xs, SqT K H a xs → xs[i]? = some x) ∧ ∀ ys, SqL K H b ys → ys[i]? = some y,
    fun i H => ∃ xs ys : List V, SqT K H a xs ∧ SqL K H b ys ∧ xs.length = i ∧ ys.length = i⟩
theorem sep_of {z TI TO i1 i2 a b : Addr} (D : ZipApart z TI TO i1 i2 a b) : ZipSep2 z TI TO i1 i2 [i1, a] [i2, b] where
  TIz := D.TIz
  TOz := D.TOz
  TITO := D.TITO
  TIi1 := D.TIi1
  mem1 := by simp
  zf1 := by simp [D.i1z.symm, D.l1z.symm]
  Tf1 := by simp [D.TOi1, D.l1TO.symm]
  TIi2 := D.TIi2
  mem2 := by simp
  zf2 := by simp [D.i2z.symm, D.l2z.symm]
  Tf2 := by simp [D.TOi2, D.l2TO.symm]
  sep1_2 := by simp [D.i12, D.l2i1.symm]
  sep2_1 := by simp [D.i12.symm, D.l1i2.symm]
theorem turn_zipM {P : Program} {w : World} {K : PySem.W.Frag} {elts : List Expr} {kk : Nat} {tpos : Pos} {a b z TI TO i1 i2 : Addr} (D : ZipApart z TI TO i1 i2 a b) :
    Turn P w K (.Tuple elts kk tpos) (ItzM K a b) [z, TI, TO, i1, i2] z (fun i h => IsZip h z TI TO .none ∧ IsPair h TI (.ref i1) (.ref i2) ∧ (∃ x y, IsPair h TO x y) ∧ h.IsTupleIter i1 a i ∧ h.IsListIter i2 b i) where
  mem := by simp
  obj := fun i h st c hc => by
    obtain ⟨hz, hTI, ⟨x, y, hTO⟩, ⟨o1, e1, _, d1⟩, ⟨o2, e2, _, d2⟩⟩ := st
    have e' : c = z ∨ c = TI ∨ c = TO ∨ c = i1 ∨ c = i2 := by simpa using hc
    rcases e' with q | q | q | q | q
    · rw [q]; exact ⟨_, hz, fun v q => nomatch q⟩
    · rw [q]; exact ⟨_, hTI, fun v q => nomatch q⟩
    · rw [q]; exact ⟨_, hTO, fun v q => nomatch q⟩
    · rw [q]; exact ⟨o1, e1, fun v q => by rw [d1] at q; cases q⟩
    · rw [q]; exact ⟨o2, e2, fun v q => by rw [d2] at q; cases q⟩
  keep := fun i h h' st k => by
    obtain ⟨hz, hTI, ⟨x, y, hTO⟩, h1, h2⟩ := st
    exact ⟨k z (by simp) _ hz, k TI (by simp) _ hTI, ⟨x, y, k TO (by simp) _ hTO⟩, h1.at fun o q => k i1 (by simp) o q, h2.at fun o q => k i2 (by simp) o q⟩
  item := by
    intro X hP hw hK hc i pins s σ H E I hf st hg
    subst hP hw hK
    obtain ⟨hz, hTI, ⟨x0, y0, hTO⟩, h1, h2⟩ := st
    obtain ⟨xs, ys, x, y, hqx, hqy, hx, hy⟩ := hg
    obtain ⟨its, rv, p, _⟩ := I.tuple hqx
    obtain ⟨its2, rv2, p2, _⟩ := I.list hqy
    obtain ⟨u, hu, ru⟩ := rv.get hx
    obtain ⟨u2, hu2, ru2⟩ := rv2.get hy
    have hzl : z < s.heap.objs.size := Heap.lt_size hz
    have l1 : i < its.toArray.size := by
      have := (List.getElem?_eq_some_iff.mp hu).1
      simpa using this
    have l2 : i < its2.toArray.size := by
      have := (List.getElem?_eq_some_iff.mp hu2).1
      simpa using this
    have hh : X.A.in1.handled = none := I.ok.hd hc
    refine wpAny_pyNext_zipD2_item (sep_of D) (Draws.tuple hh i1 a D.l1i1 its.toArray) (Draws.list hh i2 b D.l2i2 its2.toArray) hz hTI hTO ⟨h1, p⟩ ⟨h2, p2.isList⟩ l1 l2 fun u' u2' h' tk pu pu2 z' TO' h1' h2' hT hsz hk => ?_
    have eu : u' = u := by
      have pu' : its.toArray[i]? = some u' := pu
      rw [List.getElem?_toArray, hu] at pu'
      exact (Option.some.inj pu').symm
    have eu2 : u2' = u2 := by
      have pu' : its2.toArray[i]? = some u2' := pu2
      rw [List.getElem?_toArray, hu2] at pu'
      exact (Option.some.inj pu').symm
    subst eu
    subst eu2
    refine ⟨_, rfl, wpAny_letOwnedTupleGo_zip (s := { s with heap := h', toks := tk }) z' fun h'' z'' sb => ?_⟩
    have hT2 : h''.get? s.heap.objs.size = some { cls := .type "tuple", data := .seq #[u', u2'] } := (sb.2 _ (Nat.ne_of_gt hzl)).trans hT
    have new : ObjOk X.prog X.w (upd H s.heap.objs.size (.tup [x, y])) h'' s.heap.objs.size (.tup [x, y]) :=
      ⟨by show 2 ≤ sizeLine; decide, [u', u2'], .cons ru (.cons ru2 .nil), ⟨_, hT2, rfl, _, rfl⟩⟩
    have I1 : Inv X pins σ (upd H s.heap.objs.size (.tup [x, y])) { s with heap := h'', toks := tk } :=
      I.turnedNew (t' := tk) (ch := [z, TI, TO, i1, i2]) (fun c o hb q => (sb.2 c (fun q' => hb (by simp [q']))).trans (hk c o (fun q' => hb (by simp [q'])) (fun q' => hb (by simp [q'])) (fun q' => hb (by simp [q'])) (fun q' => hb (by simp [q'])) q)) hf (Nat.le_refl _) new
    refine ⟨.ref s.heap.objs.size, _, I1, rfl, ⟨_, x, y, rfl, I.hok.fresh (Nat.le_refl _), rfl, fun l hl => by rw [I.tuple_inj hl hqx]; exact hx, fun l hl => by rw [I.list_inj hl hqy]; exact hy⟩, ⟨z'', ?_, ⟨u', u2', ?_⟩, ?_, ?_⟩, fun c hcm => ?_⟩
    · exact (sb.2 _ D.TIz).trans (hk _ _ D.TIz D.TITO D.TIi1 D.TIi2 hTI)
    · exact (sb.2 _ D.TOz).trans TO'
    · exact h1'.1.at fun o q => (sb.2 _ D.i1z).trans q
    · exact h2'.1.at fun o q => (sb.2 _ D.i2z).trans q
    · have hlt : c < s.heap.objs.size := by
        have e' : c = z ∨ c = TI ∨ c = TO ∨ c = i1 ∨ c = i2 := by simpa using hcm
        rcases e' with q | q | q | q | q
        · rw [q]; exact hzl
        · rw [q]; exact Heap.lt_size hTI
        · rw [q]; exact Heap.lt_size hTO
        · rw [q]; obtain ⟨_, e1, _⟩ := h1; exact Heap.lt_size e1
        · rw [q]; obtain ⟨_, e2, _⟩ := h2; exact Heap.lt_size e2
      rw [upd_ne (Nat.ne_of_lt hlt)]
      exact (hf c hcm).1
  done := by
    intro X hP hw hK hc i pins s σ H E I hf st hg
    subst hP hw hK
    obtain ⟨hz, hTI, ⟨x0, y0, hTO⟩, h1, h2⟩ := st
    obtain ⟨xs, ys, hqx, hqy, e1, e2⟩ := hg
    obtain ⟨its, rv, p, _⟩ := I.tuple hqx
    obtain ⟨its2, rv2, p2, _⟩ := I.list hqy
    have l1 := rv.length
    have l2 := rv2.length
    have hh : X.A.in1.handled = none := I.ok.hd hc
    exact wpAny_pyNext_zipD2_end (sep_of D) (Draws.tuple hh i1 a D.l1i1 its.toArray) (Draws.list hh i2 b D.l2i2 its2.toArray) hz hTI hTO ⟨h1, p⟩ ⟨h2, p2.isList⟩ (by simp; omega) (by simp; omega) (.inl (by simp; omega)) fun h' tk hk => ⟨rfl, I.turnedL (t' := tk) (ch := [z, TI, TO, i1, i2]) (fun c o hb q =>
      hk c o (fun q' => hb (by simp [q'])) (fun q' => hb (by simp [q'])) (fun q' => hb (by simp [q'])) (fun q' => hb (by simp [q'])) q) hf⟩
  self := fun A i s Q E st h => wpAny_pyIter_zip st.1 h
def iZipM (K : PySem.W.Frag) (ta : TA) : TI := fun σ H R => ta σ H fun vs H1 => ∃ a b xs ys, vs = [.ref a, .ref b] ∧ SqT K H1 a xs ∧ SqL K H1 b ys ∧ R (ItzM K a b) H1
theorem pi_zipM {X : Cx} {e e2 : Expr} {ta : TA} {p pos tpos : Pos} {elts : List Expr} {kk : Nat} (hg : Gl X "zip") (hm : X.mg "zip" = none) (ha : PA X [e, e2] ta)
    (hs : starEach [e, e2] X.env = (false, eval e X.env) :: starEach [e2] X.env := by rfl) (hpl : (backTo pos (starEach [e2] X.env)).any (·.1) = false := by rfl) :
    PI X (.Tuple elts kk tpos) (.Call (.Name "zip" p) [e, e2] [] pos) (iZipM X.K ta) := by
  refine ⟨fun pins s σ H R I h => ?_⟩
  refine Call_ (ld_blt I hg hm PyProof.Rows.boot_zip (PyProof.Rows.callWith_type1 (thn (ha.run pos pins s σ H _ I h) fun us s1 ⟨vs, H1, I1, r1, q1⟩ => ?_) hs hpl))
  obtain ⟨a, b, xs, ys, ex, hqx, hqy, q⟩ := q1
  subst ex
  cases r1 with
  | cons r rr =>
    cases rr with
    | cons r' rr =>
      cases rr
      cases r
      cases r'
      obtain ⟨its, rv, p1, _⟩ := I1.tuple hqx
      obtain ⟨its2, rv2, p2, _⟩ := I1.list hqy
      have la : a < s1.heap.objs.size := p1.lt
      have lb : b < s1.heap.objs.size := p2.lt
      refine zip_begins2 (begins_tuple a its.toArray) (begins_list b its2.toArray) p1 p2.isList fun h' hz hTI hTO h1 h2 hsz hk => wpAny_pyIter_zip hz ?_
      have I2 : Inv X pins σ H1 { s1 with heap := h' } := I1.kept (t' := s1.toks) hk
      refine ⟨s1.heap.objs.size + 4, [s1.heap.objs.size + 4, s1.heap.objs.size + 2, s1.heap.objs.size + 3, s1.heap.objs.size, s1.heap.objs.size + 1], _, _, H1, rfl, I2, turn_zipM (PySem.W.ktu_apart s1.heap.objs.size a b la lb), ⟨hz, hTI, ⟨_, _, hTO⟩, ⟨_, h1, rfl, rfl⟩, ⟨_, h2, rfl, rfl⟩⟩, fun c hcm => ?_, q⟩
      have e' : c = s1.heap.objs.size + 4 ∨ c = s1.heap.objs.size + 2 ∨ c = s1.heap.objs.size + 3 ∨ c = s1.heap.objs.size ∨ c = s1.heap.objs.size + 1 := by simpa using hcm
      have hle : s1.heap.objs.size ≤ c := by
        rcases e' with z | z | z | z | z
        · rw [z]; exact Nat.le_add_right _ _
        · rw [z]; exact Nat.le_add_right _ _
        · rw [z]; exact Nat.le_add_right _ _
        · rw [z]; exact Nat.le_refl _
        · rw [z]; exact Nat.le_add_right _ _
      exact I1.fpOk hle (I1.hok.fresh hle)
theorem walk_zipM {K : PySem.W.Frag} {a b : Addr} {xs ys : List V} {n : Nat} (h1 : xs.length = n) (h2 : ys.length = n) : Walk (ItzM K a b) n (fun H => SqT K H a xs ∧ SqL K H b ys) (YPair (fun i => xs[i]?) (fun i => ys[i]?)) := by
  refine ⟨fun i H hi q => ⟨xs, ys, _, _, q.1, q.2, List.getElem?_eq_getElem (by omega), List.getElem?_eq_getElem (by omega)⟩, fun H q => ⟨xs, ys, q.1, q.2, h1, h2⟩, fun i H x H' hi q y => ?_⟩
  obtain ⟨T, x, y, rfl, hT, rfl, f1, f2⟩ := y
  exact ⟨T, x, y, rfl, hT, rfl, f1 xs q.1, f2 ys q.2⟩
end L2

set_option Elab.async false
set_option linter.all false
set_option maxRecDepth 100000
set_option maxHeartbeats 2000000
/-! list(d), sorted(d), d a dict keyed by tuples -/
namespace L2
open PySem PySem.W PySem.Spec PyProof.Rows
section
variable {X : Cx} {pins : List (Addr × Obj)} {σ : L2.St} {H : Hp} {s : Shared} {a : Addr} {D : List DRow}
theorem kn_get : ∀ {D : List DRow} {xs : List (NestedKey × Addr × Value)} {i : Nat} {p : DRow}, KN D xs → D[i]? = some p → ∃ q, xs[i]? = some q ∧ q.1 = nkey p.1.2 ∧ q.2.1 = p.1.1 ∧ RelV p.2 q.2.2
  | _, _, _, _, .nil, e => by simp at e
  | _, _, 0, _, .cons h _, e => by simp at e; subst e; exact ⟨_, rfl, h⟩
  | _, _, i + 1, _, .cons _ t, e => kn_get (i := i) t e
/-- the dict's own entries -/
theorem dn_raw {h : Heap} {P : Program} {w : World} (ok : HOk P w H h) (e : DnAt w H a D) (kk : KeysAt H D) : ∃ (es : Array DictEntry) (ep : Nat), h.DictRaw a es ep ∧ es.size = D.length ∧ (∀ (i : Nat) (p : DRow), D[i]? = some p → ∃ en : DictEntry, es[i]? = some en ∧ en.key = .ref p.1.1 ∧ RelV p.2 en.val) ∧ D.length ≤ sizeLine ∧ (a == sysModules) = false := by
  obtain ⟨xs, rel, ⟨o, es, ep, h1, h2, h3, h4, _, _⟩, hz, hd⟩ := dn_of ok e kk
  have hl : D.length = xs.length := Paired.length rel
  refine ⟨es, ep, ⟨o, h1, h2, h3⟩, (size_of_entries h4).trans hl.symm, fun i p hp => ?_, by omega, hd⟩
  obtain ⟨q, hq, q1, q2, q3⟩ := kn_get rel hp
  have z := entry_at h4 i
  rw [hq] at z
  exact ⟨_, z, by show Value.ref q.2.1 = _; rw [q2], q3⟩
theorem keys_items {es : Array DictEntry} {acc : Array Value} (hs : es.size = D.length) (he : ∀ (i : Nat) (p : DRow), D[i]? = some p → ∃ en : DictEntry, es[i]? = some en ∧ en.key = .ref p.1.1 ∧ RelV p.2 en.val) (h : ItemsOf (fun i v => ∃ hi : i < es.size, v = es[i].key) acc es.size) : acc.toList = (D.map Prod.fst).map TRow.r := by
  apply List.ext_getElem?
  intro i
  rw [Array.getElem?_toList, List.map_map, List.getElem?_map]
  cases hp : D[i]? with
  | none =>
    have hi : D.length ≤ i := List.getElem?_eq_none_iff.mp hp
    have : acc.size ≤ i := by rw [h.1]; omega
    rw [Array.getElem?_eq_none this]
    rfl
  | some p =>
    have hi : i < D.length := (List.getElem?_eq_some_iff.mp hp).1
    have ha : i < acc.size := by rw [h.1]; omega
    obtain ⟨hi2, e⟩ := h.2 i _ (Array.getElem?_eq_getElem ha)
    obtain ⟨en, h1, h2, _⟩ := he i p hp
    rw [Array.getElem?_eq_getElem ha, e]
    rw [Array.getElem?_eq_getElem hi2] at h1
    cases h1
    rw [h2]
    rfl
end
section
variable {X : Cx}
def rSortDn (w : World) : List V → Hp → VK → Prop := fun vs H Q => ∃ (a : Addr) (D : List DRow), vs = [V.ref a] ∧ DnAt w H a D ∧ KeysAt H D ∧ Sorty (D.map Prod.fst) ∧
  ∀ (T' : List TRow) (b : Addr), T'.Perm (D.map Prod.fst) → (T'.Pairwise fun p q => dataLt q.2 p.2 = false) → (((D.map Prod.fst).map Prod.snd).Nodup → T'.Pairwise fun p q => dataLt p.2 q.2 = true) → H b = none → Q (.ref b) (upd H b (.lst (T'.map TRow.v)))
theorem cr_sortDn (hc : X.calm = true) (hu : X.A.units + 64 < cLine) : CallR X (.builtin "sorted") (rSortDn X.w) := by
  intro pins s σ H vs us Q I r h
  obtain ⟨a, D, rfl, e, kk, so, q⟩ := h
  rw [Vals.ref1 r]
  obtain ⟨es, ep, raw, hs, he, hz, hd⟩ := dn_raw I.hok e kk
  have hsz : es.size ≤ sizeLine := by rw [hs]; exact hz
  refine Calls.call_function_entry PyProof.Rows.kind_sorted PyProof.Rows.plain_sorted PyProof.Rows.entry_sorted (PyProof.Rows.args_sorted1 _) ?_
  unfold Builtin.«sorted»
  refine wpAny_bind (m := checkCount "sorted" 1 1 _) (wpAny_pure ?_)
  refine wpAny_bind (kdu_collect (A := X.A.in1) (KdlSrc.rawDict (es := es) (ep := ep) hd) (I.ok.hd hc) raw hsz fun h' tk acc hk hacc => ?_)
  have ea := keys_items hs he hacc
  rw [ea]
  generalize hT : D.map Prod.fst = T at so q ⊢
  have hdat : ∀ p ∈ T, Dat H p.v p.2 := fun p hp => by
    rw [← hT] at hp
    obtain ⟨p', hp', rfl⟩ := List.mem_map.mp hp
    exact (kk p' hp').1
  have hzl : (T.map TRow.r).length ≤ sizeLine := by
    rw [List.length_map, ← hT, List.length_map]
    exact hz
  have I1 : Inv X pins σ H { s with heap := h', toks := tk } := I.kept (t' := tk) hk
  refine wpAny_bind (wpAny_newList ?_ (by exact hzl))
  have hoL : (h'.push (seqObj "list" (T.map TRow.r).toArray 0)).get? h'.objs.size = some (seqObj "list" (T.map TRow.r).toArray 0) := Heap.get?_push_size _ rfl
  show wpAny _ _ _ _ _ { s with heap := h'.push (seqObj "list" (T.map TRow.r).toArray 0), toks := tk }
  have old : ∀ {b : Addr} {u : Obj}, h'.get? b = some u → (h'.push (seqObj "list" (T.map TRow.r).toArray 0)).get? b = some u := fun e => Heap.get?_push_of_some _ e
  have rd : EachIs (fun v p => ∃ as, Reads (sortingHeap (h'.push (seqObj "list" (T.map TRow.r).toArray 0)) h'.objs.size (T.map TRow.r)) v p.2 as) (T.map TRow.r) T :=
    each_rows T fun p hp => by
      obtain ⟨as, z⟩ := I1.reads (hdat p hp)
      exact ⟨as, PyProof.Rows.Reads.keeps (fun b u e => sortingHeap_old (Nat.ne_of_lt (Heap.lt_size e)) (old e)) z⟩
  have tp : ∀ d ∈ T.map Prod.snd, ∃ xs, d = PyData.tuple xs := fun d z => by
    obtain ⟨p, hp, rfl⟩ := List.mem_map.mp z
    exact so.tup p hp
  have un : ∀ d, d ∈ T.map Prod.snd → X.A.in1.in1.units + d.depth < cLine := fun d z => by
    obtain ⟨p, hp, rfl⟩ := List.mem_map.mp z
    have z := so.deep p hp
    simp only [Around.in1_units]
    omega
  have srt := sortsAt_tups (prog := X.prog) (w := X.w) (A := X.A.in1.in1) (s := { s with heap := sortingHeap (h'.push (seqObj "list" (T.map TRow.r).toArray 0)) h'.objs.size (T.map TRow.r), toks := tk }) (each_map (R := fun v d => ∃ as, Reads _ v d as) Prod.snd rd) so.alike tp un
  have out := rows_each (sortVals_data (R := fun v p => v = TRow.r p) (enc := Prod.snd) false (each_rows T fun p _ => rfl) rd so.alike)
  refine wpAny_bind (wpAny_holding (wpAny_call_entry PyProof.Rows.slot_list_sort ⟨_, hoL, rfl⟩ PyProof.Rows.entry_list_sort
    (list_sort_vals (s := { s with heap := h'.push (seqObj "list" (T.map TRow.r).toArray 0), toks := tk }) hoL srt hzl ⟨_, rfl, ?_⟩) (PyProof.Rows.args_list_sort _)))
  rw [out]
  obtain ⟨e', he'⟩ := PyProof.Rows.sortedHeap_at (vs := T.map TRow.r) (out := ((sortT T).map TRow.r).toArray) hoL
  refine wpAny_pure ⟨_, rfl, .ref h'.objs.size, upd H h'.objs.size (.lst ((sortT T).map TRow.v)), I1.laid (t' := tk) (fun b u e => ?_) (Nat.le_refl _)
    ⟨by rw [List.length_map, (sortT_perm T).length_eq]; rw [List.length_map] at hzl; exact hzl, _, e', rows_vals _, he'⟩, rfl, q (sortT T) _ (sortT_perm T) (sortT_le T) (sortT_up T so.alike) (I1.hok.fresh (Nat.le_refl _))⟩
  have hb : b < h'.objs.size := Heap.lt_size e
  rw [PyProof.Rows.sortedHeap_old (Nat.ne_of_lt hb) (by rw [size_push']; exact Nat.lt_succ_of_lt hb)]
  exact old e
def rListDn (w : World) : List V → Hp → VK → Prop := fun vs H Q => ∃ (a : Addr) (D : List DRow), vs = [V.ref a] ∧ DnAt w H a D ∧ KeysAt H D ∧ ∀ b, H b = none → Q (.ref b) (upd H b (.lst ((D.map Prod.fst).map TRow.v)))
theorem call_listDn (hc : X.calm = true) : CallR X (.type "list") (rListDn X.w) := by
  intro pins s σ H vs us Q I r h
  obtain ⟨a, D, rfl, e, kk, q⟩ := h
  rw [Vals.ref1 r]
  obtain ⟨es, ep, raw, hs, he, hz, hd⟩ := dn_raw I.hok e kk
  have hsz : es.size ≤ sizeLine := by rw [hs]; exact hz
  refine kdl_call (KdlSrc.rawDict (es := es) (ep := ep) hd) (I.ok.hd hc) raw hsz fun h' tk acc c' hk hl hacc => ?_
  have ea := keys_items hs he hacc
  have ea2 : acc = ((D.map Prod.fst).map TRow.r).toArray := by rw [← ea]
  exact ⟨.ref _, upd H s.heap.objs.size (.lst ((D.map Prod.fst).map TRow.v)), I.laid (t' := tk) hk (Nat.le_refl _) ⟨by rw [List.length_map, List.length_map]; exact hz, _, c', rows_vals _, by rw [hl, ea2]⟩, rfl, q _ (I.hok.fresh (Nat.le_refl _))⟩
end
end L2

set_option Elab.async false
set_option linter.all false
set_option maxRecDepth 100000
set_option maxHeartbeats 4000000
/-! for k, v in d.items(), d a dict keyed by tuples, locked -/
namespace L2
open PySem PySem.W PySem.Spec PyProof.Rows
/-- the dict is locked as o -/
def Fn (w : World) (H : Hp) (d : Addr) (o : Obj) (E : List DRow) : Prop := H d = some (.frz o (DnO w d E)) ∨ (H d = some (.frz o (.dK [])) ∧ E = [])
theorem DnAt.ob {w : World} {H : Hp} {d : Addr} {E : List DRow} (h : DnAt w H d E) : ∃ u, H d = some u ∧ Mut (some u) ∧ (u = DnO w d E ∨ (u = .dK [] ∧ E = [])) := by
  rcases h with h | ⟨h, e⟩
  · exact ⟨_, h, True.intro, .inl rfl⟩
  · exact ⟨_, h, True.intro, .inr ⟨rfl, e⟩⟩
theorem fnz_of {w : World} {H : Hp} {d : Addr} {E : List DRow} {u : HO} {o : Obj} (h : u = DnO w d E ∨ (u = .dK [] ∧ E = [])) : Fn w (upd H d (.frz o u)) d o E := by
  rcases h with rfl | ⟨rfl, e⟩
  · exact .inl upd_same
  · exact .inr ⟨upd_same, e⟩
theorem Fn.same {w : World} {H H' : Hp} {d : Addr} {o : Obj} {E : List DRow} (h : Fn w H d o E) (e : H' d = H d) : Fn w H' d o E := by
  unfold Fn at h ⊢
  rw [e]
  exact h
theorem Fn.at_ {w : World} {H : Hp} {d : Addr} {o : Obj} {E : List DRow} {u : HO} (h : H d = some (.frz o u)) (z : u = DnO w d E ∨ (u = .dK [] ∧ E = [])) : Fn w H d o E := by
  rcases z with rfl | ⟨rfl, e⟩
  · exact .inl h
  · exact .inr ⟨h, e⟩
section
variable {X : Cx} {pins : List (Addr × Obj)} {σ : L2.St} {H : Hp} {s : Shared} {d : Addr} {o : Obj} {E : List DRow}
theorem Inv.frzN (I : Inv X pins σ H s) (h : Fn X.w H d o E) : (d == sysModules) = false ∧ s.heap.get? d = some o ∧ o.ExactDict ∧ ∃ (es : Array DictEntry) (ep : Nat), o.data = .dict es ep ∧ es.size = E.length ∧
    ∀ (i : Nat) (p : DRow), E[i]? = some p → ∃ en : DictEntry, es[i]? = some en ∧ en.key = .ref p.1.1 ∧ RelV p.2 en.val := by
  rcases h with h | ⟨h, rfl⟩
  · obtain ⟨hd, z⟩ := I.hok d _ h
    obtain ⟨⟨xs, o', es, ep, r1, r2, r3, r4, r5, r6, r7, r8⟩, _⟩ := z
    rw [hd] at r2
    cases r2
    refine ⟨r8, hd, r3, es, ep, r4, ?_, fun i p hp => ?_⟩
    · have hl : E.length = xs.length := Paired.length r1
      have h5 := congrArg List.length r5
      rw [List.length_map, Array.length_toList] at h5
      exact h5.trans hl.symm
    · obtain ⟨q, hq, q1, q2, q3⟩ := kn_get r1 hp
      have z : es[i]? = (xs[i]?).map (fun x => (⟨x.1.hash X.w, .ref x.2.1, x.2.2⟩ : DictEntry)) := by
        rw [← Array.getElem?_toList, r5, List.getElem?_map]
      rw [hq] at z
      exact ⟨_, z, by show Value.ref q.2.1 = _; rw [q2], q3⟩
  · obtain ⟨hs, hd, hx, es, ep, vs, hdt, hsz, kv, hm⟩ := I.frzK h
    exact ⟨hs, hd, hx, es, ep, hdt, hsz, fun i p hp => by simp at hp⟩
end
def ItiN (w : World) (d : Addr) (o : Obj) (E : List DRow) : It :=
  ⟨fun i H => Fn w H d o E ∧ i < E.length, fun i H x H' => ∃ T p, E[i]? = some p ∧ x = .ref T ∧ H T = none ∧ H' = upd H T (.tup [p.1.v, p.2]), fun i H => Fn w H d o E ∧ E.length ≤ i⟩
section
variable {P : Program} {w : World} {K : PySem.W.Frag} {d : Addr} {o : Obj} {es : Array DictEntry} {ep : Nat} {E : List DRow}
theorem turn_itemsN {elts : List Expr} {kk : Nat} {tpos : Pos} (it : Addr) (hod : o.data = .dict es ep) :
    Turn P w K (.Tuple elts kk tpos) (ItiN w d o E) [it] it (fun i h => ∃ ok ov, IsItemIter h it d i E.length ep ok ov) where
  mem := by simp
  obj := fun i h st b hb => by
    have e : b = it := by simpa using hb
    subst e
    obtain ⟨ok, ov, e⟩ := st
    exact ⟨_, e, fun v z => nomatch z⟩
  keep := fun i h h' st k => let ⟨ok, ov, e⟩ := st; ⟨ok, ov, k it (by simp) _ e⟩
  item := by
    intro X hP hw hK hc i pins s σ H E' I hf st hg
    subst hP hw hK
    obtain ⟨hd, hi⟩ := hg
    obtain ⟨hs, hgd, hx, es', ep', hdt, hsz, ent⟩ := I.frzN hd
    obtain ⟨rfl, rfl⟩ := dict_ep hod hdt
    obtain ⟨p, hp⟩ : ∃ p, E[i]? = some p := ⟨E[i], List.getElem?_eq_getElem hi⟩
    obtain ⟨en, he, hk1, hv1⟩ := ent i p hp
    have hi2 : i < es'.size := by omega
    have hen : es'[i] = en := by
      rw [Array.getElem?_eq_getElem hi2] at he
      exact Option.some.inj he
    obtain ⟨ok, ov, hit⟩ := st
    rw [← hsz] at hit
    have hlt : it < s.heap.objs.size := Heap.lt_size hit
    refine DT.nextI hit ⟨o, hgd, hx, hdt⟩ hi2 fun h' ho hT hz hk => ?_
    rw [hen] at ho hT
    refine ⟨_, rfl, wpAny_letOwnedTupleGo_items (s := { s with heap := h' }) ho fun h'' he' sb => ?_⟩
    have hT2 : h''.get? s.heap.objs.size = some { cls := .type "tuple", data := .seq #[en.key, en.val] } := (sb.2 _ (Nat.ne_of_gt hlt)).trans hT
    have new : ObjOk X.prog X.w (upd H s.heap.objs.size (.tup [p.1.v, p.2])) h'' s.heap.objs.size (.tup [p.1.v, p.2]) :=
      ⟨by show 2 ≤ sizeLine; decide, [en.key, en.val], .cons (by rw [hk1]; rfl) (.cons hv1 .nil), ⟨_, hT2, rfl, _, rfl⟩⟩
    have I1 : Inv X pins σ (upd H s.heap.objs.size (.tup [p.1.v, p.2])) { s with heap := h'' } :=
      I.turnedNew (t' := s.toks) (ch := [it]) (fun b ob hb e => (sb.2 b (by simpa using hb)).trans (hk b ob (by simpa using hb) e)) hf (Nat.le_refl _) new
    refine ⟨.ref s.heap.objs.size, _, I1, rfl, ⟨_, p, hp, rfl, I.hok.fresh (Nat.le_refl _), rfl⟩, ⟨en.key, en.val, ?_⟩, fun b hb => ?_⟩
    · rw [← hsz]; exact he'
    · have e : b = it := by simpa using hb
      rw [e, upd_ne (Nat.ne_of_lt hlt)]
      exact (hf it (by simp)).1
  done := by
    intro X hP hw hK hc i pins s σ H E' I hf st hg
    subst hP hw hK
    obtain ⟨hd, hi⟩ := hg
    obtain ⟨f0, f1, f2, f3, f4, f5⟩ := hf it (by simp)
    obtain ⟨hs, hgd, hx, es', ep', hdt, hsz, ent⟩ := I.frzN hd
    obtain ⟨rfl, rfl⟩ := dict_ep hod hdt
    obtain ⟨ok, ov, he⟩ := st
    rw [← hsz] at he hi
    exact DT.endI (I.ok.hd hc) he ⟨o, hgd, hx, hdt⟩ hi fun h' eb => ⟨rfl, I.turned (t' := s.toks) (fun b ob hb e => eb b ob hb e) f0 f1 f3 f4 f5⟩
  self := fun A i s Q E st h => let ⟨_, _, e⟩ := st; PySem.W.kcp_self e h
end
def iItemsN (w : World) (td : TE) : TI := fun σ H R => td σ H fun x H1 => ∃ d o E, x = .ref d ∧ Fn w H1 d o E ∧ R (ItiN w d o E) H1
section
variable {X : Cx} {tg e : Expr} {td : TE} {apos cpos : Pos}
theorem pi_itemsN {elts : List Expr} {kk : Nat} {tpos : Pos} (he : PE X e td) (hbase : attributeBase e "items" X.env (eval e X.env) = eval e X.env := by rfl) (hline : (apos.endLine == cpos.line) = true := by rfl) :
    PI X (.Tuple elts kk tpos) (.Call (.Attribute e "items" apos) [] [] cpos) (iItemsN X.w td) := by
  refine ⟨fun pins s σ H R I h => ?_⟩
  refine wpAny_Call_method (T := "dict") (id := "dict.items") hbase rfl hline F.plainAttrs_dict F.slot_dict_items F.type_dict_items (thn (he.run pins s σ H _ I h) fun u s1 ⟨x, H1, I1, rx, d, o, E, ex, hd, q⟩ => ?_)
  subst ex
  obtain rfl : u = Value.ref d := rx
  obtain ⟨hs, hgd, hx, es, ep, hdt, hsz, ent⟩ := I1.frzN hd
  have raw : DT.Raw s1.heap d es ep := ⟨o, hgd, hx, hdt⟩
  refine ⟨raw.typeIs, fun a z => ⟨o, by cases z; exact hgd, hx.2.1⟩, ?_⟩
  have I2 : Inv X pins σ H1 { s1 with heap := s1.heap.push { cls := .type "dict_items", data := .fields #[.ref d] } } := I1.kept (t' := s1.toks) fun b ob q => Heap.get?_push_of_some _ q
  have fin : wpAny (model X.prog X.w) X.A (pyIter (.ref s1.heap.objs.size)) (PIE X pins σ (.Tuple elts kk tpos) R) X.xe { s1 with heap := s1.heap.push { cls := .type "dict_items", data := .fields #[.ref d] } } := by
    refine DT.iterI (d := d) ⟨_, Heap.get?_push_size _ rfl, rfl, rfl⟩ (raw.push _) (pi_one (tk := s1.toks) I2 _ (turn_itemsN _ hdt) ⟨.none, .none, ?_⟩ q)
    rw [← hsz]
    exact Heap.get?_push_size _ rfl
  show wpAny _ _ (callWith cpos (.builtin "dict.items") [.ref d] [] []) _ X.xe s1
  exact method_meetsIn F.slot_dict_items F.entry_dict_items rfl (PySem.evalArgs_none ⟨rfl, raw.typeIs, F.args_dict_items_1 _, _, DT.meetsItems (es := es) (ep := ep) hs, ⟨raw, fin⟩⟩)
end
end L2

set_option Elab.async false
set_option linter.all false
set_option maxRecDepth 100000
set_option maxHeartbeats 4000000
/-! what each clause tells, by letters -/
namespace S1
open PySem PySem.W PySem.Spec PyProof.Rows L2
theorem ltrs_inj {a b : List Nat} (h : ltrsD a = ltrsD b) : a = b := by
  unfold ltrsD at h
  injection h with h
  induction a generalizing b with
  | nil => cases b with
    | nil => rfl
    | cons _ _ => cases h
  | cons x a ih => cases b with
    | nil => cases h
    | cons y b =>
      injection h with h1 h2
      injection h1 with h1
      rw [Int.ofNat_inj.mp h1, ih h2]
theorem keyable_ltrs (a : List Nat) : keyable (ltrsD a) = true := keyables_map (fun n : Nat => PyData.int ((n : Nat) : Int)) (fun _ => rfl) a
theorem alike_ltrs (a b : List Nat) : alike (ltrsD a) (ltrsD b) = true := alikes_map (fun n : Nat => PyData.int ((n : Nat) : Int)) (fun _ _ => rfl) a b
theorem depth_ltrs (a : List Nat) : (ltrsD a).depth ≤ 1 := by
  have z := depths_map (fun n : Nat => PyData.int ((n : Nat) : Int)) 0 (fun _ => Nat.le_refl _) a
  simp only [ltrsD, PyData.depth]
  omega
theorem nkey_ltrs {a b : List Nat} : nkey (ltrsD a) = nkey (ltrsD b) ↔ a = b := ⟨fun h => ltrs_inj (nkey_inj _ _ (keyable_ltrs a) (keyable_ltrs b) (alike_ltrs a b) h), fun h => by rw [h]⟩
/-- what a clause tells at plays, by places -/
def toldC (s : Say) (cl : List Ltr) (ps : List (List Bool)) : List (List Nat) := (ps.filter fun bs => !dead s bs cl).map fun bs => codes s bs cl
/-- a dict's keys are these tuples of letters -/
structure Kys (E : List DRow) (S : List (List Nat)) (m : Nat) : Prop where
  to : ∀ p ∈ E, ∃ ns ∈ S, p.1.2 = ltrsD ns
  fro : ∀ ns ∈ S, ∃ p ∈ E, p.1.2 = ltrsD ns
  len : E.length ≤ m
theorem Kys.nil : Kys [] [] 0 := ⟨fun _ h => absurd h (by simp), fun _ h => absurd h (by simp), Nat.le_refl _⟩
theorem Kys.up {E : List DRow} {S : List (List Nat)} {m m' : Nat} (h : Kys E S m) (le : m ≤ m') : Kys E S m' := ⟨h.to, h.fro, Nat.le_trans h.len le⟩
theorem Kys.none_iff {E : List DRow} {S : List (List Nat)} {m : Nat} (h : Kys E S m) (ns : List Nat) : lookN E (ltrsD ns) = none ↔ ns ∉ S := by
  rw [lookN_none]
  constructor
  · intro z hm
    obtain ⟨p, hp, e⟩ := h.fro ns hm
    exact z p hp (by rw [e])
  · intro z p hp e
    obtain ⟨ns', hm, e2⟩ := h.to p hp
    rw [e2] at e
    exact z (nkey_ltrs.mp e ▸ hm)
theorem Kys.add {E : List DRow} {S : List (List Nat)} {m : Nat} {ns : List Nat} {r : Addr} {v : V} (h : Kys E S m) : Kys (E ++ [((r, ltrsD ns), v)]) (S ++ [ns]) (m + 1) := by
  refine ⟨fun p hp => ?_, fun x hx => ?_, by rw [List.length_append]; exact Nat.succ_le_succ h.len⟩
  · rcases List.mem_append.mp hp with z | z
    · obtain ⟨y, hy, e⟩ := h.to p z
      exact ⟨y, List.mem_append_left _ hy, e⟩
    · cases List.mem_singleton.mp z
      exact ⟨ns, List.mem_append_right _ (List.mem_singleton.mpr rfl), rfl⟩
  · rcases List.mem_append.mp hx with z | z
    · obtain ⟨p, hp, e⟩ := h.fro x z
      exact ⟨p, List.mem_append_left _ hp, e⟩
    · cases List.mem_singleton.mp z
      exact ⟨_, List.mem_append_right _ (List.mem_singleton.mpr rfl), rfl⟩
theorem Kys.old {E : List DRow} {S : List (List Nat)} {m : Nat} {ns : List Nat} (h : Kys E S m) (z : ns ∈ S) : Kys E (S ++ [ns]) (m + 1) :=
  ⟨fun p hp => (let ⟨y, hy, e⟩ := h.to p hp; ⟨y, List.mem_append_left _ hy, e⟩), fun x hx => (List.mem_append.mp hx).elim (h.fro x) fun q => by cases List.mem_singleton.mp q; exact h.fro ns z, Nat.le_succ_of_le h.len⟩
theorem told_snoc (s : Say) (cl : List Ltr) (ps : List (List Bool)) (bs : List Bool) : toldC s cl (ps ++ [bs]) = toldC s cl ps ++ (if dead s bs cl = true then [] else [codes s bs cl]) := by
  unfold toldC
  rw [List.filter_append, List.map_append]
  congr 1
  cases h : dead s bs cl <;> simp [h]
/-- one play more, at the clauses ahead of the k-th: the k-th one follows -/
theorem kys_step {s : Say} {bs : List Bool} {j k : Nat} {F F' : List (List DRow)} (hbs : (playsD s.picks.length)[j]? = some bs) {clk : List Ltr} (hk : s.cls[k]? = some clk)
    (h : ∀ (i : Nat) (cl : List Ltr) (E : List DRow), s.cls[i]? = some cl → F[i]? = some E → Kys E (toldC s cl ((playsD s.picks.length).take (if i < k then j + 1 else j))) (if i < k then j + 1 else j))
    (hF : ∀ i, i ≠ k → F'[i]? = F[i]?) (hE : ∀ E', F'[k]? = some E' → Kys E' (toldC s clk ((playsD s.picks.length).take j) ++ (if dead s bs clk = true then [] else [codes s bs clk])) (j + 1)) :
    ∀ (i : Nat) (cl : List Ltr) (E : List DRow), s.cls[i]? = some cl → F'[i]? = some E → Kys E (toldC s cl ((playsD s.picks.length).take (if i < k + 1 then j + 1 else j))) (if i < k + 1 then j + 1 else j) := by
  intro i cl E e1 e2
  by_cases z : i = k
  · subst z
    rw [hk] at e1
    cases e1
    rw [if_pos (Nat.lt_succ_self _), take_next hbs, told_snoc]
    exact hE E e2
  · rw [hF i z] at e2
    have q := h i cl E e1 e2
    have e : (i < k + 1) = (i < k) := by
      apply propext
      omega
    simp only [e]
    exact q
/-- dicts, one for each clause -/
structure Gnd (w : World) (H : Hp) (As : List Addr) (F : List (List DRow)) : Prop where
  len : As.length = F.length
  at_ : ∀ (k : Nat) (a : Addr) (E : List DRow), As[k]? = some a → F[k]? = some E → DnAt w H a E ∧ KeysAt H E
/-- all but what stands at some addresses stays -/
def Sb (As : List Addr) (H H' : Hp) : Prop := ∀ b o, b ∉ As → H b = some o → H' b = some o
theorem Sb.refl {As : List Addr} {H : Hp} : Sb As H H := fun _ _ _ h => h
theorem Sb.same {As : List Addr} {H H' G : Hp} (h : Sb As H H') (S : Same H' G) : Sb As H G := fun b o n e => S b o (h b o n e)
theorem Sb.put {As : List Addr} {H H' : Hp} {a : Addr} {o : HO} (h : Sb As H H') (m : a ∈ As) : Sb As H (upd H' a o) := fun b u n e => by
  have ne : b ≠ a := fun z => n (by rw [z]; exact m)
  rw [upd_ne ne]
  exact h b u n e
theorem Gnd.same {w : World} {H H' : Hp} {As : List Addr} {F : List (List DRow)} (h : Gnd w H As F) (S : Same H H') : Gnd w H' As F := ⟨h.len, fun k a E e1 e2 => let ⟨x, y⟩ := h.at_ k a E e1 e2; ⟨x.same S, y.same S⟩⟩
theorem Gnd.get {w : World} {H : Hp} {As : List Addr} {F : List (List DRow)} (h : Gnd w H As F) {k : Nat} {a : Addr} (e : As[k]? = some a) : ∃ E, F[k]? = some E ∧ DnAt w H a E ∧ KeysAt H E := by
  have l : k < F.length := h.len ▸ (List.getElem?_eq_some_iff.mp e).1
  exact ⟨F[k], List.getElem?_eq_getElem l, h.at_ k a _ e (List.getElem?_eq_getElem l)⟩
theorem Gnd.some_at {w : World} {H : Hp} {As : List Addr} {F : List (List DRow)} (h : Gnd w H As F) {a : Addr} (m : a ∈ As) : ∃ o, H a = some o ∧ (∀ xs, o ≠ .tup xs) ∧ ∀ xs, o ≠ .lst xs := by
  obtain ⟨k, hk⟩ := List.mem_iff_getElem?.mp m
  obtain ⟨E, _, d, _⟩ := h.get hk
  rcases d with d | ⟨d, _⟩
  · exact ⟨_, d, fun xs z => (by cases z), fun xs z => by cases z⟩
  · exact ⟨_, d, fun xs z => (by cases z), fun xs z => by cases z⟩
theorem Gnd.fresh {w : World} {H : Hp} {As : List Addr} {F : List (List DRow)} (h : Gnd w H As F) {b : Addr} (n : H b = none) : b ∉ As := fun m => by
  obtain ⟨o, e, _⟩ := h.some_at m
  rw [n] at e
  cases e
theorem Gnd.tups {w : World} {H H' : Hp} {As : List Addr} {F : List (List DRow)} (h : Gnd w H As F) (S : Sb As H H') : Tups H H' := fun a xs e => S a _ (fun m => by
  obtain ⟨o, e2, n, _⟩ := h.some_at m
  rw [e] at e2
  cases e2
  exact n _ rfl) e
theorem Gnd.lst {w : World} {H H' : Hp} {As : List Addr} {F : List (List DRow)} (h : Gnd w H As F) (S : Sb As H H') {l : Addr} {xs : List V} (e : H l = some (.lst xs)) : H' l = some (.lst xs) := S l _ (fun m => by
  obtain ⟨o, e2, _, n⟩ := h.some_at m
  rw [e] at e2
  cases e2
  exact n _ rfl) e
/-- one dict more rows -/
theorem Gnd.put {w : World} {H : Hp} {As : List Addr} {F : List (List DRow)} (h : Gnd w H As F) (nd : As.Nodup) {k : Nat} {a : Addr} {E : List DRow} (e : As[k]? = some a) (ks : KeysAt H E) : Gnd w (upd H a (DnO w a E)) As (F.set k E) := by
  have tp : ∀ xs, H a ≠ some (.tup xs) := fun xs z => by
    obtain ⟨o, e2, n, _⟩ := h.some_at (List.mem_of_getElem? e)
    rw [z] at e2
    cases e2
    exact n _ rfl
  refine ⟨by rw [List.length_set]; exact h.len, fun j b E' e1 e2 => ?_⟩
  by_cases z : j = k
  · subst z
    rw [e] at e1
    cases e1
    have l : j < F.length := h.len ▸ (List.getElem?_eq_some_iff.mp e).1
    rw [List.getElem?_set_self l] at e2
    cases e2
    exact ⟨.inl upd_same, keys_tups ks (Tups.upd tp)⟩
  · rw [List.getElem?_set_ne (fun q => z q.symm)] at e2
    obtain ⟨x, y⟩ := h.at_ j b E' e1 e2
    have ne : b ≠ a := fun q => by
      subst q
      obtain ⟨l1, g1⟩ := List.getElem?_eq_some_iff.mp e1
      obtain ⟨l2, g2⟩ := List.getElem?_eq_some_iff.mp e
      exact z ((List.getElem_inj nd).mp (g1.trans g2.symm))
    refine ⟨?_, keys_tups y (Tups.upd tp)⟩
    rcases x with x | ⟨x, q⟩
    · exact .inl (by rw [upd_ne ne]; exact x)
    · exact .inr ⟨by rw [upd_ne ne]; exact x, q⟩
def spGrounds (w : World) : Sp := fun vs H Q _ => ∃ (v : V) (s : Say), vs = [v] ∧ DatS H v s ∧ SayOk 6 8 120 40 s ∧ ∀ (l : Addr) (H' : Hp) (As : List Addr) (F : List (List DRow)), Same H H' → H l = none → H' l = some (.lst (As.map V.ref)) → Gnd w H' As F → (∀ a ∈ As, H a = none) → F.length = s.cls.length →
  (∀ (k : Nat) (cl : List Ltr) (E : List DRow), s.cls[k]? = some cl → F[k]? = some E → Kys E (toldC s cl (playsD s.picks.length)) 64) → Q (.ref l) H'
abbrev nGr : List Str := ["saying", "places", "found", "play", "truths", "here", "clause", "told", "letters", "_"]
section
variable {P : Program} {w : World} {K : PySem.W.Frag} {mg : Str → Option Value} {base : Heap}
theorem scGrounds : FnScope nGr ["saying"] (defScope sGroundsOf) := ⟨rfl, rfl, rfl, by decide +kernel, rfl, by decide +kernel, by decide +kernel⟩
theorem ok_grounds {f fP fA fT fC fL : Addr} {fd fdP fdA fdT fdC fdL : FuncData} (F : Fun K "grounds_of" "grounds_of" sGroundsOf f fd) (Po : Has K mg "places_of" sPlacesOf ["saying"] fP fdP) (GPo : FnOk P w K mg base CX0 3 fP fdP ["saying"] (spPlacesOf w)) (Ap : Has K mg "all_plays" sAllPlays ["saying"] fA fdA) (GAp : FnOk P w K mg base CX0 1 fA fdA ["saying"] spAllPlays)
    (Ts : Has K mg "truths_at" sTruthsAt ["saying", "play"] fT fdT) (GTs : FnOk P w K mg base CX0 1 fT fdT ["saying", "play"] spTruthsAt) (Ca : Has K mg "copies_at" sCopiesAt ["saying", "places", "play"] fC fdC) (GCa : FnOk P w K mg base CX0 2 fC fdC ["saying", "places", "play"] (spCopiesAt w))
    (Li : Has K mg "letters_of" sLettersIn ["clause", "truths", "places"] fL fdL) (GLi : FnOk P w K mg base CX0 1 fL fdL ["clause", "truths", "places"] spLettersIn) (zp : mg "zip" = none) : FnOk P w K mg base CX0 4 f fd ["saying"] (spGrounds w) := by
  refine F.ok scGrounds (fun vs H Q E h => ?_) (fun cdv A outer s H vs Q E hr h => ?_)
  · obtain ⟨v, sy, rfl, _⟩ := h
    rfl
  · obtain ⟨v, sy, rfl, D, ok, q⟩ := h
    have hu : (A.deeper (envOfC "grounds_of" (defScope sGroundsOf) s.heap.objs.size f cdv)).units + 16 < cLine := by
      have h64 : (A.deeper (envOfC "grounds_of" (defScope sGroundsOf) s.heap.objs.size f cdv)).units + 64 < cLine := hr.units
      omega
    have hr1 := hr.mono (show 1 ≤ 3 by decide)
    have hr2 := hr.mono (show 2 ≤ 3 by decide)
    refine ⟨_, pss_cons (ps_set (i := 1) scGrounds.nd rfl (.inl rfl) (pe_call GPo (by exact hr) (by rfl) Po.g Po.F.kp Po.b .nil pass0 (pa_cons (pv 0) pa_nil)))
      (pss_cons (ps_setLc (i := 2) (own := [("_", 9)]) (g := gName 9) (tt := tYes) rfl scGrounds.nd rfl rfl (sw_true rfl rfl rfl (by decide +kernel)) (pi_tup (pe_ix ix_tup (pv 0) pe_int (fun _ _ => rfl)))
          (blkOk_by (N := nGr) (sc := defScope sGroundsOf) (by decide +kernel)) (fun _ _ _ _ _ => pg_name (i := 9) scGrounds.nd rfl (Or.inl rfl)) (fun _ _ _ _ _ => pts_nil) (fun _ _ _ _ _ => by exact pe_dnewK))
      (pss_cons (ps_for PassesOwn.never rfl (pi_list (pe_call GAp (by exact hr1) (by rfl) Ap.g Ap.F.kp Ap.b .nil pass0 (pa_cons (pv 0) pa_nil))) (pg_name (i := 3) scGrounds.nd rfl (.inl rfl))
        (pss_cons (ps_set (i := 4) scGrounds.nd rfl (.inl rfl) (pe_call GTs (by exact hr1) (by rfl) Ts.g Ts.F.kp Ts.b .nil pass0 (pa_cons (pv 0) (pa_cons (pv 3) pa_nil))))
        (pss_cons (ps_set (i := 5) scGrounds.nd rfl (.inl rfl) (pe_call GCa (by exact hr2) (by rfl) Ca.g Ca.F.kp Ca.b .nil pass0 (pa_cons (pv 0) (pa_cons (pv 1) (pa_cons (pv 3) pa_nil)))))
        (pss_one (ps_for PassesOwn.never rfl (pi_zipM (by rfl) zp (pa_cons (pe_ix ix_tup (pv 0) pe_int (fun _ _ => rfl)) (pa_cons (pv 2) pa_nil))) (pg_tup rfl (pgs_cons (pg_name (i := 6) scGrounds.nd rfl (.inl rfl)) (pgs_cons (pg_name (i := 7) scGrounds.nd rfl (.inl rfl)) pgs_nil)))
          (pss_cons (ps_set (i := 8) scGrounds.nd rfl (.inl rfl) (pe_call GLi (by exact hr1) (by rfl) Li.g Li.F.kp Li.b .nil pass0 (pa_cons (pv 6) (pa_cons (pv 4) (pa_cons (pv 5) pa_nil)))))
          (pss_one (ps_if (PW.pt (pw_and (pt_cmpR op_notN (pv 8) pe_non (nomark _)) (pw_and1 (pt_cmpR (op_notInN (by exact hu)) (pv 8) (pv 7) (by with_unfolding_all rfl))))) (pss_one (ps_nput (by exact hu) (pv 7) (pv 8) (pv 3) (by rfl))) pss_nil))))))))
      (pss_one (ps_ret (pv 2))))), ?_⟩
    refine ⟨_, rfl, v, sy, rfl, D, ok, fun pD H1 S1 hpD pl => ?_⟩
    obtain ⟨a, pk, ow, c, rfl, ea, Dp, Do, Dc⟩ := say_row D
    obtain ⟨b, cs, rfl, eb, Db⟩ := dat_tup (ds := sy.cls.map clD) Dc
    have lc : cs.length = sy.cls.length := by rw [Db.len, List.length_map]
    have lcl := ok.cl
    refine ⟨_, rfl, a, _, 2, _, rfl, rfl, SqT.of (S1 _ _ ea), rfl, b, rfl, ⟨_, SqT.of (S1 _ _ eb)⟩, fun l hl => ?_⟩
    have S2 := same_new (o := .lst []) hl
    refine lc_tup (K := K) (a := b) (xs := cs) (fun i H2 => ∃ As : List Addr, H2 l = some (.lst (As.map V.ref)) ∧ As.length = i ∧ As.Nodup ∧ (∀ x ∈ As, H2 x = some (.dK []) ∧ H1 x = none ∧ x ≠ l) ∧ Same H1 H2) ⟨[], upd_same, rfl, List.nodup_nil, fun _ h => absurd h (by simp), S2⟩
      (fun i H2 _ ⟨_, _, _, _, _, S⟩ => SqT.of (S _ _ (S1 _ _ eb))) ?_ ?_
    · rintro i x H2 hx ⟨As, el, lA, nd, hA, S3⟩
      have il : i < cs.length := (List.getElem?_eq_some_iff.mp hx).1
      refine ⟨rfl, yes_of fun d hd => ?_⟩
      have dl : d ≠ l := fun z => by rw [z, el] at hd; cases hd
      refine ⟨_, by rw [upd_ne dl.symm]; exact el, by rw [List.length_map, lA]; exact small1000 (by omega), As ++ [d], by rw [upd_same, List.map_append]; rfl, by rw [List.length_append, lA]; rfl, ?_, fun x hx => ?_, same_upd (S3.trans (same_new hd)) hl⟩
      · refine List.nodup_append.mpr ⟨nd, by simp, fun x hx y hy e => ?_⟩
        cases List.mem_singleton.mp hy
        rw [e, ] at hx
        have := (hA d hx).1
        rw [hd] at this
        cases this
      · rcases List.mem_append.mp hx with m | m
        · obtain ⟨h1, h2, h3⟩ := hA x m
          have xd : x ≠ d := fun z => by rw [z, hd] at h1; cases h1
          exact ⟨by rw [upd_ne h3, upd_ne xd]; exact h1, h2, h3⟩
        · cases List.mem_singleton.mp m
          exact ⟨by rw [upd_ne dl, upd_same], S3.free hd, dl⟩
    · rintro H2 ⟨As, el, lA, nd, hA, S3⟩
      rw [lc] at lA
      refine ⟨_, rfl, .ref a, sy, rfl, D.same (S1.trans S3), ok, fun l2 H3 R3 => ?_⟩
      obtain ⟨T, eT, dT, DT⟩ := R3.ex
      have S23 := R3.S
      refine ⟨l2, rfl, ⟨_, SqL.of eT⟩, ?_⟩
      have lenT : T.length = 2 ^ sy.picks.length := by rw [← List.length_map (f := Prod.snd), dT, List.length_map, plays_len]
      have lpk := ok.pl
      refine for_list (K := K) (a := l2) (xs := T.map TRow.v) (fun j σ G => ∃ (o3 o4 o5 o6 o7 o8 o9 : Option V) (F : List (List DRow)), σ = [some (.ref a), some (.ref pD), some (.ref l), o3, o4, o5, o6, o7, o8, o9] ∧ Same H1 G ∧ G l = some (.lst (As.map V.ref)) ∧ G l2 = some (.lst (T.map TRow.v)) ∧ Tups H3 G ∧ Gnd w G As F ∧ F.length = sy.cls.length ∧
        ∀ (k : Nat) (cl : List Ltr) (E : List DRow), sy.cls[k]? = some cl → F[k]? = some E → Kys E (toldC sy cl ((playsD sy.picks.length).take j)) j)
        ⟨_, _, _, _, _, _, _, List.replicate sy.cls.length [], rfl, S3.trans S23, S23 _ _ el, eT, Tups.refl _, ⟨by rw [lA, List.length_replicate], fun k x E e1 e2 => ?_⟩, List.length_replicate, fun k cl E e1 e2 => ?_⟩ (fun j σ G _ ⟨_, _, _, _, _, _, _, _, _, _, _, e, _⟩ => SqL.of e) ?_ ?_
      · have z := List.eq_of_mem_replicate (List.mem_of_getElem? e2)
        subst z
        exact ⟨.inr ⟨S23 _ _ (hA x (List.mem_of_getElem? e1)).1, rfl⟩, fun p hp => absurd hp (by simp)⟩
      · have z := List.eq_of_mem_replicate (List.mem_of_getElem? e2)
        subst z
        exact Kys.nil
      · rintro j x σ G hx ⟨o3, o4, o5, o6, o7, o8, o9, F, rfl, S4, el4, eT4, TU, Gn, lF, KF⟩
        rw [List.getElem?_map] at hx
        obtain ⟨y, hy, rfl⟩ := Option.map_eq_some_iff.mp hx
        have ey : ((playsD sy.picks.length).map blsD)[j]? = some y.2 := by rw [← dT, List.getElem?_map, hy]; rfl
        obtain ⟨bs, hbs, eb2⟩ := get_map ey
        have hl' := plays_bits _ _ (List.mem_of_getElem? hbs)
        have Dy3 := DT y (List.mem_of_getElem? hy)
        rw [eb2] at Dy3
        have Dy := TU.dat (keyable_bls bs) Dy3
        have jl : j < T.length := (List.getElem?_eq_some_iff.mp hy).1
        have j64 : j < 64 := by
          have : 2 ^ sy.picks.length ≤ 2 ^ 6 := Nat.pow_le_pow_right (by decide) ok.pl
          rw [lenT] at jl
          omega
        refine ⟨_, rfl, _, rfl, .ref a, y.v, sy, bs, rfl, D.same (S1.trans S4), Dy, ok.pu, hl', fun tr htr => ?_⟩
        have St := same_new (o := .dK (truK sy.picks bs)) htr
        have etr : upd G tr (.dK (truK sy.picks bs)) tr = some (.dK (truK sy.picks bs)) := upd_same
        have Gn1 := Gn.same St
        generalize upd G tr (.dK (truK sy.picks bs)) = G1 at St etr Gn1 ⊢
        refine ⟨_, rfl, _, rfl, _, rfl, .ref a, y.v, pD, sy, bs, rfl, D.same ((S1.trans S4).trans St), ok, pl.same (S4.trans St), Dy.same St, hl', fun he G2 S5 hhe ehe => ?_⟩
        have Gn2 := Gn1.same S5
        have trA : tr ∉ As := Gn.fresh htr
        have heA : he ∉ As := Gn1.fresh hhe
        have S45 := (S4.trans St).trans S5
        have SG := St.trans S5
        refine ⟨_, rfl, a, _, 2, _, rfl, rfl, SqT.of (S45 _ _ (S1 _ _ ea)), rfl, _, rfl, b, l, cs, As.map V.ref, rfl, SqT.of (S45 _ _ (S1 _ _ eb)), SqL.of (SG _ _ el4), ?_⟩
        refine for_it (walk_zipM (K := K) (a := b) (b := l) (xs := cs) (ys := As.map V.ref) (n := sy.cls.length) lc (by rw [List.length_map, lA])) (fun k σ G3 => ∃ (o6 o7 o8 o9 : Option V) (F3 : List (List DRow)), σ = [some (.ref a), some (.ref pD), some (.ref l), some y.v, some (.ref tr), some (.ref he), o6, o7, o8, o9] ∧ Same H1 G3 ∧ Sb As G2 G3 ∧ Gnd w G3 As F3 ∧ F3.length = sy.cls.length ∧
          ∀ (i : Nat) (cl : List Ltr) (E : List DRow), sy.cls[i]? = some cl → F3[i]? = some E → Kys E (toldC sy cl ((playsD sy.picks.length).take (if i < k then j + 1 else j))) (if i < k then j + 1 else j))
          ⟨_, _, _, _, F, rfl, S45, Sb.refl, Gn2, lF, fun i cl E e1 e2 => ?_⟩ (fun k σ G3 _ ⟨_, _, _, _, _, _, S6, B6, _⟩ => ⟨SqT.of (S6 _ _ (S1 _ _ eb)), SqL.of (Gn2.lst B6 (SG _ _ el4))⟩) ?_ ?_
        · rw [if_neg (Nat.not_lt_zero _)]
          exact KF i cl E e1 e2
        · rintro k x σ G3 G4 hk ⟨p6, p7, p8, p9, F3, rfl, S6, B6, Gn3, lF3, KF3⟩ ⟨t, x1, x2, rfl, ht, rfl, hx1, hx2⟩
          replace hx1 : cs[k]? = some x1 := hx1
          replace hx2 : (As.map V.ref)[k]? = some x2 := hx2
          rw [List.getElem?_map] at hx2
          obtain ⟨ad, had, rfl⟩ := Option.map_eq_some_iff.mp hx2
          obtain ⟨d, hd, Dx⟩ := dats_get' Db k x1 hx1
          obtain ⟨cl, hcl, rfl⟩ := get_map hd
          have ck := ok.ck cl (List.mem_of_getElem? hcl)
          have S7 := same_new (o := .tup [x1, V.ref ad]) ht
          have et : upd G3 t (.tup [x1, V.ref ad]) t = some (.tup [x1, V.ref ad]) := upd_same
          have Gn4 := Gn3.same S7
          have B7 := B6.same S7
          generalize upd G3 t (.tup [x1, V.ref ad]) = G5 at S7 et Gn4 B7 ⊢
          refine ⟨t, _, rfl, SqT.of et, rfl, _, _, rfl, _, _, rfl, rfl, ?_⟩
          refine ⟨_, rfl, _, rfl, _, rfl, x1, tr, he, sy, bs, cl, rfl, Dx.same ((S1.trans S6).trans S7), B7 _ _ trA (S5 _ _ etr), B7 _ _ heA ehe, hl', fun l hl => ?_, Nat.le_trans (cl_len ck) ok.nlen, ok.oc, fun G6 S8 => ⟨fun dd => ?_, fun dd r Dr => ?_⟩⟩
          · exact ck.2 l hl
          · refine ⟨_, rfl, rfl, _, rfl, ?_⟩
            show if false = true then _ else _
            rw [if_neg (by decide)]
            show if false = true then _ else _
            rw [if_neg (by decide)]
            refine ⟨_, _, _, _, F3, rfl, (S6.trans S7).trans S8, B7.same S8, Gn4.same S8, lF3, kys_step hbs hcl KF3 (fun _ _ => rfl) fun E' e' => ?_⟩
            have z := KF3 k cl E' hcl e'
            rw [if_neg (Nat.lt_irrefl _)] at z
            rw [if_pos dd, List.append_nil]
            exact z.up (Nat.le_succ _)
          · have Gn6 := Gn4.same S8
            obtain ⟨E1, hE1, dE, kE⟩ := Gn6.get had
            have z := KF3 k cl E1 hcl hE1
            rw [if_neg (Nat.lt_irrefl _)] at z
            have iff := z.none_iff (codes sy bs cl)
            have i9 : (if dead sy bs cl = true then [] else [codes sy bs cl]) = [codes sy bs cl] := by rw [if_neg (by rw [dd]; decide)]
            refine ⟨_, rfl, rfl, _, rfl, ?_⟩
            show if true = true then _ else _
            rw [if_pos rfl]
            refine ⟨_, rfl, _, rfl, r, ad, E1, ltrsD (codes sy bs cl), rfl, rfl, dE, kE, Dr, keyable_ltrs _, Nat.le_trans (depth_ltrs _) (by decide), ?_⟩
            cases hlk : lookN E1 (ltrsD (codes sy bs cl)) with
            | some u =>
              refine ⟨_, rfl, ?_⟩
              show if false = true then _ else _
              rw [if_neg (by decide)]
              refine ⟨_, _, _, _, F3, rfl, (S6.trans S7).trans S8, B7.same S8, Gn6, lF3, kys_step hbs hcl KF3 (fun _ _ => rfl) fun E' e' => ?_⟩
              rw [hE1] at e'
              cases e'
              rw [i9]
              refine z.old ?_
              by_cases m : codes sy bs cl ∈ toldC sy cl ((playsD sy.picks.length).take j)
              · exact m
              · rw [iff.mpr m] at hlk
                cases hlk
            | none =>
              refine ⟨_, rfl, ?_⟩
              show if true = true then _ else _
              rw [if_pos rfl]
              have nm := iff.mp hlk
              refine ⟨_, rfl, _, rfl, _, rfl, ad, r, E1, ltrsD (codes sy bs cl), rfl, rfl, dE, kE, Dr, keyable_ltrs _, Nat.le_trans (depth_ltrs _) (by decide), by have := z.len; exact small1000 (by omega), ?_⟩
              rw [putN_new (r := (r, ltrsD (codes sy bs cl))) hlk]
              have kE2 := keys_snoc (r := (r, ltrsD (codes sy bs cl))) (v := y.v) kE Dr (keyable_ltrs _) (Nat.le_trans (depth_ltrs _) (show 1 ≤ 8 by decide))
              have adm := List.mem_of_getElem? had
              refine ⟨_, _, _, _, F3.set k (E1 ++ [((r, ltrsD (codes sy bs cl)), y.v)]), rfl, same_upd ((S6.trans S7).trans S8) (hA ad adm).2.1, (B7.same S8).put adm, Gn6.put nd had kE2, by rw [List.length_set]; exact lF3, kys_step hbs hcl KF3 (fun i ne => List.getElem?_set_ne (fun q => ne q.symm)) fun E' e' => ?_⟩
              rw [List.getElem?_set_self (by rw [lF3]; exact hk)] at e'
              cases e'
              rw [i9]
              exact z.add
        · rintro σ G3 ⟨p6, p7, p8, p9, F3, rfl, S6, B6, Gn3, lF3, KF3⟩
          refine ⟨_, _, _, _, _, _, _, F3, rfl, S6, Gn2.lst B6 (SG _ _ el4), Gn2.lst B6 (SG _ _ eT4), (TU.trans (Tups.of SG)).trans (Gn2.tups B6), Gn3, lF3, fun i cl E e1 e2 => ?_⟩
          have z := KF3 i cl E e1 e2
          rw [if_pos (List.getElem?_eq_some_iff.mp e1).1] at z
          exact z
      · rintro σ G ⟨o3, o4, o5, o6, o7, o8, o9, F, rfl, S4, el4, eT4, TU, Gn, lF, KF⟩
        refine ⟨_, rfl, q l G As F (S1.trans S4) (S1.free hl) el4 Gn (fun x hx => S1.free (hA x hx).2.1) lF fun k cl E e1 e2 => ?_⟩
        have z := KF k cl E e1 e2
        rw [List.length_map, lenT, ← plays_len, List.take_length] at z
        refine z.up ?_
        rw [plays_len]
        exact Nat.pow_le_pow_right (n := 2) (by decide) ok.pl
end
end S1

set_option Elab.async false
set_option linter.all false
set_option maxRecDepth 100000
set_option maxHeartbeats 4000000
/-! all that is told, by letters -/
namespace S1
open PySem PySem.W PySem.Spec PyProof.Rows L2
theorem small16 {n : Nat} (h : n ≤ 100000) : n < sizeLine := by
  have hs : sizeLine = 16777216 := sizeLine_eq
  omega
/-- all that clauses tell at plays, by places -/
def toldS (s : Say) (cls : List (List Ltr)) : List (List Nat) := cls.flatMap fun cl => toldC s cl (playsD s.picks.length)
theorem Kys.congr {E : List DRow} {S S' : List (List Nat)} {m : Nat} (h : Kys E S m) (e : ∀ x, x ∈ S ↔ x ∈ S') : Kys E S' m :=
  ⟨fun p hp => (let ⟨y, hy, z⟩ := h.to p hp; ⟨y, (e y).mp hy, z⟩), fun x hx => h.fro x ((e x).mpr hx), h.len⟩
theorem Sb.tups {As : List Addr} {H H' : Hp} (h : Sb As H H') (n : ∀ x ∈ As, ∀ xs, H x ≠ some (.tup xs)) : Tups H H' := fun b xs e => h b _ (fun m => n b m xs e) e
theorem walk_itemsN {w : World} {d : Addr} {o : Obj} {E : List DRow} : Walk (ItiN w d o E) E.length (fun H => Fn w H d o E) (YPair (fun i => E[i]?.map fun p => p.1.v) (fun i => E[i]?.map Prod.snd)) := by
  refine ⟨fun _ _ hi q => ⟨q, hi⟩, fun _ q => ⟨q, Nat.le_refl _⟩, fun i H x H' _ _ y => ?_⟩
  obtain ⟨T, p, h1, h2, h3, h4⟩ := y
  exact ⟨T, p.1.v, p.2, h2, h3, h4, by simp [h1], by simp [h1]⟩
def spSources (w : World) : Sp := fun vs H Q _ => ∃ (v : V) (s : Say), vs = [v] ∧ DatS H v s ∧ SayOk 6 8 120 40 s ∧ ∀ (D : Addr) (H' : Hp) (E : List DRow), Same H H' → H D = none → DnAt w H' D E → KeysAt H' E → Kys E (toldS s s.cls) 2560 → Q (.ref D) H'
abbrev nSo : List Str := ["saying", "found", "index", "told", "letters", "play"]
section
variable {P : Program} {w : World} {K : PySem.W.Frag} {mg : Str → Option Value} {base : Heap}
theorem scSources : FnScope nSo ["saying"] (defScope sSourcesOf) := ⟨rfl, rfl, rfl, by decide +kernel, rfl, by decide +kernel, by decide +kernel⟩
theorem ok_sources {f fG : Addr} {fd fdG : FuncData} (F : Fun K "sources_of" "sources_of" sSourcesOf f fd) (Gr : Has K mg "grounds_of" sGroundsOf ["saying"] fG fdG) (GGr : FnOk P w K mg base CX0 4 fG fdG ["saying"] (spGrounds w)) (en : mg "enumerate" = none) : FnOk P w K mg base CX0 5 f fd ["saying"] (spSources w) := by
  refine F.ok scSources (fun vs H Q E h => ?_) (fun cdv A outer s H vs Q E hr h => ?_)
  · obtain ⟨v, sy, rfl, _⟩ := h
    rfl
  · obtain ⟨v, sy, rfl, D, ok, q⟩ := h
    have hu : (A.deeper (envOfC "sources_of" (defScope sSourcesOf) s.heap.objs.size f cdv)).units + 16 < cLine := by
      have h64 : (A.deeper (envOfC "sources_of" (defScope sSourcesOf) s.heap.objs.size f cdv)).units + 64 < cLine := hr.units
      omega
    refine ⟨_, pss_cons (ps_set (i := 1) scSources.nd rfl (.inl rfl) pe_dnewK)
      (pss_cons (ps_for PassesOwn.never rfl (pi_enum (by rfl) en (pa_cons (pe_call GGr (by exact hr) (by rfl) Gr.g Gr.F.kp Gr.b .nil pass0 (pa_cons (pv 0) pa_nil)) pa_nil)) (pg_tup rfl (pgs_cons (pg_name (i := 2) scSources.nd rfl (.inl rfl)) (pgs_cons (pg_name (i := 3) scSources.nd rfl (.inl rfl)) pgs_nil)))
        (pss_one (ps_lock (ps_for PassesOwn.never rfl (pi_itemsN (pv 3)) (pg_tup rfl (pgs_cons (pg_name (i := 4) scSources.nd rfl (.inl rfl)) (pgs_cons (pg_name (i := 5) scSources.nd rfl (.inl rfl)) pgs_nil)))
          (pss_one (ps_if (pt_cmpR (op_notInN (by exact hu)) (pv 4) (pv 1) (by with_unfolding_all rfl)) (pss_one (ps_nput (by exact hu) (pv 1) (pv 4) (pe_tup (pa_cons pe_str (pa_cons (pv 2) (pa_cons (pv 5) pa_nil)))) (by rfl))) pss_nil))))))
      (pss_one (ps_ret (pv 1)))), ?_⟩
    refine fun pD hpD => ?_
    have S0 := same_new (o := .dK []) hpD
    have eD0 : upd H pD (.dK []) pD = some (.dK []) := upd_same
    generalize upd H pD (.dK []) = H1 at S0 eD0 ⊢
    refine ⟨_, rfl, v, sy, rfl, D.same S0, ok, fun l H2 As Fs S2 hl el Gn hA lF KF => ?_⟩
    have eD2 := S2 _ _ eD0
    have lA : As.length = sy.cls.length := Gn.len.trans lF
    have lcl := ok.cl
    have tp : ∀ x ∈ [pD], ∀ xs, H2 x ≠ some (.tup xs) := fun x hx xs z => by
      cases List.mem_singleton.mp hx
      rw [eD2] at z
      cases z
    refine ⟨l, As.map V.ref, rfl, SqL.of el, ?_⟩
    have lD : l ≠ pD := fun z => by rw [z, eD2] at el; cases el
    refine for_it (walk_enum (K := K) (a := l) (xs := As.map V.ref)) (fun k σ G => ∃ (o2 o3 o4 o5 : Option V) (E : List DRow), σ = [some v, some (.ref pD), o2, o3, o4, o5] ∧ Sb [pD] H2 G ∧ DnAt w G pD E ∧ KeysAt G E ∧ Kys E (toldS sy (sy.cls.take k)) (64 * k))
      ⟨_, _, _, _, [], rfl, Sb.refl, .inr ⟨eD2, rfl⟩, fun p hp => absurd hp (by simp), Kys.nil⟩ (fun k σ G _ ⟨_, _, _, _, _, _, B, _⟩ => SqL.of (B _ _ (by simpa using lD) el)) ?_ ?_
    · rintro k x σ G G' hk ⟨o2, o3, o4, o5, E, rfl, B, dE, kE, KE⟩ ⟨t, x1, x2, rfl, ht, rfl, hx1, hx2⟩
      rw [List.length_map, lA] at hk
      replace hx1 : some (V.int ((k : Nat) : Int)) = some x1 := hx1
      replace hx2 : (As.map V.ref)[k]? = some x2 := hx2
      cases hx1
      rw [List.getElem?_map] at hx2
      obtain ⟨ad, had, rfl⟩ := Option.map_eq_some_iff.mp hx2
      have adm := List.mem_of_getElem? had
      have aD : ad ≠ pD := fun z => by have := hA ad adm; rw [z, eD0] at this; cases this
      obtain ⟨E1, hE1, dE1, kE1⟩ := Gn.get had
      obtain ⟨cl, hcl⟩ : ∃ cl, sy.cls[k]? = some cl := ⟨_, List.getElem?_eq_getElem hk⟩
      have K1 := KF k cl E1 hcl hE1
      have St := same_new (o := .tup [.int (k : Nat), .ref ad]) ht
      have et : upd G t (.tup [.int (k : Nat), .ref ad]) t = some (.tup [.int (k : Nat), .ref ad]) := upd_same
      have B2 := B.same St
      have dE2 := dE.same St
      have kE2 := kE.same St
      generalize upd G t (.tup [.int (k : Nat), .ref ad]) = G2 at et B2 dE2 kE2 ⊢
      obtain ⟨u, hu1, mu, hu2⟩ := dE1.ob
      have hu3 : G2 ad = some u := B2 _ _ (by simpa using aD) hu1
      refine ⟨t, _, rfl, SqT.of et, rfl, _, _, rfl, _, _, rfl, rfl, ?_⟩
      refine ⟨ad, u, hu3, mu, fun od => ?_⟩
      have noU : ∀ xs, u ≠ .tup xs := fun xs z => by
        rcases hu2 with e | ⟨e, _⟩ <;> rw [e] at z <;> cases z
      have tpa : ∀ xs, G2 ad ≠ some (.tup xs) := fun xs z => by
        rw [hu3] at z
        exact noU xs (Option.some.inj z)
      have kE3 : KeysAt (upd G2 ad (.frz od u)) E := keys_tups kE2 (Tups.upd tpa)
      have kE1' : KeysAt (upd G2 ad (.frz od u)) E1 := keys_tups (keys_tups kE1 (B2.tups tp)) (Tups.upd tpa)
      have B3 : Sb [pD, ad] G2 (upd G2 ad (.frz od u)) := Sb.refl.put (by simp)
      have dE3 : DnAt w (upd G2 ad (.frz od u)) pD E := by
        unfold DnAt at dE2 ⊢
        rw [upd_ne aD.symm]
        exact dE2
      have e3 : upd G2 ad (.frz od u) ad = some (.frz od u) := upd_same
      generalize upd G2 ad (.frz od u) = G3 at kE3 kE1' B3 dE3 e3 ⊢
      refine ⟨_, rfl, ad, od, E1, rfl, Fn.at_ e3 hu2, ?_⟩
      refine for_it (walk_itemsN (w := w) (d := ad) (o := od) (E := E1)) (fun i σ G4 => ∃ (o4 o5 : Option V) (E : List DRow) (L : List (List Nat)), σ = [some v, some (.ref pD), some (.int (k : Nat)), some (.ref ad), o4, o5] ∧ Sb [pD, ad] G2 G4 ∧ G4 ad = some (.frz od u) ∧ DnAt w G4 pD E ∧ KeysAt G4 E ∧ KeysAt G4 E1 ∧
        L.map ltrsD = (E1.take i).map (fun p => p.1.2) ∧ Kys E (toldS sy (sy.cls.take k) ++ L) (64 * k + i)) ⟨_, _, E, [], rfl, B3, e3, dE3, kE3, kE1', rfl, by rw [List.append_nil]; exact KE⟩ (fun i σ G4 _ ⟨_, _, _, _, _, _, e4, _⟩ => Fn.at_ e4 hu2) ?_ ?_
      · rintro i x σ G4 G5 hi ⟨o4, o5, E4, L, rfl, B4, e4, dE4, kE4, kE14, eL, KE4⟩ ⟨t4, y1, y2, rfl, ht4, rfl, hy1, hy2⟩
        obtain ⟨p, hp⟩ : ∃ p, E1[i]? = some p := ⟨_, List.getElem?_eq_getElem hi⟩
        replace hy1 : (E1[i]?.map fun p => p.1.v) = some y1 := hy1
        replace hy2 : (E1[i]?.map Prod.snd) = some y2 := hy2
        rw [hp] at hy1 hy2
        cases hy1
        cases hy2
        have pm := List.mem_of_getElem? hp
        obtain ⟨ns, hns, ens⟩ := K1.to p pm
        obtain ⟨Dp, kp, dp⟩ := kE14 p pm
        have S5 := same_new (o := .tup [p.1.v, p.2]) ht4
        have e5 : upd G4 t4 (.tup [p.1.v, p.2]) t4 = some (.tup [p.1.v, p.2]) := upd_same
        have nt4 : t4 ≠ ad := fun z => by rw [z, e4] at ht4; cases ht4
        have e45 := S5 _ _ e4
        have B5 := B4.same S5
        have dE5 := dE4.same S5
        have kE5 := kE4.same S5
        have kE15 := kE14.same S5
        have Dp5 := Dp.same S5
        generalize upd G4 t4 (.tup [p.1.v, p.2]) = G5 at e5 e45 B5 dE5 kE5 kE15 Dp5 ⊢
        have tk : (L ++ [ns]).map ltrsD = (E1.take (i + 1)).map (fun p => p.1.2) := by
          rw [take_next hp, List.map_append, List.map_append, eL]
          show _ ++ [ltrsD ns] = _ ++ [p.1.2]
          rw [ens]
        have iff := KE4.none_iff ns
        have K1l := K1.len
        rw [ens] at Dp5 kp dp
        refine ⟨t4, _, rfl, SqT.of e5, rfl, _, _, rfl, _, _, rfl, rfl, ?_⟩
        refine ⟨_, rfl, _, rfl, p.1.1, pD, E4, ltrsD ns, rfl, rfl, dE5, kE5, Dp5, kp, dp, ?_⟩
        cases hlk : lookN E4 (ltrsD ns) with
        | some z =>
          refine ⟨_, rfl, ?_⟩
          show if false = true then _ else _
          rw [if_neg (by decide)]
          refine ⟨_, _, E4, L ++ [ns], rfl, B5, e45, dE5, kE5, kE15, tk, ?_⟩
          rw [← List.append_assoc]
          refine KE4.old ?_
          by_cases m : ns ∈ toldS sy (sy.cls.take k) ++ L
          · exact m
          · rw [iff.mpr m] at hlk
            cases hlk
        | none =>
          refine ⟨_, rfl, ?_⟩
          show if true = true then _ else _
          rw [if_pos rfl]
          refine ⟨_, rfl, _, rfl, (by show 3 ≤ sizeLine; decide), fun t6 ht6 => ?_⟩
          have S6 := same_new (o := .tup [V.str "play", .int (k : Nat), p.2]) ht6
          have e456 := S6 _ _ e45
          have B6 := B5.same S6
          have dE6 := dE5.same S6
          have kE6 := kE5.same S6
          have kE16 := kE15.same S6
          have Dp6 := Dp5.same S6
          generalize upd G5 t6 (.tup [V.str "play", .int (k : Nat), p.2]) = G6 at e456 B6 dE6 kE6 kE16 Dp6 ⊢
          have tpD := dn_noTup dE6
          refine ⟨_, rfl, _, rfl, pD, p.1.1, E4, ltrsD ns, rfl, rfl, dE6, kE6, Dp6, kp, dp, by have := KE4.len; exact small16 (by omega), ?_⟩
          rw [putN_new (r := (p.1.1, ltrsD ns)) hlk]
          refine ⟨_, _, _, L ++ [ns], rfl, B6.put (by simp), by rw [upd_ne aD]; exact e456, .inl upd_same, keys_tups (keys_snoc (r := (p.1.1, ltrsD ns)) (v := .ref t6) kE6 Dp6 kp dp) (Tups.upd tpD), keys_tups kE16 (Tups.upd tpD), tk, ?_⟩
          rw [← List.append_assoc]
          exact KE4.add
      · rintro σ G4 ⟨o4, o5, E4, L, rfl, B4, e4, dE4, kE4, kE14, eL, KE4⟩
        rw [List.take_length] at eL
        refine ⟨e4, _, _, _, _, E4, rfl, fun b o nb e => ?_, ?_, keys_tups kE4 (Tups.upd fun xs z => by rw [e4] at z; cases z), (KE4.congr fun x => ?_).up (by have := K1.len; omega)⟩
        · by_cases z : b = ad
          · subst z
            rw [upd_same]
            rw [hu1] at e
            exact e
          · rw [upd_ne z]
            have nb' : b ≠ pD := by simpa using nb
            exact B4 b o (by simp [nb', z]) (B2 b o nb e)
        · unfold DnAt at dE4 ⊢
          rw [upd_ne aD.symm]
          exact dE4
        · unfold toldS
          rw [take_next hcl, List.flatMap_append, List.mem_append, List.mem_append]
          refine or_congr Iff.rfl ?_
          rw [List.flatMap_cons, List.flatMap_nil, List.append_nil]
          constructor
          · intro m
            have : ltrsD x ∈ L.map ltrsD := List.mem_map_of_mem m
            rw [eL] at this
            obtain ⟨p, hp, e⟩ := List.mem_map.mp this
            obtain ⟨ns, hns, e2⟩ := K1.to p hp
            rw [← ltrs_inj (e2.symm.trans e)]
            exact hns
          · intro m
            obtain ⟨p, hp, e⟩ := K1.fro x m
            have : p.1.2 ∈ L.map ltrsD := eL ▸ List.mem_map_of_mem hp
            obtain ⟨y, hy, e2⟩ := List.mem_map.mp this
            rw [← ltrs_inj (e2.trans e)]
            exact hy
    · rintro σ G ⟨o2, o3, o4, o5, E, rfl, B, dE, kE, KE⟩
      rw [List.length_map, lA, List.take_length] at KE
      refine ⟨_, rfl, q pD G E (fun b o e => ?_) hpD dE kE (KE.up (by omega))⟩
      have nb : b ≠ pD := fun z => by rw [z, hpD] at e; cases e
      exact B b o (by simpa using nb) (S2 _ _ (S0 _ _ e))
end
end S1

set_option Elab.async false
set_option linter.all false
set_option maxRecDepth 100000
set_option maxHeartbeats 4000000
/-! numbers as sets of places; rows that meet what is told -/
namespace S1
open PySem PySem.W PySem.Spec PyProof.Rows L2
theorem tb_add : ∀ (a s i : Nat), s.testBit a = false → (2 ^ a + s).testBit i = (decide (i = a) || s.testBit i)
  | 0, s, i, h => by
    have h0 : s % 2 = 0 := by
      rw [Nat.testBit_zero] at h
      have := of_decide_eq_false h
      omega
    cases i with
    | zero =>
      rw [Nat.testBit_zero]
      have : (2 ^ 0 + s) % 2 = 1 := by rw [Nat.pow_zero]; omega
      rw [this]
      rfl
    | succ k =>
      rw [Nat.testBit_succ, Nat.testBit_succ, Nat.pow_zero]
      have : (1 + s) / 2 = s / 2 := by omega
      rw [this]
      simp
  | a + 1, s, i, h => by
    rw [Nat.testBit_succ] at h
    have ih := tb_add a (s / 2)
    have e : 2 ^ (a + 1) = 2 * 2 ^ a := by rw [Nat.pow_succ]; omega
    cases i with
    | zero =>
      rw [Nat.testBit_zero, Nat.testBit_zero]
      have : (2 ^ (a + 1) + s) % 2 = s % 2 := by omega
      rw [this]
      simp
    | succ k =>
      rw [Nat.testBit_succ, Nat.testBit_succ]
      have : (2 ^ (a + 1) + s) / 2 = 2 ^ a + s / 2 := by omega
      rw [this, ih k h]
      congr 1
      simp
def bitsOf (l : List Nat) : Nat := (l.map fun c => 2 ^ c).sum
theorem tb_bits : ∀ (l : List Nat) (i : Nat), l.Nodup → (bitsOf l).testBit i = decide (i ∈ l)
  | [], i, _ => by simp [bitsOf]
  | a :: l, i, h => by
    have h' := List.nodup_cons.mp h
    have z : (bitsOf l).testBit a = false := by rw [tb_bits l a h'.2]; exact decide_eq_false h'.1
    show (2 ^ a + bitsOf l).testBit i = _
    rw [tb_add a _ i z, tb_bits l i h'.2]
    simp
/-- each place of the one is a place of the other -/
def Sub (n t : Nat) : Prop := ∀ i, n.testBit i = true → t.testBit i = true
theorem and_eq_iff (n t : Nat) : n &&& t = n ↔ Sub n t := by
  constructor
  · intro h i hi
    rw [← h, Nat.testBit_and, Bool.and_eq_true] at hi
    exact hi.2
  · intro h
    apply Nat.eq_of_testBit_eq
    intro i
    rw [Nat.testBit_and]
    cases z : n.testBit i with
    | true => rw [h i z]; rfl
    | false => rfl
theorem inv_inv (t : Nat) : (Builtin.bitNot (Builtin.bitNot (t : Int))).toNat = t := by
  show (-(-(t : Int) - 1) - 1).toNat = t
  omega
theorem band_inv (n t : Nat) : Builtin.bitAnd (n : Int) (Builtin.bitNot (t : Int)) = ((n - (n &&& t) : Nat) : Int) := by
  have h1 : (0 : Int) ≤ (n : Int) := Int.natCast_nonneg _
  have h2 : ¬ (0 : Int) ≤ Builtin.bitNot (t : Int) := by
    show ¬ (0 : Int) ≤ -(t : Int) - 1
    omega
  rw [bitAnd_pn h1 h2, inv_inv, Int.toNat_natCast]
  have : n &&& t ≤ n := Nat.and_le_left
  omega
theorem band_inv_ne (n t : Nat) : ((((n - (n &&& t) : Nat) : Int) != 0) = true) ↔ ¬ Sub n t := by
  rw [← and_eq_iff]
  have : n &&& t ≤ n := Nat.and_le_left
  constructor
  · intro h e
    rw [e] at h
    simp at h
  · intro h
    simp
    omega
theorem bor_nat (n t : Nat) : Builtin.bitOr (n : Int) (t : Int) = ((n ||| t : Nat) : Int) := by
  show Builtin.bitNot (Builtin.bitAnd (Builtin.bitNot (n : Int)) (Builtin.bitNot (t : Int))) = _
  have h1 : ¬ (0 : Int) ≤ Builtin.bitNot (n : Int) := by
    show ¬ (0 : Int) ≤ -(n : Int) - 1
    omega
  have h2 : ¬ (0 : Int) ≤ Builtin.bitNot (t : Int) := by
    show ¬ (0 : Int) ≤ -(t : Int) - 1
    omega
  rw [bitAnd_nn h1 h2, inv_inv, inv_inv]
  show -(-(((n ||| t : Nat)) : Int) - 1) - 1 = _
  omega
theorem sub_or (m t : Nat) : Sub m (t ||| m) := fun i h => by rw [Nat.testBit_or, h, Bool.or_true]
theorem sub_orl (m t : Nat) : Sub t (t ||| m) := fun i h => by rw [Nat.testBit_or, h, Bool.true_or]
theorem Sub.trans {a b c : Nat} (h : Sub a b) (g : Sub b c) : Sub a c := fun i z => g i (h i z)
/-- a row meets what is told: one letter of each -/
def Meets (r : Nat → Bool) (S : List (List Nat)) : Prop := ∀ ns ∈ S, ∃ c ∈ ns, r (c / 2) = decide (c % 2 = 1)
def falsesL (ns : List Nat) : List Nat := (ns.filter fun c => decide (c % 2 = 0)).map (· / 2)
def truesL (ns : List Nat) : List Nat := (ns.filter fun c => decide (c % 2 = 1)).map (· / 2)
/-- what is told as easy rules want it -/
structure EasyL (ns : List Nat) : Prop where
  nd : (falsesL ns).Nodup
  one : (truesL ns).length ≤ 1
  le : ∀ c ∈ ns, c ≤ 1000
theorem mem_falsesL {ns : List Nat} {p : Nat} : p ∈ falsesL ns ↔ 2 * p ∈ ns := by
  unfold falsesL
  rw [List.mem_map]
  constructor
  · rintro ⟨c, hc, rfl⟩
    obtain ⟨h1, h2⟩ := List.mem_filter.mp hc
    have := of_decide_eq_true h2
    have e : 2 * (c / 2) = c := by omega
    rw [e]
    exact h1
  · intro h
    exact ⟨2 * p, List.mem_filter.mpr ⟨h, by simp⟩, by omega⟩
theorem mem_truesL {ns : List Nat} {p : Nat} : p ∈ truesL ns ↔ 2 * p + 1 ∈ ns := by
  unfold truesL
  rw [List.mem_map]
  constructor
  · rintro ⟨c, hc, rfl⟩
    obtain ⟨h1, h2⟩ := List.mem_filter.mp hc
    have := of_decide_eq_true h2
    have e : 2 * (c / 2) + 1 = c := by omega
    rw [e]
    exact h1
  · intro h
    exact ⟨2 * p + 1, List.mem_filter.mpr ⟨h, by simp⟩, by omega⟩
theorem EasyL.ndt {ns : List Nat} (h : EasyL ns) : (truesL ns).Nodup := by
  have := h.one
  match e : truesL ns with
  | [] => exact List.nodup_nil
  | [x] => simp
  | x :: y :: l => rw [e] at this; simp at this
abbrev nB (ns : List Nat) : Nat := bitsOf (falsesL ns)
abbrev mB (ns : List Nat) : Nat := bitsOf (truesL ns)
/-- a row that meets it, and has all that is wanted, has all that is made -/
theorem met_made {ns : List Nat} {S : List (List Nat)} {r : Nat → Bool} (E : EasyL ns) (hS : ns ∈ S) (M : Meets r S) (need : ∀ i, (nB ns).testBit i = true → r i = true) : (mB ns ≠ 0) ∧ ∀ i, (mB ns).testBit i = true → r i = true := by
  obtain ⟨c, hc, e⟩ := M ns hS
  have tr : c % 2 = 1 := by
    rcases Nat.mod_two_eq_zero_or_one c with z | z
    · have m : c / 2 ∈ falsesL ns := mem_falsesL.mpr (by rw [show 2 * (c / 2) = c by omega]; exact hc)
      have := need (c / 2) (by rw [tb_bits _ _ E.nd]; exact decide_eq_true m)
      rw [this, z] at e
      exact absurd e (by decide)
    · exact z
  rw [tr] at e
  have m : c / 2 ∈ truesL ns := mem_truesL.mpr (by rw [show 2 * (c / 2) + 1 = c by omega]; exact hc)
  have one : truesL ns = [c / 2] := by
    have := E.one
    match e2 : truesL ns with
    | [] => rw [e2] at m; simp at m
    | [x] => rw [e2] at m; simp at m; rw [m]
    | x :: y :: l => rw [e2] at this; simp at this
  constructor
  · intro z
    have := tb_bits (truesL ns) (c / 2) E.ndt
    rw [show bitsOf (truesL ns) = 0 from z, Nat.zero_testBit] at this
    exact absurd m (of_decide_eq_false this.symm)
  · intro i hi
    rw [tb_bits _ _ E.ndt, one] at hi
    have := of_decide_eq_true hi
    rw [List.mem_singleton.mp this]
    exact e
/-- the state of the growing -/
structure Grw (S : List (List Nat)) (t : Nat) (R : List (Nat × Nat)) : Prop where
  low : ∀ r, Meets r S → ∀ i, t.testBit i = true → r i = true
  told : ∀ ns ∈ S, (nB ns, mB ns) ∈ R ∨ ∃ i, (mB ns).testBit i = true ∧ t.testBit i = true
  of_ : ∀ x ∈ R, ∃ ns ∈ S, x = (nB ns, mB ns)
theorem Grw.start {S : List (List Nat)} : Grw S 0 (S.map fun ns => (nB ns, mB ns)) :=
  ⟨fun r _ i h => (by rw [Nat.zero_testBit] at h; cases h), fun ns h => .inl (List.mem_map.mpr ⟨ns, h, rfl⟩), fun x hx => let ⟨ns, h, e⟩ := List.mem_map.mp hx; ⟨ns, h, e.symm⟩⟩
/-- all that waits lacks something: the row meets all, and is least -/
theorem Grw.done {S : List (List Nat)} {t : Nat} {R : List (Nat × Nat)} (g : Grw S t R) (E : ∀ ns ∈ S, EasyL ns) (no : ∀ x ∈ R, ¬ Sub x.1 t) : Meets (fun i => t.testBit i) S := by
  intro ns hS
  rcases g.told ns hS with h | ⟨i, h1, h2⟩
  · have z := no _ h
    have : ∃ i, (nB ns).testBit i = true ∧ t.testBit i = false := by
      apply Classical.byContradiction
      intro q
      refine z fun i hi => ?_
      cases w : t.testBit i with
      | true => rfl
      | false => exact absurd ⟨i, hi, w⟩ q
    obtain ⟨i, h1, h2⟩ := this
    rw [tb_bits _ _ (E ns hS).nd] at h1
    refine ⟨2 * i, mem_falsesL.mp (of_decide_eq_true h1), ?_⟩
    show t.testBit (2 * i / 2) = _
    rw [show 2 * i / 2 = i by omega, h2]
    symm
    exact decide_eq_false (by omega)
  · rw [tb_bits _ _ (E ns hS).ndt] at h1
    refine ⟨2 * i + 1, mem_truesL.mp (of_decide_eq_true h1), ?_⟩
    show t.testBit ((2 * i + 1) / 2) = _
    rw [show (2 * i + 1) / 2 = i by omega, h2]
    symm
    exact decide_eq_true (by omega)
/-- in the midst of a pass: i rules of R looked at, of them W wait -/
structure Pass (S : List (List Nat)) (R : List (Nat × Nat)) (t0 : Nat) (i : Nat) (t : Nat) (W : List (Nat × Nat)) (g : Bool) : Prop where
  st : Grw S t (W ++ R.drop i)
  same : g = false → t = t0 ∧ ∀ x ∈ W, ¬ Sub x.1 t
  len : W.length + (if g = true then 1 else 0) ≤ i
theorem Pass.start {S : List (List Nat)} {R : List (Nat × Nat)} {t : Nat} (g : Grw S t R) : Pass S R t 0 t [] false := ⟨by rw [List.drop_zero]; exact g, fun _ => ⟨rfl, fun _ h => absurd h (by simp)⟩, Nat.le_refl _⟩
theorem drop_at {α : Type} {l : List α} {i : Nat} {x : α} (h : l[i]? = some x) : l.drop i = x :: l.drop (i + 1) := by
  obtain ⟨hi, e⟩ := List.getElem?_eq_some_iff.mp h
  rw [List.drop_eq_getElem_cons hi, e]
theorem Pass.wait {S : List (List Nat)} {R W : List (Nat × Nat)} {t0 t i : Nat} {g : Bool} {x : Nat × Nat} (p : Pass S R t0 i t W g) (h : R[i]? = some x) (n : ¬ Sub x.1 t) : Pass S R t0 (i + 1) t (W ++ [x]) g := by
  refine ⟨?_, fun e => ⟨(p.same e).1, fun y hy => ?_⟩, ?_⟩
  · have z := p.st
    rw [drop_at h] at z
    rw [List.append_assoc]
    exact z
  · rcases List.mem_append.mp hy with m | m
    · exact (p.same e).2 y m
    · cases List.mem_singleton.mp m
      exact n
  · rw [List.length_append]
    have := p.len
    show W.length + 1 + _ ≤ i + 1
    omega
theorem Pass.stop {S : List (List Nat)} {R W : List (Nat × Nat)} {t0 t i : Nat} {g : Bool} {x : Nat × Nat} (p : Pass S R t0 i t W g) (E : ∀ ns ∈ S, EasyL ns) (h : R[i]? = some x) (n : Sub x.1 t) (m : x.2 = 0) (r : Nat → Bool) : ¬ Meets r S := fun M => by
  obtain ⟨ns, hS, e⟩ := p.st.of_ x (List.mem_append_right _ (by rw [drop_at h]; exact List.mem_cons_self))
  rw [e] at n m
  exact (met_made (E ns hS) hS M fun i hi => p.st.low r M i (n i hi)).1 m
theorem Pass.drop {S : List (List Nat)} {R W : List (Nat × Nat)} {t0 t i : Nat} {g : Bool} {x : Nat × Nat} (p : Pass S R t0 i t W g) (h : R[i]? = some x) (ne : x.2 ≠ 0) (m : Sub x.2 t) : Pass S R t0 (i + 1) t W g := by
  refine ⟨⟨p.st.low, fun ns hS => ?_, fun y hy => p.st.of_ y ?_⟩, p.same, Nat.le_succ_of_le p.len⟩
  · rcases p.st.told ns hS with z | z
    · rw [drop_at h] at z
      rcases List.mem_append.mp z with z | z
      · exact .inl (List.mem_append_left _ z)
      · rcases List.mem_cons.mp z with z | z
        · refine .inr ?_
          rw [← z] at ne m
          obtain ⟨i, hi⟩ := Nat.exists_testBit_of_ne_zero ne
          exact ⟨i, hi, m i hi⟩
        · exact .inl (List.mem_append_right _ z)
    · exact .inr z
  · rw [drop_at h]
    rcases List.mem_append.mp hy with z | z
    · exact List.mem_append_left _ z
    · exact List.mem_append_right _ (List.mem_cons_of_mem _ z)
theorem Pass.grow {S : List (List Nat)} {R W : List (Nat × Nat)} {t0 t i : Nat} {g : Bool} {x : Nat × Nat} (p : Pass S R t0 i t W g) (E : ∀ ns ∈ S, EasyL ns) (h : R[i]? = some x) (n : Sub x.1 t) (ne : x.2 ≠ 0) : Pass S R t0 (i + 1) (t ||| x.2) W true := by
  obtain ⟨ns0, hS0, e0⟩ := p.st.of_ x (List.mem_append_right _ (by rw [drop_at h]; exact List.mem_cons_self))
  refine ⟨⟨fun r M j hj => ?_, fun ns hS => ?_, fun y hy => p.st.of_ y ?_⟩, fun z => (nomatch z), ?_⟩
  · rw [Nat.testBit_or, Bool.or_eq_true] at hj
    rcases hj with hj | hj
    · exact p.st.low r M j hj
    · rw [e0] at hj n
      exact (met_made (E ns0 hS0) hS0 M fun i hi => p.st.low r M i (n i hi)).2 j hj
  · rcases p.st.told ns hS with z | ⟨j, z1, z2⟩
    · rw [drop_at h] at z
      rcases List.mem_append.mp z with z | z
      · exact .inl (List.mem_append_left _ z)
      · rcases List.mem_cons.mp z with z | z
        · refine .inr ?_
          rw [← z] at ne ⊢
          obtain ⟨i, hi⟩ := Nat.exists_testBit_of_ne_zero ne
          exact ⟨i, hi, sub_or _ _ i hi⟩
        · exact .inl (List.mem_append_right _ z)
    · exact .inr ⟨j, z1, sub_orl _ _ j z2⟩
  · rw [drop_at h]
    rcases List.mem_append.mp hy with z | z
    · exact List.mem_append_left _ z
    · exact List.mem_append_right _ (List.mem_cons_of_mem _ z)
  · have := p.len
    rw [if_pos rfl]
    split at this <;> omega
end S1

set_option Elab.async false
set_option linter.all false
set_option maxRecDepth 100000
set_option maxHeartbeats 4000000
/-! clauses, drawn -/
namespace S1
open PySem PySem.W PySem.Spec PyProof.Rows L2
/-- a list of letters -/
structure Lt (D : Addr) (cl : List Ltr) (G : Hp) : Prop where
  ex : ∃ T : List TRow, G D = some (.lst (T.map TRow.v)) ∧ T.map Prod.snd = cl.map ltD ∧ ∀ q ∈ T, Dat G q.v q.2
theorem keys_lt {T : List TRow} {cl : List Ltr} (e : T.map Prod.snd = cl.map ltD) : ∀ q ∈ T, keyable q.2 = true := fun q hq => by
  have m : q.2 ∈ cl.map ltD := e ▸ List.mem_map_of_mem hq
  obtain ⟨x, _, hx⟩ := List.mem_map.mp m
  rw [← hx]
  rfl
section
variable {D p t : Addr} {cl : List Ltr} {G G2 : Hp} {c c0 : Nat} {o : HO}
theorem Lt.dr (h : Lt D cl G) (d : Dr G p c G2) (hs : Src G p c0) (n : D ≠ p) : Lt D cl G2 := by
  obtain ⟨T, e, e2, hT⟩ := h.ex
  exact ⟨T, d.keep e n, e2, fun q hq => d.dat hs (keys_lt e2 q hq) (hT q hq)⟩
theorem Lt.same (h : Lt D cl G) (S : Same G G2) : Lt D cl G2 := by
  obtain ⟨T, e, e2, hT⟩ := h.ex
  exact ⟨T, S _ _ e, e2, fun q hq => (hT q hq).same S⟩
theorem Lt.new (h : Lt D cl G) (ht : G t = none) : Lt D cl (upd G t o) := h.same (same_new ht)
theorem Lt.len (h : Lt D cl G) : ∃ xs, G D = some (.lst xs) ∧ xs.length = cl.length := by
  obtain ⟨T, e, e2, _⟩ := h.ex
  exact ⟨_, e, by rw [List.length_map, ← List.length_map (f := Prod.snd), e2, List.length_map]⟩
/-- a letter more behind -/
theorem Lt.push {x : Str} {b : Bool} {xs : List V} (h : Lt D cl G) (eD : G D = some (.lst xs)) (et : G t = some (.tup [.str x, .bl b])) : Lt D (cl ++ [(x, b)]) (upd G D (.lst (xs ++ [.ref t]))) := by
  obtain ⟨T, e, e2, hT⟩ := h.ex
  rw [e] at eD
  cases eD
  refine ⟨T ++ [(t, ltD (x, b))], by rw [upd_same, List.map_append]; rfl, by rw [List.map_append, List.map_append, e2]; rfl, fun q hq => ?_⟩
  rcases List.mem_append.mp hq with m | m
  · exact dat_upd e (keys_lt e2 q m) (hT q m)
  · cases List.mem_singleton.mp m
    refine dat_upd e rfl (.tup (xs := [.str x, .bl b]) et (.cons (.str _) (.cons (.bl _) .nil)))
theorem Lt.cat {D2 : Addr} {cl2 : List Ltr} {xs ys : List V} (h : Lt D cl G) (h2 : Lt D2 cl2 G) (e1 : G D = some (.lst xs)) (e2 : G D2 = some (.lst ys)) (ht : G t = none) : Lt t (cl ++ cl2) (upd G t (.lst (xs ++ ys))) := by
  obtain ⟨T, f1, g1, h1⟩ := h.ex
  obtain ⟨T2, f2, g2, h2⟩ := h2.ex
  rw [f1] at e1
  rw [f2] at e2
  cases e1
  cases e2
  refine ⟨T ++ T2, by rw [upd_same, List.map_append], by rw [List.map_append, List.map_append, g1, g2], fun q hq => ?_⟩
  rcases List.mem_append.mp hq with m | m
  · exact dat_new ht (h1 q m)
  · exact dat_new ht (h2 q m)
end
theorem cut_drop' {ws : List Str} {r : Nat} : cutV (ws.map V.str) (some (r : Int)) none = (ws.drop r).map V.str := by
  rcases Nat.le_total r ws.length with h | h
  · exact cut_drop h
  · unfold cutV
    rw [HT.sIx_nat, HT.sIx_none, List.length_map, Nat.min_eq_right h, List.drop_eq_nil_of_le h, List.drop_eq_nil_of_le (by rw [List.length_map]; exact Nat.le_refl _)]
    simp
theorem min_nat {x : Int} {N : Nat} (h : 0 ≤ x) : ∃ n : Nat, (if x < (N : Int) then x else (N : Int)) = (n : Int) ∧ n ≤ N := by
  split
  · exact ⟨x.toNat, by omega, by omega⟩
  · exact ⟨N, rfl, Nat.le_refl _⟩
theorem gPair_mono {K : PySem.W.Frag} {i j : Nat} : ∀ (x : V) (σ1 : L2.St) (H1 : Hp) (A B : L2.St → Hp → Prop), (∀ σ2 H2, A σ2 H2 → B σ2 H2) → gTup K 2 (gCons (gName i) (gCons (gName j) gNil)) x σ1 H1 A → gTup K 2 (gCons (gName i) (gCons (gName j) gNil)) x σ1 H1 B := by
  rintro x σ1 H1 A B h ⟨a, xs, e1, e2, e3, v, r, e4, v2, r2, e5, e6, z⟩
  exact ⟨a, xs, e1, e2, e3, v, r, e4, v2, r2, e5, e6, h _ _ z⟩
def spCl : Sp := fun vs H Q _ => ∃ (p : Addr) (c a b m : Nat) (v1 v2 : V) (picks : List Str) (owns : List Own), vs = [.ref p, v1, v2] ∧ Src H p c ∧ c ≤ 60000 ∧ Dat H v1 (nmsD picks) ∧ Dat H v2 (.tuple (owns.map ownD)) ∧ FrOk a b m picks owns ∧ a + b ≤ 14 ∧
  ∀ (v : V) (cl : List Ltr) (H' : Hp), Dat H' v (clD cl) → ClOk (picks ++ owns.map Prod.fst) cl → ((cl.filter fun l => decide (l.1 ∈ owns.map Prod.fst)).filter fun l => l.2).length ≤ 1 → Dr H p (c + 100) H' → Q v H'
/-- the names of owns, one by one -/
theorem own_names {H : Hp} {us : List V} {owns : List Own} (D : DatAll H us (owns.map ownD)) {i : Nat} {x : V} (hx : us[i]? = some x) : ∃ (o : Own) (t t' : Addr), owns[i]? = some o ∧ x = .ref t ∧ H t = some (.tup [.str o.1, .ref t']) := by
  obtain ⟨d, hd, Dx⟩ := dats_get' D i x hx
  obtain ⟨o, ho, rfl⟩ := get_map hd
  obtain ⟨t, rfl⟩ := tuple_ref (ds := [.str o.1, nmsD o.2]) Dx
  obtain ⟨t', g1, g2⟩ := own_row (q := (t, ownD o)) rfl Dx
  exact ⟨o, t, t', ho, rfl, g1⟩
/-- [name for name, sight in owns] -/
theorem lc_names {K : PySem.W.Frag} {σ : L2.St} {H : Hp} {D b : Addr} {us : List V} {owns : List Own} {Qd : Hp → Prop} {i j : Nat} {ws : List Nat} (eb : H b = some (.tup us)) (Db : DatAll H us (owns.map ownD)) (hD : H D = none) (len : owns.length ≤ 1000)
    (hw : ∀ (x y : V), wipe (((wipe σ ws).set i (some x)).set j (some y)) ws = wipe σ ws) (hi : ∀ (x y : V), (((wipe σ ws).set i (some x)).set j (some y))[i]? = some (some x))
    (hd : ∀ H5, H5 D = some (.lst ((owns.map Prod.fst).map V.str)) → Same H H5 → Qd H5) :
    ∃ W : Nat → Nat → Hp → Prop, (∃ m, W 0 m (upd H D (.lst []))) ∧ ∀ n m H, W n m H →
      ((Itt K b).stop n H ∧ Qd H) ∨ ((Itt K b).go n H ∧ ∃ Nx : Hp → Prop, (∀ H', Nx H' → ∃ m', m' < m ∧ W (n + 1) m' H') ∧ ∀ x H', (Itt K b).yld n H x H' → gTup K 2 (gCons (gName i) (gCons (gName j) gNil)) x (wipe σ ws) H' fun σ2 H2 => wipe σ2 ws = wipe σ ws ∧ tYes σ2 H2 fun b H3 =>
        if b = true then tVar i σ2 H3 fun y H4 => ∃ acc, H4 D = some (.lst acc) ∧ acc.length < sizeLine ∧ Nx (upd H4 D (.lst (acc ++ [y]))) else Nx H3) := by
  have lu : us.length = owns.length := by rw [Db.len, List.length_map]
  refine lc_mapT (K := K) (ys := (owns.map Prod.fst).map V.str) (SqT.of eb) hD (by rw [List.length_map, List.length_map, lu]) (by omega) (fun n x y H4 Qe hx hy S4 k => ?_) gPair_mono hd
  obtain ⟨o, t, t', ho, rfl, g1⟩ := own_names Db hx
  have ey : y = V.str o.1 := by
    rw [List.getElem?_map, List.getElem?_map, ho] at hy
    exact (Option.some.inj hy).symm
  rw [ey] at k
  exact ⟨t, _, rfl, SqT.of (S4 _ _ g1), rfl, _, _, rfl, _, _, rfl, rfl, hw _ _, _, hi _ _, k H4 (Same.refl _)⟩
section
variable {P : Program} {w : World} {K : PySem.W.Frag} {mg : Str → Option Value} {base : Heap}
theorem scPlainCl : FnScope ["tank", "picks", "owns", "own", "letters", "name", "sight"] ["tank", "picks", "owns"] (defScope sPlainCl) := ⟨rfl, rfl, rfl, by decide +kernel, rfl, by decide +kernel, by decide +kernel⟩
theorem FrOk.nd {a b m : Nat} {picks : List Str} {owns : List Own} (h : FrOk a b m picks owns) : (picks ++ owns.map Prod.fst).Nodup := by
  have nt : ∀ {xs : List Str}, xs.Pairwise tlt → xs.Nodup := fun h => List.Pairwise.imp (fun {a b} z => fun e : a = b => by
    rw [e] at z
    exact absurd z (by unfold tlt; exact List.lt_irrefl _)) h
  refine List.nodup_append.mpr ⟨nt h.pu, nt (List.pairwise_map.mpr h.ou), fun x hx y hy e => ?_⟩
  obtain ⟨o, ho, rfl⟩ := List.mem_map.mp hy
  exact (h.on o ho).2.1 (e ▸ hx)
theorem FrOk.len {a b m : Nat} {picks : List Str} {owns : List Own} (h : FrOk a b m picks owns) : (picks ++ owns.map Prod.fst).length ≤ a + b := by
  have := h.pl
  have := h.ol
  rw [List.length_append, List.length_map]
  omega
end
end S1

set_option Elab.async false
set_option linter.all false
set_option maxRecDepth 100000
set_option maxHeartbeats 4000000
/-! clauses with at most one letter of an own that is True, drawn -/
namespace S1
open PySem PySem.W PySem.Spec PyProof.Rows L2
section
variable {P : Program} {w : World} {K : PySem.W.Frag} {mg : Str → Option Value} {base : Heap}
abbrev nPl : List Str := ["tank", "picks", "owns", "own", "letters", "name", "sight"]
theorem ok_plainCl {f fP fL fS : Addr} {fd fdP fdL fdS : FuncData} (F : Fun K "_law_plain_clause" "_law_plain_clause" sPlainCl f fd) (Pk : Has K mg "_law_drop" sDrop ["tank", "many"] fP fdP) (Le : Has K mg "_law_letters" sLetters ["tank", "names"] fL fdL)
    (So : Has K mg "_law_some" sLSome ["tank", "names", "most"] fS fdS) (B : Blt mg) : FnOk P w K mg base CX0 3 f fd ["tank", "picks", "owns"] spCl := by
  have GP : FnOk P w K mg base CX0 1 fP fdP ["tank", "many"] spPick := ok_pick Pk.F B
  have GL : FnOk P w K mg base CX0 2 fL fdL ["tank", "names"] spLetters := ok_letters Le.F Pk B
  have GS : FnOk P w K mg base CX0 2 fS fdS ["tank", "names", "most"] (spLSome K) := ok_lSome So.F Pk B
  refine F.ok scPlainCl (fun vs H Q E h => ?_) (fun cdv A outer s H vs Q E hr h => ?_)
  · obtain ⟨p, c, a, b, m, v1, v2, picks, owns, rfl, _⟩ := h
    rfl
  · obtain ⟨p, c, a, b, m, v1, v2, picks, owns, rfl, hs, hc, D1, D2, ok, hab, q⟩ := h
    have hu : (A.deeper (envOfC "_law_plain_clause" (defScope sPlainCl) s.heap.objs.size f cdv)).units + 64 < cLine := hr.units
    have hr1 := hr.mono (show 1 ≤ 2 by decide)
    refine ⟨_, pss_cons (ps_set (i := 3) scPlainCl.nd rfl (.inl rfl) (pe_call GS hr rfl So.g So.F.kp So.b .nil pass0 (pa_cons (pv 0)
        (pa_cons (pe_lc (own := [("name", 5), ("sight", 6)]) (g := gTup K 2 (gCons (gName 5) (gCons (gName 6) gNil))) (tt := tYes) (te := tVar 5) rfl scPlainCl.nd (pi_tup (pv 2)) (blkOk_by (N := nPl) (sc := defScope sPlainCl) (by decide +kernel))
          (fun _ _ _ _ _ => by exact pg_tup rfl (pgs_cons (pg_name (i := 5) scPlainCl.nd rfl (.inl rfl)) (pgs_cons (pg_name (i := 6) scPlainCl.nd rfl (.inl rfl)) pgs_nil))) (fun _ _ _ _ _ => pts_nil) (fun _ _ _ _ _ => pv 5))
        (pa_cons (pe_op op_add pe_int (pe_op op_mul pe_int (pe_callTy call_int1 (by rfl) B.int (by decide +kernel) (pa_cons (pe_cmpR op_eq (pe_call GP hr1 rfl Pk.g Pk.F.kp Pk.b .nil pass0 (pa_cons (pv 0) (pa_cons pe_int pa_nil))) pe_int (nomark _)) pa_nil)))) pa_nil)))))
      (pss_cons (ps_set (i := 4) scPlainCl.nd rfl (.inl rfl) (pe_call GL hr rfl Le.g Le.F.kp Le.b .nil pass0 (pa_cons (pv 0) (pa_cons (pe_call GS hr rfl So.g So.F.kp So.b .nil pass0 (pa_cons (pv 0) (pa_cons (pv 1)
        (pa_cons (pe_op op_add pe_int (pe_op op_mul pe_int (pe_call GP hr1 rfl Pk.g Pk.F.kp Pk.b .nil pass0 (pa_cons (pv 0) (pa_cons pe_int pa_nil))))) pa_nil)))) pa_nil))))
      (pss_cons (ps_set (i := 4) scPlainCl.nd rfl (.inl rfl) (pe_op op_cat (pv 4) (pe_lc (own := [("name", 5)]) (g := gName 5) (tt := tYes) (te := tTup (tCons (tVar 5) (tCons (tC (V.bl false)) tNil))) rfl scPlainCl.nd (pi_list (pe_slice sl_list (pv 3) (po_some pe_int) po_none)) (blkOk_by (N := nPl) (sc := defScope sPlainCl) (by decide +kernel))
          (fun _ _ _ _ _ => pg_name (i := 5) scPlainCl.nd rfl (Or.inl rfl)) (fun _ _ _ _ _ => pts_nil) (fun _ _ _ _ _ => by exact pe_tup (pa_cons (pv 5) (pa_cons pe_bl pa_nil))))))
      (pss_one (ps_ret (pe_tupleOf rfl B.tuple (pe_callB (cr_sortL (by exact hu)) (by rfl) B.sorted (by decide +kernel) (pa_cons (pe_op op_cat (pv 4) (pe_lc (own := [("name", 5)]) (g := gName 5) (tt := tYes)
          (te := tTup (tCons (tVar 5) (tCons (tOp (rI0 fun i j => V.bl (decide (i > j))) (tCall spPick [] E0 (tCons (tVar 0) (tCons (tC (V.int 3)) tNil))) (tC (V.int 0))) tNil))) rfl scPlainCl.nd (pi_list (pe_slice sl_list (pv 3) po_none (po_some pe_int))) (blkOk_by (N := nPl) (sc := defScope sPlainCl) (by decide +kernel))
          (fun _ _ _ _ _ => pg_name (i := 5) scPlainCl.nd rfl (Or.inl rfl)) (fun _ _ _ _ _ => pts_nil)
          (fun _ _ _ _ _ => by exact pe_tup (pa_cons (pv 5) (pa_cons (pe_cmpR op_gt (pe_call GP (by exact hr1) (by rfl) Pk.g Pk.F.kp Pk.b .nil pass0 (pa_cons (pv 0) (pa_cons pe_int pa_nil))) pe_int (nomark _)) pa_nil))))) pa_nil))))))), ?_⟩
    have d0 := Dr.start hs
    obtain ⟨a1, ps, rfl, e1, Dp⟩ := dat_tup (ds := picks.map PyData.str) D1
    cases dats_strs_eq Dp
    obtain ⟨a2, us, rfl, e2, Do⟩ := dat_tup D2
    have ol := ok.ol
    have pl := ok.pl
    have ndA := ok.nd
    obtain ⟨ndP, ndO, dis⟩ := List.nodup_append.mp ndA
    have a1p : a1 ≠ p := fun z => by
      obtain ⟨xs, hx⟩ := hs.lst
      rw [z, hx] at e1
      cases e1
    refine ⟨_, rfl, _, rfl, a2, rfl, ⟨_, SqT.of e2⟩, fun aL hL => ?_⟩
    refine lc_names (K := K) e2 Do hL (by omega) (fun _ _ => rfl) (fun _ _ => rfl) fun H5 eL S5 => ?_
    have d5 := d0.same S5
    have Lp := d0.ne hL
    have e15 := S5 _ _ e1
    refine ⟨_, rfl, p, _, 3, rfl, d5.s, by omega, by decide, by decide, fun r o r0 r1 hp6 => ⟨rfl, .inr ⟨_, rfl, _, _, rfl, rfl, .inl ⟨by decide, by decide⟩, _, _, rfl, rfl, ?_⟩⟩⟩
    have d6 := d5.src hp6
    have eL6 : upd H5 p o aL = some (.lst ((owns.map Prod.fst).map V.str)) := by rw [upd_ne Lp]; exact eL
    have e16 : upd H5 p o a1 = some (.tup (picks.map V.str)) := by rw [upd_ne a1p]; exact e15
    generalize upd H5 p o = H6 at d6 eL6 e16 ⊢
    have lO : (owns.map Prod.fst).length = owns.length := List.length_map ..
    obtain ⟨k6, e6k, l6k⟩ : ∃ k : Nat, (4 : Int) + 4 * (if decide (V.int r = V.int 0) = true then 1 else 0) = (k : Int) ∧ k ≤ 1000 := by
      split
      · exact ⟨8, rfl, by decide⟩
      · exact ⟨4, rfl, by decide⟩
    refine ⟨p, aL, _, owns.map Prod.fst, k6, by rw [← e6k]; rfl, d6.s, by omega, .inl (SqL.of eL6), ndO, by omega, l6k, fun bO own H7 ndo subo leno hbO ebO d7' => ?_⟩
    have d7 := d6.trans d7'
    have e17 := d7'.keep e16 a1p
    have bOp := d6.ne hbO
    refine ⟨_, rfl, _, rfl, _, rfl, _, rfl, p, _, 2, rfl, d7.s, by omega, by decide, by decide, fun r8 o8 r80 r81 hp8 => ⟨_, _, rfl, rfl, .inl ⟨by decide, by decide⟩, _, _, rfl, rfl, ?_⟩⟩
    have d8 := d7.src hp8
    have eO8 : upd H7 p o8 bO = some (.lst (own.map V.str)) := by rw [upd_ne bOp]; exact ebO
    have e18 : upd H7 p o8 a1 = some (.tup (picks.map V.str)) := by rw [upd_ne a1p]; exact e17
    generalize upd H7 p o8 = H8 at d8 eO8 e18 ⊢
    obtain ⟨k8, e8k⟩ : ∃ k : Nat, (3 : Int) + 3 * r8 = (k : Int) ∧ k ≤ 1000 := ⟨(3 + 3 * r8).toNat, by omega, by omega⟩
    refine ⟨p, a1, _, picks, k8, by rw [← e8k.1]; rfl, d8.s, by omega, .inr (SqT.of e18), ndP, by omega, e8k.2, fun b9 ys H9 ndy suby leny hb9 eb9 d9' => ?_⟩
    have d9 := d8.trans d9'
    have eO9 := d9'.keep eO8 bOp
    refine ⟨p, b9, _, ys, rfl, d9.s, by omega, eb9, by omega, fun bA TA clA HA hbA ebA eTA eclA hTA dA' => ?_⟩
    have dA := d9.trans dA'
    have LA : Lt bA clA HA := ⟨TA, ebA, eTA, hTA⟩
    have eOA := dA'.keep eO9 bOp
    have lA : clA.length = ys.length := by rw [← List.length_map (f := Prod.fst), eclA]
    -- letters + [(name, False) for name in own[1:]]
    refine ⟨_, rfl, _, rfl, (1 : Nat), rfl, bO, _, rfl, SqL.of eOA, fun n1 hn1 => ?_⟩
    rw [cut_drop'] at *
    have dn := dA.new (o := .lst ((own.drop 1).map V.str)) hn1
    have Ln := LA.new (o := .lst ((own.drop 1).map V.str)) hn1
    have en : upd HA n1 (.lst ((own.drop 1).map V.str)) n1 = some (.lst ((own.drop 1).map V.str)) := upd_same
    have eOn : upd HA n1 (.lst ((own.drop 1).map V.str)) bO = some (.lst (own.map V.str)) := by rw [upd_ne (ne_of_none eOA hn1)]; exact eOA
    refine ⟨n1, rfl, ⟨_, SqL.of en⟩, fun D hD => ?_⟩
    have dn2 := dn.up (show _ ≤ c + 40 by omega)
    have nAD : bA ≠ D := ne_of_none (Ln.len.choose_spec.1) hD
    have n1D : n1 ≠ D := ne_of_none en hD
    have nOD : bO ≠ D := ne_of_none eOn hD
    have hD0 := dn2.free hD
    have Dp := dn2.ne hD
    have ld : (own.drop 1).length ≤ 14 := by rw [List.length_drop]; omega
    refine lc_list (K := K) (a := n1) (xs := (own.drop 1).map V.str) (fun j H4 => Lt D (((own.drop 1).take j).map fun x => (x, false)) H4 ∧ Lt bA clA H4 ∧ Dr H p (c + 40) H4 ∧ H4 n1 = some (.lst ((own.drop 1).map V.str)) ∧ H4 bO = some (.lst (own.map V.str)))
      ⟨⟨[], upd_same, rfl, fun q hq => absurd hq (by simp)⟩, Ln.new hD, dn2.new hD, by rw [upd_ne n1D]; exact en, by rw [upd_ne nOD]; exact eOn⟩ (fun j H4 _ ⟨_, _, _, e, _⟩ => SqL.of e) ?_ ?_
    · rintro j x H4 hx ⟨LD, LA4, d4, en4, eO4⟩
      rw [List.getElem?_map] at hx
      obtain ⟨y, hy, rfl⟩ := Option.map_eq_some_iff.mp hx
      have jl : j < (own.drop 1).length := (List.getElem?_eq_some_iff.mp hy).1
      refine ⟨rfl, yes_of ⟨_, rfl, (by show 2 ≤ sizeLine; decide), fun t ht => ?_⟩⟩
      have LD5 := LD.new (o := .tup [.str y, .bl false]) ht
      have LA5 := LA4.new (o := .tup [.str y, .bl false]) ht
      obtain ⟨xs, ex, lx⟩ := LD5.len
      have et : upd H4 t (.tup [.str y, .bl false]) t = some (.tup [.str y, .bl false]) := upd_same
      have LD6 := LD5.push ex et
      obtain ⟨xsA, exA, _⟩ := LA5.len
      have d5 := (d4.new (o := .tup [.str y, .bl false]) ht).put (o := .lst (xs ++ [.ref t])) hD0 Dp
      refine ⟨_, ex, by rw [lx, List.length_map, List.length_take]; exact small1000 (by omega), ?_, ⟨?_⟩, d5, by rw [upd_ne n1D, upd_ne (ne_of_none en4 ht)]; exact en4, by rw [upd_ne nOD, upd_ne (ne_of_none eO4 ht)]; exact eO4⟩
      · rw [take_next hy, List.map_append]
        exact LD6
      · obtain ⟨T, f1, f2, f3⟩ := LA5.ex
        exact ⟨T, by rw [upd_ne nAD]; exact f1, f2, fun q hq => dat_upd ex (keys_lt f2 q hq) (f3 q hq)⟩
    · rintro H4 ⟨LD, LA4, d4, en4, eO4⟩
      rw [List.length_map, List.take_length] at LD
      obtain ⟨xsA, exA, lenA⟩ := LA4.len
      obtain ⟨xsB, exB, lenB⟩ := LD.len
      rw [List.length_map] at lenB
      refine ⟨_, _, _, _, rfl, rfl, exA, exB, Nat.le_of_lt (small1000 (by omega)), fun l hl => ?_⟩
      have LC := Lt.cat LA4 LD exA exB hl
      have dC := d4.new (o := .lst (xsA ++ xsB)) hl
      have eOC : upd H4 l (.lst (xsA ++ xsB)) bO = some (.lst (own.map V.str)) := by rw [upd_ne (ne_of_none eO4 hl)]; exact eO4
      generalize upd H4 l (.lst (xsA ++ xsB)) = HC at LC dC eOC ⊢
      refine ⟨_, rfl, _, rfl, (1 : Nat), rfl, bO, _, rfl, SqL.of eOC, fun n2 hn2 => ?_⟩
      rw [cut_take] at *
      have dM := dC.new (o := .lst ((own.take 1).map V.str)) hn2
      have LM := LC.new (o := .lst ((own.take 1).map V.str)) hn2
      have eM : upd HC n2 (.lst ((own.take 1).map V.str)) n2 = some (.lst ((own.take 1).map V.str)) := upd_same
      generalize upd HC n2 (.lst ((own.take 1).map V.str)) = HM at dM LM eM ⊢
      refine ⟨n2, rfl, ⟨_, SqL.of eM⟩, fun D2 hD2 => ?_⟩
      have nlD2 : l ≠ D2 := ne_of_none (LM.len.choose_spec.1) hD2
      have n2D2 : n2 ≠ D2 := ne_of_none eM hD2
      have hD20 := dM.free hD2
      have D2p := dM.ne hD2
      have n2p : n2 ≠ p := dC.ne hn2
      have lp : l ≠ p := d4.ne hl
      have lt1 : (own.take 1).length ≤ 1 := List.length_take_le _ _
      refine lc_list (K := K) (a := n2) (xs := (own.take 1).map V.str) (fun j H5 => ∃ cl2 : List Ltr, cl2.map Prod.fst = (own.take 1).take j ∧ Lt D2 cl2 H5 ∧ Lt l (clA ++ (own.drop 1).map fun x => (x, false)) H5 ∧ Dr H p (c + 40 + j) H5 ∧ H5 n2 = some (.lst ((own.take 1).map V.str)))
        ⟨[], rfl, ⟨[], upd_same, rfl, fun q hq => absurd hq (by simp)⟩, LM.new hD2, dM.new hD2, by rw [upd_ne n2D2]; exact eM⟩ (fun j H4 _ ⟨_, _, _, _, _, e⟩ => SqL.of e) ?_ ?_
      · rintro j x H5 hx ⟨cl2, ecl, LD5, Ll5, d5, en5⟩
        rw [List.getElem?_map] at hx
        obtain ⟨y, hy, rfl⟩ := Option.map_eq_some_iff.mp hx
        have jl : j < (own.take 1).length := (List.getElem?_eq_some_iff.mp hy).1
        refine ⟨rfl, yes_of ⟨_, rfl, _, rfl, p, _, 3, rfl, d5.s, by omega, by decide, by decide, fun k6 o6 _ _ hp6 => ⟨_, _, rfl, rfl, (by show 2 ≤ sizeLine; decide), fun t ht => ?_⟩⟩⟩
        have d6 := d5.src hp6
        have LD6 := LD5.dr ((Dr.start d5.s).src hp6) d5.s D2p
        have Ll6 := Ll5.dr ((Dr.start d5.s).src hp6) d5.s lp
        have en6 : upd H5 p o6 n2 = some (.lst ((own.take 1).map V.str)) := by rw [upd_ne n2p]; exact en5
        generalize upd H5 p o6 = H6 at d6 LD6 Ll6 en6 ht ⊢
        have LD7 := LD6.new (o := .tup [.str y, .bl (decide (k6 > 0))]) ht
        have Ll7 := Ll6.new (o := .tup [.str y, .bl (decide (k6 > 0))]) ht
        have d7 := d6.new (o := .tup [.str y, .bl (decide (k6 > 0))]) ht
        have en7 : upd H6 t (.tup [.str y, .bl (decide (k6 > 0))]) n2 = some (.lst ((own.take 1).map V.str)) := by rw [upd_ne (ne_of_none en6 ht)]; exact en6
        have et : upd H6 t (.tup [.str y, .bl (decide (k6 > 0))]) t = some (.tup [.str y, .bl (decide (k6 > 0))]) := upd_same
        generalize upd H6 t (.tup [.str y, .bl (decide (k6 > 0))]) = H7 at LD7 Ll7 d7 en7 et ⊢
        obtain ⟨xs, ex, lx⟩ := LD7.len
        have LD8 := LD7.push ex et
        have lc2 : cl2.length ≤ 1 := by
          rw [← List.length_map (f := Prod.fst), ecl, List.length_take]
          omega
        refine ⟨_, ex, by rw [lx]; exact small1000 (by omega), cl2 ++ [(y, decide (k6 > 0))], by rw [List.map_append, ecl, take_next hy]; rfl, LD8, ⟨?_⟩, (d7.put hD20 D2p).up (by omega), by rw [upd_ne n2D2]; exact en7⟩
        obtain ⟨T, f1, f2, f3⟩ := Ll7.ex
        exact ⟨T, by rw [upd_ne nlD2]; exact f1, f2, fun q hq => dat_upd ex (keys_lt f2 q hq) (f3 q hq)⟩
      · rintro H5 ⟨cl2, ecl, LD5, Ll5, d5, en5⟩
        rw [List.length_map, List.take_length] at ecl
        rw [List.length_map] at d5
        obtain ⟨xsL, exL, lenL⟩ := Ll5.len
        obtain ⟨xsD, exD, lenD⟩ := LD5.len
        have l2 : cl2.length ≤ 1 := by rw [← List.length_map (f := Prod.fst), ecl]; exact lt1
        rw [List.length_append, List.length_map] at lenL
        refine ⟨_, _, _, _, rfl, rfl, exL, exD, Nat.le_of_lt (small1000 (by omega)), fun l9 hl9 => ?_⟩
        have L9 := Lt.cat Ll5 LD5 exL exD hl9
        have d9z := d5.new (o := .lst (xsL ++ xsD)) hl9
        obtain ⟨T, eT, eTc, hT⟩ := L9.ex
        have names : ((clA ++ (own.drop 1).map fun x => (x, false)) ++ cl2).map Prod.fst = ys ++ own.drop 1 ++ own.take 1 := by
          rw [List.map_append, List.map_append, eclA, ecl, List.map_map]
          congr 2
          exact List.map_id _
        have pmO : (own.drop 1 ++ own.take 1).Perm own := by
          have z : (own.take 1 ++ own.drop 1) = own := List.take_append_drop _ _
          exact (List.perm_append_comm).trans (.of_eq z)
        have ndc : (((clA ++ (own.drop 1).map fun x => (x, false)) ++ cl2).map Prod.fst).Nodup := by
          rw [names, List.append_assoc]
          exact List.nodup_append.mpr ⟨ndy, pmO.nodup_iff.mpr ndo, fun x hx y hy => dis x (suby x hx) y (subo y (pmO.mem_iff.mp hy))⟩
        refine ⟨l9, T, rfl, SqL.of eT, hT, sorty_of eTc alike_lt (fun x => ⟨_, rfl⟩) (fun x => by have := depth_lt x; omega), fun T' bE pmE _ upE hbE => .inl ⟨bE, _, rfl, SqL.of upd_same, fun t ht => ?_⟩⟩
        obtain ⟨cl', p2, eE, up2⟩ := letters_back pmE eTc ndc upE
        have dE := d9z.new (o := .lst (T'.map TRow.v)) hbE
        refine q _ cl' _ (.tup upd_same ?_) ⟨up2, fun l hl => ?_⟩ ?_ ((dE.new ht).up (by omega))
        · rw [← eE]
          exact dats_rows fun r hr => dat_new ht (dat_new hbE (hT r (pmE.mem_iff.mp hr)))
        · have z : l.1 ∈ ((clA ++ (own.drop 1).map fun x => (x, false)) ++ cl2).map Prod.fst := List.mem_map_of_mem (p2.mem_iff.mp hl)
          rw [names, List.append_assoc] at z
          rcases List.mem_append.mp z with z | z
          · exact List.mem_append_left _ (suby _ z)
          · exact List.mem_append_right _ (subo _ (pmO.mem_iff.mp z))
        · have pm : (cl'.filter fun l => decide (l.1 ∈ owns.map Prod.fst)).Perm (((clA ++ (own.drop 1).map fun x => (x, false)) ++ cl2).filter fun l => decide (l.1 ∈ owns.map Prod.fst)) := p2.filter _
          rw [(pm.filter _).length_eq, List.filter_append, List.filter_append, List.filter_append, List.filter_append, List.length_append, List.length_append]
          have z1 : (clA.filter fun l => decide (l.1 ∈ owns.map Prod.fst)) = [] := by
            rw [List.filter_eq_nil_iff]
            intro l hl z
            have m : l.1 ∈ ys := eclA ▸ List.mem_map_of_mem hl
            exact dis l.1 (suby _ m) l.1 (of_decide_eq_true z) rfl
          have z2 : ((((own.drop 1).map fun x => (x, false)).filter fun l => decide (l.1 ∈ owns.map Prod.fst)).filter fun l => l.2) = [] := by
            rw [List.filter_eq_nil_iff]
            intro l hl z
            obtain ⟨x, _, e⟩ := List.mem_map.mp (List.mem_filter.mp hl).1
            rw [← e] at z
            cases z
          rw [z1, z2]
          have z3 := List.length_filter_le (fun l : Ltr => l.2) (cl2.filter fun l => decide (l.1 ∈ owns.map Prod.fst))
          have z4 := List.length_filter_le (fun l : Ltr => decide (l.1 ∈ owns.map Prod.fst)) cl2
          show 0 + 0 + _ ≤ 1
          omega
end
end S1

set_option Elab.async false
set_option linter.all false
set_option maxRecDepth 100000
set_option maxHeartbeats 4000000
/-! the letters of owns; plain ones and twos, as the program tells them -/
namespace S1
open PySem PySem.W PySem.Spec PyProof.Rows L2
def loc (sy : Say) (cl : List Ltr) : List Ltr := cl.filter fun l => decide (l.1 ∈ sy.owns.map Prod.fst)
def plainC (sy : Say) (cl : List Ltr) : Bool := decide (((((loc sy cl).filter fun l => l.2).length : Nat) : Int) ≤ 1)
def twosC (sy : Say) (cl : List Ltr) : Bool := if decide ((1 : Int) ≤ ((loc sy cl).length : Nat)) = true then decide ((((loc sy cl).length : Nat) : Int) ≤ 2) else false
theorem loc_len (sy : Say) (cl : List Ltr) : (loc sy cl).length ≤ cl.length := List.length_filter_le _ _
theorem loc_snoc (sy : Say) (cl : List Ltr) (l : Ltr) : loc sy (cl ++ [l]) = loc sy cl ++ (if l.1 ∈ sy.owns.map Prod.fst then [l] else []) := by
  unfold loc
  rw [List.filter_append]
  congr 1
  by_cases h : l.1 ∈ sy.owns.map Prod.fst
  · rw [if_pos h]
    simp [h]
  · rw [if_neg h]
    simp [h]
def spLettersOf : Sp := fun vs H Q _ => ∃ (v u : V) (sy : Say) (cl : List Ltr), vs = [v, u] ∧ DatS H v sy ∧ sy.owns.length ≤ 8 ∧ Dat H u (clD cl) ∧ cl.length ≤ 14 ∧
  ∀ (l : Addr) (H' : Hp), Same H H' → H l = none → Lt l (loc sy cl) H' → Q (.ref l) H'
def spFits (f : Say → List Ltr → Bool) : Sp := fun vs H Q _ => ∃ (v : V) (sy : Say), vs = [v] ∧ DatS H v sy ∧ SayOk 6 8 120 40 sy ∧ ∀ H', Same H H' → Q (.bl ((sy.cls.map (f sy)).all id)) H'
/-- the scope of the comprehension that a def returns within all(..) -/
def lcScope : Expr → Scope
  | .ListComp _ _ sc _ => sc
  | _ => defScope sFitsPlain
def retArg : List Stmt → Expr
  | [.Return (some (.Call _ [e] _ _)) _] => e
  | _ => .Constant .none 0 ⟨0, 0, 0, 0⟩
def envD (st : Stmt) : Env := { scope := defScope st, locals := 0, globals := 0, cells := [], qual := "", func := none, code := .none, frame := .none, builtins := 0 }
abbrev scInR : Scope := relabel (lcScope (retArg (defBody sFitsPlain))) (envD sFitsPlain)
abbrev tLenE (K : PySem.W.Frag) (te : TE) : TE := tCB (fun xs H Q => ∃ p ys, xs = [V.ref p] ∧ (SqL K H p ys ∨ SqT K H p ys) ∧ Q (V.int ys.length) H) (tCons te tNil)
abbrev tLo : TE := tCall spLettersOf [] E0 (tCons (tVar 0) (tCons (tVar 1) tNil))
section
variable {P : Program} {w : World} {K : PySem.W.Frag} {mg : Str → Option Value} {base : Heap}
theorem scLettersOf : FnScope ["saying", "clause", "owns", "own", "letter"] ["saying", "clause"] (defScope sLettersOf) := ⟨rfl, rfl, rfl, by decide +kernel, rfl, by decide +kernel, by decide +kernel⟩
theorem scFitsPlain : FnScope ["saying", "clause", "_", "truth"] ["saying"] (defScope sFitsPlain) := ⟨rfl, rfl, rfl, by decide +kernel, rfl, by decide +kernel, by decide +kernel⟩
theorem ok_lettersOf {f : Addr} {fd : FuncData} (F : Fun K "letters_of_owns" "letters_of_owns" sLettersOf f fd) : FnOk P w K mg base CX0 1 f fd ["saying", "clause"] spLettersOf := by
  refine F.ok scLettersOf (fun vs H Q E h => ?_) (fun cdv A outer s H vs Q E hr h => ?_)
  · obtain ⟨v, u, sy, cl, rfl, _⟩ := h
    rfl
  · obtain ⟨v, u, sy, cl, rfl, D, lo, Du, lc, q⟩ := h
    refine ⟨_, pss_cons (ps_set (i := 2) scLettersOf.nd rfl (.inr rfl) (pe_lc (own := [("own", 3)]) (g := gName 3) (tt := tYes) (te := tOp (rIxT K) (tVar 3) (tC (V.int 0))) rfl scLettersOf.nd (pi_tup (pe_ix ix_tup (pv 0) pe_int (fun _ _ => rfl)))
          (blkOk_by (N := ["saying", "clause", "owns", "own", "letter"]) (sc := defScope sLettersOf) (by decide +kernel)) (fun _ _ _ _ _ => pg_name (i := 3) scLettersOf.nd rfl (Or.inl rfl)) (fun _ _ _ _ _ => pts_nil)
          (fun _ _ _ _ _ => by exact pe_ix ix_tup (pv 3) pe_int (fun _ _ => rfl))))
      (pss_one (ps_ret (pe_lc (own := [("letter", 4)]) (g := gName 4) (tt := tTest (tOp (rIn K false) (tOp (rIxT K) (tVar 4) (tC (V.int 0))) (tVar 2))) rfl scLettersOf.nd (pi_tup (pv 1))
          (blkOk_by (N := ["saying", "clause", "owns", "own", "letter"]) (sc := defScope sLettersOf) (by decide +kernel)) (fun _ _ _ _ _ => pg_name (i := 4) scLettersOf.nd rfl (Or.inl rfl))
          (fun _ _ _ _ _ => by exact pts_one (pt_cmpR op_in_seq (pe_ix ix_tup (pv 4) pe_int (fun _ _ => rfl)) (pv 2) (by with_unfolding_all rfl))) (fun _ _ _ _ _ => pv 4)))), ?_⟩
    obtain ⟨a, p, ov, c, rfl, ea, Dp, ⟨b, us, rfl, eb, Db⟩, Dc⟩ := say_row D
    obtain ⟨k, xs, rfl, ek, Dk⟩ := dat_tup (ds := cl.map ltD) Du
    have lu : us.length = sy.owns.length := by rw [Db.len, List.length_map]
    have lx : xs.length = cl.length := by rw [Dk.len, List.length_map]
    refine ⟨_, rfl, a, _, 1, _, rfl, rfl, SqT.of ea, rfl, b, rfl, ⟨_, FT.sq eb⟩, fun D1 hD1 => lc_mapT (K := K) (ys := (sy.owns.map Prod.fst).map V.str) (FT.sq eb) hD1 (by rw [List.length_map, List.length_map, lu]) (by omega) (fun i x y H4 Qe hx hy S4 k' => ?_) gName_mono (fun H5 e5 S5 => ?_)⟩
    · obtain ⟨o, t, t', ho, rfl, g1⟩ := own_names Db hx
      have ey : y = V.str o.1 := by
        rw [List.getElem?_map, List.getElem?_map, ho] at hy
        exact (Option.some.inj hy).symm
      rw [ey] at k'
      exact ⟨rfl, _, rfl, t, _, 0, _, rfl, rfl, SqT.of (S4 _ _ g1), rfl, k' H4 (Same.refl _)⟩
    · refine ⟨_, rfl, k, rfl, ⟨_, SqT.of (S5 _ _ ek)⟩, fun D2 hD2 => ?_⟩
      have hD20 := S5.free hD2
      have n12 : D1 ≠ D2 := ne_of_none e5 hD2
      refine lc_tup (K := K) (a := k) (xs := xs) (fun j H6 => Lt D2 (loc sy (cl.take j)) H6 ∧ Same H5 H6) ⟨⟨[], upd_same, rfl, fun q hq => absurd hq (by simp)⟩, same_new hD2⟩ (fun j H6 _ h => SqT.of (h.2 _ _ (S5 _ _ ek))) ?_ ?_
      · rintro j x H6 hx ⟨L6, S6⟩
        obtain ⟨d, hd, Dx⟩ := dats_get' Dk j x hx
        obtain ⟨l, hl, rfl⟩ := get_map hd
        obtain ⟨t, rfl, et⟩ := ltr_row Dx
        have et6 := S6 _ _ (S5 _ _ et)
        have jl : j < cl.length := (List.getElem?_eq_some_iff.mp hl).1
        refine ⟨rfl, _, rfl, t, _, 0, _, rfl, rfl, SqT.of et6, rfl, _, rfl, D1, _, rfl, .inl (SqL.of (S6 _ _ e5)), rfl, flat_strs _, _, rfl, ?_⟩
        show if inV (V.str l.1) ((sy.owns.map Prod.fst).map V.str) = true then _ else _
        rw [inV_str]
        have tk : loc sy (cl.take (j + 1)) = loc sy (cl.take j) ++ (if l.1 ∈ sy.owns.map Prod.fst then [l] else []) := by rw [take_next hl, loc_snoc]
        by_cases hin : l.1 ∈ sy.owns.map Prod.fst
        · rw [if_pos (decide_eq_true hin)]
          rw [if_pos hin] at tk
          obtain ⟨ys, ey, ly⟩ := L6.len
          have := loc_len sy (cl.take j)
          rw [List.length_take] at this
          refine ⟨_, rfl, _, ey, by rw [ly]; exact small1000 (by omega), ?_, same_upd S6 hD2⟩
          rw [tk]
          exact L6.push ey et6
        · rw [if_neg (by simpa using hin)]
          rw [if_neg hin, List.append_nil] at tk
          rw [tk]
          exact ⟨L6, S6⟩
      · rintro H6 ⟨L6, S6⟩
        rw [lx, List.take_length] at L6
        exact q D2 H6 (S5.trans S6) hD20 L6
theorem ok_fitsPlain {f fL : Addr} {fd fdL : FuncData} (F : Fun K "fits_plain" "fits_plain" sFitsPlain f fd) (Lo : Has K mg "letters_of_owns" sLettersOf ["saying", "clause"] fL fdL) (B : Blt mg) : FnOk P w K mg base CX0 2 f fd ["saying"] (spFits plainC) := by
  have GL : FnOk P w K mg base CX0 1 fL fdL ["saying", "clause"] spLettersOf := ok_lettersOf Lo.F
  refine F.ok scFitsPlain (fun vs H Q E h => ?_) (fun cdv A outer s H vs Q E hr h => ?_)
  · obtain ⟨v, sy, rfl, _⟩ := h
    rfl
  · obtain ⟨v, sy, rfl, D, ok, q⟩ := h
    refine ⟨_, pss_one (ps_ret (pe_callB (cr_all rfl) (by rfl) B.all (by decide +kernel) (pa_cons (pe_lc (own := [("clause", 1)]) (g := gName 1) (tt := tYes)
        (te := tOp (rI0 fun i j => V.bl (decide (i ≤ j))) (tLenE K (tLc (iList K tLo) (gTup K 2 (gCons (gName 2) (gCons (gName 3) gNil))) (tB (tVar 3)) (tVar 3) [2, 3])) (tC (V.int 1))) rfl scFitsPlain.nd (pi_tup (pe_ix ix_tup (pv 0) pe_int (fun _ _ => rfl)))
        (blkOk_by (N := ["saying", "clause", "_", "truth"]) (sc := defScope sFitsPlain) (by decide +kernel)) (fun _ _ _ _ _ => pg_name (i := 1) scFitsPlain.nd rfl (Or.inl rfl)) (fun _ _ _ _ _ => pts_nil)
        (fun _ _ _ _ _ => by exact pe_cmpR op_le (pe_callB call_len_seq (by rfl) B.len (by decide +kernel) (pa_cons (pe_lc (own := [("_", 2), ("truth", 3)]) rfl scFitsPlain.nd
            (pi_list (pe_call GL (by exact hr) (by rfl) Lo.g Lo.F.kp Lo.b .nil pass0 (pa_cons (pv 0) (pa_cons (pv 1) pa_nil)))) (by show BlkOk ["saying", "clause", "_", "truth"] scInR _ _; exact blkOk_by (by decide +kernel))
            (fun _ _ _ _ _ => by exact pg_tup rfl (pgs_cons (pg_name (i := 2) scFitsPlain.nd rfl (.inl rfl)) (pgs_cons (pg_name (i := 3) scFitsPlain.nd rfl (.inl rfl)) pgs_nil))) (fun _ _ _ _ _ => by exact pts_one (pt_val (pv 3))) (fun _ _ _ _ _ => pv 3)) pa_nil)) pe_int (nomark _))) pa_nil))), ?_⟩
    obtain ⟨a, p, ov, c, rfl, ea, Dp, Do, Dc⟩ := say_row D
    obtain ⟨k, cs, rfl, ek, Dk⟩ := dat_tup (ds := sy.cls.map clD) Dc
    have lk : cs.length = sy.cls.length := by rw [Dk.len, List.length_map]
    have lcl := ok.cl
    refine ⟨_, rfl, a, _, 2, _, rfl, rfl, SqT.of ea, rfl, k, rfl, ⟨_, SqT.of ek⟩, fun D1 hD1 => lc_mapT (K := K) (ys := (sy.cls.map (plainC sy)).map V.bl) (SqT.of ek) hD1 (by rw [List.length_map, List.length_map, lk]) (by omega) (fun i x y H4 Qe hx hy S4 k' => ?_) gName_mono (fun H5 e5 S5 => ?_)⟩
    · obtain ⟨d, hd, Dx⟩ := dats_get' Dk i x hx
      obtain ⟨cl, hcl, rfl⟩ := get_map hd
      have ck := ok.ck cl (List.mem_of_getElem? hcl)
      have lc := Nat.le_trans (cl_len ck) ok.nlen
      have ey : y = V.bl (plainC sy cl) := by
        rw [List.getElem?_map, List.getElem?_map, hcl] at hy
        exact (Option.some.inj hy).symm
      rw [ey] at k'
      refine ⟨rfl, _, rfl, _, rfl, .ref a, x, sy, cl, rfl, D.same S4, ok.ol, Dx.same S4, lc, fun l H6 S6 hl L6 => ?_⟩
      obtain ⟨T, e6, eT, hT⟩ := L6.ex
      refine ⟨l, rfl, ⟨_, SqL.of e6⟩, fun D2 hD2 => ?_⟩
      refine lc_list (K := K) (a := l) (xs := T.map TRow.v) (fun j H7 => H7 D2 = some (.lst (((((loc sy cl).take j).filter fun l => l.2).map Prod.snd).map V.bl)) ∧ Same H6 H7) ⟨upd_same, same_new hD2⟩ (fun j H7 _ h => SqL.of (h.2 _ _ e6)) ?_ ?_
      · rintro j x7 H7 hx7 ⟨e7, S7⟩
        rw [List.getElem?_map] at hx7
        obtain ⟨y7, hy7, rfl⟩ := Option.map_eq_some_iff.mp hx7
        have e2 : ((loc sy cl).map ltD)[j]? = some y7.2 := by rw [← eT, List.getElem?_map, hy7]; rfl
        obtain ⟨l7, hl7, e3⟩ := get_map e2
        have D7 := hT y7 (List.mem_of_getElem? hy7)
        rw [e3] at D7
        obtain ⟨t, et, g1⟩ := ltr_row D7
        have jl : j < (loc sy cl).length := (List.getElem?_eq_some_iff.mp hl7).1
        have := loc_len sy cl
        refine ⟨t, _, et, SqT.of (S7 _ _ g1), rfl, _, _, rfl, _, _, rfl, rfl, rfl, _, rfl, l7.2, rfl, ?_⟩
        have tk : ((loc sy cl).take (j + 1)).filter (fun l => l.2) = ((loc sy cl).take j).filter (fun l => l.2) ++ (if l7.2 = true then [l7] else []) := by
          rw [take_next hl7, List.filter_append]
          congr 1
          by_cases h : l7.2 = true
          · rw [if_pos h, List.filter_cons_of_pos h, List.filter_nil]
          · rw [if_neg h, List.filter_cons_of_neg h, List.filter_nil]
        show if l7.2 = true then _ else _
        by_cases h : l7.2 = true
        · rw [if_pos h] at tk ⊢
          refine ⟨_, rfl, _, e7, ?_, ?_, same_upd S7 hD2⟩
          · rw [List.length_map, List.length_map]
            have h1 := List.length_filter_le (fun l : Ltr => l.2) ((loc sy cl).take j)
            rw [List.length_take] at h1
            exact small1000 (by omega)
          · rw [upd_same, tk, List.map_append, List.map_append]
            rfl
        · rw [if_neg h] at tk ⊢
          rw [tk, List.append_nil]
          exact ⟨e7, S7⟩
      · rintro H7 ⟨e7, S7⟩
        have lT : (T.map TRow.v).length = (loc sy cl).length := by rw [List.length_map, ← List.length_map (f := Prod.snd), eT, List.length_map]
        rw [lT, List.take_length] at e7
        refine ⟨D2, _, rfl, .inl (SqL.of e7), _, _, rfl, rfl, ?_⟩
        rw [List.length_map, List.length_map]
        exact k' H7 (S6.trans S7)
    · exact ⟨D1, _, rfl, SqL.of e5, q H5 S5⟩
end
end S1

set_option Elab.async false
set_option linter.all false
set_option maxRecDepth 100000
set_option maxHeartbeats 4000000
/-! the least row -/
namespace S1
open PySem PySem.W PySem.Spec PyProof.Rows L2
def prD (x : Nat × Nat) : PyData := .tuple [.int (x.1 : Nat), .int (x.2 : Nat)]
/-- a list of rules -/
def Rls (H : Hp) (l : Addr) (R : List (Nat × Nat)) : Prop := ∃ T : List TRow, H l = some (.lst (T.map TRow.v)) ∧ T.map Prod.snd = R.map prD ∧ ∀ q ∈ T, Dat H q.v q.2
theorem Rls.same {H H' : Hp} {l : Addr} {R : List (Nat × Nat)} (h : Rls H l R) (S : Same H H') : Rls H' l R := let ⟨T, a, b, c⟩ := h; ⟨T, S _ _ a, b, fun q hq => (c q hq).same S⟩
theorem pr_row {H : Hp} {v : V} {x : Nat × Nat} (D : Dat H v (prD x)) : ∃ t, v = .ref t ∧ H t = some (.tup [.int (x.1 : Nat), .int (x.2 : Nat)]) := by
  obtain ⟨t, xs, rfl, e, h⟩ := dat_tup (ds := [.int (x.1 : Nat), .int (x.2 : Nat)]) D
  cases h with
  | cons a b =>
    cases b with
    | cons c d =>
      cases d
      cases a
      cases c
      exact ⟨t, rfl, e⟩
theorem Rls.push {H : Hp} {l t : Addr} {R : List (Nat × Nat)} {xs : List V} {x : Nat × Nat} (h : Rls H l R) (e : H l = some (.lst xs)) (et : H t = some (.tup [.int (x.1 : Nat), .int (x.2 : Nat)])) : Rls (upd H l (.lst (xs ++ [.ref t]))) l (R ++ [x]) := by
  obtain ⟨T, a, b, c⟩ := h
  rw [e] at a
  cases a
  refine ⟨T ++ [(t, prD x)], by rw [upd_same, List.map_append]; rfl, by rw [List.map_append, List.map_append, b]; rfl, fun q hq => ?_⟩
  rcases List.mem_append.mp hq with m | m
  · have k : keyable q.2 = true := by
      have z : q.2 ∈ R.map prD := b ▸ List.mem_map_of_mem m
      obtain ⟨y, _, hy⟩ := List.mem_map.mp z
      rw [← hy]
      rfl
    exact dat_upd e k (c q m)
  · cases List.mem_singleton.mp m
    exact dat_upd e rfl (.tup (xs := [.int (x.1 : Nat), .int (x.2 : Nat)]) et (.cons (.int _) (.cons (.int _) .nil)))
theorem Rls.len {H : Hp} {l : Addr} {R : List (Nat × Nat)} (h : Rls H l R) : ∃ xs, H l = some (.lst xs) ∧ xs.length = R.length := by
  obtain ⟨T, a, b, _⟩ := h
  exact ⟨_, a, by rw [List.length_map, ← List.length_map (f := Prod.snd), b, List.length_map]⟩
/-- the list of what is told -/
def Tld (H : Hp) (l : Addr) (S : List (List Nat)) : Prop := ∃ T : List TRow, H l = some (.lst (T.map TRow.v)) ∧ T.map Prod.snd = S.map ltrsD ∧ ∀ q ∈ T, Dat H q.v q.2
def spLeastRow : Sp := fun vs H Q _ => ∃ (l : Addr) (S : List (List Nat)) (n : Nat), vs = [.ref l, .int n] ∧ Tld H l S ∧ (∀ ns ∈ S, EasyL ns ∧ ns.length ≤ 14) ∧ S.length ≤ 3000 ∧ n ≤ 1000 ∧
  ∀ H', Same H H' → ((∀ r, ¬ Meets r S) → Q .non H') ∧ (∀ (t : Nat) (b : Addr), Meets (fun i => t.testBit i) S → (∀ r, Meets r S → ∀ i, t.testBit i = true → r i = true) → H b = none → H' b = some (.lst (((List.range n).map fun i => t.testBit i).map V.bl)) → Q (.ref b) H')
abbrev nLR : List Str := ["told", "size", "rules", "trues", "growing", "waiting", "needed", "made", "letters", "letter", "place"]
def asgVal : List Stmt → Expr
  | .Assign _ e _ :: _ => e
  | _ => .Constant .none 0 ⟨0, 0, 0, 0⟩
abbrev scLa : Scope := relabel (lcScope (asgVal (defBody sLeastRow))) (envD sLeastRow)
section
variable {P : Program} {w : World} {K : PySem.W.Frag} {mg : Str → Option Value} {base : Heap}
theorem scLeastRow : FnScope nLR ["told", "size"] (defScope sLeastRow) := ⟨rfl, rfl, rfl, by decide +kernel, rfl, by decide +kernel, by decide +kernel⟩
abbrev tBit : TE := tOp (rI CPow fun i j => .int (i * 2 ^ j.toNat)) (tC (V.int 1)) (tOp (rI (fun _ j => 0 ≤ j) fun i j => .int (i / 2 ^ j.toNat)) (tVar 9) (tC (V.int 1)))
abbrev tOdd (K : PySem.W.Frag) : TT := fun σ H Q => tOp (rI0 fun i j => V.int (Builtin.bitAnd i j)) (tVar 9) (tC (V.int 1)) σ H fun x H' => ∃ k, TruV K x H' k ∧ Q k H'
theorem dats_nats {H : Hp} : ∀ {xs : List V} {l : List Nat}, DatAll H xs (l.map fun n : Nat => PyData.int ((n : Nat) : Int)) → xs = l.map fun n : Nat => V.int ((n : Nat) : Int)
  | _, [], h => by cases h; rfl
  | _, _ :: l, h => by
    cases h with
    | cons a b =>
      cases a
      rw [dats_nats b]
      rfl
/-- [1 << (letter >> 1) for letter in letters if ..] -/
theorem lc_bits {σ : L2.St} {H : Hp} {a D : Addr} {ns : List Nat} {tt : TT} (p : Nat → Bool) {Qd : Hp → Prop} (ea : H a = some (.tup (ns.map fun n : Nat => V.int ((n : Nat) : Int)))) (hD : H D = none) (len : ns.length ≤ 100) (le : ∀ c ∈ ns, c ≤ 1000)
    (hw : ∀ x : V, wipe ((wipe σ [9]).set 9 (some x)) [9] = wipe σ [9]) (hi : ∀ x : V, ((wipe σ [9]).set 9 (some x))[9]? = some (some x))
    (htt : ∀ (c : Nat) (σ2 : L2.St) (H2 : Hp) (Q : Bool → Hp → Prop), σ2[9]? = some (some (V.int ((c : Nat) : Int))) → Q (p c) H2 → tt σ2 H2 Q)
    (hd : ∀ H5, H5 D = some (.lst (((ns.filter p).map fun c => ((2 ^ (c / 2) : Nat) : Int)).map V.int)) → Same H H5 → Qd H5) :
    ∃ W : Nat → Nat → Hp → Prop, (∃ m, W 0 m (upd H D (.lst []))) ∧ ∀ n m H, W n m H →
      ((Itt K a).stop n H ∧ Qd H) ∨ ((Itt K a).go n H ∧ ∃ Nx : Hp → Prop, (∀ H', Nx H' → ∃ m', m' < m ∧ W (n + 1) m' H') ∧ ∀ x H', (Itt K a).yld n H x H' → gName 9 x (wipe σ [9]) H' fun σ2 H2 => wipe σ2 [9] = wipe σ [9] ∧ tt σ2 H2 fun b H3 =>
        if b = true then tBit σ2 H3 fun y H4 => ∃ acc, H4 D = some (.lst acc) ∧ acc.length < sizeLine ∧ Nx (upd H4 D (.lst (acc ++ [y]))) else Nx H3) := by
  refine lc_tup (K := K) (a := a) (xs := ns.map fun n : Nat => V.int ((n : Nat) : Int)) (fun i G => G D = some (.lst ((((ns.take i).filter p).map fun c => ((2 ^ (c / 2) : Nat) : Int)).map V.int)) ∧ Same H G) ⟨upd_same, same_new hD⟩ (fun i G _ h => SqT.of (h.2 _ _ ea)) ?_ ?_
  · rintro i x G hx ⟨eD, S⟩
    rw [List.getElem?_map] at hx
    obtain ⟨c, hc, rfl⟩ := Option.map_eq_some_iff.mp hx
    have il : i < ns.length := (List.getElem?_eq_some_iff.mp hc).1
    have cle := le c (List.mem_of_getElem? hc)
    refine ⟨hw _, htt c _ _ _ (hi _) ?_⟩
    have tk : (ns.take (i + 1)).filter p = (ns.take i).filter p ++ (if p c = true then [c] else []) := by
      rw [take_next hc, List.filter_append]
      congr 1
      by_cases h : p c = true
      · rw [if_pos h, List.filter_cons_of_pos h, List.filter_nil]
      · rw [if_neg h, List.filter_cons_of_neg h, List.filter_nil]
    by_cases h : p c = true
    · rw [if_pos h]
      rw [if_pos h] at tk
      have e1 : ((c : Nat) : Int) / 2 ^ (1 : Int).toNat = ((c / 2 : Nat) : Int) := by
        show ((c : Nat) : Int) / 2 = _
        omega
      refine ⟨_, hi _, _, _, rfl, rfl, (show (0 : Int) ≤ 1 by decide), _, _, rfl, rfl, ?_, ?_⟩
      · refine ⟨?_, ?_, by decide⟩
        · show 0 ≤ ((c : Nat) : Int) / 2 ^ (1 : Int).toNat
          rw [e1]
          exact Int.natCast_nonneg _
        · show ((c : Nat) : Int) / 2 ^ (1 : Int).toNat ≤ 1000000
          rw [e1]
          omega
      refine ⟨_, eD, ?_, ?_, same_upd S hD⟩
      · rw [List.length_map, List.length_map]
        have h1 := List.length_filter_le p (ns.take i)
        rw [List.length_take] at h1
        exact small1000 (by omega)
      · rw [upd_same, tk, List.map_append, List.map_append]
        congr 3
        show [V.int (1 * 2 ^ (((c : Nat) : Int) / 2 ^ (1 : Int).toNat).toNat)] = [V.int ((2 ^ (c / 2) : Nat) : Int)]
        rw [e1, Int.toNat_natCast, Int.one_mul, Int.natCast_pow]
        rfl
    · rw [if_neg h]
      rw [if_neg h, List.append_nil] at tk
      exact ⟨by rw [tk]; exact eD, S⟩
  · rintro G ⟨eD, S⟩
    rw [List.length_map, List.take_length] at eD
    exact hd G eD S
theorem sum_cast (l : List Nat) : (l.map fun c => ((2 ^ (c / 2) : Nat) : Int)).sum = ((bitsOf (l.map (· / 2)) : Nat) : Int) := by
  induction l with
  | nil => rfl
  | cons x l ih =>
    rw [List.map_cons, List.sum_cons, ih]
    show _ = ((2 ^ (x / 2) + bitsOf (l.map (· / 2)) : Nat) : Int)
    rw [Int.natCast_add]
theorem even_tt (c : Nat) (σ2 : L2.St) (H2 : Hp) (Q : Bool → Hp → Prop) (h : σ2[9]? = some (some (V.int ((c : Nat) : Int)))) (q : Q (decide (c % 2 = 0)) H2) : (tNot (tOdd K)) σ2 H2 Q := by
  refine ⟨_, h, _, _, rfl, rfl, _, rfl, ?_⟩
  have e : (!(Builtin.bitAnd ((c : Nat) : Int) 1 != 0)) = decide (c % 2 = 0) := by
    rw [bitAnd_m1]
    have : ((c : Nat) : Int) % 2 = ((c % 2 : Nat) : Int) := by omega
    rw [this]
    rcases Nat.mod_two_eq_zero_or_one c with z | z <;> rw [z] <;> rfl
  show Q (!(Builtin.bitAnd ((c : Nat) : Int) 1 != 0)) H2
  rw [e]
  exact q
theorem odd_tt (c : Nat) (σ2 : L2.St) (H2 : Hp) (Q : Bool → Hp → Prop) (h : σ2[9]? = some (some (V.int ((c : Nat) : Int)))) (q : Q (decide (c % 2 = 1)) H2) : (tOdd K) σ2 H2 Q := by
  refine ⟨_, h, _, _, rfl, rfl, _, rfl, ?_⟩
  have e : (Builtin.bitAnd ((c : Nat) : Int) 1 != 0) = decide (c % 2 = 1) := by
    rw [bitAnd_m1]
    have : ((c : Nat) : Int) % 2 = ((c % 2 : Nat) : Int) := by omega
    rw [this]
    rcases Nat.mod_two_eq_zero_or_one c with z | z <;> rw [z] <;> rfl
  show Q (Builtin.bitAnd ((c : Nat) : Int) 1 != 0) H2
  rw [e]
  exact q
def muL (σ : L2.St) (G : Hp) : Nat := match (σ : List (Option V))[4]?, (σ : List (Option V))[2]? with
  | some (some (V.bl true)), some (some (V.ref lr)) => (match G lr with
    | some (.lst xs) => xs.length + 1
    | _ => 0)
  | _, _ => 0
theorem kb_pr (R : List (Nat × Nat)) {T : List TRow} (e : T.map Prod.snd = R.map prD) : ∀ q ∈ T, keyable q.2 = true := fun q hq => by
  have z : q.2 ∈ R.map prD := e ▸ List.mem_map_of_mem hq
  obtain ⟨y, _, hy⟩ := List.mem_map.mp z
  rw [← hy]
  rfl
theorem ok_leastRow {f : Addr} {fd : FuncData} (F : Fun K "least_row" "least_row" sLeastRow f fd) (B : Blt mg) : FnOk P w K mg base CX0 1 f fd ["told", "size"] spLeastRow := by
  refine F.ok scLeastRow (fun vs H Q E h => ?_) (fun cdv A outer s H vs Q E hr h => ?_)
  · obtain ⟨l, S, n, rfl, _⟩ := h
    rfl
  · obtain ⟨l, S, n, rfl, Td, ES, lS, ln, q⟩ := h
    refine ⟨_, pss_cons (ps_setLc (i := 2) (own := [("letters", 8)]) (g := gName 8) (tt := tYes)
          (te := tTup (tCons (tCB (rSum K) (tCons (tLc (iTup K (tVar 8)) (gName 9) (tNot (tOdd K)) tBit [9]) tNil)) (tCons (tCB (rSum K) (tCons (tLc (iTup K (tVar 8)) (gName 9) (tOdd K) tBit [9]) tNil)) tNil)))
          rfl scLeastRow.nd rfl rfl (sw_true rfl rfl rfl (by decide +kernel)) (pi_list (pv 0)) (blkOk_by (N := nLR) (sc := defScope sLeastRow) (by decide +kernel)) (fun _ _ _ _ _ => pg_name (i := 8) scLeastRow.nd rfl (Or.inl rfl)) (fun _ _ _ _ _ => pts_nil)
          (fun _ _ _ _ _ => by exact pe_tup (pa_cons (pe_callB (cr_sum rfl) (by rfl) B.sum (by decide +kernel) (pa_cons (pe_lc (own := [("letter", 9)]) (g := gName 9) rfl scLeastRow.nd (pi_tup (pv 8)) (by show BlkOk nLR scLa _ _; exact blkOk_by (by decide +kernel))
                (fun _ _ _ _ _ => pg_name (i := 9) scLeastRow.nd rfl (Or.inl rfl)) (fun _ _ _ _ _ => by exact pts_one (pt_not (pt_truth (pe_op op_and (pv 9) pe_int) (by intro _; rfl)))) (fun _ _ _ _ _ => by exact pe_op op_shl pe_int (pe_op op_shr (pv 9) pe_int))) pa_nil))
              (pa_cons (pe_callB (cr_sum rfl) (by rfl) B.sum (by decide +kernel) (pa_cons (pe_lc (own := [("letter", 9)]) (g := gName 9) rfl scLeastRow.nd (pi_tup (pv 8)) (by show BlkOk nLR scLa _ _; exact blkOk_by (by decide +kernel))
                (fun _ _ _ _ _ => pg_name (i := 9) scLeastRow.nd rfl (Or.inl rfl)) (fun _ _ _ _ _ => by exact pts_one (pt_truth (pe_op op_and (pv 9) pe_int) (by intro _; rfl))) (fun _ _ _ _ _ => by exact pe_op op_shl pe_int (pe_op op_shr (pv 9) pe_int))) pa_nil)) pa_nil))))
      (pss_cons (ps_set (i := 3) scLeastRow.nd rfl (.inr rfl) pe_int)
      (pss_cons (ps_set (i := 4) scLeastRow.nd rfl (.inl rfl) pe_bl)
      (pss_cons (ps_while PassesOwn.never (pt_val (pv 4))
        (pss_cons (ps_set (i := 4) scLeastRow.nd rfl (.inl rfl) pe_bl)
        (pss_cons (ps_set (i := 5) scLeastRow.nd rfl (.inl rfl) (pe_lst pa_nil))
        (pss_cons (ps_for PassesOwn.never rfl (pi_list (pv 2)) (pg_tup rfl (pgs_cons (pg_name (i := 6) scLeastRow.nd rfl (.inl rfl)) (pgs_cons (pg_name (i := 7) scLeastRow.nd rfl (.inl rfl)) pgs_nil)))
          (pss_one (ps_if (pt_truth (pe_op op_and (pv 6) (pe_un un_inv (pv 3))) (by intro _; rfl))
            (pss_one (ps_expr (pe_bm PySem.F.plainAttrs_list PySem.F.slot_list_append PySem.F.type_list_append mt_append (pv 5) (pa_cons (pe_tup (pa_cons (pv 6) (pa_cons (pv 7) pa_nil))) pa_nil))))
            (pss_one (ps_if (pt_not (pt_truth (pv 7) (by intro _; rfl))) (pss_one (ps_ret pe_non))
              (pss_one (ps_if (pt_truth (pe_op op_and (pv 7) (pe_un un_inv (pv 3))) (by intro _; rfl))
                (pss_cons (ps_aug (i := 3) scLeastRow.nd rfl (.inr rfl) (pv 7) (fun pins s σ H x y u v Q I rx ry h => iop_or pins s σ H x y u v Q I rx ry h)) (pss_one (ps_set (i := 4) scLeastRow.nd rfl (.inl rfl) pe_bl))) pss_nil)))))))
        (pss_one (ps_set (i := 2) scLeastRow.nd rfl (.inl rfl) (pv 5)))))))
      (pss_one (ps_ret (pe_lc (own := [("place", 10)]) (g := gName 10) (tt := tYes) rfl scLeastRow.nd (pi_range1 rfl B.range (pa_cons (pv 1) pa_nil)) (blkOk_by (N := nLR) (sc := defScope sLeastRow) (by decide +kernel))
            (fun _ _ _ _ _ => pg_name (i := 10) scLeastRow.nd rfl (Or.inl rfl)) (fun _ _ _ _ _ => pts_nil)
            (fun _ _ _ _ _ => by exact pe_callTy call_bool1 (by rfl) B.bool (by decide +kernel) (pa_cons (pe_op op_and (pe_op op_shr (pv 3) (pv 10)) pe_int) pa_nil)))))))), ?_⟩
    obtain ⟨T, eT, dT, DT⟩ := Td
    have lT : T.length = S.length := by rw [← List.length_map (f := Prod.snd), dT, List.length_map]
    refine ⟨_, rfl, l, rfl, ⟨_, SqL.of eT⟩, fun lR hlR => ?_⟩
    have nlR : l ≠ lR := ne_of_none eT hlR
    refine lc_list (K := K) (a := l) (xs := T.map TRow.v) (fun i G => Rls G lR ((S.take i).map fun ns => (nB ns, mB ns)) ∧ Same H G) ⟨⟨[], upd_same, rfl, fun q hq => absurd hq (by simp)⟩, same_new hlR⟩ (fun i G _ h => SqL.of (h.2 _ _ eT)) ?_ ?_
    · rintro i x G hx ⟨RG, SG⟩
      rw [List.getElem?_map] at hx
      obtain ⟨y, hy, rfl⟩ := Option.map_eq_some_iff.mp hx
      have ey : (S.map ltrsD)[i]? = some y.2 := by rw [← dT, List.getElem?_map, hy]; rfl
      obtain ⟨ns, hns, ens⟩ := get_map ey
      have nm := List.mem_of_getElem? hns
      obtain ⟨Ez, lz⟩ := ES ns nm
      have Dy := (DT y (List.mem_of_getElem? hy)).same SG
      rw [ens] at Dy
      obtain ⟨a, us, ea, eu, Du⟩ := dat_tup (ds := ns.map fun n : Nat => PyData.int ((n : Nat) : Int)) Dy
      have lu : us.length = ns.length := by rw [Du.len, List.length_map]
      rw [ea]
      refine ⟨rfl, yes_of ?_⟩
      have eus := dats_nats Du
      subst eus
      refine ⟨_, rfl, a, rfl, ⟨_, SqT.of eu⟩, fun d1 hd1 => lc_bits (fun c => decide (c % 2 = 0)) eu hd1 (by omega) Ez.le (fun _ => rfl) (fun _ => rfl) even_tt fun G1 e1 S1 => ?_⟩
      refine ⟨d1, _, rfl, SqL.of e1, ?_⟩
      refine ⟨_, rfl, a, rfl, ⟨_, SqT.of (S1 _ _ eu)⟩, fun d2 hd2 => lc_bits (fun c => decide (c % 2 = 1)) (S1 _ _ eu) hd2 (by omega) Ez.le (fun _ => rfl) (fun _ => rfl) odd_tt fun G2 e2 S2 => ?_⟩
      refine ⟨d2, _, rfl, SqL.of e2, (by show 2 ≤ sizeLine; decide), fun t ht => ?_⟩
      rw [sum_cast, sum_cast]
      have S3 := same_new (o := .tup [V.int ((nB ns : Nat) : Int), V.int ((mB ns : Nat) : Int)]) ht
      have et : upd G2 t (.tup [V.int ((nB ns : Nat) : Int), V.int ((mB ns : Nat) : Int)]) t = some (.tup [V.int ((nB ns : Nat) : Int), V.int ((mB ns : Nat) : Int)]) := upd_same
      have S13 := (S1.trans S2).trans S3
      obtain ⟨xs, ex, lx⟩ := (RG.same S13).len
      have il : i < S.length := (List.getElem?_eq_some_iff.mp hns).1
      refine ⟨xs, ex, by rw [lx, List.length_map, List.length_take]; exact small16 (by omega), ?_, same_upd (SG.trans S13) hlR⟩
      rw [take_next hns, List.map_append]
      exact (RG.same S13).push (x := (nB ns, mB ns)) ex et
    · rintro G ⟨RG, SG⟩
      rw [List.length_map, lT, List.take_length] at RG
      have EL : ∀ ns ∈ S, EasyL ns := fun ns h => (ES ns h).1
      refine while_by (fun σ G => ∃ (lr : Addr) (t : Nat) (g : Bool) (R : List (Nat × Nat)) (o5 o6 o7 o8 o9 o10 : Option V), σ = [some (.ref l), some (.int (n : Nat)), some (.ref lr), some (.int (t : Nat)), some (.bl g), o5, o6, o7, o8, o9, o10] ∧ Same H G ∧ Rls G lr R ∧ Grw S t R ∧ R.length ≤ 3000 ∧ (g = false → ∀ x ∈ R, ¬ Sub x.1 t)) muL
        ⟨lR, 0, true, _, _, _, _, _, _, _, rfl, SG, RG, Grw.start, by rw [List.length_map]; exact lS, fun z => (nomatch z)⟩ ?_ (fun σ H Q Q' h ⟨v, e, d, e2, q⟩ => ⟨v, e, d, e2, h _ _ q⟩)
      rintro σ G ⟨lr, t, g, R, o5, o6, o7, o8, o9, o10, rfl, SG, RG, GR, lR', nog⟩
      refine ⟨_, rfl, _, rfl, ?_⟩
      cases g with
      | true =>
        rw [if_pos rfl]
        obtain ⟨TR, eTR, dTR, DTR⟩ := RG
        have lTR : TR.length = R.length := by rw [← List.length_map (f := Prod.snd), dTR, List.length_map]
        have mu0 : muL [some (.ref l), some (.int (n : Nat)), some (.ref lr), some (.int (t : Nat)), some (.bl true), o5, o6, o7, o8, o9, o10] G = R.length + 1 := by
          show (match G lr with | some (.lst xs) => xs.length + 1 | _ => 0) = _
          rw [eTR]
          show (TR.map TRow.v).length + 1 = _
          rw [List.length_map, lTR]
        refine ⟨(by show 0 ≤ sizeLine; decide), fun lw hlw => ?_⟩
        have S1 := same_new (o := .lst []) hlw
        have lwr : lr ≠ lw := ne_of_none eTR hlw
        refine ⟨_, rfl, lr, rfl, ⟨_, SqL.of (S1 _ _ eTR)⟩, ?_⟩
        refine for_list (K := K) (a := lr) (xs := TR.map TRow.v) (fun i σ G' => ∃ (t' : Nat) (g : Bool) (W : List (Nat × Nat)) (o6 o7 o8 o9 o10 : Option V), σ = [some (.ref l), some (.int (n : Nat)), some (.ref lr), some (.int (t' : Nat)), some (.bl g), some (.ref lw), o6, o7, o8, o9, o10] ∧ Same H G' ∧ G' lr = some (.lst (TR.map TRow.v)) ∧ (∀ q ∈ TR, Dat G' q.v q.2) ∧ Rls G' lw W ∧ Pass S R t i t' W g)
          ⟨t, false, [], _, _, _, _, _, rfl, SG.trans S1, S1 _ _ eTR, fun q hq => (DTR q hq).same S1, ⟨[], upd_same, rfl, fun q hq => absurd hq (by simp)⟩, Pass.start GR⟩ (fun i σ G' _ ⟨_, _, _, _, _, _, _, _, _, _, e, _⟩ => SqL.of e) ?_ ?_
        · rintro i x σ G' hx ⟨t', g, W, p6, p7, p8, p9, p10, rfl, SG', eR, DR, RW, PS⟩
          rw [List.getElem?_map] at hx
          obtain ⟨y, hy, rfl⟩ := Option.map_eq_some_iff.mp hx
          have ey : (R.map prD)[i]? = some y.2 := by rw [← dTR, List.getElem?_map, hy]; rfl
          obtain ⟨x, hx', ex⟩ := get_map ey
          have Dy := DR y (List.mem_of_getElem? hy)
          rw [ex] at Dy
          obtain ⟨a, ea, eu⟩ := pr_row Dy
          rw [ea]
          have il : i < R.length := (List.getElem?_eq_some_iff.mp hx').1
          refine ⟨a, _, rfl, SqT.of eu, rfl, _, _, rfl, _, _, rfl, rfl, ?_⟩
          refine ⟨_, rfl, _, rfl, _, rfl, _, _, rfl, rfl, _, rfl, ?_⟩
          show if (Builtin.bitAnd ((x.1 : Nat) : Int) (Builtin.bitNot ((t' : Nat) : Int)) != 0) = true then _ else _
          rw [band_inv]
          by_cases sb : Sub x.1 t'
          · rw [if_neg (fun z => (band_inv_ne _ _).mp z sb)]
            refine ⟨_, rfl, _, rfl, ?_⟩
            by_cases m0 : x.2 = 0
            · rw [m0]
              show if true = true then _ else _
              rw [if_pos rfl]
              exact (q _ SG').1 fun r => PS.stop EL hx' sb m0 r
            · have e1 : (!(((x.2 : Nat) : Int) != 0)) = false := by
                simp
                omega
              show if (!(((x.2 : Nat) : Int) != 0)) = true then _ else _
              rw [e1, if_neg (by decide)]
              refine ⟨_, rfl, _, rfl, _, rfl, _, _, rfl, rfl, _, rfl, ?_⟩
              show if (Builtin.bitAnd ((x.2 : Nat) : Int) (Builtin.bitNot ((t' : Nat) : Int)) != 0) = true then _ else _
              rw [band_inv]
              by_cases sb2 : Sub x.2 t'
              · rw [if_neg (fun z => (band_inv_ne _ _).mp z sb2)]
                exact ⟨t', g, W, _, _, _, _, _, rfl, SG', eR, DR, RW, PS.drop hx' m0 sb2⟩
              · rw [if_pos ((band_inv_ne _ _).mpr sb2)]
                refine ⟨_, rfl, _, rfl, _, _, rfl, rfl, ?_⟩
                refine ⟨t' ||| x.2, true, W, some (.int (x.1 : Nat)), some (.int (x.2 : Nat)), p8, p9, p10, ?_, SG', eR, DR, RW, PS.grow EL hx' sb m0⟩
                rw [← bor_nat]
                rfl
          · rw [if_pos ((band_inv_ne _ _).mpr sb)]
            obtain ⟨xs, exs, lxs⟩ := RW.len
            refine ⟨_, rfl, .inl ⟨rfl, _, SqL.of exs⟩, _, rfl, _, rfl, (by show 2 ≤ sizeLine; decide), fun tt htt => ?_⟩
            have S2 := same_new (o := .tup [V.int ((x.1 : Nat) : Int), V.int ((x.2 : Nat) : Int)]) htt
            have ett : upd G' tt (.tup [V.int ((x.1 : Nat) : Int), V.int ((x.2 : Nat) : Int)]) tt = some (.tup [V.int ((x.1 : Nat) : Int), V.int ((x.2 : Nat) : Int)]) := upd_same
            generalize upd G' tt (.tup [V.int ((x.1 : Nat) : Int), V.int ((x.2 : Nat) : Int)]) = G2 at S2 ett ⊢
            have plen := PS.len
            have e2 := S2 _ _ exs
            refine ⟨lw, _, _, rfl, rfl, e2, by rw [lxs]; exact small16 (by omega), ?_⟩
            refine ⟨t', g, W ++ [x], _, _, _, _, _, rfl, same_upd (SG'.trans S2) (SG.free hlw), by rw [upd_ne lwr]; exact S2 _ _ eR, fun q hq => dat_upd e2 (kb_pr R dTR q hq) ((DR q hq).same S2), (RW.same S2).push e2 ett, PS.wait hx' sb⟩
        · rintro σ G' ⟨t', g, W, p6, p7, p8, p9, p10, rfl, SG', eR, DR, RW, PS⟩
          rw [List.length_map, lTR] at PS
          have plen := PS.len
          have st := PS.st
          rw [List.drop_length, List.append_nil] at st
          refine ⟨_, rfl, ⟨lw, t', g, W, _, _, _, _, _, _, rfl, SG', RW, st, by omega, fun e => (PS.same e).2⟩, ?_⟩
          show muL _ G' < muL [some (.ref l), some (.int (n : Nat)), some (.ref lr), some (.int (t : Nat)), some (.bl true), o5, o6, o7, o8, o9, o10] G
          rw [mu0]
          cases g with
          | false => exact Nat.succ_pos _
          | true =>
            obtain ⟨xs, exs, lxs⟩ := RW.len
            show (match G' lw with | some (.lst xs) => xs.length + 1 | _ => 0) < _
            rw [exs]
            rw [if_pos rfl] at plen
            show xs.length + 1 < _
            omega
      | false =>
        rw [if_neg (by decide)]
        have M := GR.done EL (nog rfl)
        refine ⟨_, rfl, _, rfl, by omega, by omega, fun D hD => ?_⟩
        refine lc_range (lo := 0) (n := ((n : Nat) : Int).toNat) (fun i G' => G' D = some (.lst (((List.range i).map fun i => t.testBit i).map V.bl)) ∧ Same H G') ⟨upd_same, SG.trans (same_new hD)⟩ ?_ ?_
        · rintro i G' hi ⟨eD, SG'⟩
          refine ⟨rfl, yes_of ?_⟩
          refine ⟨_, rfl, _, rfl, _, _, rfl, rfl, (show (0 : Int) ≤ 0 + (i : Nat) by omega), _, _, rfl, rfl, .inl ⟨_, rfl, ?_⟩⟩
          have e1 : (Builtin.bitAnd (((t : Nat) : Int) / 2 ^ ((0 : Int) + ((i : Nat) : Int)).toNat) 1 != 0) = t.testBit i := by
            rw [bitAnd_m1, Int.zero_add, Int.toNat_natCast, Nat.testBit_eq_decide_div_mod_eq]
            have : (((t : Nat) : Int) / 2 ^ i) % 2 = ((t / 2 ^ i % 2 : Nat) : Int) := by
              rw [show ((2 : Int) ^ i) = ((2 ^ i : Nat) : Int) by rw [Int.natCast_pow]; rfl]
              rfl
            rw [this]
            rcases Nat.mod_two_eq_zero_or_one (t / 2 ^ i) with z | z <;> rw [z] <;> rfl
          refine ⟨_, eD, by rw [List.length_map, List.length_map, List.length_range]; exact small16 (by omega), ?_, same_upd SG' (SG.free hD)⟩
          rw [upd_same, List.range_succ, List.map_append, List.map_append]
          congr 3
          exact congrArg (fun b => [V.bl b]) e1
        · rintro G' ⟨eD, SG'⟩
          rw [Int.toNat_natCast] at eD
          exact (q G' SG').2 t D M GR.low (SG.free hD) eD
end
end S1

set_option Elab.async false
set_option linter.all false
set_option maxRecDepth 100000
set_option maxHeartbeats 4000000
/-! answers of a row of truths -/
namespace S1
open PySem PySem.W PySem.Spec PyProof.Rows L2
abbrev Tbl := List Bool
def ansT (an : List Tbl) : PyData := .tuple (an.map blsD)
structure AnsOk (os : List Own) (an : List Tbl) : Prop where
  len : an.length = os.length
  tbl : ∀ (i : Nat) (o : Own) (t : Tbl), os[i]? = some o → an[i]? = some t → t.length = 2 ^ o.2.length
theorem keyable_ans (an : List Tbl) : keyable (ansT an) = true := by
  show keyables (an.map blsD) = true
  exact keyables_map blsD keyable_bls an
theorem cut_any {f : Bool → V} {ws : List Bool} {a b : Nat} (h : a ≤ b) (hb : b ≤ ws.length) : cutV (ws.map f) (some (a : Int)) (some (b : Int)) = ((ws.drop a).take (b - a)).map f := by
  unfold cutV
  rw [HT.sIx_nat, HT.sIx_nat, List.length_map, Nat.min_eq_left (show a ≤ ws.length by omega), Nat.min_eq_left hb, ← List.map_drop, ← List.map_take]
/-- the tables' lengths, one behind the other -/
theorem ans_take {os : List Own} {an : List Tbl} (ao : AnsOk os an) : ∀ i ≤ os.length, ((an.take i).flatten).length = copies (os.take i) := by
  intro i
  induction i with
  | zero => intro _; rfl
  | succ i ih =>
    intro h
    have hi := ih (by omega)
    obtain ⟨o, ho⟩ : ∃ o, os[i]? = some o := ⟨_, List.getElem?_eq_getElem (by omega)⟩
    obtain ⟨t, ht⟩ : ∃ t, an[i]? = some t := ⟨_, List.getElem?_eq_getElem (by have := ao.len; omega)⟩
    rw [take_next ho, take_next ht, List.flatten_append, List.length_append, hi, copies_snoc, List.flatten_cons, List.flatten_nil, List.append_nil, ao.tbl i o t ho ht]
theorem ans_len {os : List Own} {an : List Tbl} (ao : AnsOk os an) : an.flatten.length = copies os := by
  have z := ans_take ao os.length (Nat.le_refl _)
  rwa [List.take_length, ← ao.len, List.take_length] at z
theorem ans_cut {os : List Own} {an : List Tbl} (ao : AnsOk os an) {i : Nat} {o : Own} {t : Tbl} (ho : os[i]? = some o) (ht : an[i]? = some t) : (an.flatten.drop (copies (os.take i))).take (copies (os.take (i + 1)) - copies (os.take i)) = t := by
  have hi : i < os.length := (List.getElem?_eq_some_iff.mp ho).1
  have hi2 : i < an.length := (List.getElem?_eq_some_iff.mp ht).1
  have l := ans_take ao i (by omega)
  have e : an.flatten = (an.take i).flatten ++ (t ++ (an.drop (i + 1)).flatten) := by
    have e0 : an = an.take i ++ t :: an.drop (i + 1) := by
      conv => lhs; rw [← List.take_append_drop i an, List.drop_eq_getElem_cons hi2, (List.getElem?_eq_some_iff.mp ht).2]
    conv => lhs; rw [e0, List.flatten_append, List.flatten_cons]
  rw [e, take_next ho, copies_snoc, ← l, List.drop_left, Nat.add_sub_cancel_left, ← ao.tbl i o t ho ht]
  exact List.take_left
def spTablesOf : Sp := fun vs H Q _ => ∃ (v : V) (r : Addr) (s : Say) (an : List Tbl), vs = [v, .ref r] ∧ DatS H v s ∧ SayOk 6 8 120 40 s ∧ AnsOk s.owns an ∧ H r = some (.lst (an.flatten.map V.bl)) ∧ ∀ (t : V) (H' : Hp), Same H H' → Dat H' t (ansT an) → Q t H'
abbrev nTO : List Str := ["saying", "row", "tables", "start", "_", "sight", "end"]
section
variable {P : Program} {w : World} {K : PySem.W.Frag} {mg : Str → Option Value} {base : Heap}
theorem scTablesOf : FnScope nTO ["saying", "row"] (defScope sTablesOf) := ⟨rfl, rfl, rfl, by decide +kernel, rfl, by decide +kernel, by decide +kernel⟩
theorem ok_tablesOf {f : Addr} {fd : FuncData} (F : Fun K "tables_of" "tables_of" sTablesOf f fd) (B : Blt mg) : FnOk P w K mg base CX0 1 f fd ["saying", "row"] spTablesOf := by
  refine F.ok scTablesOf (fun vs H Q E h => ?_) (fun cdv A outer s H vs Q E hr h => ?_)
  · obtain ⟨v, r, sy, an, rfl, _⟩ := h
    rfl
  · obtain ⟨v, r, sy, an, rfl, D, ok, ao, er, q⟩ := h
    refine ⟨_, pss_cons (ps_set (i := 2) scTablesOf.nd rfl (.inl rfl) (pe_lst pa_nil))
      (pss_cons (ps_set (i := 3) scTablesOf.nd rfl (.inl rfl) pe_int)
      (pss_cons (ps_for PassesOwn.never rfl (pi_tup (pe_ix ix_tup (pv 0) pe_int (fun _ _ => rfl))) (pg_tup rfl (pgs_cons (pg_name (i := 4) scTablesOf.nd rfl (.inl rfl)) (pgs_cons (pg_name (i := 5) scTablesOf.nd rfl (.inl rfl)) pgs_nil)))
        (pss_cons (ps_set (i := 6) scTablesOf.nd rfl (.inl rfl) (pe_op op_add (pv 3) (pe_op op_shl pe_int (pe_callB call_len_seq (by rfl) B.len (by decide +kernel) (pa_cons (pv 5) pa_nil)))))
        (pss_cons (ps_expr (pe_bm PySem.F.plainAttrs_list PySem.F.slot_list_append PySem.F.type_list_append mt_append (pv 2) (pa_cons (pe_tupleOf rfl B.tuple (pe_slice sl_list (pv 1) (po_some (pv 3)) (po_some (pv 6)))) pa_nil)))
        (pss_one (ps_set (i := 3) scTablesOf.nd rfl (.inl rfl) (pv 6))))))
      (pss_one (ps_ret (pe_tupleOf rfl B.tuple (pv 2)))))), ?_⟩
    obtain ⟨a, pk, ow, c, rfl, ea, Dk, ⟨b, us, rfl, eb, Db⟩, Dc⟩ := say_row D
    have lu : us.length = sy.owns.length := by rw [Db.len, List.length_map]
    have lo := ok.ol
    have oc := ok.oc
    have opl := ok.pl
    have lf := ans_len ao
    refine ⟨Nat.zero_le _, fun lT hT => ?_⟩
    have S1 := same_new (o := .lst []) hT
    refine ⟨_, rfl, a, _, 1, _, rfl, rfl, SqT.of (S1 _ _ ea), rfl, b, rfl, ⟨_, FT.sq (eb.same S1)⟩, ?_⟩
    refine for_tup (K := K) (a := b) (xs := us) (fun i σ H4 => ∃ (T : List TRow) (o4 o5 o6 : Option V), σ = [some (.ref a), some (.ref r), some (.ref lT), some (.int (copies (sy.owns.take i) : Nat)), o4, o5, o6] ∧ H4 lT = some (.lst (T.map TRow.v)) ∧
      T.map Prod.snd = (an.take i).map blsD ∧ (∀ q' ∈ T, Dat H4 q'.v q'.2) ∧ Same H H4) ⟨[], _, _, _, rfl, upd_same, rfl, fun q' hq' => absurd hq' (by simp), S1⟩
      (fun i σ H4 _ ⟨_, _, _, _, _, _, _, _, S⟩ => FT.sq (eb.same S)) ?_ ?_
    · rintro i x σ H4 hx ⟨T, o4, o5, o6, rfl, e4, d4, D4, S4⟩
      obtain ⟨d, hd, Dx⟩ := dats_get' Db i x hx
      obtain ⟨o, ho, rfl⟩ := get_map hd
      obtain ⟨to, rfl⟩ := tuple_ref (ds := [.str o.1, nmsD o.2]) Dx
      obtain ⟨t', h1, h2⟩ := own_row (q := (to, ownD o)) rfl Dx
      have il : i < sy.owns.length := (List.getElem?_eq_some_iff.mp ho).1
      obtain ⟨tb, htb⟩ : ∃ t, an[i]? = some t := ⟨_, List.getElem?_eq_getElem (by have := ao.len; omega)⟩
      have og := (ok.own (List.mem_of_getElem? ho)).le
      have ct := copies_take sy.owns (i + 1)
      have cs : copies (sy.owns.take (i + 1)) = copies (sy.owns.take i) + 2 ^ o.2.length := by rw [take_next ho, copies_snoc]
      have ec : (copies (sy.owns.take i) : Int) + 1 * 2 ^ ((o.2.map V.str).length : Int).toNat = ((copies (sy.owns.take (i + 1)) : Nat) : Int) := by
        rw [cs, List.length_map, Int.toNat_natCast, Int.one_mul]
        push_cast
        rfl
      have len4 : T.length ≤ 8 := by
        rw [← List.length_map (f := Prod.snd), d4, List.length_map, List.length_take]
        omega
      refine ⟨to, _, rfl, SqT.of (S4 _ _ h1), rfl, _, _, rfl, _, _, rfl, rfl, ?_⟩
      refine ⟨_, rfl, _, rfl, _, _, rfl, .inr (SqT.of (S4 _ _ h2)), _, _, rfl, rfl, ⟨by omega, by first | omega | (rw [List.length_map]; omega), by decide⟩, _, _, rfl, rfl, ?_⟩
      refine ⟨_, rfl, .inl ⟨rfl, _, SqL.of e4⟩, _, rfl, _, rfl, (copies (sy.owns.take i) : Nat), rfl, _, rfl, (copies (sy.owns.take (i + 1)) : Nat), by rw [← ec], r, _, rfl, SqL.of (S4 _ _ er), fun p hp => ?_⟩
      have Sp := same_new (o := .lst (cutV (an.flatten.map V.bl) (some ((copies (sy.owns.take i) : Nat) : Int)) (some ((copies (sy.owns.take (i + 1)) : Nat) : Int)))) hp
      refine .inl ⟨p, _, rfl, SqL.of upd_same, fun t ht => ?_⟩
      have le1 : copies (sy.owns.take i) ≤ copies (sy.owns.take (i + 1)) := by rw [cs]; exact Nat.le_add_right _ _
      have le2 : copies (sy.owns.take (i + 1)) ≤ an.flatten.length := by rw [lf]; exact ct
      rw [cut_any le1 le2, ans_cut ao ho htb] at Sp ht ⊢
      have St := same_new (o := .tup (tb.map V.bl)) ht
      have e6 := St _ _ (Sp _ _ e4)
      refine ⟨lT, _, _, rfl, rfl, e6, by rw [List.length_map]; exact small1000 (by omega), ?_⟩
      refine ⟨_, rfl, ?_⟩
      refine ⟨T ++ [(t, blsD tb)], some (.str o.1), some (.ref t'), some (.int ((copies (sy.owns.take i) : Int) + 1 * 2 ^ ((o.2.map V.str).length : Int).toNat)), ?_, by rw [upd_same, List.map_append]; rfl, ?_, fun q' hq' => ?_, same_upd (S4.trans (Sp.trans St)) hT⟩
      · rw [← ec]
        rfl
      · rw [List.map_append, d4, take_next htb, List.map_append]
        rfl
      · rcases List.mem_append.mp hq' with m | m
        · have kq : keyable q'.2 = true := by
            have m2 : q'.2 ∈ (an.take i).map blsD := d4 ▸ List.mem_map_of_mem m
            obtain ⟨z, _, hz⟩ := List.mem_map.mp m2
            rw [← hz]
            exact keyable_bls z
          exact dat_upd e6 kq ((D4 q' m).same (Sp.trans St))
        · cases List.mem_singleton.mp m
          exact dat_upd e6 (keyable_bls _) (.tup upd_same (dats_bls tb))
    · rintro σ H4 ⟨T, o4, o5, o6, rfl, e4, d4, D4, S4⟩
      rw [lu, ← ao.len, List.take_length] at d4
      refine ⟨_, rfl, .inl ⟨lT, _, rfl, SqL.of e4, fun t1 ht1 => ?_⟩⟩
      refine q _ _ (S4.trans (same_new ht1)) (.tup upd_same ?_)
      rw [← d4]
      exact dats_rows fun r hr => (D4 r hr).same (same_new ht1)
end
end S1

set_option Elab.async false
set_option linter.all false
set_option maxRecDepth 100000
set_option maxHeartbeats 4000000
/-! least_true -/
namespace S1
open PySem PySem.W PySem.Spec PyProof.Rows L2
theorem here_inj {s : Say} {a b c d : Nat} (ok : SayOk a b c d s) {bs : List Bool} (hl : bs.length = s.picks.length) {x y : Str} {n : Nat} (hx : hereAt s bs x = some n) (hy : hereAt s bs y = some n) : x = y := by
  unfold hereAt at hx hy
  obtain ⟨o, ho, e1⟩ := Option.map_eq_some_iff.mp hx
  obtain ⟨o', ho', e2⟩ := Option.map_eq_some_iff.mp hy
  have m1 := sees_cop ok hl (List.mem_of_find?_eq_some ho)
  have m2 := sees_cop ok hl (List.mem_of_find?_eq_some ho')
  have n1 : o.1 = x := by simpa using List.find?_some ho
  have n2 : o'.1 = y := by simpa using List.find?_some ho'
  have e : hereOf s bs o = hereOf s bs o' := e1.trans e2.symm
  unfold hereOf plc at e
  have g1 := List.getElem_idxOf (List.idxOf_lt_length_iff.mpr m1)
  have g2 := List.getElem_idxOf (List.idxOf_lt_length_iff.mpr m2)
  have g3 : (copD s.owns)[(copD s.owns).idxOf ((o.1, seesD s.picks o.2 bs) : Cpy)]? = some (o.1, seesD s.picks o.2 bs) := by rw [List.getElem?_eq_getElem (List.idxOf_lt_length_iff.mpr m1), g1]
  have g4 : (copD s.owns)[(copD s.owns).idxOf ((o'.1, seesD s.picks o'.2 bs) : Cpy)]? = some (o'.1, seesD s.picks o'.2 bs) := by rw [List.getElem?_eq_getElem (List.idxOf_lt_length_iff.mpr m2), g2]
  rw [e, g4] at g3
  have := congrArg Prod.fst (Option.some.inj g3)
  rw [← n1, ← n2]
  exact this.symm
theorem codes_cons (s : Say) (bs : List Bool) (l : Ltr) (cl : List Ltr) : codes s bs (l :: cl) = (match hereAt s bs l.1 with | some n => [2 * n + b2n l.2] | none => []) ++ codes s bs cl := by
  unfold codes
  rw [List.filterMap_cons]
  cases h : hereAt s bs l.1 <;> simp [h]
theorem mem_codes {s : Say} {bs : List Bool} {cl : List Ltr} {c : Nat} : c ∈ codes s bs cl ↔ ∃ l ∈ cl, ∃ n, hereAt s bs l.1 = some n ∧ c = 2 * n + b2n l.2 := by
  unfold codes
  rw [List.mem_filterMap]
  constructor
  · rintro ⟨l, hl, h⟩
    obtain ⟨n, hn, e⟩ := Option.map_eq_some_iff.mp h
    exact ⟨l, hl, n, hn, e.symm⟩
  · rintro ⟨l, hl, n, hn, e⟩
    exact ⟨l, hl, by rw [hn, e]; rfl⟩
theorem falses_nd {s : Say} {a b c d : Nat} (ok : SayOk a b c d s) {bs : List Bool} (hl : bs.length = s.picks.length) : ∀ cl : List Ltr, (cl.map Prod.fst).Nodup → (falsesL (codes s bs cl)).Nodup
  | [], _ => List.nodup_nil
  | l :: cl, nd => by
    have nd' := List.nodup_cons.mp (by simpa using nd : (l.1 :: cl.map Prod.fst).Nodup)
    have ih := falses_nd ok hl cl nd'.2
    rw [codes_cons]
    cases h : hereAt s bs l.1 with
    | none => exact ih
    | some n =>
      show (falsesL ((2 * n + b2n l.2) :: codes s bs cl)).Nodup
      unfold falsesL at ih ⊢
      cases hb : l.2 with
      | true =>
        rw [List.filter_cons_of_neg (by simp [b2n])]
        exact ih
      | false =>
        rw [List.filter_cons_of_pos (by simp [b2n]), List.map_cons]
        refine List.nodup_cons.mpr ⟨fun m => ?_, ih⟩
        have m2 : (2 * n + b2n false) / 2 ∈ falsesL (codes s bs cl) := m
        have e0 : (2 * n + b2n false) / 2 = n := by simp [b2n]
        rw [e0, mem_falsesL, mem_codes] at m2
        obtain ⟨l', hl', n', hn', e⟩ := m2
        have : n' = n := by
          have hb : b2n l'.2 ≤ 1 := by
            unfold b2n
            split <;> omega
          omega
        rw [this] at hn'
        exact nd'.1 (List.mem_map.mpr ⟨l', hl', here_inj ok hl hn' h⟩)
theorem trues_len (s : Say) (bs : List Bool) : ∀ cl : List Ltr, (truesL (codes s bs cl)).length = ((loc s cl).filter fun l => l.2).length
  | [] => rfl
  | l :: cl => by
    have ih := trues_len s bs cl
    rw [codes_cons]
    have lc : loc s (l :: cl) = (if l.1 ∈ s.owns.map Prod.fst then [l] else []) ++ loc s cl := by
      unfold loc
      rw [List.filter_cons]
      by_cases h : l.1 ∈ s.owns.map Prod.fst
      · rw [if_pos h, if_pos (decide_eq_true h)]
        rfl
      · rw [if_neg h, if_neg (by simpa using h)]
        rfl
    rw [lc]
    cases h : hereAt s bs l.1 with
    | none =>
      rw [if_neg (here_none.mp h)]
      exact ih
    | some n =>
      rw [if_pos (Classical.byContradiction fun z => by rw [here_none.mpr z] at h; cases h)]
      show (truesL ((2 * n + b2n l.2) :: codes s bs cl)).length = ((l :: loc s cl).filter fun l => l.2).length
      unfold truesL at ih ⊢
      cases hb : l.2 with
      | true =>
        rw [List.filter_cons_of_pos (by simp [b2n]), List.filter_cons_of_pos hb, List.map_cons, List.length_cons, List.length_cons, ih]
      | false =>
        rw [List.filter_cons_of_neg (by simp [b2n]), List.filter_cons_of_neg (by rw [hb]; decide), ih]
theorem easy_codes {s : Say} (ok : SayOk 6 8 120 40 s) {bs : List Bool} (hl : bs.length = s.picks.length) {cl : List Ltr} (ck : ClOk s.names cl) (pl : plainC s cl = true) : EasyL (codes s bs cl) ∧ (codes s bs cl).length ≤ 14 := by
  have oc := ok.oc
  refine ⟨⟨falses_nd ok hl cl (nodup_tlt (List.pairwise_map.mpr ck.1)), ?_, fun c hc => ?_⟩, Nat.le_trans (codes_len s bs cl) (Nat.le_trans (cl_len ck) ok.nlen)⟩
  · rw [trues_len]
    have := of_decide_eq_true pl
    omega
  · obtain ⟨l, _, n, hn, rfl⟩ := mem_codes.mp hc
    have := here_lt hn
    have : b2n l.2 ≤ 1 := by
      unfold b2n
      split <;> omega
    omega
theorem easy_told {s : Say} (ok : SayOk 6 8 120 40 s) (pl : (s.cls.map (plainC s)).all id = true) : ∀ ns ∈ toldS s s.cls, EasyL ns ∧ ns.length ≤ 14 := by
  intro ns h
  obtain ⟨cl, hcl, h2⟩ := List.mem_flatMap.mp h
  obtain ⟨bs, hbs, rfl⟩ := List.mem_map.mp h2
  have p : plainC s cl = true := List.all_eq_true.mp pl _ (List.mem_map_of_mem hcl)
  exact easy_codes ok (plays_bits _ _ (List.mem_filter.mp hbs).1) (ok.ck cl hcl) p
/-- a row, cut into tables -/
def tabs : List Own → List Bool → List Tbl
  | [], _ => []
  | o :: os, r => r.take (2 ^ o.2.length) :: tabs os (r.drop (2 ^ o.2.length))
theorem tabs_ok : ∀ (os : List Own) (r : List Bool), r.length = copies os → AnsOk os (tabs os r) ∧ (tabs os r).flatten = r
  | [], r, h => by
    have : r = [] := List.length_eq_zero_iff.mp h
    subst this
    exact ⟨⟨rfl, fun i o t h => by simp at h⟩, rfl⟩
  | o :: os, r, h => by
    have hc : r.length = 2 ^ o.2.length + copies os := h
    have ih := tabs_ok os (r.drop (2 ^ o.2.length)) (by rw [List.length_drop]; omega)
    refine ⟨⟨congrArg (· + 1) ih.1.len, fun i o' t h1 h2 => ?_⟩, ?_⟩
    · cases i with
      | zero =>
        cases h1
        cases h2
        rw [List.length_take]
        omega
      | succ i => exact ih.1.tbl i o' t h1 h2
    · show r.take (2 ^ o.2.length) ++ (tabs os (r.drop (2 ^ o.2.length))).flatten = r
      rw [ih.2, List.take_append_drop]
theorem Kys.list {E : List DRow} {S : List (List Nat)} {m : Nat} (h : Kys E S m) : ∃ S' : List (List Nat), (E.map Prod.fst).map Prod.snd = S'.map ltrsD ∧ ∀ x, x ∈ S' ↔ x ∈ S := by
  have key : ∀ E : List DRow, (∀ p ∈ E, ∃ ns ∈ S, p.1.2 = ltrsD ns) → ∃ S' : List (List Nat), (E.map Prod.fst).map Prod.snd = S'.map ltrsD := by
    intro E
    induction E with
    | nil => exact fun _ => ⟨[], rfl⟩
    | cons p E ih =>
      intro h
      obtain ⟨ns, _, e⟩ := h p List.mem_cons_self
      obtain ⟨S', e'⟩ := ih fun q hq => h q (List.mem_cons_of_mem _ hq)
      exact ⟨ns :: S', by rw [List.map_cons, List.map_cons, e', e, List.map_cons]⟩
  obtain ⟨S', e⟩ := key E h.to
  refine ⟨S', e, fun x => ⟨fun m => ?_, fun m => ?_⟩⟩
  · have : ltrsD x ∈ S'.map ltrsD := List.mem_map_of_mem m
    rw [← e, List.map_map] at this
    obtain ⟨p, hp, e2⟩ := List.mem_map.mp this
    obtain ⟨ns, hn, e3⟩ := h.to p hp
    rw [← ltrs_inj (e3.symm.trans e2)]
    exact hn
  · obtain ⟨p, hp, e2⟩ := h.fro x m
    have : p.1.2 ∈ S'.map ltrsD := by
      rw [← e, List.map_map]
      exact List.mem_map.mpr ⟨p, hp, rfl⟩
    obtain ⟨y, hy, e3⟩ := List.mem_map.mp this
    rw [← ltrs_inj (e3.trans e2)]
    exact hy
theorem meets_congr {r : Nat → Bool} {S S' : List (List Nat)} (e : ∀ x, x ∈ S ↔ x ∈ S') : Meets r S ↔ Meets r S' := ⟨fun h ns m => h ns ((e ns).mpr m), fun h ns m => h ns ((e ns).mp m)⟩
def rowOf (n t : Nat) : List Bool := (List.range n).map fun i => t.testBit i
def spLeastTrue : Sp := fun vs H Q _ => ∃ (v : V) (s : Say), vs = [v] ∧ DatS H v s ∧ SayOk 6 8 120 40 s ∧ (s.cls.map (plainC s)).all id = true ∧
  ∀ (u : V) (H' : Hp), Same H H' → (u = .non ∧ (∀ r, ¬ Meets r (toldS s s.cls)) ∨ ∃ t : Nat, Meets (fun i => t.testBit i) (toldS s s.cls) ∧ (∀ r, Meets r (toldS s s.cls) → ∀ i, t.testBit i = true → r i = true) ∧ Dat H' u (ansT (tabs s.owns (rowOf (copies s.owns) t)))) → Q u H'
section
variable {P : Program} {w : World} {K : PySem.W.Frag} {mg : Str → Option Value} {base : Heap}
theorem scLeastTrue : FnScope ["saying", "row"] ["saying"] (defScope sLeastTrue) := ⟨rfl, rfl, rfl, by decide +kernel, rfl, by decide +kernel, by decide +kernel⟩
theorem ok_leastTrue {f fF fR fS fC fT : Addr} {fd fdF fdR fdS fdC fdT : FuncData} (F : Fun K "least_true" "least_true" sLeastTrue f fd) (e : Env1 K mg) (Wn : Wnt K mg) (Ft : Has K mg "fits_plain" sFitsPlain ["saying"] fF fdF) (GF : FnOk P w K mg base CX0 2 fF fdF ["saying"] (spFits plainC))
    (Lr : Has K mg "least_row" sLeastRow ["told", "size"] fR fdR) (GR : FnOk P w K mg base CX0 1 fR fdR ["told", "size"] spLeastRow) (So : Has K mg "sources_of" sSourcesOf ["saying"] fS fdS) (GS : FnOk P w K mg base CX0 5 fS fdS ["saying"] (spSources w))
    (Co : Has K mg "all_copies" sAllCopies ["saying"] fC fdC) (GC : FnOk P w K mg base CX0 2 fC fdC ["saying"] spAllCopies) (To : Has K mg "tables_of" sTablesOf ["saying", "row"] fT fdT) (GT : FnOk P w K mg base CX0 1 fT fdT ["saying", "row"] spTablesOf) : FnOk P w K mg base CX0 8 f fd ["saying"] spLeastTrue := by
  obtain ⟨fW, fdW, Wa, GW⟩ := g_wantSaying (P := P) (w := w) (base := base) e Wn
  have B := e.B
  refine F.ok scLeastTrue (fun vs H Q E h => ?_) (fun cdv A outer s H vs Q E hr h => ?_)
  · obtain ⟨v, sy, rfl, _⟩ := h
    rfl
  · obtain ⟨v, sy, rfl, D, ok, pl, q⟩ := h
    have hr5 := hr.mono (show 5 ≤ 7 by decide)
    have hr2 := hr.mono (show 2 ≤ 7 by decide)
    have hr1 := hr.mono (show 1 ≤ 7 by decide)
    refine ⟨_, pss_cons (ps_expr (pe_call GW hr rfl Wa.g Wa.F.kp Wa.b .nil pass0 (pa_cons (pv 0) pa_nil)))
      (pss_cons (ps_if (pt_not (pt_val (pe_call GF hr2 rfl Ft.g Ft.F.kp Ft.b .nil pass0 (pa_cons (pv 0) pa_nil)))) pss_never pss_nil)
      (pss_cons (ps_set (i := 1) scLeastTrue.nd rfl (.inl rfl) (pe_call GR hr1 rfl Lr.g Lr.F.kp Lr.b .nil pass0 (pa_cons (pe_callTy (call_listDn rfl) (by rfl) B.list (by decide +kernel) (pa_cons (pe_call GS hr5 rfl So.g So.F.kp So.b .nil pass0 (pa_cons (pv 0) pa_nil)) pa_nil))
          (pa_cons (pe_callB call_len_seq (by rfl) B.len (by decide +kernel) (pa_cons (pe_call GC hr2 rfl Co.g Co.F.kp Co.b .nil pass0 (pa_cons (pv 0) pa_nil)) pa_nil)) pa_nil))))
      (pss_one (ps_ret (pe_ifExp (pt_cmpR op_isN (pv 1) pe_non (nomark _)) pe_non (pe_call GT hr1 rfl To.g To.F.kp To.b .nil pass0 (pa_cons (pv 0) (pa_cons (pv 1) pa_nil)))))))), ?_⟩
    refine ⟨_, rfl, v, sy, rfl, D, ok, fun H1 S1 => ?_⟩
    refine ⟨_, rfl, v, sy, rfl, D.same S1, ok, fun H2 S2 => ⟨true, by rw [pl], ?_⟩⟩
    show if (!true) = true then _ else _
    rw [if_neg (by decide)]
    have S12 := S1.trans S2
    refine ⟨_, rfl, v, sy, rfl, D.same S12, ok, fun D3 H3 E3 S3 nD3 dD3 kE3 K3 => ?_⟩
    have S13 := S12.trans S3
    refine ⟨D3, E3, rfl, dD3, kE3, fun l hl => ?_⟩
    have S4 := same_new (o := .lst ((E3.map Prod.fst).map TRow.v)) hl
    have el : upd H3 l (.lst ((E3.map Prod.fst).map TRow.v)) l = some (.lst ((E3.map Prod.fst).map TRow.v)) := upd_same
    have kE4 := kE3.same S4
    generalize upd H3 l (.lst ((E3.map Prod.fst).map TRow.v)) = H4 at S4 el kE4 ⊢
    have S14 := S13.trans S4
    refine ⟨_, rfl, v, sy, rfl, D.same S14, ok, fun lc H5 R5 => ?_⟩
    obtain ⟨T5, e5, d5, D5⟩ := R5.ex
    have l5 : T5.length = copies sy.owns := by rw [← List.length_map (f := Prod.snd), d5, List.length_map, cop_len]
    have oc := ok.oc
    obtain ⟨S', eS, iff⟩ := K3.list
    have lS : S'.length ≤ 2560 := by
      have := congrArg List.length eS
      rw [List.length_map, List.length_map, List.length_map] at this
      rw [← this]
      exact K3.len
    refine ⟨lc, _, rfl, .inl (SqL.of e5), ?_⟩
    refine ⟨l, S', copies sy.owns, by rw [List.length_map, l5]; rfl, ⟨E3.map Prod.fst, R5.S _ _ el, eS, fun q hq => ?_⟩, fun ns hn => easy_told ok pl ns ((iff ns).mp hn), by omega, by omega, fun H6 S6 => ⟨fun no => ?_, fun t b M least hb eb => ?_⟩⟩
    · obtain ⟨p, hp, rfl⟩ := List.mem_map.mp hq
      exact ((kE4 p hp).1).same R5.S
    · refine ⟨_, rfl, rfl, _, rfl, ?_⟩
      show if true = true then _ else _
      rw [if_pos rfl]
      exact q _ _ ((S14.trans R5.S).trans S6) (.inl ⟨rfl, fun r M => no r ((meets_congr iff).mpr M)⟩)
    · have S16 := (S14.trans R5.S).trans S6
      have lr : (rowOf (copies sy.owns) t).length = copies sy.owns := by
        unfold rowOf
        rw [List.length_map, List.length_range]
      obtain ⟨ao, fl⟩ := tabs_ok sy.owns (rowOf (copies sy.owns) t) lr
      refine ⟨_, rfl, rfl, _, rfl, ?_⟩
      show if false = true then _ else _
      rw [if_neg (by decide)]
      refine ⟨_, rfl, _, rfl, v, b, sy, _, rfl, D.same S16, ok, ao, by rw [fl]; exact eb, fun u H7 S7 Du => ?_⟩
      exact q _ _ (S16.trans S7) (.inr ⟨t, (meets_congr iff).mp M, fun r Mr => least r ((meets_congr iff).mpr Mr), Du⟩)
end
end S1

set_option Elab.async false
set_option linter.all false
set_option maxRecDepth 100000
set_option maxHeartbeats 4000000
/-! list(zip(a, b)) of two lists of one length -/
namespace S1
open PySem PySem.W PySem.Spec PyProof.Rows L2
theorem zip_no_len : typeLookup (.type "zip") "__len__" = pure none := am_miss_of_fast (by decide +kernel)
theorem zip_no_hint : typeLookup (.type "zip") "__length_hint__" = pure none := am_miss_of_fast (by decide +kernel)
/-- the pairs made so far -/
structure MadeZ (xs ys : Array Value) (lo : Addr) (h : Heap) (as : List Addr) : Prop where
  rise : as.Pairwise (· < ·)
  above : ∀ a ∈ as, lo < a
  pairs : ∀ (j : Nat) (a : Addr), as[j]? = some a → ∃ x y, xs[j]? = some x ∧ ys[j]? = some y ∧ IsTupOf2 h a x y
theorem MadeZ.there {xs ys : Array Value} {lo : Addr} {h : Heap} {as : List Addr} (g : MadeZ xs ys lo h as) {a : Addr} (ha : a ∈ as) : a < h.objs.size := by
  obtain ⟨j, hj⟩ := List.mem_iff_getElem?.mp ha
  obtain ⟨_, _, _, _, e⟩ := g.pairs j a hj
  exact Heap.lt_size e
section
variable {prog : Program} {w : World} {A : Around} {E : Value → Shared → Prop} {s : Shared} {z TI TO i1 i2 a b S : Addr} {xs ys : Array Value}
theorem zip_hint {Q : Bool → Shared → Prop} (hT : s.TypeIs (.ref z) "zip") (h : Q true s) : wpAny (model prog w) A (Builtin.List.listLengthHint (.ref z)) Q E s := by
  unfold Builtin.List.listLengthHint
  refine wpAny_bind (wpAny_specialOf hT zip_no_len ?_)
  refine wpAny_bind (wpAny_specialOf hT zip_no_hint ?_)
  exact wpAny_pure h
/-- the state of the zip ahead of its i-th pair -/
def ZSt (z TI TO i1 i2 a b S : Addr) (xs ys : Array Value) (i : Nat) (h : Heap) : Prop := IsTupOf2 h TI (.ref i1) (.ref i2) ∧ (h.IsListIter i1 a i ∧ h.IsList a xs) ∧ (h.IsListIter i2 b i ∧ h.IsList b ys) ∧
  ((IsZip h z TI TO .none ∧ ∃ p q, IsTupOf2 h TO p q) ∨ ∃ T f oT, IsZipHeld h z TI TO T f ∧ h.get? T = some oT ∧ T ≠ z ∧ T ≠ i1 ∧ T ≠ i2 ∧ T ≠ S)
/-- all of the zip's own lies below -/
structure ZLow (z TI TO i1 i2 a b S : Addr) : Prop where
  z : z < S
  TI : TI < S
  TO : TO < S
  i1 : i1 < S
  i2 : i2 < S
  a : a < S
  b : b < S
theorem ZSt.keep {i : Nat} {h h' : Heap} (L : ZLow z TI TO i1 i2 a b S) (st : ZSt z TI TO i1 i2 a b S xs ys i h) (hk : ∀ c o, c ≠ S → h.get? c = some o → h'.get? c = some o) : ZSt z TI TO i1 i2 a b S xs ys i h' := by
  obtain ⟨hTI, ⟨s1, s1'⟩, ⟨s2, s2'⟩, hz⟩ := st
  refine ⟨hk _ _ (Nat.ne_of_lt L.TI) hTI, ⟨s1.at fun o e => hk _ o (Nat.ne_of_lt L.i1) e, s1'.at fun o e => hk _ o (Nat.ne_of_lt L.a) e⟩, ⟨s2.at fun o e => hk _ o (Nat.ne_of_lt L.i2) e, s2'.at fun o e => hk _ o (Nat.ne_of_lt L.b) e⟩, ?_⟩
  rcases hz with ⟨hz, p, q, hTO⟩ | ⟨T, f, oT, hz, hT, r1, r2, r3, r4⟩
  · exact .inl ⟨hk _ _ (Nat.ne_of_lt L.z) hz, p, q, hk _ _ (Nat.ne_of_lt L.TO) hTO⟩
  · exact .inr ⟨T, f, oT, hk _ _ (Nat.ne_of_lt L.z) hz, hk _ _ r4 hT, r1, r2, r3, r4⟩
/-- one of the zip's own that turn -/
def Own5 (z TO i1 i2 c : Addr) : Prop := c = z ∨ c = TO ∨ c = i1 ∨ c = i2
theorem zst_item {i : Nat} {Q : Option Value → Shared → Prop} (hh : A.handled = none) (Z : ZipSep2 z TI TO i1 i2 [i1, a] [i2, b]) (na : a ≠ i1) (nb : b ≠ i2) (L : ZLow z TI TO i1 i2 a b S) (hS : S < s.heap.objs.size) (st : ZSt z TI TO i1 i2 a b S xs ys i s.heap) (l1 : i < xs.size) (l2 : i < ys.size)
    (hQ : ∀ x y h' tk, xs[i]? = some x → ys[i]? = some y → ZSt z TI TO i1 i2 a b S xs ys (i + 1) h' → IsTupOf2 h' s.heap.objs.size x y → (∀ c o, ¬ Own5 z TO i1 i2 c → s.heap.get? c = some o → h'.get? c = some o) → Q (some (.ref s.heap.objs.size)) { s with heap := h', toks := tk }) :
    wpAny (model prog w) A (pyNext (.ref z)) Q E s := by
  obtain ⟨hTI, s1, s2, hz⟩ := st
  have D1 := Draws.list (prog := prog) (w := w) (A := A.in1) hh i1 a na xs
  have D2 := Draws.list (prog := prog) (w := w) (A := A.in1) hh i2 b nb ys
  have lt : ∀ {c o}, s.heap.get? c = some o → s.heap.objs.size ≠ c := fun e => Nat.ne_of_gt (Heap.lt_size e)
  have k1 : s.heap.objs.size ≠ i1 := let ⟨_, e⟩ := D1.live _ _ s1; lt e
  have k2 : s.heap.objs.size ≠ i2 := let ⟨_, e⟩ := D2.live _ _ s2; lt e
  rcases hz with ⟨hz, p, q, hTO⟩ | ⟨T, f, oT, hz, hT, r1, r2, r3, r4⟩
  · refine wpAny_pyNext_zipD2_item Z D1 D2 hz hTI hTO s1 s2 l1 l2 fun x1 x2 h' tk y1 y2 a1 a2 a3 a4 a5 a6 hk => ?_
    exact hQ x1 x2 h' tk y1 y2 ⟨hk _ _ Z.TIz Z.TITO Z.TIi1 Z.TIi2 hTI, a3, a4, .inr ⟨s.heap.objs.size, false, _, a1, a5, lt hz, k1, k2, Nat.ne_of_gt hS⟩⟩ a5
      fun c o hc e => hk c o (fun x => hc (.inl x)) (fun x => hc (.inr (.inl x))) (fun x => hc (.inr (.inr (.inl x)))) (fun x => hc (.inr (.inr (.inr x)))) e
  · refine next_held_item Z D1 D2 hz hT hTI s1 s2 l1 l2 fun x1 x2 h' tk y1 y2 a1 a3 a4 a5 hk => ?_
    exact hQ x1 x2 h' tk y1 y2 ⟨hk _ _ Z.TIz Z.TIi1 Z.TIi2 hTI, a3, a4, .inr ⟨T, true, oT, a1, hk _ _ r1 r2 r3 hT, r1, r2, r3, r4⟩⟩ a5
      fun c o hc e => hk c o (fun x => hc (.inl x)) (fun x => hc (.inr (.inr (.inl x)))) (fun x => hc (.inr (.inr (.inr x)))) e
theorem zst_end {Q : Option Value → Shared → Prop} (hh : A.handled = none) (Z : ZipSep2 z TI TO i1 i2 [i1, a] [i2, b]) (na : a ≠ i1) (nb : b ≠ i2) (le : xs.size = ys.size) (st : ZSt z TI TO i1 i2 a b S xs ys xs.size s.heap)
    (hQ : ∀ h' tk, (∀ c o, ¬ Own5 z TO i1 i2 c → s.heap.get? c = some o → h'.get? c = some o) → Q none { s with heap := h', toks := tk }) : wpAny (model prog w) A (pyNext (.ref z)) Q E s := by
  obtain ⟨hTI, s1, s2, hz⟩ := st
  have D1 := Draws.list (prog := prog) (w := w) (A := A.in1) hh i1 a na xs
  have D2 := Draws.list (prog := prog) (w := w) (A := A.in1) hh i2 b nb ys
  rcases hz with ⟨hz, p, q, hTO⟩ | ⟨T, f, oT, hz, hT, r1, r2, r3, r4⟩
  · exact wpAny_pyNext_zipD2_end Z D1 D2 hz hTI hTO s1 s2 (Nat.le_refl _) (by omega) (.inl rfl) fun h' tk hk => hQ h' tk fun c o hc e =>
      hk c o (fun x => hc (.inl x)) (fun x => hc (.inr (.inl x))) (fun x => hc (.inr (.inr (.inl x)))) (fun x => hc (.inr (.inr (.inr x)))) e
  · exact next_held_end Z D1 D2 hz hT hTI s1 s2 (Nat.le_refl _) (by omega) (.inl rfl) fun h' tk hk => hQ h' tk fun c o hc e =>
      hk c o (fun x => hc (.inl x)) (fun x => hc (.inr (.inr (.inl x)))) (fun x => hc (.inr (.inr (.inr x)))) e
theorem own_low {c : Addr} (L : ZLow z TI TO i1 i2 a b S) (h : S ≤ c) : ¬ Own5 z TO i1 i2 c := fun q => by
  rcases q with e | e | e | e
  · exact absurd L.z (by rw [← e]; exact Nat.not_lt.mpr h)
  · exact absurd L.TO (by rw [← e]; exact Nat.not_lt.mpr h)
  · exact absurd L.i1 (by rw [← e]; exact Nat.not_lt.mpr h)
  · exact absurd L.i2 (by rw [← e]; exact Nat.not_lt.mpr h)
theorem zip_loop {R : Result → Shared → Prop} (hh : A.handled = none) (Z : ZipSep2 z TI TO i1 i2 [i1, a] [i2, b]) (na : a ≠ i1) (nb : b ≠ i2) (L : ZLow z TI TO i1 i2 a b S) (le : xs.size = ys.size) (hn : xs.size ≤ sizeLine) (res : Value) {h₁ : Heap}
    (hR : ∀ h' tk acc c as, (∀ b o, b ≠ S → ¬ Own5 z TO i1 i2 b → h₁.get? b = some o → h'.get? b = some o) → h'.get? S = some { cls := .type "list", dict := none, data := .seq acc c, slots := #[] } → as.length = xs.size → MadeZ xs ys S h' as →
      acc.toList = as.map Value.ref → R (.ok (.ret res)) { s with heap := h', toks := tk }) :
    ∀ (k i : Nat) (h : Heap) (tk c : Nat) (acc : Array Value) (as : List Addr), xs.size - i = k → i ≤ xs.size → ZSt z TI TO i1 i2 a b S xs ys i h → (∀ b o, b ≠ S → ¬ Own5 z TO i1 i2 b → h₁.get? b = some o → h.get? b = some o) →
      h.get? S = some { cls := .type "list", dict := none, data := .seq acc c, slots := #[] } → acc.toList = as.map Value.ref → as.length = i → MadeZ xs ys S h as →
      codeAny (model prog w) A (.builtin "list.extend.loop" ⟨[.ref S, .ref z, res], []⟩) R { s with heap := h, toks := tk } := by
  have nS : ¬ Own5 z TO i1 i2 S := own_low L (Nat.le_refl _)
  intro k
  induction k with
  | zero =>
    intro i h tk c acc as hk hi hst hkeep hS hacc hal hG
    have ei : i = xs.size := by omega
    subst ei
    refine codeAny_builtin PySem.F.entry_extend_loop ?_
    rw [Around.under_plainId PySem.F.plain_extend_loop _]
    show wpAny _ A.in1 (pyNext (.ref z) >>= _) _ _ _
    refine wpAny_bind (zst_end (s := { s with heap := h, toks := tk }) (A := A.in1) hh Z na nb le hst fun h' tk' he => ?_)
    dsimp only at he
    refine wpAny_pure (hR h' tk' acc c as (fun b o h1 h2 e => he b o h2 (hkeep b o h1 h2 e)) (he S _ nS hS) hal ⟨hG.rise, hG.above, fun j q hj => ?_⟩ hacc)
    obtain ⟨x, y, e1, e2, e3⟩ := hG.pairs j q hj
    exact ⟨x, y, e1, e2, he q _ (own_low L (Nat.le_of_lt (hG.above q (List.mem_of_getElem? hj)))) e3⟩
  | succ k ih =>
    intro i h tk c acc as hk hi hst hkeep hS hacc hal hG
    have hlt : i < xs.size := by omega
    have hsz : acc.size = i := by rw [← Array.length_toList, hacc, List.length_map, hal]
    refine codeAny_builtin PySem.F.entry_extend_loop ?_
    rw [Around.under_plainId PySem.F.plain_extend_loop _]
    show wpAny _ A.in1 (pyNext (.ref z) >>= _) _ _ _
    refine wpAny_bind (zst_item (s := { s with heap := h, toks := tk }) (S := S) (A := A.in1) hh Z na nb L (Heap.lt_size hS) hst hlt (by omega) fun x y h' tk' hx hy hst' ht hkp => ?_)
    dsimp only at ht hkp ⊢
    have hS' := hkp S _ nS hS
    have up : ∀ b o, b ≠ S → h'.get? b = some o → (h'.update S (Obj.mapSeq (·.push (Value.ref h.objs.size)))).get? b = some o := fun b o hb e => (Heap.get?_update_other _ _ (Ne.symm hb)).trans e
    have hSl : S < h.objs.size := Heap.lt_size hS
    show wpAny _ A.in1 (updateSeq S (·.push (Value.ref h.objs.size)) >>= _) _ _ _
    refine wpAny_bind ?_
    refine wpAny_updateSeq hS' rfl (wpAny_pure ⟨plainId_quiet PySem.F.plain_extend_loop _, ih (i + 1) _ tk' _ (acc.push (Value.ref h.objs.size)) (as ++ [h.objs.size]) (by omega) hlt (hst'.keep L up)
      (fun b o h1 h2 e => up b o h1 (hkp b o h2 (hkeep b o h1 h2 e))) (Heap.get?_update_self _ hS' rfl) (by rw [Array.toList_push, hacc, List.map_append]; rfl) (by rw [List.length_append, hal]; rfl) ⟨?_, ?_, ?_⟩⟩) (by rw [hsz]; omega) (by show (acc.push (Value.ref h.objs.size)).size ≤ sizeLine + 1; rw [Array.size_push, hsz]; omega)
    · refine List.pairwise_append.mpr ⟨hG.rise, List.pairwise_singleton _ _, fun a ha b hb => ?_⟩
      rw [List.mem_singleton.mp hb]
      exact hG.there ha
    · intro a ha
      rcases List.mem_append.mp ha with ha | ha
      · exact hG.above a ha
      · rw [List.mem_singleton.mp ha]; exact hSl
    · intro j q hj
      rcases Nat.lt_trichotomy j as.length with h1 | h1 | h1
      · rw [List.getElem?_append_left h1] at hj
        obtain ⟨x', y', e1, e2, e3⟩ := hG.pairs j q hj
        have hb := hG.above q (List.mem_of_getElem? hj)
        exact ⟨x', y', e1, e2, up q _ (Nat.ne_of_gt hb) (hkp q _ (own_low L (Nat.le_of_lt hb)) e3)⟩
      · subst h1
        have hb : h.objs.size = q := by simpa using hj
        subst hb
        subst hal
        exact ⟨x, y, hx, hy, up _ _ (Nat.ne_of_gt hSl) ht⟩
      · have hnone : (as ++ [h.objs.size])[j]? = none := List.getElem?_eq_none (by rw [List.length_append, List.length_singleton]; omega)
        rw [hnone] at hj; cases hj
theorem zip_extend {R : Result → Shared → Prop} (hh : A.handled = none) (Z : ZipSep2 z TI TO i1 i2 [i1, a] [i2, b]) (na : a ≠ i1) (nb : b ≠ i2) (L : ZLow z TI TO i1 i2 a b S) (le : xs.size = ys.size) (hn : xs.size ≤ sizeLine) (res : Value) (c₀ : Nat)
    (hz : IsZip s.heap z TI TO .none) (st : ZSt z TI TO i1 i2 a b S xs ys 0 s.heap) (hS : s.heap.get? S = some { cls := .type "list", data := .seq #[] c₀ })
    (hR : ∀ h' tk acc c as, (∀ b o, b ≠ S → ¬ Own5 z TO i1 i2 b → s.heap.get? b = some o → h'.get? b = some o) → h'.get? S = some { cls := .type "list", dict := none, data := .seq acc c, slots := #[] } → as.length = xs.size → MadeZ xs ys S h' as →
      acc.toList = as.map Value.ref → R (.ok (.ret res)) { s with heap := h', toks := tk }) :
    wpAny (model prog w) A.in1 (Builtin.List.listExtendWith (.ref S) (.ref z) res)
      (fun fin s' => match fin with | .done f => R (.ok f) s' | .again c' => c'.quiet = true ∧ codeAny (model prog w) A c' R s') (fun e s' => R (.error e) s') s := by
  have hSz : S ≠ z := Nat.ne_of_gt L.z
  have ty : s.TypeIs (.ref z) "zip" := ⟨_, hz, rfl⟩
  have key : ∀ (h : Heap) (c₁ tk : Nat), (∀ b o, b ≠ S → s.heap.get? b = some o → h.get? b = some o) →
      h.get? S = some { cls := .type "list", data := .seq #[] c₁ } → codeAny (model prog w) A (.builtin "list.extend.loop" ⟨[.ref S, .ref z, res], []⟩) R { s with heap := h, toks := tk } := by
    intro h c₁ tk hk hS₁
    exact zip_loop (s := s) (h₁ := s.heap) hh Z na nb L le hn res hR xs.size 0 h tk c₁ #[] [] (Nat.sub_zero _) (Nat.zero_le _) (st.keep L fun c o n e => hk c o n e) (fun b o hb _ e => hk b o hb e) hS₁ rfl rfl
      ⟨List.Pairwise.nil, (fun _ ha => nomatch ha), (fun j a hj => by simp at hj)⟩
  unfold Builtin.List.listExtendWith
  refine wpAny_bind (wpAny_typeOf (T := "zip") ty ?_)
  have h1 : Builtin.List.listSameRef (.ref S) (.ref z) = false := by simp [Builtin.List.listSameRef, hSz]
  have h2 : (Value.type "zip" == Value.type "list") = false := by decide
  have h3 : (Value.type "zip" == Value.type "tuple") = false := by decide
  simp only [h1, h2, h3, Bool.or_false, Bool.false_eq_true, if_false]
  refine wpAny_bind (wpAny_pyIter_zip hz ?_)
  refine wpAny_bind (wpAny_holding (zip_hint ty ?_))
  refine wpAny_ite_split (fun _ => ?_) (fun _ => wpAny_pure ⟨plainId_quiet PySem.F.plain_extend_loop _, key _ c₀ _ (fun b o _ e => e) hS⟩)
  refine wpAny_bind (wpAny_rule ?_)
  refine wpAny_bind ?_
  show wpAny _ _ (updateSeq S (·.push .none) >>= fun _ => updateSeq S (·.pop)) _ _ _
  refine wpAny_bind (wpAny_updateSeq hS rfl ?_)
  have hS₂ := Heap.get?_update_self (Obj.mapSeq (·.push Value.none)) hS rfl
  refine wpAny_updateSeq (hz := by seq_fits) hS₂ rfl ?_
  have hS₃ := Heap.get?_update_self (Obj.mapSeq (·.pop)) hS₂ rfl
  refine wpAny_pure ⟨plainId_quiet PySem.F.plain_extend_loop _, key _ _ _ (fun b o hb e => ?_) hS₃⟩
  exact (Heap.get?_update_other _ _ (Ne.symm hb)).trans ((Heap.get?_update_other _ _ (Ne.symm hb)).trans e)
theorem zip_init {R : Result → Shared → Prop} (hh : A.handled = none) (Z : ZipSep2 z TI TO i1 i2 [i1, a] [i2, b]) (na : a ≠ i1) (nb : b ≠ i2) (L : ZLow z TI TO i1 i2 a b S) (le : xs.size = ys.size) (hn : xs.size ≤ sizeLine)
    (hz : IsZip s.heap z TI TO .none) (st : ZSt z TI TO i1 i2 a b S xs ys 0 s.heap) (hS : s.heap.get? S = some { cls := .type "list", data := .seq #[] })
    (hR : ∀ h' tk acc c as, (∀ b o, b ≠ S → ¬ Own5 z TO i1 i2 b → s.heap.get? b = some o → h'.get? b = some o) → h'.get? S = some { cls := .type "list", dict := none, data := .seq acc c, slots := #[] } → as.length = xs.size → MadeZ xs ys S h' as →
      acc.toList = as.map Value.ref → R (.ok (.ret .none)) { s with heap := h', toks := tk }) :
    wpAny (model prog w) A.in1 (Builtin.«list.__init__» ⟨[.ref S, .ref z], []⟩)
      (fun fin s' => match fin with | .done f => R (.ok f) s' | .again c' => c'.quiet = true ∧ codeAny (model prog w) A c' R s') (fun e s' => R (.error e) s') s := by
  show wpAny _ _ (do let old ← Builtin.List.listItems (.ref S); Builtin.List.listUpdate (.ref S) (fun _ => #[]); letGo old.toList.reverse; Builtin.List.listExtendWith (.ref S) (.ref z) .none) _ _ s
  refine wpAny_bind ?_
  unfold Builtin.List.listItems
  refine wpAny_bind (wpAny_seqItems hS rfl (wpAny_pure ?_))
  show wpAny _ _ (updateSeq S (fun _ => #[]) >>= fun _ => letGo (#[] : Array Value).toList.reverse >>= fun _ => Builtin.List.listExtendWith (.ref S) (.ref z) .none) _ _ s
  refine wpAny_bind (wpAny_updateSeq hS rfl ?_)
  have hS₂ := Heap.get?_update_self (Obj.mapSeq (fun _ => (#[] : Array Value))) hS rfl
  have oth : ∀ b o, b ≠ S → s.heap.get? b = some o → (s.heap.update S (Obj.mapSeq (fun _ => (#[] : Array Value)))).get? b = some o :=
    fun b o hb e => (Heap.get?_update_other _ _ (Ne.symm hb)).trans e
  refine wpAny_bind (wpAny_letGo ?_)
  refine zip_extend hh Z na nb L le hn .none _ (oth _ _ (Nat.ne_of_lt L.z) hz) (st.keep L oth) hS₂ (fun h' tk acc c as hk hS' hl hG hacc => ?_)
  exact hR h' tk acc c as (fun b o hb hb2 e => hk b o hb hb2 (oth b o hb e)) hS' hl hG hacc
end
end S1

set_option Elab.async false
set_option linter.all false
set_option maxRecDepth 100000
set_option maxHeartbeats 4000000
/-! the rule for list(zip(a, b)) -/
namespace S1
open PySem PySem.W PySem.Spec PyProof.Rows L2
/-- pairs tracked at their addresses -/
def putP : Hp → List Addr → List (V × V) → Hp
  | H, a :: as, p :: ps => putP (upd H a (.tup [p.1, p.2])) as ps
  | H, _, _ => H
theorem putP_off {b : Addr} : ∀ (as : List Addr) (ps : List (V × V)) (H : Hp), b ∉ as → putP H as ps b = H b
  | [], _, _, _ => rfl
  | _ :: _, [], _, _ => rfl
  | a :: as, p :: ps, H, h => by
    show putP (upd H a (.tup [p.1, p.2])) as ps b = H b
    rw [putP_off as ps _ (fun z => h (List.mem_cons_of_mem _ z)), upd_ne (fun z => h (by rw [z]; exact List.mem_cons_self))]
theorem putP_at : ∀ (as : List Addr) (ps : List (V × V)) (H : Hp), as.length = ps.length → as.Nodup → ∀ (i : Nat) (t : Addr) (p : V × V), as[i]? = some t → ps[i]? = some p → putP H as ps t = some (.tup [p.1, p.2])
  | [], _, _, _, _, i, t, p, h, _ => by simp at h
  | _ :: _, [], _, h, _, _, _, _, _, _ => by cases h
  | a :: as, q :: ps, H, h, hn, i, t, p, h1, h2 => by
    have hn' := List.nodup_cons.mp hn
    cases i with
    | zero =>
      cases h1
      cases h2
      show putP (upd H a (.tup [q.1, q.2])) as ps a = _
      rw [putP_off as ps _ hn'.1, upd_same]
    | succ i => exact putP_at as ps (upd H a (.tup [q.1, q.2])) (Nat.succ.inj h) hn'.2 i t p h1 h2
def rLz (K : PySem.W.Frag) : List V → Hp → VK → Prop := fun vs H1 Q => ∃ (a b : Addr) (xs ys : List V), vs = [.ref a, .ref b] ∧ SqL K H1 a xs ∧ SqL K H1 b ys ∧ xs.length = ys.length ∧
  ∀ (H' : Hp) (p : Addr) (ts : List Addr), Same H1 H' → H1 p = none → (∀ t ∈ ts, H1 t = none) → p ∉ ts → ts.Nodup → H' p = some (.lst (ts.map V.ref)) → ts.length = xs.length → (∀ (i : Nat) (t : Addr) (x y : V), ts[i]? = some t → xs[i]? = some x → ys[i]? = some y → H' t = some (.tup [x, y])) → Q (.ref p) H'
def tListZip (K : PySem.W.Frag) (ta : TA) : TE := fun σ H Q => ta σ H fun vs H1 => rLz K vs H1 Q
section
variable {X : Cx}
theorem pairs_laid {pins : List (Addr × Obj)} {σ : L2.St} {H : Hp} {s : Shared} {h' : Heap} {tk : Nat} {xs ys : List V} {us vs : List Value} {acc : Array Value} {c : Nat} {as : List Addr} {S : Addr} (I : Inv X pins σ H s) (hz : xs.length ≤ sizeLine) (hl2 : xs.length = ys.length) (rx : Vals xs us) (ry : Vals ys vs)
    (hSz : s.heap.objs.size ≤ S) (hk : ∀ b o, s.heap.get? b = some o → h'.get? b = some o) (hS : h'.get? S = some { cls := .type "list", dict := none, data := .seq acc c, slots := #[] }) (hl : as.length = xs.length) (hG : MadeZ us.toArray vs.toArray S h' as) (hacc : acc.toList = as.map Value.ref) :
    ∃ H' : Hp, Same H H' ∧ H S = none ∧ (∀ t ∈ as, H t = none) ∧ S ∉ as ∧ as.Nodup ∧ H' S = some (.lst (as.map V.ref)) ∧ (∀ (i : Nat) (t : Addr) (x y : V), as[i]? = some t → xs[i]? = some x → ys[i]? = some y → H' t = some (.tup [x, y])) ∧ Inv X pins σ H' { s with heap := h', toks := tk } := by
  have hSn : S ∉ as := fun z => Nat.lt_irrefl _ (hG.above _ z)
  have nd : as.Nodup := List.Pairwise.imp (fun {a b} (h : a < b) => Nat.ne_of_lt h) hG.rise
  have new : ∀ t ∈ as, H t = none := fun t ht => I.hok.fresh (Nat.le_trans hSz (Nat.le_of_lt (hG.above t ht)))
  have newS : H S = none := I.hok.fresh hSz
  have lz : (xs.zip ys).length = as.length := by rw [List.length_zip, ← hl2, Nat.min_self, hl]
  have atP := putP_at as (xs.zip ys) (upd H S (.lst (as.map V.ref))) lz.symm nd
  have off : ∀ b, b ∉ as → b ≠ S → putP (upd H S (.lst (as.map V.ref))) as (xs.zip ys) b = H b := fun b h1 h2 => by rw [putP_off as _ _ h1, upd_ne h2]
  have low : ∀ b o, s.heap.get? b = some o → b ∉ as ∧ b ≠ S := fun b o e => ⟨fun z => absurd (Heap.lt_size e) (Nat.not_lt.mpr (Nat.le_trans hSz (Nat.le_of_lt (hG.above b z)))), Nat.ne_of_lt (Nat.lt_of_lt_of_le (Heap.lt_size e) hSz)⟩
  have kp : ∀ b u, H b = some u → (putP (upd H S (.lst (as.map V.ref))) as (xs.zip ys)) b = some u := fun b u e => by
    rw [off b (fun z => by rw [new b z] at e; cases e) (fun z => by rw [z, newS] at e; cases e)]
    exact e
  have eS : putP (upd H S (.lst (as.map V.ref))) as (xs.zip ys) S = some (.lst (as.map V.ref)) := by rw [putP_off as _ _ hSn, upd_same]
  have at2 : ∀ (i : Nat) (t : Addr) (x y : V), as[i]? = some t → xs[i]? = some x → ys[i]? = some y → putP (upd H S (.lst (as.map V.ref))) as (xs.zip ys) t = some (.tup [x, y]) := fun i t x y e1 e2 e3 => by
    refine atP i t (x, y) e1 ?_
    rw [List.getElem?_zip_eq_some]
    exact ⟨e2, e3⟩
  refine ⟨putP (upd H S (.lst (as.map V.ref))) as (xs.zip ys), kp, newS, new, hSn, nd, eS, at2, ?_⟩
  refine I.call' (ch := []) rfl ⟨fun b o q _ _ _ => hk b o q, fun b o q _ _ _ => ⟨o.slots, hk b o q⟩, fun b o q n _ => ?_, fun b o q _ => ⟨o, hk b o q⟩, fun b xs q => kp b _ q, fun b o u q => kp b _ q, fun b ps q => ⟨#[], by rw [kp b _ q]; simp⟩⟩ (fun b u q => ?_) I.bare fun b z => by simp at z
  · obtain ⟨z1, z2⟩ := low b o q
    rw [off b z1 z2]
    exact n
  · by_cases hb : b ∈ as
    · obtain ⟨j, hj⟩ := List.mem_iff_getElem?.mp hb
      have jl : j < as.length := (List.getElem?_eq_some_iff.mp hj).1
      have e2 : xs[j]? = some xs[j] := List.getElem?_eq_getElem (by omega)
      have e3 : ys[j]? = some (ys[j]'(by omega)) := List.getElem?_eq_getElem (by omega)
      rw [at2 j b _ _ hj e2 e3] at q
      cases q
      obtain ⟨x, y, f1, f2, f3⟩ := hG.pairs j b hj
      obtain ⟨u1, g1, r1⟩ := rx.get e2
      obtain ⟨u2, g2, r2⟩ := ry.get e3
      rw [List.getElem?_toArray] at f1 f2
      rw [g1] at f1
      rw [g2] at f2
      cases f1
      cases f2
      exact ⟨by show 2 ≤ sizeLine; decide, [x, y], .cons r1 (.cons r2 .nil), ⟨_, f3, rfl, _, rfl⟩⟩
    · by_cases hb2 : b = S
      · rw [hb2] at q ⊢
        rw [eS] at q
        cases q
        refine ⟨by rw [List.length_map]; omega, acc.toList, c, by rw [hacc]; exact LiI.vals_refs as, ?_⟩
        rw [Array.toArray_toList]
        exact hS
      · rw [off b hb hb2] at q
        exact (I.hok b u q).stay (fun d v _ y => hk d v y) (fun d y => kp d _ y) fun d xs y => kp d _ y
/-- list(zip(e, e2)) -/
theorem pe_listZip {e e2 : Expr} {ta : TA} {p p2 pos pos2 : Pos} (hcalm : X.calm = true) (hg : Gl X "list") (hm : X.mg "list" = none) (hv : bootBuiltins "list" = some (.type "list")) (hg2 : Gl X "zip") (hm2 : X.mg "zip" = none) (ha : PA X [e, e2] ta)
    (hs : starEach [e, e2] X.env = (false, eval e X.env) :: starEach [e2] X.env := by rfl) (hpl : (backTo pos2 (starEach [e2] X.env)).any (·.1) = false := by rfl) :
    PE X (.Call (.Name "list" p) [.Call (.Name "zip" p2) [e, e2] [] pos2] [] pos) (tListZip X.K ta) := by
  refine ⟨fun pins s σ H Q I h => ?_⟩
  refine Call_ (ld_blt I hg hm hv (PyProof.Rows.callWith_type1 ?_ rfl rfl))
  show wpAny _ _ (spliced ((false, eval (.Call (.Name "zip" p2) [e, e2] [] pos2) X.env) :: backTo pos (starEach [] X.env))) _ _ s
  refine Calls.spliced_cons ?_
  refine Call_ (ld_blt I hg2 hm2 PyProof.Rows.boot_zip (PyProof.Rows.callWith_type1 (thn (ha.run pos2 pins s σ H _ I h) fun us s1 ⟨vs, H1, I1, r1, q1⟩ => ?_) hs hpl))
  obtain ⟨a, b, xs, ys, ex, ta, tb, hl, q⟩ := q1
  subst ex
  obtain ⟨ua, ub, eu, ra, rb⟩ := vals2 r1
  subst eu
  cases ra
  cases rb
  obtain ⟨its, rv, pa, za⟩ := I1.list ta
  obtain ⟨its2, rv2, pb, zb⟩ := I1.list tb
  have pa := pa.isList
  have pb := pb.isList
  obtain ⟨o1, ho1, _⟩ := id pa
  obtain ⟨o2, ho2, _⟩ := id pb
  have la : a < s1.heap.objs.size := Heap.lt_size ho1
  have lb : b < s1.heap.objs.size := Heap.lt_size ho2
  refine call_zip_2 pa pb fun h' hz hTI hTO h1 h2 hsz hk => Calls.spliced_nil ?_
  have Z : ZipSep2 (s1.heap.objs.size + 4) (s1.heap.objs.size + 2) (s1.heap.objs.size + 3) s1.heap.objs.size (s1.heap.objs.size + 1) [s1.heap.objs.size, a] [s1.heap.objs.size + 1, b] := sep5 _ _ _ la lb
  have hl1 : xs.length = its.length := rv.length
  have hl2 : ys.length = its2.length := rv2.length
  have big : s1.heap.objs.size ≤ h'.objs.size := by rw [hsz]; exact Nat.le_add_right _ _
  have st0 : ZSt (s1.heap.objs.size + 4) (s1.heap.objs.size + 2) (s1.heap.objs.size + 3) s1.heap.objs.size (s1.heap.objs.size + 1) a b h'.objs.size its.toArray its2.toArray 0 h' :=
    ⟨hTI, ⟨h1, pa.at fun o e => hk _ o e⟩, ⟨h2, pb.at fun o e => hk _ o e⟩, .inl ⟨hz, _, _, hTO⟩⟩
  have L : ZLow (s1.heap.objs.size + 4) (s1.heap.objs.size + 2) (s1.heap.objs.size + 3) s1.heap.objs.size (s1.heap.objs.size + 1) a b h'.objs.size := by
    constructor <;> (rw [hsz]; first | exact Nat.lt_add_of_pos_right (by decide) | exact Nat.add_lt_add_left (by decide) _ | exact Nat.lt_of_lt_of_le la (Nat.le_add_right _ _) | exact Nat.lt_of_lt_of_le lb (Nat.le_add_right _ _))
  refine callType_codes (Q₁ := fun obj s₁ => obj = .ref h'.objs.size ∧ s₁ = { s1 with heap := h'.push { cls := .type "list", data := .seq #[] } }) PySem.F.called_list (PySem.F.typeCall_list_1 _) PySem.F.entry_list_init
    (code_list_new _ ⟨rfl, rfl⟩) fun obj s₁ h₁ => ?_
  obtain ⟨rfl, rfl⟩ := h₁
  have hS : (h'.push { cls := .type "list", data := .seq #[] }).get? h'.objs.size = some { cls := .type "list", data := .seq #[] } := Heap.get?_push_size _ rfl
  have up : ∀ c o, c ≠ h'.objs.size → h'.get? c = some o → (h'.push { cls := .type "list", data := .seq #[] }).get? c = some o := fun c o _ e => Heap.get?_push_of_some _ e
  refine ⟨⟨_, hS, rfl⟩, PySem.F.args_list_init_2 _ _, zip_init (s := { s1 with heap := h'.push { cls := .type "list", data := .seq #[] } }) (A := X.A.in1) (I1.ok.hd hcalm) Z (Nat.ne_of_lt la) (Nat.ne_of_lt (Nat.lt_succ_of_lt lb)) L (by simp; omega) (by simp; omega)
    (Heap.get?_push_of_some _ hz) (st0.keep L up) hS (fun h'' tk acc c as hk2 hS' hl3 hG hacc => ?_)⟩
  have keep : ∀ c o, s1.heap.get? c = some o → h''.get? c = some o := fun c o e => by
    have lc : c < s1.heap.objs.size := Heap.lt_size e
    refine hk2 c o (Nat.ne_of_lt (Nat.lt_of_lt_of_le lc big)) (fun z => ?_) (Heap.get?_push_of_some _ (hk c o e))
    exact far5 s1.heap.objs.size c lc z
  obtain ⟨H', k1, k2, k3, k4, k5, k6, k7, J⟩ := pairs_laid (tk := tk) I1 (by omega) hl rv rv2 big keep hS' (by rw [hl3]; simp; omega) hG hacc
  exact ⟨rfl, .ref _, H', J, rfl, q H' _ as k1 k2 k3 k4 k5 k6 (by rw [hl3]; simp; omega) k7⟩
end
end S1

set_option Elab.async false
set_option linter.all false
set_option maxRecDepth 100000
set_option maxHeartbeats 4000000
/-! all plays, as the law lists them -/
namespace S1
open PySem PySem.W PySem.Spec PyProof.Rows L2
/-- a list of pairs, of which a dict is made -/
def Prs (H : Hp) (D : Addr) (kvs : List (Key × V)) : Prop := ∃ ps : List Addr, H D = some (.lst (ps.map V.ref)) ∧ ps.length = kvs.length ∧ ∀ (i : Nat) (q : Addr) (kv : Key × V), ps[i]? = some q → kvs[i]? = some kv → H q = some (.tup [kV kv.1, kv.2])
theorem Prs.nil {H : Hp} {D : Addr} (e : H D = some (.lst [])) : Prs H D [] := ⟨[], e, rfl, fun i q kv h => by simp at h⟩
theorem Prs.same {H H' : Hp} {D : Addr} {kvs : List (Key × V)} (h : Prs H D kvs) (S : Same H H') : Prs H' D kvs := let ⟨ps, a, b, c⟩ := h; ⟨ps, S _ _ a, b, fun i q kv h1 h2 => S _ _ (c i q kv h1 h2)⟩
theorem Prs.len {H : Hp} {D : Addr} {kvs : List (Key × V)} (h : Prs H D kvs) : ∃ xs, H D = some (.lst xs) ∧ xs.length = kvs.length := let ⟨ps, a, b, _⟩ := h; ⟨_, a, by rw [List.length_map, b]⟩
theorem Prs.push {H : Hp} {D q : Addr} {kvs : List (Key × V)} {xs : List V} {k : Key} {v : V} (h : Prs H D kvs) (e : H D = some (.lst xs)) (et : H q = some (.tup [kV k, v])) : Prs (upd H D (.lst (xs ++ [.ref q]))) D (kvs ++ [(k, v)]) := by
  obtain ⟨ps, a, b, c⟩ := h
  rw [e] at a
  cases a
  have off : ∀ {q' : Addr} {ys : List V}, H q' = some (.tup ys) → upd H D (.lst (ps.map V.ref ++ [.ref q])) q' = some (.tup ys) := fun {q' ys} z => by
    rw [upd_ne (fun y => by rw [y, e] at z; cases z)]
    exact z
  refine ⟨ps ++ [q], by rw [upd_same, List.map_append]; rfl, by rw [List.length_append, List.length_append, b]; rfl, fun i q' kv h1 h2 => ?_⟩
  by_cases hi : i < ps.length
  · rw [List.getElem?_append_left hi] at h1
    rw [List.getElem?_append_left (by omega)] at h2
    exact off (c i q' kv h1 h2)
  · have hi2 : i = ps.length := by
      have := (List.getElem?_eq_some_iff.mp h1).1
      rw [List.length_append] at this
      simp at this
      omega
    rw [hi2, List.getElem?_append_right (Nat.le_refl _), Nat.sub_self] at h1
    rw [hi2, b, List.getElem?_append_right (Nat.le_refl _), Nat.sub_self] at h2
    cases (show some q = some q' from h1)
    cases (show some (k, v) = some kv from h2)
    exact off et
theorem paired_of {α β : Type} {F : α → β → Prop} : ∀ (ps : List α) (ks : List β), ps.length = ks.length → (∀ (i : Nat) (p : α) (k : β), ps[i]? = some p → ks[i]? = some k → F p k) → Paired F ps ks
  | [], [], _, _ => .nil
  | [], _ :: _, h, _ => by simp at h
  | _ :: _, [], h, _ => by simp at h
  | p :: ps, k :: ks, h, f => .cons (f 0 p k rfl rfl) (paired_of ps ks (by simpa using h) fun i p' k' h1 h2 => f (i + 1) p' k' (by simpa using h1) (by simpa using h2))
theorem tru_keys : ∀ (ps : List Str) (bs : List Bool), bs.length = ps.length → (truK ps bs).map Prod.fst = ps.map Sum.inr
  | [], _, _ => rfl
  | p :: ps, [], h => by simp at h
  | p :: ps, b :: bs, h => by
    show Sum.inr p :: (truK ps bs).map Prod.fst = _
    rw [tru_keys ps bs (by simpa using h)]
    rfl
theorem tru_len (ps : List Str) (bs : List Bool) (h : bs.length = ps.length) : (truK ps bs).length = ps.length := by
  rw [← List.length_map (f := Prod.fst), tru_keys ps bs h, List.length_map]
theorem tru_snoc : ∀ (ps : List Str) (bs : List Bool) (p : Str) (b : Bool), bs.length = ps.length → truK (ps ++ [p]) (bs ++ [b]) = truK ps bs ++ [(.inr p, .bl b)]
  | [], [], p, b, _ => rfl
  | [], _ :: _, _, _, h => by simp at h
  | x :: ps, [], _, _, h => by simp at h
  | x :: ps, y :: bs, p, b, h => by
    show (Sum.inr x, V.bl y) :: truK (ps ++ [p]) (bs ++ [b]) = _
    rw [tru_snoc ps bs p b (by simpa using h)]
    rfl
theorem inr_nodup {ps : List Str} (h : ps.Nodup) : (ps.map (Sum.inr : Str → Key)).Nodup := List.pairwise_map.mpr (List.Pairwise.imp (fun {a b} n e => n (Sum.inr.inj e)) h)
/-- plays in dicts -/
def Pls (H0 H : Hp) (l : Addr) (ps : List Str) (L : List (List Bool)) : Prop := ∃ as : List Addr, H l = some (.lst (as.map V.ref)) ∧ as.length = L.length ∧ (∀ p ∈ as, H0 p = none) ∧ ∀ (i : Nat) (p : Addr) (bs : List Bool), as[i]? = some p → L[i]? = some bs → H p = some (.dK (truK ps bs))
theorem Pls.same {H0 H H' : Hp} {l : Addr} {ps : List Str} {L : List (List Bool)} (h : Pls H0 H l ps L) (S : Same H H') : Pls H0 H' l ps L := let ⟨as, a, b, n, c⟩ := h; ⟨as, S _ _ a, b, n, fun i q bs h1 h2 => S _ _ (c i q bs h1 h2)⟩
theorem Pls.push {H0 H : Hp} {l q : Addr} {ps : List Str} {L : List (List Bool)} {xs : List V} {bs : List Bool} (h : Pls H0 H l ps L) (e : H l = some (.lst xs)) (et : H q = some (.dK (truK ps bs))) (nq : H0 q = none) : Pls H0 (upd H l (.lst (xs ++ [.ref q]))) l ps (L ++ [bs]) := by
  obtain ⟨as, a, b, n, c⟩ := h
  rw [e] at a
  cases a
  have off : ∀ {q' : Addr} {ys : List (Key × V)}, H q' = some (.dK ys) → upd H l (.lst (as.map V.ref ++ [.ref q])) q' = some (.dK ys) := fun {q' ys} z => by
    rw [upd_ne (fun y => by rw [y, e] at z; cases z)]
    exact z
  refine ⟨as ++ [q], by rw [upd_same, List.map_append]; rfl, by rw [List.length_append, List.length_append, b]; rfl, fun p hp => (List.mem_append.mp hp).elim (n p) fun z => by rw [List.mem_singleton.mp z]; exact nq, fun i q' kv h1 h2 => ?_⟩
  by_cases hi : i < as.length
  · rw [List.getElem?_append_left hi] at h1
    rw [List.getElem?_append_left (by omega)] at h2
    exact off (c i q' kv h1 h2)
  · have hi2 : i = as.length := by
      have := (List.getElem?_eq_some_iff.mp h1).1
      rw [List.length_append] at this
      simp at this
      omega
    rw [hi2, List.getElem?_append_right (Nat.le_refl _), Nat.sub_self] at h1
    rw [hi2, b, List.getElem?_append_right (Nat.le_refl _), Nat.sub_self] at h2
    cases (show some q = some q' from h1)
    cases (show some bs = some kv from h2)
    exact off et
theorem Pls.len {H0 H : Hp} {l : Addr} {ps : List Str} {L : List (List Bool)} (h : Pls H0 H l ps L) : ∃ xs, H l = some (.lst xs) ∧ xs.length = L.length := let ⟨ps, a, b, _, _⟩ := h; ⟨_, a, by rw [List.length_map, b]⟩
theorem plays_flat (n : Nat) (k : Nat) : ((playsD n).take k).flatMap (fun p => [p ++ [false], p ++ [true]]) = ((playsD n).take k).flatMap fun p => [false, true].map fun b => p ++ [b] := rfl
theorem lockS {G H' : Hp} {d : Addr} {u : HO} {od : Obj} (e : G d = some u) (S : Same (upd G d (.frz od u)) H') : Same G (upd H' d u) := fun b o eb => by
  by_cases z : b = d
  · rw [z] at eb ⊢
    rw [upd_same, ← e]
    exact eb
  · rw [upd_ne z]
    exact S b o (by rw [upd_ne z]; exact eb)
theorem valV_at {k : Key} {v : V} : ∀ {kvs : List (Key × V)} {i : Nat}, (kvs.map Prod.fst).Nodup → kvs[i]? = some (k, v) → valV kvs k = some v
  | [], i, _, h => by simp at h
  | p :: kvs, 0, _, h => by
    cases h
    exact valV_pos rfl
  | p :: kvs, i + 1, nd, h => by
    have nd' := List.nodup_cons.mp (by simpa using nd : (p.1 :: kvs.map Prod.fst).Nodup)
    have h' : kvs[i]? = some (k, v) := by simpa using h
    have ne : p.1 ≠ k := fun e => nd'.1 (List.mem_map.mpr ⟨_, List.mem_of_getElem? h', e.symm⟩)
    rw [valV_neg ne]
    exact valV_at nd'.2 h'
def spLPlays : Sp := fun vs H Q _ => ∃ (v : V) (ps : List Str), vs = [v] ∧ Dat H v (nmsD ps) ∧ ps.Nodup ∧ ps.length ≤ 6 ∧ ∀ (l : Addr) (H' : Hp), Same H H' → H l = none → Pls H H' l ps (playsD ps.length) → Q (.ref l) H'
abbrev nLP : List Str := ["picks", "found", "pick", "further", "play", "truth", "more", "one"]
section
variable {P : Program} {w : World} {K : PySem.W.Frag} {mg : Str → Option Value} {base : Heap}
theorem scLPlays : FnScope nLP ["picks"] (defScope sLPlays) := ⟨rfl, rfl, rfl, by decide +kernel, rfl, by decide +kernel, by decide +kernel⟩
theorem ok_lPlays {f : Addr} {fd : FuncData} (F : Fun K "_law_plays" "_law_plays" sLPlays f fd) (B : Blt mg) : FnOk P w K mg base CX0 1 f fd ["picks"] spLPlays := by
  refine F.ok scLPlays (fun vs H Q E h => ?_) (fun cdv A outer s H vs Q E hr h => ?_)
  · obtain ⟨v, ps, rfl, _⟩ := h
    rfl
  · obtain ⟨v, ps, rfl, D, nd, lp, q⟩ := h
    have hu1 : (A.deeper (envOfC "_law_plays" (defScope sLPlays) s.heap.objs.size f cdv)).units + 1 < cLine := by
      have h64 : (A.deeper (envOfC "_law_plays" (defScope sLPlays) s.heap.objs.size f cdv)).units + 64 < cLine := hr.units
      omega
    refine ⟨_, pss_cons (ps_set (i := 1) scLPlays.nd rfl (.inl rfl) (pe_lst (pa_cons pe_dnewK pa_nil)))
      (pss_cons (ps_for PassesOwn.never rfl (pi_tup (pv 0)) (pg_name (i := 2) scLPlays.nd rfl (.inl rfl))
        (pss_cons (ps_set (i := 3) scLPlays.nd rfl (.inl rfl) (pe_lst pa_nil))
        (pss_cons (ps_for PassesOwn.never rfl (pi_list (pv 1)) (pg_name (i := 4) scLPlays.nd rfl (.inr rfl))
          (pss_one (ps_for PassesOwn.never rfl (pi_tup (pe_tup (pa_cons pe_bl (pa_cons pe_bl pa_nil)))) (pg_name (i := 5) scLPlays.nd rfl (.inl rfl))
            (pss_cons (ps_set (i := 6) scLPlays.nd rfl (.inl rfl) (pe_callTy (call_dictP rfl) (by rfl) B.dict (by decide +kernel) (pa_cons (pe_lock (pe_lc (own := [("one", 7)]) (g := gName 7) (tt := tYes) (te := tTup (tCons (tVar 7) (tCons (tDGet (tVar 4) (tVar 7)) tNil))) rfl scLPlays.nd
                (pi_keys (pv 4)) (blkOk_by (N := nLP) (sc := defScope sLPlays) (by decide +kernel)) (fun _ _ _ _ _ => pg_name (i := 7) scLPlays.nd rfl (Or.inl rfl)) (fun _ _ _ _ _ => pts_nil)
                (fun _ _ _ _ _ => by exact pe_tup (pa_cons (pv 7) (pa_cons (pe_dget (by exact hu1) (pv 4) (pv 7) (fun _ _ => rfl)) pa_nil))))) pa_nil)))
            (pss_cons (ps_dput hu1 (pv 6) (pv 2) (pv 5) rfl)
            (pss_one (ps_expr (pe_bm PySem.F.plainAttrs_list PySem.F.slot_list_append PySem.F.type_list_append mt_append (pv 3) (pa_cons (pv 6) pa_nil)))))))))
        (pss_one (ps_set (i := 1) scLPlays.nd rfl (.inl rfl) (pv 3))))))
      (pss_one (ps_ret (pv 1)))), ?_⟩
    obtain ⟨ap, us, rfl, eap, Du⟩ := dat_tup (ds := ps.map PyData.str) D
    have eus := dats_strs_eq Du
    subst eus
    refine fun d0 hd0 => ⟨(by show 1 ≤ sizeLine; decide), fun l0 hl0 => ?_⟩
    have S1 := same_new (o := .dK []) hd0
    have S2 := same_new (o := .lst [V.ref d0]) hl0
    have P0 : Pls H (upd (upd H d0 (.dK [])) l0 (.lst [V.ref d0])) l0 (ps.take 0) (playsD 0) := ⟨[d0], upd_same, rfl, fun p hp => by rw [List.mem_singleton.mp hp]; exact hd0, fun i p bs h1 h2 => by
      cases i with
      | zero =>
        cases h1
        cases h2
        exact S2 _ _ upd_same
      | succ i => simp at h1⟩
    have S0 := S1.trans S2
    generalize upd (upd H d0 (.dK [])) l0 (.lst [V.ref d0]) = H0 at S0 P0 ⊢
    refine ⟨_, rfl, ap, rfl, ⟨_, SqT.of (S0 _ _ eap)⟩, ?_⟩
    refine for_tup (K := K) (a := ap) (xs := ps.map V.str) (fun i σ G => ∃ (l : Addr) (o2 o3 o4 o5 o6 o7 : Option V), σ = [some (.ref ap), some (.ref l), o2, o3, o4, o5, o6, o7] ∧ Same H G ∧ H l = none ∧ Pls H G l (ps.take i) (playsD i)) ⟨l0, _, _, _, _, _, _, rfl, S0, S1.free hl0, P0⟩ (fun i σ G _ ⟨_, _, _, _, _, _, _, _, S, _⟩ => SqT.of (S _ _ eap)) ?_ ?_
    · rintro i x σ G hx ⟨l, o2, o3, o4, o5, o6, o7, rfl, SG, hl, PG⟩
      rw [List.getElem?_map] at hx
      obtain ⟨pk, hpk, rfl⟩ := Option.map_eq_some_iff.mp hx
      have il : i < ps.length := (List.getElem?_eq_some_iff.mp hpk).1
      refine ⟨(by show 0 ≤ sizeLine; decide), fun lf hlf => ?_⟩
      have S3 := same_new (o := .lst []) hlf
      have PG1 := PG.same S3
      obtain ⟨as, el, las, _, has⟩ := PG1
      have hlf0 := SG.free hlf
      have nll : l ≠ lf := fun z => by
        obtain ⟨xs, ex, _⟩ := PG.len
        rw [z, hlf] at ex
        cases ex
      have tk : ps.take (i + 1) = ps.take i ++ [pk] := take_next hpk
      refine ⟨_, rfl, l, rfl, ⟨_, SqL.of el⟩, ?_⟩
      have PF0 : Pls H (upd G lf (.lst [])) lf (ps.take (i + 1)) [] := ⟨[], upd_same, rfl, fun p hp => absurd hp (by simp), fun j p bs h1 => by simp at h1⟩
      have SG3 := SG.trans S3
      generalize upd G lf (.lst []) = G0 at S3 el has PF0 SG3 ⊢
      refine for_list (K := K) (a := l) (xs := as.map V.ref) (fun k σ G1 => ∃ (o4 o5 o6 o7 : Option V), σ = [some (.ref ap), some (.ref l), some (.str pk), some (.ref lf), o4, o5, o6, o7] ∧ Same H G1 ∧ Sb [lf] G0 G1 ∧ Pls H G1 lf (ps.take (i + 1)) (((playsD i).take k).flatMap fun p => [p ++ [false], p ++ [true]]))
        ⟨_, _, _, _, rfl, SG3, Sb.refl, PF0⟩ (fun k σ G1 _ ⟨_, _, _, _, _, _, B, _⟩ => SqL.of (B _ _ (by simpa using nll) el)) ?_ ?_
      · rintro k x σ G1 hx ⟨o4, o5, o6, o7, rfl, SG1, B1, PF⟩
        rw [List.getElem?_map] at hx
        obtain ⟨d, hd, rfl⟩ := Option.map_eq_some_iff.mp hx
        have kl : k < (playsD i).length := by rw [← las]; exact (List.getElem?_eq_some_iff.mp hd).1
        have hbs : (playsD i)[k]? = some (playsD i)[k] := List.getElem?_eq_getElem kl
        have ed0 := has k d _ hd hbs
        have lbs := plays_bits i _ (List.getElem_mem kl)
        generalize (playsD i)[k] = bs at hbs ed0 lbs
        have lti : (ps.take i).length = i := by rw [List.length_take]; omega
        have ndl : d ≠ lf := fun z => by
          obtain ⟨xs, ex, _⟩ := PF0.len
          rw [z, ex] at ed0
          cases ed0
        refine ⟨(by show 2 ≤ sizeLine; decide), fun tt htt => ⟨tt, rfl, ⟨_, SqT.of upd_same⟩, ?_⟩⟩
        have S4 := same_new (o := .tup [V.bl false, .bl true]) htt
        have ett : upd G1 tt (.tup [V.bl false, .bl true]) tt = some (.tup [V.bl false, .bl true]) := upd_same
        have PF1 := PF.same S4
        have B2 := B1.same S4
        have SG2 := SG1.trans S4
        have nttl : tt ≠ lf := fun z => by
          obtain ⟨xs, ex, _⟩ := PF.len
          rw [← z, htt] at ex
          cases ex
        generalize upd G1 tt (.tup [V.bl false, .bl true]) = G2 at S4 ett PF1 B2 SG2 ⊢
        refine for_tup (K := K) (a := tt) (xs := [V.bl false, .bl true]) (fun c σ G3 => ∃ (o5 o6 o7 : Option V), σ = [some (.ref ap), some (.ref l), some (.str pk), some (.ref lf), some (.ref d), o5, o6, o7] ∧ Same H G3 ∧ Sb [lf] G0 G3 ∧ G3 tt = some (.tup [V.bl false, .bl true]) ∧ Pls H G3 lf (ps.take (i + 1)) ((((playsD i).take k).flatMap fun p => [p ++ [false], p ++ [true]]) ++ ([false, true].take c).map fun b => bs ++ [b]))
          ⟨_, _, _, rfl, SG2, B2, ett, by rw [List.take_zero, List.map_nil, List.append_nil]; exact PF1⟩ (fun c σ G3 _ ⟨_, _, _, _, _, _, e, _⟩ => SqT.of e) ?_ ?_
        · rintro c x σ G3 hx ⟨o5, o6, o7, rfl, SG3', B3, ett3, PF3⟩
          obtain ⟨cc, rfl, hcc⟩ : ∃ cc : Bool, x = .bl cc ∧ [false, true][c]? = some cc := by
            match c, hx with
            | 0, h => exact ⟨false, (Option.some.inj h).symm, rfl⟩
            | 1, h => exact ⟨true, (Option.some.inj h).symm, rfl⟩
            | c + 2, h => simp at h
          have ed := B3 _ _ (by simpa using ndl) ed0
          refine ⟨d, _, ed, True.intro, fun od => ?_⟩
          have ek : upd G3 d (.frz od (.dK (truK (ps.take i) bs))) d = some (.frz od (.dK (truK (ps.take i) bs))) := upd_same
          have Sl : ∀ {H'}, Same (upd G3 d (.frz od (.dK (truK (ps.take i) bs)))) H' → Same G3 (upd H' d (.dK (truK (ps.take i) bs))) := fun S => lockS ed S
          generalize upd G3 d (.frz od (.dK (truK (ps.take i) bs))) = G4 at ek Sl ⊢
          have lb : bs.length = (ps.take i).length := by rw [lbs, lti]
          have ndk : ((truK (ps.take i) bs).map Prod.fst).Nodup := by
            rw [tru_keys _ _ lb]
            exact inr_nodup (nd.sublist (List.take_sublist _ _))
          have lk := tru_len (ps.take i) bs lb
          generalize hk : truK (ps.take i) bs = kvs at ek Sl ndk lk ed ⊢
          refine ⟨_, rfl, d, od, rfl, .inl ⟨_, ek, fun D1 hD1 => ?_⟩⟩
          refine lc_it (walk_keys (d := d) (o := od) (kvs := kvs)) (fun j H4 => Prs H4 D1 (kvs.take j) ∧ Same G4 H4) ⟨Prs.nil upd_same, same_new hD1⟩ (fun j H4 _ h => h.2 _ _ ek) ?_ ?_
          · rintro j x H4 H4' hj ⟨PD, S4'⟩ ⟨rfl, k1, v1, hkv, rfl⟩
            refine ⟨rfl, yes_of ⟨_, rfl, _, rfl, _, rfl, d, v1, rfl, .inl ⟨kvs, k1, .inr ⟨od, S4' _ _ ek⟩, rfl, (valV_at ndk hkv).symm⟩, (by show 2 ≤ sizeLine; decide), fun t ht => ?_⟩⟩
            have S5 := same_new (o := .tup [kV k1, v1]) ht
            have et : upd H4' t (.tup [kV k1, v1]) t = some (.tup [kV k1, v1]) := upd_same
            obtain ⟨xs, exs, lxs⟩ := (PD.same S5).len
            refine ⟨xs, exs, by rw [lxs, List.length_take]; exact small1000 (by omega), ?_, same_upd (S4'.trans S5) hD1⟩
            rw [take_next hkv]
            exact (PD.same S5).push exs et
          · rintro H4 ⟨PD, S4'⟩
            rw [List.take_length] at PD
            have SU := Sl S4'
            refine ⟨S4' _ _ ek, ?_⟩
            have PD2 : Prs (upd H4 d (.dK kvs)) D1 kvs := by
              obtain ⟨qs, e1, e2, e3⟩ := PD
              have off : ∀ {q' : Addr} {o : HO}, H4 q' = some o → o ≠ .frz od (.dK kvs) → upd H4 d (.dK kvs) q' = some o := fun {q' o} z n => by
                rw [upd_ne (fun y => by rw [y, S4' _ _ ek] at z; exact n (Option.some.inj z).symm)]
                exact z
              exact ⟨qs, off e1 (by intro z; cases z), e2, fun i q kv h1 h2 => off (e3 i q kv h1 h2) (by intro z; cases z)⟩
            generalize upd H4 d (.dK kvs) = H5 at SU PD2 ⊢
            obtain ⟨qs, e1, e2, e3⟩ := PD2
            refine ⟨D1, qs, kvs, rfl, SqL.of e1, paired_of _ _ e2 fun i q kv h1 h2 => SqT.of (e3 i q kv h1 h2), fun p hp => ?_⟩
            rw [mergeK_new kvs [] (fun x _ y hy => absurd hy (by simp)) ndk, List.nil_append]
            have S6 := same_new (o := .dK kvs) hp
            have ep : upd H5 p (.dK kvs) p = some (.dK kvs) := upd_same
            have hp0 : H p = none := (SG3'.trans SU).free hp
            generalize upd H5 p (.dK kvs) = H6 at S6 ep ⊢
            refine ⟨_, rfl, _, rfl, _, rfl, p, _, rfl, DPut.k (k := .inr pk) ep (by rw [lk]; exact small1000 (by omega)), ?_⟩
            have npk : ∀ q ∈ kvs, q.1 ≠ .inr pk := fun q hq z => by
              have m : q.1 ∈ kvs.map Prod.fst := List.mem_map_of_mem hq
              rw [← hk, tru_keys _ _ lb, z] at m
              obtain ⟨y, hy, e⟩ := List.mem_map.mp m
              cases e
              obtain ⟨j, hj, e⟩ := List.getElem_of_mem hy
              rw [List.getElem_take] at e
              rw [List.length_take] at hj
              have e2 := (List.getElem?_eq_some_iff.mp hpk).2
              have := (List.getElem_inj nd).mp (e.trans e2.symm)
              omega
            rw [putK_new _ (valV_none npk), ← hk, ← tru_snoc _ _ _ _ lb, ← tk]
            have ep7 : upd H6 p (.dK (truK (ps.take (i + 1)) (bs ++ [cc]))) p = some (.dK (truK (ps.take (i + 1)) (bs ++ [cc]))) := upd_same
            have nl : lf ≠ p := fun z => by
              obtain ⟨xs, ex, _⟩ := PF3.len
              have := S6 _ _ (SU _ _ ex)
              rw [z, ep] at this
              cases this
            have S7 : Same G3 (upd H6 p (.dK (truK (ps.take (i + 1)) (bs ++ [cc])))) := same_upd (SU.trans S6) (SU.free hp)
            generalize upd H6 p (.dK (truK (ps.take (i + 1)) (bs ++ [cc]))) = H7 at ep7 S7 ⊢
            have PF7 := PF3.same S7
            obtain ⟨xs, exs, lxs⟩ := PF7.len
            have p64 : 2 ^ i ≤ 2 ^ 6 := Nat.pow_le_pow_right (by decide) (by omega)
            have lL : ((((playsD i).take k).flatMap fun p => [p ++ [false], p ++ [true]]) ++ ([false, true].take c).map fun b => bs ++ [b]).length ≤ 200 := by
              rw [List.length_append, flat_len, List.length_take, List.length_map, List.length_take, plays_len]
              show 2 * min k (2 ^ i) + min c 2 ≤ 200
              omega
            refine ⟨_, rfl, .inl ⟨rfl, _, SqL.of exs⟩, _, rfl, lf, _, _, rfl, rfl, exs, by rw [lxs]; exact small1000 (by omega), ?_⟩
            refine ⟨_, _, _, rfl, same_upd (SG3'.trans S7) hlf0, (B3.same S7).put (by simp), by rw [upd_ne nttl]; exact S7 _ _ ett3, ?_⟩
            have z := PF7.push exs ep7 hp0
            rw [take_next hcc, List.map_append, ← List.append_assoc]
            exact z
        · rintro σ G3 ⟨o5, o6, o7, rfl, SG3', B3, ett3, PF3⟩
          refine ⟨_, _, _, _, rfl, SG3', B3, ?_⟩
          rw [take_next hbs, List.flatMap_append]
          exact PF3
      · rintro σ G1 ⟨o4, o5, o6, o7, rfl, SG1, B1, PF⟩
        rw [List.length_map, las, List.take_length] at PF
        exact ⟨_, rfl, lf, _, _, _, _, _, _, rfl, SG1, hlf0, PF⟩
    · rintro σ G ⟨l, o2, o3, o4, o5, o6, o7, rfl, SG, hl, PG⟩
      rw [List.length_map, List.take_length] at PG
      exact ⟨_, rfl, q l G SG hl PG⟩
end
end S1

set_option Elab.async false
set_option linter.all false
set_option maxRecDepth 100000
set_option maxHeartbeats 4000000
/-! dicts keyed by data of one kind; marked letters -/
namespace S1
open PySem PySem.W PySem.Spec PyProof.Rows L2
/-- data of one kind, as keys -/
structure Enc {α : Type} (enc : α → PyData) : Prop where
  k : ∀ a, keyable (enc a) = true
  a : ∀ x y, alike (enc x) (enc y) = true
  d : ∀ a, (enc a).depth ≤ 8
  inj : ∀ x y, enc x = enc y → x = y
theorem Enc.nk {α : Type} {enc : α → PyData} (e : Enc enc) {x y : α} : nkey (enc x) = nkey (enc y) ↔ x = y := ⟨fun h => e.inj x y (nkey_inj _ _ (e.k x) (e.k y) (e.a x y) h), fun h => by rw [h]⟩
structure KysG {α : Type} (enc : α → PyData) (E : List DRow) (S : List α) (m : Nat) : Prop where
  to : ∀ p ∈ E, ∃ a ∈ S, p.1.2 = enc a
  fro : ∀ a ∈ S, ∃ p ∈ E, p.1.2 = enc a
  len : E.length ≤ m
section
variable {α : Type} {enc : α → PyData} {E : List DRow} {S : List α} {m : Nat}
theorem KysG.nil : KysG enc [] ([] : List α) 0 := ⟨fun _ h => absurd h (by simp), fun _ h => absurd h (by simp), Nat.le_refl _⟩
theorem KysG.up {m' : Nat} (h : KysG enc E S m) (le : m ≤ m') : KysG enc E S m' := ⟨h.to, h.fro, Nat.le_trans h.len le⟩
theorem KysG.congr {S' : List α} (h : KysG enc E S m) (e : ∀ x, x ∈ S ↔ x ∈ S') : KysG enc E S' m :=
  ⟨fun p hp => (let ⟨y, hy, z⟩ := h.to p hp; ⟨y, (e y).mp hy, z⟩), fun x hx => h.fro x ((e x).mpr hx), h.len⟩
theorem KysG.none_iff (en : Enc enc) (h : KysG enc E S m) (a : α) : lookN E (enc a) = none ↔ a ∉ S := by
  rw [lookN_none]
  constructor
  · intro z hm
    obtain ⟨p, hp, e⟩ := h.fro a hm
    exact z p hp (by rw [e])
  · intro z p hp e
    obtain ⟨b, hm, e2⟩ := h.to p hp
    rw [e2] at e
    exact z (en.nk.mp e ▸ hm)
theorem KysG.some_iff (en : Enc enc) (h : KysG enc E S m) (a : α) : (lookN E (enc a)).isSome = true ↔ a ∈ S := by
  have z := h.none_iff en a
  cases e : lookN E (enc a) with
  | none => exact ⟨fun q => absurd q (by decide), fun q => absurd q (z.mp e)⟩
  | some v => exact ⟨fun _ => Classical.byContradiction fun n => (by rw [z.mpr n] at e; cases e), fun _ => rfl⟩
theorem KysG.put (en : Enc enc) {r : Addr} {v : V} {a : α} (h : KysG enc E S m) : KysG enc (putN E (r, enc a) v) (S ++ [a]) (m + 1) := by
  cases hl : lookN E (enc a) with
  | none =>
    rw [putN_new (r := (r, enc a)) hl]
    refine ⟨fun p hp => ?_, fun x hx => ?_, by rw [List.length_append]; exact Nat.succ_le_succ h.len⟩
    · rcases List.mem_append.mp hp with z | z
      · obtain ⟨y, hy, e⟩ := h.to p z
        exact ⟨y, List.mem_append_left _ hy, e⟩
      · cases List.mem_singleton.mp z
        exact ⟨a, List.mem_append_right _ (List.mem_singleton.mpr rfl), rfl⟩
    · rcases List.mem_append.mp hx with z | z
      · obtain ⟨p, hp, e⟩ := h.fro x z
        exact ⟨p, List.mem_append_left _ hp, e⟩
      · cases List.mem_singleton.mp z
        exact ⟨_, List.mem_append_right _ (List.mem_singleton.mpr rfl), rfl⟩
  | some u =>
    have ha : a ∈ S := (h.some_iff en a).mp (by rw [hl]; rfl)
    rw [putN_old (r := (r, enc a)) hl]
    have same : ∀ p : DRow, (if nkey p.1.2 = nkey (r, enc a).2 then (p.1, v) else p).1 = p.1 := fun p => by split <;> rfl
    refine ⟨fun p hp => ?_, fun x hx => ?_, by rw [List.length_map]; exact Nat.le_succ_of_le h.len⟩
    · obtain ⟨q, hq, rfl⟩ := List.mem_map.mp hp
      obtain ⟨y, hy, e⟩ := h.to q hq
      exact ⟨y, List.mem_append_left _ hy, by rw [same]; exact e⟩
    · have hx' : x ∈ S := (List.mem_append.mp hx).elim id fun z => by rw [List.mem_singleton.mp z]; exact ha
      obtain ⟨p, hp, e⟩ := h.fro x hx'
      exact ⟨_, List.mem_map_of_mem hp, by rw [same]; exact e⟩
theorem KysG.list (h : KysG enc E S m) : ∃ S' : List α, (E.map Prod.fst).map Prod.snd = S'.map enc ∧ S'.length = E.length ∧ ((∀ x y, enc x = enc y → x = y) → ∀ x, x ∈ S' ↔ x ∈ S) := by
  have key : ∀ E : List DRow, (∀ p ∈ E, ∃ ns ∈ S, p.1.2 = enc ns) → ∃ S' : List α, (E.map Prod.fst).map Prod.snd = S'.map enc ∧ S'.length = E.length := by
    intro E
    induction E with
    | nil => exact fun _ => ⟨[], rfl, rfl⟩
    | cons p E ih =>
      intro h
      obtain ⟨ns, _, e⟩ := h p List.mem_cons_self
      obtain ⟨S', e', l'⟩ := ih fun q hq => h q (List.mem_cons_of_mem _ hq)
      exact ⟨ns :: S', by rw [List.map_cons, List.map_cons, e', e, List.map_cons], congrArg (· + 1) l'⟩
  obtain ⟨S', e, l⟩ := key E h.to
  refine ⟨S', e, l, fun inj x => ⟨fun m => ?_, fun m => ?_⟩⟩
  · have : enc x ∈ S'.map enc := List.mem_map_of_mem m
    rw [← e, List.map_map] at this
    obtain ⟨p, hp, e2⟩ := List.mem_map.mp this
    obtain ⟨ns, hn, e3⟩ := h.to p hp
    rw [← inj _ _ (e3.symm.trans e2)]
    exact hn
  · obtain ⟨p, hp, e2⟩ := h.fro x m
    have : p.1.2 ∈ S'.map enc := by
      rw [← e, List.map_map]
      exact List.mem_map.mpr ⟨p, hp, rfl⟩
    obtain ⟨y, hy, e3⟩ := List.mem_map.mp this
    rw [← inj _ _ (e3.trans e2)]
    exact hy
end
theorem keys_put {H : Hp} {E : List DRow} {r : Addr} {d : PyData} {v : V} (h : KeysAt H E) (D : Dat H (.ref r) d) (k : keyable d = true) (z : d.depth ≤ 8) : KeysAt H (putN E (r, d) v) := by
  cases hl : lookN E d with
  | none =>
    rw [putN_new (r := (r, d)) hl]
    exact keys_snoc (r := (r, d)) h D k z
  | some u =>
    rw [putN_old (r := (r, d)) hl]
    intro p hp
    obtain ⟨q, hq, rfl⟩ := List.mem_map.mp hp
    have same : (if nkey q.1.2 = nkey (r, d).2 then (q.1, v) else q).1 = q.1 := by split <;> rfl
    rw [same]
    exact h q hq
/-- a marked letter: an own, what it sees, a truth -/
abbrev Mk := Str × List Bool × Bool
def mkD (m : Mk) : PyData := .tuple [.str m.1, blsD m.2.1, .bool m.2.2]
def mksD (ms : List Mk) : PyData := .tuple (ms.map mkD)
theorem keyable_mk (m : Mk) : keyable (mkD m) = true := by
  show (true && (keyable (blsD m.2.1) && (true && true))) = true
  rw [keyable_bls]
  rfl
theorem alike_mk (x y : Mk) : alike (mkD x) (mkD y) = true := by
  show (true && (alike (blsD x.2.1) (blsD y.2.1) && (true && true))) = true
  rw [alike_bls]
  rfl
theorem depth_mk (m : Mk) : (mkD m).depth ≤ 2 := by
  have z := depth_bls m.2.1
  simp only [mkD, PyData.depth, PyData.depthAll]
  omega
theorem mk_inj {x y : Mk} (h : mkD x = mkD y) : x = y := by
  obtain ⟨a, b, c⟩ := x
  obtain ⟨a', b', c'⟩ := y
  unfold mkD at h
  injection h with h
  injection h with h1 h
  injection h with h2 h
  injection h with h3 h
  injection h1 with h1
  injection h3 with h3
  have e := bls_inj h2
  dsimp only at h1 e h3
  rw [h1, e, h3]
theorem map_inj {α : Type} {f : α → PyData} (h : ∀ x y, f x = f y → x = y) : ∀ {l m : List α}, l.map f = m.map f → l = m
  | [], [], _ => rfl
  | [], _ :: _, e => by cases e
  | _ :: _, [], e => by cases e
  | x :: l, y :: m, e => by
    injection e with e1 e2
    rw [h x y e1, map_inj h e2]
theorem enc_mks : Enc mksD := ⟨fun a => keyables_map mkD keyable_mk a, fun x y => alikes_map mkD alike_mk x y, fun a => by
  have z := depths_map mkD 2 depth_mk a
  simp only [mksD, PyData.depth]
  omega, fun x y h => by
  unfold mksD at h
  injection h with h
  exact map_inj (fun _ _ => mk_inj) h⟩
theorem enc_cp : Enc cpD := ⟨keyable_cp, alike_cpD, fun a => Nat.le_trans (depth_cpD a) (by decide), fun _ _ h => cpD_inj h⟩
/-- what an own of a name sees -/
def seesAt (s : Say) (bs : List Bool) (x : Str) : Option (List Bool) := (s.owns.find? fun o => decide (o.1 = x)).map fun o => seesD s.picks o.2 bs
def marks (s : Say) (bs : List Bool) (cl : List Ltr) : List Mk := cl.filterMap fun l => (seesAt s bs l.1).map fun t => (l.1, t, l.2)
theorem sees_none {s : Say} {bs : List Bool} {x : Str} : seesAt s bs x = none ↔ x ∉ s.owns.map Prod.fst := by
  unfold seesAt
  rw [Option.map_eq_none_iff, List.find?_eq_none]
  constructor
  · intro h m
    obtain ⟨o, ho, e⟩ := List.mem_map.mp m
    exact h o ho (decide_eq_true e)
  · intro h o ho z
    exact h (List.mem_map.mpr ⟨o, ho, of_decide_eq_true z⟩)
/-- a dict by names -/
def NK (H : Hp) (kvs : List (Key × V)) (L : List (Str × PyData)) : Prop := kvs.length = L.length ∧ ∀ (i : Nat) (kv : Key × V) (x : Str × PyData), kvs[i]? = some kv → L[i]? = some x → kv.1 = .inr x.1 ∧ Dat H kv.2 x.2
theorem NK.same {H H' : Hp} {kvs : List (Key × V)} {L : List (Str × PyData)} (h : NK H kvs L) (S : Same H H') : NK H' kvs L := ⟨h.1, fun i kv x h1 h2 => let ⟨a, b⟩ := h.2 i kv x h1 h2; ⟨a, b.same S⟩⟩
theorem NK.tups {H H' : Hp} {kvs : List (Key × V)} {L : List (Str × PyData)} (h : NK H kvs L) (S : Tups H H') (k : ∀ x ∈ L, keyable x.2 = true) : NK H' kvs L := ⟨h.1, fun i kv x h1 h2 => let ⟨a, b⟩ := h.2 i kv x h1 h2; ⟨a, S.dat (k x (List.mem_of_getElem? h2)) b⟩⟩
theorem NK.nil {H : Hp} : NK H [] [] := ⟨rfl, fun i kv x h => by simp at h⟩
theorem NK.snoc {H : Hp} {kvs : List (Key × V)} {L : List (Str × PyData)} {x : Str} {d : PyData} {v : V} (h : NK H kvs L) (D : Dat H v d) : NK H (kvs ++ [(.inr x, v)]) (L ++ [(x, d)]) := by
  refine ⟨by rw [List.length_append, List.length_append, h.1]; rfl, fun i kv y h1 h2 => ?_⟩
  by_cases hi : i < kvs.length
  · rw [List.getElem?_append_left hi] at h1
    rw [List.getElem?_append_left (by have := h.1; omega)] at h2
    exact h.2 i kv y h1 h2
  · have hi2 : i = kvs.length := by
      have := (List.getElem?_eq_some_iff.mp h1).1
      rw [List.length_append] at this
      simp at this
      omega
    rw [hi2, List.getElem?_append_right (Nat.le_refl _), Nat.sub_self] at h1
    rw [hi2, h.1, List.getElem?_append_right (Nat.le_refl _), Nat.sub_self] at h2
    cases (show some ((Sum.inr x : Key), v) = some kv from h1)
    cases (show some (x, d) = some y from h2)
    exact ⟨rfl, D⟩
theorem NK.keys {H : Hp} {kvs : List (Key × V)} {L : List (Str × PyData)} (h : NK H kvs L) : kvs.map Prod.fst = L.map fun x => (Sum.inr x.1 : Key) := by
  refine List.ext_getElem? fun i => ?_
  rw [List.getElem?_map, List.getElem?_map]
  cases h1 : kvs[i]? with
  | none =>
    have : L[i]? = none := List.getElem?_eq_none_iff.mpr (by have := List.getElem?_eq_none_iff.mp h1; have := h.1; omega)
    rw [this]
    rfl
  | some kv =>
    have il : i < L.length := by have := (List.getElem?_eq_some_iff.mp h1).1; have := h.1; omega
    have h2 : L[i]? = some L[i] := List.getElem?_eq_getElem il
    rw [h2]
    show some kv.1 = some _
    rw [(h.2 i kv _ h1 h2).1]
theorem NK.find {H : Hp} : ∀ {kvs : List (Key × V)} {L : List (Str × PyData)} (h : NK H kvs L) (x : Str), (L.find? fun p => decide (p.1 = x)) = none ∧ valV kvs (.inr x) = none ∨ ∃ p v, (L.find? fun p => decide (p.1 = x)) = some p ∧ valV kvs (.inr x) = some v ∧ Dat H v p.2
  | [], [], _, x => .inl ⟨rfl, rfl⟩
  | [], _ :: _, h, _ => absurd h.1 (by simp)
  | _ :: _, [], h, _ => absurd h.1 (by simp)
  | kv :: kvs, y :: L, h, x => by
    obtain ⟨e1, D⟩ := h.2 0 kv y rfl rfl
    by_cases e : y.1 = x
    · refine .inr ⟨y, kv.2, ?_, ?_, D⟩
      · exact List.find?_cons_of_pos (by simpa using e)
      · rw [valV_pos (by rw [e1, e])]
    · have h' : NK H kvs L := ⟨by simpa using h.1, fun i kv' y' h1 h2 => h.2 (i + 1) kv' y' (by simpa using h1) (by simpa using h2)⟩
      rw [show (y :: L).find? (fun p => decide (p.1 = x)) = L.find? (fun p => decide (p.1 = x)) from List.find?_cons_of_neg (by simpa using e), valV_neg (by rw [e1]; exact fun z => e (Sum.inr.inj z))]
      exact NK.find h' x
end S1

set_option Elab.async false
set_option linter.all false
set_option maxRecDepth 100000
set_option maxHeartbeats 4000000
/-! what clauses tell, as the law finds it -/
namespace S1
open PySem PySem.W PySem.Spec PyProof.Rows L2
def toldM (s : Say) (ps : List (List Bool)) : List (List Mk) := ps.flatMap fun bs => (s.cls.filter fun cl => !dead s bs cl).map fun cl => marks s bs cl
/-- a list of what is told -/
def Mks (H : Hp) (l : Addr) (S : List (List Mk)) : Prop := ∃ T : List TRow, H l = some (.lst (T.map TRow.v)) ∧ T.map Prod.snd = S.map mksD ∧ ∀ q ∈ T, Dat H q.v q.2
def spLTold (w : World) : Sp := fun vs H Q _ => ∃ (v : V) (s : Say), vs = [v] ∧ DatS H v s ∧ SayOk 6 8 120 40 s ∧ ∀ (l : Addr) (H' : Hp) (S : List (List Mk)), Same H H' → H l = none → Mks H' l S → (∀ x, x ∈ S ↔ x ∈ toldM s (playsD s.picks.length)) → S.length ≤ 2560 → Q (.ref l) H'
abbrev nLTo : List Str := ["saying", "sights", "found", "play", "known", "clause", "name", "sight", "pick", "truth"]
def forBody : Stmt → List Stmt
  | .For _ _ b _ _ => b
  | _ => []
def asgArg : Stmt → Expr
  | .Assign _ (.Call _ [e] _ _) _ => e
  | _ => .Constant .none 0 ⟨0, 0, 0, 0⟩
abbrev kDict (K : PySem.W.Frag) (te : TE) : TE := tCB (fun xs H Q => ∃ (a : Addr) (ps : List Addr) (kvs : List (Key × V)), xs = [V.ref a] ∧ SqL K H a (ps.map V.ref) ∧ Paired (fun p kv => SqT K H p [kV kv.1, kv.2]) ps kvs ∧ ∀ p, H p = none → Q (V.ref p) (upd H p (.dK (mergeK [] kvs)))) (tCons te tNil)
section
variable {P : Program} {w : World} {K : PySem.W.Frag} {mg : Str → Option Value} {base : Heap}
theorem scLTold : FnScope nLTo ["saying"] (defScope sLTold) := ⟨rfl, rfl, rfl, by decide +kernel, rfl, by decide +kernel, by decide +kernel⟩
abbrev scIn2 : Scope := relabel (lcScope (asgArg ((forBody ((defBody sLTold).getD 1 (.Pass ⟨0, 0, 0, 0⟩))).getD 0 (.Pass ⟨0, 0, 0, 0⟩)))) (envD sLTold)
theorem find_owns (f : Own → PyData) (x : Str) : ∀ os : List Own, ((os.map fun o => (o.1, f o)).find? fun p => decide (p.1 = x)) = (os.find? fun o => decide (o.1 = x)).map fun o => (o.1, f o)
  | [] => rfl
  | o :: os => by
    rw [List.map_cons]
    by_cases e : o.1 = x
    · rw [show ((o.1, f o) :: os.map fun o => (o.1, f o)).find? (fun p => decide (p.1 = x)) = some (o.1, f o) from List.find?_cons_of_pos (by simpa using e), show (o :: os).find? (fun o => decide (o.1 = x)) = some o from List.find?_cons_of_pos (by simpa using e)]
      rfl
    · rw [show ((o.1, f o) :: os.map fun o => (o.1, f o)).find? (fun p => decide (p.1 = x)) = (os.map fun o => (o.1, f o)).find? (fun p => decide (p.1 = x)) from List.find?_cons_of_neg (by simpa using e), show (o :: os).find? (fun o => decide (o.1 = x)) = os.find? (fun o => decide (o.1 = x)) from List.find?_cons_of_neg (by simpa using e)]
      exact find_owns f x os
/-- what is known of an own at a play -/
theorem kn_find {H : Hp} {kn : List (Key × V)} {s : Say} {bs : List Bool} (N : NK H kn (s.owns.map fun o => (o.1, blsD (seesD s.picks o.2 bs)))) (x : Str) : seesAt s bs x = none ∧ valV kn (.inr x) = none ∨ ∃ t v, seesAt s bs x = some t ∧ valV kn (.inr x) = some v ∧ Dat H v (blsD t) := by
  have z := N.find x
  rw [find_owns] at z
  unfold seesAt
  rcases z with ⟨z1, z2⟩ | ⟨p, v, z1, z2, z3⟩
  · rw [Option.map_eq_none_iff] at z1
    exact .inl ⟨by rw [z1]; rfl, z2⟩
  · obtain ⟨o, ho, e⟩ := Option.map_eq_some_iff.mp z1
    subst e
    exact .inr ⟨_, v, by rw [ho]; rfl, z2, z3⟩
theorem dead_any {s : Say} {a b c d : Nat} (ok : SayOk a b c d s) {bs : List Bool} (hl : bs.length = s.picks.length) (cl : List Ltr) : (cl.map fun l => decide (truOf s.picks bs l.1 = some l.2)).any id = dead s bs cl := by
  unfold dead
  rw [List.any_map]
  congr 1
  funext l
  show decide (truOf s.picks bs l.1 = some l.2) = ((hereAt s bs l.1).isNone && decide (truOf s.picks bs l.1 = some l.2))
  cases h : hereAt s bs l.1 with
  | none => rfl
  | some n =>
    have no : l.1 ∈ s.owns.map Prod.fst := Classical.byContradiction fun z => by
      rw [here_none.mpr z] at h
      cases h
    obtain ⟨o, ho, e⟩ := List.mem_map.mp no
    have np := (ok.on o ho).2.1
    have e2 : truOf s.picks bs l.1 = none := by
      unfold truOf
      rw [Option.map_eq_none_iff, List.find?_eq_none]
      intro q hq z
      have := of_decide_eq_true z
      refine np ?_
      rw [e, ← this]
      exact (List.of_mem_zip (show (q.1, q.2) ∈ s.picks.zip bs from hq)).1
    rw [e2]
    rfl
theorem marks_snoc (s : Say) (bs : List Bool) (cl : List Ltr) (l : Ltr) : marks s bs (cl ++ [l]) = marks s bs cl ++ ((seesAt s bs l.1).map fun t => (l.1, t, l.2)).toList := by
  unfold marks
  rw [List.filterMap_append]
  cases h : seesAt s bs l.1 <;> simp [h]
theorem marks_len (s : Say) (bs : List Bool) (cl : List Ltr) : (marks s bs cl).length ≤ cl.length := List.length_filterMap_le _ _
theorem ok_lTold {f fP : Addr} {fd fdP : FuncData} (F : Fun K "_law_told" "_law_told" sLTold f fd) (B : Blt mg) (ny : mg "any" = none) (Pl : Has K mg "_law_plays" sLPlays ["picks"] fP fdP) : FnOk P w K mg base CX0 2 f fd ["saying"] (spLTold w) := by
  have GP : FnOk P w K mg base CX0 1 fP fdP ["picks"] spLPlays := ok_lPlays Pl.F B
  refine F.ok scLTold (fun vs H Q E h => ?_) (fun cdv A outer s H vs Q E hr h => ?_)
  · obtain ⟨v, sy, rfl, _⟩ := h
    rfl
  · obtain ⟨v, sy, rfl, D, ok, q⟩ := h
    have h64 : (A.deeper (envOfC "_law_told" (defScope sLTold) s.heap.objs.size f cdv)).units + 64 < cLine := hr.units
    have hu : (A.deeper (envOfC "_law_told" (defScope sLTold) s.heap.objs.size f cdv)).units + 16 < cLine := by omega
    have hu1 : (A.deeper (envOfC "_law_told" (defScope sLTold) s.heap.objs.size f cdv)).units + 1 < cLine := by omega
    refine ⟨_, pss_cons (ps_asg (pe_tup (pa_cons (pe_callTy (call_dictP rfl) (by rfl) B.dict (by decide +kernel) (pa_cons
          (pe_lc (own := [("name", 6), ("sight", 7)]) (g := gTup K 2 (gCons (gName 6) (gCons (gName 7) gNil))) (tt := tYes) (te := tTup (tCons (tVar 6) (tCons (tVar 7) tNil))) rfl scLTold.nd (pi_tup (pe_ix ix_tup (pv 0) pe_int (fun _ _ => rfl)))
            (blkOk_by (N := nLTo) (sc := defScope sLTold) (by decide +kernel)) (fun _ _ _ _ _ => by exact pg_tup rfl (pgs_cons (pg_name (i := 6) scLTold.nd rfl (.inl rfl)) (pgs_cons (pg_name (i := 7) scLTold.nd rfl (.inl rfl)) pgs_nil))) (fun _ _ _ _ _ => pts_nil)
            (fun _ _ _ _ _ => by exact pe_tup (pa_cons (pv 6) (pa_cons (pv 7) pa_nil)))) pa_nil)) (pa_cons pe_dnewK pa_nil))) (pg_tup rfl (pgs_cons (pg_name (i := 1) scLTold.nd rfl (.inr rfl)) (pgs_cons (pg_name (i := 2) scLTold.nd rfl (.inl rfl)) pgs_nil))))
      (pss_cons (ps_for PassesOwn.never rfl (pi_list (pe_call GP (by exact hr) (by rfl) Pl.g Pl.F.kp Pl.b .nil pass0 (pa_cons (pe_ix ix_tup (pv 0) pe_int (fun _ _ => rfl)) pa_nil))) (pg_name (i := 3) scLTold.nd rfl (.inr rfl))
        (pss_cons (ps_set (i := 4) scLTold.nd rfl (.inr rfl) (pe_callTy (call_dictP rfl) (by rfl) B.dict (by decide +kernel) (pa_cons
          (pe_lock (pe_lc (own := [("name", 6)]) (g := gName 6) (tt := tYes) (te := tTup (tCons (tVar 6) (tCons (tThen (tLc (iTup K (tDGet (tVar 1) (tVar 6))) (gName 8) tYes (tDGet (tVar 3) (tVar 8)) [8]) (kTup K)) tNil))) rfl scLTold.nd (pi_keys (pv 1)) (blkOk_by (N := nLTo) (sc := defScope sLTold) (by decide +kernel))
            (fun _ _ _ _ _ => pg_name (i := 6) scLTold.nd rfl (Or.inl rfl)) (fun _ _ _ _ _ => pts_nil)
            (fun _ _ _ _ _ => by exact pe_tup (pa_cons (pv 6) (pa_cons (pe_tupleOf rfl B.tuple (pe_lc (own := [("pick", 8)]) (g := gName 8) (tt := tYes) (te := tDGet (tVar 3) (tVar 8)) rfl scLTold.nd (pi_tup (pe_dget (by exact hu1) (pv 1) (pv 6) (fun _ _ => rfl)))
                (by show BlkOk nLTo scIn2 _ _; exact blkOk_by (by decide +kernel)) (fun _ _ _ _ _ => pg_name (i := 8) scLTold.nd rfl (Or.inl rfl)) (fun _ _ _ _ _ => pts_nil) (fun _ _ _ _ _ => by exact pe_dget (by exact hu1) (pv 3) (pv 8) (fun _ _ => rfl)))) pa_nil))))) pa_nil)))
        (pss_one (ps_for PassesOwn.never rfl (pi_tup (pe_ix ix_tup (pv 0) pe_int (fun _ _ => rfl))) (pg_name (i := 5) scLTold.nd rfl (.inl rfl))
          (pss_one (ps_if (pt_not (pt_val (pe_callB (cr_any rfl) (by rfl) ny (by decide +kernel) (pa_cons (pe_lc (own := [("name", 6), ("truth", 9)]) (g := gTup K 2 (gCons (gName 6) (gCons (gName 9) gNil))) (tt := tYes) (te := tAndV (tDIn (tVar 6) (tVar 3)) (tOp rEq (tDGet (tVar 3) (tVar 6)) (tVar 9))) rfl scLTold.nd (pi_tup (pv 5))
              (blkOk_by (N := nLTo) (sc := defScope sLTold) (by decide +kernel)) (fun _ _ _ _ _ => by exact pg_tup rfl (pgs_cons (pg_name (i := 6) scLTold.nd rfl (.inl rfl)) (pgs_cons (pg_name (i := 9) scLTold.nd rfl (.inl rfl)) pgs_nil))) (fun _ _ _ _ _ => pts_nil)
              (fun _ _ _ _ _ => by exact pe_and (pe_cmp (pc_din (by exact hu1) (pv 6) (pv 3)) rfl) (pe_one (pe_cmpR op_eq (pe_dget (by exact hu1) (pv 3) (pv 6) (fun _ _ => rfl)) (pv 9) (nomark _))))) pa_nil))))
            (pss_one (ps_nput (by exact hu) (pv 2) (pe_tupleOf rfl B.tuple (pe_lc (own := [("name", 6), ("truth", 9)]) (g := gTup K 2 (gCons (gName 6) (gCons (gName 9) gNil))) (tt := tB (tDIn (tVar 6) (tVar 4))) (te := tTup (tCons (tVar 6) (tCons (tDGet (tVar 4) (tVar 6)) (tCons (tVar 9) tNil)))) rfl scLTold.nd (pi_tup (pv 5))
              (blkOk_by (N := nLTo) (sc := defScope sLTold) (by decide +kernel)) (fun _ _ _ _ _ => by exact pg_tup rfl (pgs_cons (pg_name (i := 6) scLTold.nd rfl (.inl rfl)) (pgs_cons (pg_name (i := 9) scLTold.nd rfl (.inl rfl)) pgs_nil)))
              (fun _ _ _ _ _ => by exact pts_one (pt_cmp (pc_din (by exact hu1) (pv 6) (pv 4)))) (fun _ _ _ _ _ => by exact pe_tup (pa_cons (pv 6) (pa_cons (pe_dget (by exact hu1) (pv 4) (pv 6) (fun _ _ => rfl)) (pa_cons (pv 9) pa_nil))))))
              pe_bl (by rfl))) pss_nil))))))
      (pss_one (ps_ret (pe_callTy (call_listDn rfl) (by rfl) B.list (by decide +kernel) (pa_cons (pv 2) pa_nil))))), ?_⟩
    obtain ⟨a, pk, ow, c, rfl, ea, Dp, ⟨b, us, rfl, eb, Db⟩, Dc⟩ := say_row D
    obtain ⟨k, cs, rfl, ek, Dk⟩ := dat_tup (ds := sy.cls.map clD) Dc
    have lu : us.length = sy.owns.length := by rw [Db.len, List.length_map]
    have lk : cs.length = sy.cls.length := by rw [Dk.len, List.length_map]
    have lo := ok.ol
    have lcl := ok.cl
    have ond := own_nd ok
    refine ⟨_, rfl, a, _, 1, _, rfl, rfl, SqT.of ea, rfl, b, rfl, ⟨_, FT.sq eb⟩, fun D1 hD1 => ?_⟩
    refine lc_tup (K := K) (a := b) (xs := us) (fun j H4 => ∃ kvs, Prs H4 D1 kvs ∧ NK H4 kvs ((sy.owns.take j).map fun o => (o.1, nmsD o.2)) ∧ Same H H4) ⟨[], Prs.nil upd_same, NK.nil, same_new hD1⟩ (fun j H4 _ ⟨_, _, _, S⟩ => FT.sq (FT.same eb S)) ?_ ?_
    · rintro j x H4 hx ⟨kvs, PD, N4, S4⟩
      obtain ⟨d, hd, Dx⟩ := dats_get' Db j x hx
      obtain ⟨o, ho, rfl⟩ := get_map hd
      obtain ⟨t, rfl⟩ := tuple_ref (ds := [.str o.1, nmsD o.2]) Dx
      obtain ⟨t', g1, g2⟩ := own_row (q := (t, ownD o)) rfl Dx
      have Ds : Dat H (.ref t') (nmsD o.2) := .tup g2 (dats_strs o.2)
      have jl : j < sy.owns.length := (List.getElem?_eq_some_iff.mp ho).1
      refine ⟨t, _, rfl, SqT.of (S4 _ _ g1), rfl, _, _, rfl, _, _, rfl, rfl, rfl, yes_of ⟨_, rfl, _, rfl, (by show 2 ≤ sizeLine; decide), fun q hq => ?_⟩⟩
      have Sq := same_new (o := .tup [.str o.1, .ref t']) hq
      have eq : upd H4 q (.tup [.str o.1, .ref t']) q = some (.tup [.str o.1, .ref t']) := upd_same
      have PD2 := PD.same Sq
      have N5 := N4.same Sq
      obtain ⟨xs, exs, lxs⟩ := PD2.len
      have lN := N4.1
      rw [List.length_map, List.length_take] at lN
      refine ⟨xs, exs, by rw [lxs, lN]; exact small1000 (by omega), kvs ++ [(.inr o.1, .ref t')], PD2.push (k := .inr o.1) exs eq, ?_, same_upd (S4.trans Sq) hD1⟩
      rw [take_next ho, List.map_append]
      have nt : ∀ ys, upd H4 q (.tup [.str o.1, .ref t']) D1 ≠ some (.tup ys) := fun ys z => by rw [exs] at z; cases z
      exact (N5.snoc (Ds.same (S4.trans Sq))).tups (Tups.upd nt) (fun y hy => by
        rcases List.mem_append.mp hy with m | m
        · obtain ⟨o', _, rfl⟩ := List.mem_map.mp m
          exact keyable_nms o'.2
        · cases List.mem_singleton.mp m
          exact keyable_nms o.2)
    · rintro H4 ⟨sk, PD, N4, S4⟩
      rw [lu, List.take_length] at N4
      have skn : (sk.map Prod.fst).Nodup := by
        rw [N4.keys, List.map_map]
        exact inr_nodup (ps := sy.owns.map Prod.fst) ond |> fun z => by rwa [List.map_map] at z
      obtain ⟨qs, e1, e2, e3⟩ := PD
      refine ⟨D1, qs, sk, rfl, SqL.of e1, paired_of _ _ e2 fun i q kv h1 h2 => SqT.of (e3 i q kv h1 h2), fun aS hS => ?_⟩
      rw [mergeK_new sk [] (fun x _ y hy => absurd hy (by simp)) skn, List.nil_append]
      have S5 := same_new (o := .dK sk) hS
      have eS : upd H4 aS (.dK sk) aS = some (.dK sk) := upd_same
      generalize upd H4 aS (.dK sk) = H5 at S5 eS ⊢
      refine fun aF hF => ⟨(by show 2 ≤ sizeLine; decide), fun tp htp => ?_⟩
      have nSF : aS ≠ aF := ne_of_none eS hF
      have S6 := same_new (o := .dK []) hF
      have S7 := same_new (o := .tup [V.ref aS, .ref aF]) htp
      have etp : upd (upd H5 aF (.dK [])) tp (.tup [V.ref aS, .ref aF]) tp = some (.tup [V.ref aS, .ref aF]) := upd_same
      have eF := S7 _ _ (show upd H5 aF (.dK []) aF = some (.dK []) from upd_same)
      have eSA := S7 _ _ (S6 _ _ eS)
      have SA := ((S4.trans S5).trans S6).trans S7
      have NA := N4.same ((S5.trans S6).trans S7)
      have hF0 : H aF = none := (S4.trans S5).free hF
      generalize upd (upd H5 aF (.dK [])) tp (.tup [V.ref aS, .ref aF]) = HA at etp eF eSA SA NA ⊢
      refine ⟨tp, _, rfl, SqT.of etp, rfl, _, _, rfl, _, _, rfl, rfl, ?_⟩
      refine ⟨_, rfl, a, _, 0, _, rfl, rfl, SqT.of (SA _ _ ea), rfl, pk, sy.picks, rfl, Dp.same SA, nodup_tlt ok.pu, ok.pl, fun lp H2 S2 hlp PL => ?_⟩
      obtain ⟨as, elp, las, nas, has⟩ := PL
      have eF2 := S2 _ _ eF
      have eS2 := S2 _ _ eSA
      have N2 := NA.same S2
      have tpF : ∀ x ∈ [aF], ∀ xs, H2 x ≠ some (.tup xs) := fun x hx xs z => by
        cases List.mem_singleton.mp hx
        rw [eF2] at z
        cases z
      have lpF : lp ≠ aF := fun z => by rw [z, eF2] at elp; cases elp
      have SH2 := SA.trans S2
      have offF : ∀ {x : Addr} {o : HO}, H x = some o → x ∉ [aF] := fun {x o} e m => by
        rw [List.mem_singleton.mp m, hF0] at e
        cases e
      refine ⟨lp, rfl, ⟨_, SqL.of elp⟩, ?_⟩
      refine for_list (K := K) (a := lp) (xs := as.map V.ref) (fun j σ G => ∃ (o3 o4 o5 o6 o7 o8 o9 : Option V) (E : List DRow), σ = [some (.ref a), some (.ref aS), some (.ref aF), o3, o4, o5, o6, o7, o8, o9] ∧ Sb [aF] H2 G ∧ DnAt w G aF E ∧ KeysAt G E ∧ KysG mksD E (toldM sy ((playsD sy.picks.length).take j)) (40 * j))
        ⟨_, _, _, _, _, _, _, [], rfl, Sb.refl, .inr ⟨eF2, rfl⟩, fun p hp => absurd hp (by simp), KysG.nil⟩ (fun j σ G _ ⟨_, _, _, _, _, _, _, _, _, B, _⟩ => SqL.of (B _ _ (by simpa using lpF) elp)) ?_ ?_
      · rintro j x σ G hx ⟨o3, o4, o5, o6, o7, o8, o9, E, rfl, BG, dE, kE, KE⟩
        rw [List.getElem?_map] at hx
        obtain ⟨p, hp, rfl⟩ := Option.map_eq_some_iff.mp hx
        have jl : j < (playsD sy.picks.length).length := by rw [← las]; exact (List.getElem?_eq_some_iff.mp hp).1
        have hbs : (playsD sy.picks.length)[j]? = some (playsD sy.picks.length)[j] := List.getElem?_eq_getElem jl
        have ep2 := has j p _ hp hbs
        have hl' := plays_bits _ _ (List.getElem_mem jl)
        generalize (playsD sy.picks.length)[j] = bs at hbs ep2 hl'
        have npF : p ≠ aF := fun z => by
          have := nas p (List.mem_of_getElem? hp)
          rw [z, eF] at this
          cases this
        have ep := BG _ _ (by simpa using npF) ep2
        have eSG := BG _ _ (by simpa using nSF) eS2
        have NG := N2.tups (BG.tups tpF) (fun y hy => by obtain ⟨o', _, rfl⟩ := List.mem_map.mp hy; exact keyable_nms o'.2)
        refine ⟨aS, _, eSG, True.intro, fun od => ?_⟩
        have ekS : upd G aS (.frz od (.dK sk)) aS = some (.frz od (.dK sk)) := upd_same
        have Sl : ∀ {H'}, Same (upd G aS (.frz od (.dK sk))) H' → Same G (upd H' aS (.dK sk)) := fun S => lockS eSG S
        have npS : p ≠ aS := fun z => by
          have := nas p (List.mem_of_getElem? hp)
          rw [z, eSA] at this
          cases this
        have ep3 : upd G aS (.frz od (.dK sk)) p = some (.dK (truK sy.picks bs)) := by rw [upd_ne npS]; exact ep
        have ntS : ∀ ys, G aS ≠ some (.tup ys) := fun ys z => by rw [eSG] at z; cases z
        have N3 := NG.tups (Tups.upd (o := .frz od (.dK sk)) ntS) (fun y hy => by obtain ⟨o', _, rfl⟩ := List.mem_map.mp hy; exact keyable_nms o'.2)
        generalize upd G aS (.frz od (.dK sk)) = G3 at ekS Sl ep3 N3 ⊢
        have lsk : sk.length = sy.owns.length := by have := NA.1; rwa [List.length_map] at this
        refine ⟨_, rfl, aS, od, rfl, .inl ⟨_, ekS, fun D2 hD2 => ?_⟩⟩
        refine lc_it (walk_keys (d := aS) (o := od) (kvs := sk)) (fun i H4 => ∃ kn, Prs H4 D2 kn ∧ NK H4 kn ((sy.owns.take i).map fun o => (o.1, blsD (seesD sy.picks o.2 bs))) ∧ Same G3 H4) ⟨[], Prs.nil upd_same, NK.nil, same_new hD2⟩ (fun i H4 _ ⟨_, _, _, S⟩ => S _ _ ekS) ?_ ?_
        · rintro i x H4 H4' hi ⟨kn, PD4, N4', S4'⟩ ⟨rfl, k1, v1, hkv, rfl⟩
          have il : i < sy.owns.length := by omega
          have ho : sy.owns[i]? = some sy.owns[i] := List.getElem?_eq_getElem il
          obtain ⟨ek1, Dv1⟩ := N3.2 i (k1, v1) _ hkv (by rw [List.getElem?_map, ho]; rfl)
          generalize sy.owns[i] = o at ho ek1 Dv1
          have ek1 : k1 = .inr o.1 := ek1
          subst ek1
          obtain ⟨tv, us1, rfl, etv, Dus⟩ := dat_tup (ds := o.2.map PyData.str) Dv1
          have eus := dats_strs_eq Dus
          subst eus
          have om := List.mem_of_getElem? ho
          have og := ok.on o om
          have si := sees_is sy.picks o.2 bs ok.pu og.2.2.1 og.2.2.2 hl'
          have lsee := sees_len ok hl' om
          have opl := (ok.own om).le
          have ppl := ok.pl
          refine ⟨rfl, yes_of ⟨_, rfl, _, rfl, _, rfl, aS, .ref tv, rfl, .inl ⟨sk, .inr o.1, .inr ⟨od, S4' _ _ ekS⟩, rfl, (valV_at skn hkv).symm⟩, tv, rfl, ⟨_, SqT.of (S4' _ _ etv)⟩, fun D3 hD3 => ?_⟩⟩
          refine lc_tup (K := K) (a := tv) (xs := o.2.map V.str) (fun c H6 => H6 D3 = some (.lst (((seesD sy.picks o.2 bs).take c).map V.bl)) ∧ Same H4' H6) ⟨upd_same, same_new hD3⟩ (fun c H6 _ h => SqT.of (h.2 _ _ (S4' _ _ etv))) ?_ ?_
          · rintro c x6 H6 hx6 ⟨e6, S6'⟩
            rw [List.getElem?_map] at hx6
            obtain ⟨y, hy, rfl⟩ := Option.map_eq_some_iff.mp hx6
            have cl6 : c < o.2.length := (List.getElem?_eq_some_iff.mp hy).1
            have hs : (seesD sy.picks o.2 bs)[c]? = some ((seesD sy.picks o.2 bs)[c]'(by omega)) := List.getElem?_eq_getElem (by omega)
            generalize (seesD sy.picks o.2 bs)[c]'(by omega) = tb at hs
            have ty : truOf sy.picks bs y = some tb := by
              have z : (o.2.map fun x => truOf sy.picks bs x)[c]? = ((seesD sy.picks o.2 bs).map some)[c]? := by rw [si]
              rw [List.getElem?_map, List.getElem?_map, hy, hs] at z
              exact Option.some.inj z
            have tv2 := tru_val y sy.picks bs
            rw [ty] at tv2
            refine ⟨rfl, yes_of ⟨_, rfl, _, rfl, p, .bl tb, rfl, .inl ⟨_, .inr y, .inl (S6' _ _ (S4' _ _ ep3)), rfl, tv2.symm⟩, _, e6, ?_, ?_, same_upd S6' hD3⟩⟩
            · rw [List.length_map, List.length_take]
              exact small1000 (by omega)
            · rw [upd_same, take_next hs, List.map_append]
              rfl
          · rintro H6 ⟨e6, S6'⟩
            rw [List.length_map, ← lsee, List.take_length] at e6
            refine .inl ⟨D3, _, rfl, SqL.of e6, fun tt htt => ⟨(by show 2 ≤ sizeLine; decide), fun tq htq => ?_⟩⟩
            have T1 := same_new (o := .tup ((seesD sy.picks o.2 bs).map V.bl)) htt
            have ett : upd H6 tt (.tup ((seesD sy.picks o.2 bs).map V.bl)) tt = some (.tup ((seesD sy.picks o.2 bs).map V.bl)) := upd_same
            generalize upd H6 tt (.tup ((seesD sy.picks o.2 bs).map V.bl)) = H7 at T1 ett htq ⊢
            have T2 := same_new (o := .tup [kV (.inr o.1), .ref tt]) htq
            have etq : upd H7 tq (.tup [kV (.inr o.1), .ref tt]) tq = some (.tup [kV (.inr o.1), .ref tt]) := upd_same
            have ett2 := T2 _ _ ett
            show ∃ acc, (upd H7 tq (.tup [kV (.inr o.1), .ref tt])) D2 = some (.lst acc) ∧ _
            have S9 := (S6'.trans T1).trans T2
            have PD9 := PD4.same S9
            have N9 := N4'.same S9
            have S39 := S4'.trans S9
            obtain ⟨xs, exs, lxs⟩ := PD9.len
            have lN := N4'.1
            rw [List.length_map, List.length_take] at lN
            refine ⟨xs, exs, by rw [lxs, lN]; exact small1000 (by omega), kn ++ [(.inr o.1, .ref tt)], PD9.push (k := .inr o.1) exs etq, ?_, same_upd S39 hD2⟩
            rw [take_next ho, List.map_append]
            have nt : ∀ ys, upd H7 tq (.tup [kV (.inr o.1), .ref tt]) D2 ≠ some (.tup ys) := fun ys z => by rw [exs] at z; cases z
            have Dt : Dat (upd H7 tq (.tup [kV (.inr o.1), .ref tt])) (.ref tt) (blsD (seesD sy.picks o.2 bs)) := .tup ett2 (dats_bls _)
            exact (N9.snoc Dt).tups (Tups.upd nt) (fun y hy => by
              rcases List.mem_append.mp hy with m | m
              · obtain ⟨o', _, rfl⟩ := List.mem_map.mp m
                exact keyable_bls _
              · cases List.mem_singleton.mp m
                exact keyable_bls _)
        · rintro H4 ⟨kn, PD4, N4', S4'⟩
          rw [List.take_of_length_le (Nat.le_of_eq lsk.symm)] at N4'
          refine ⟨S4' _ _ ekS, ?_⟩
          have SU := Sl S4'
          have ntS4 : ∀ ys, H4 aS ≠ some (.tup ys) := fun ys z => by rw [S4' _ _ ekS] at z; cases z
          have N5 := N4'.tups (Tups.upd (o := .dK sk) ntS4) (fun y hy => by obtain ⟨o', _, rfl⟩ := List.mem_map.mp hy; exact keyable_bls _)
          have PD5 : Prs (upd H4 aS (.dK sk)) D2 kn := by
            obtain ⟨qs, e1, e2, e3⟩ := PD4
            have off : ∀ {q' : Addr} {o : HO}, H4 q' = some o → o ≠ .frz od (.dK sk) → upd H4 aS (.dK sk) q' = some o := fun {q' o} z n => by
              rw [upd_ne (fun y => by rw [y, S4' _ _ ekS] at z; exact n (Option.some.inj z).symm)]
              exact z
            exact ⟨qs, off e1 (by intro z; cases z), e2, fun i q kv h1 h2 => off (e3 i q kv h1 h2) (by intro z; cases z)⟩
          generalize upd H4 aS (.dK sk) = H5 at SU N5 PD5 ⊢
          have knn : (kn.map Prod.fst).Nodup := by
            rw [N5.keys, List.map_map]
            exact inr_nodup (ps := sy.owns.map Prod.fst) ond |> fun z => by rwa [List.map_map] at z
          obtain ⟨qs, e1, e2, e3⟩ := PD5
          refine ⟨D2, qs, kn, rfl, SqL.of e1, paired_of _ _ e2 fun i q kv h1 h2 => SqT.of (e3 i q kv h1 h2), fun aK hK => ?_⟩
          rw [mergeK_new kn [] (fun x _ y hy => absurd hy (by simp)) knn, List.nil_append]
          have S6 := same_new (o := .dK kn) hK
          have eK : upd H5 aK (.dK kn) aK = some (.dK kn) := upd_same
          have SG := SU.trans S6
          have N6 := N5.same S6
          have dE5 := dE.same SG
          have kE5 := kE.same SG
          have BG5 := BG.same SG
          have hK0 : G aK = none := SU.free hK
          have nKF : aK ≠ aF := fun z => by
            rw [z] at hK0
            rcases dE with e | ⟨e, _⟩ <;> rw [hK0] at e <;> cases e
          generalize upd H5 aK (.dK kn) = G5 at S6 eK SG N6 dE5 kE5 BG5 ⊢
          have tpG5 : ∀ x ∈ [aF], ∀ xs, G5 x ≠ some (.tup xs) := fun x hx xs => by
            cases List.mem_singleton.mp hx
            exact dn_noTup dE5 xs
          have ep5 := SG _ _ ep
          have SHG : ∀ {x : Addr} {o : HO}, H x = some o → G5 x = some o := fun {x o} e => BG5 _ _ (offF e) (SH2 _ _ e)
          refine ⟨_, rfl, a, _, 2, _, rfl, rfl, SqT.of (SHG ea), rfl, k, rfl, ⟨_, SqT.of (SHG ek)⟩, ?_⟩
          refine for_tup (K := K) (a := k) (xs := cs) (fun i σ G6 => ∃ (o5 o6 o7 o8 o9 : Option V) (E : List DRow), σ = [some (.ref a), some (.ref aS), some (.ref aF), some (.ref p), some (.ref aK), o5, o6, o7, o8, o9] ∧ Sb [aF] G5 G6 ∧ DnAt w G6 aF E ∧ KeysAt G6 E ∧
            KysG mksD E (toldM sy ((playsD sy.picks.length).take j) ++ ((sy.cls.take i).filter fun cl => !dead sy bs cl).map fun cl => marks sy bs cl) (40 * j + i)) ⟨_, _, _, _, _, E, rfl, Sb.refl, dE5, kE5, by rw [List.take_zero, List.filter_nil, List.map_nil, List.append_nil]; exact KE⟩
            (fun i σ G6 _ ⟨_, _, _, _, _, _, _, B, _⟩ => SqT.of (B _ _ (offF ek) (SHG ek))) ?_ ?_
          · rintro i x σ G6 hx ⟨o5, o6, o7, o8, o9, E6, rfl, B6, dE6, kE6, KE6⟩
            obtain ⟨d, hd, Dx⟩ := dats_get' Dk i x hx
            obtain ⟨cl, hcl, rfl⟩ := get_map hd
            obtain ⟨kc, ys, rfl, ekc, Dkc⟩ := dat_tup (ds := cl.map ltD) Dx
            have ck := ok.ck cl (List.mem_of_getElem? hcl)
            have lcn := Nat.le_trans (cl_len ck) ok.nlen
            have ly : ys.length = cl.length := by rw [Dkc.len, List.length_map]
            have G6H : ∀ {x : Addr} {o : HO}, H x = some o → G6 x = some o := fun {x o} e => B6 _ _ (offF e) (SHG e)
            have ep6 := B6 _ _ (by simpa using npF) ep5
            have eK6 := B6 _ _ (by simpa using nKF) eK
            have NK6 := N6.tups (B6.tups tpG5) (fun y hy => by obtain ⟨o', _, rfl⟩ := List.mem_map.mp hy; exact keyable_bls _)
            refine ⟨_, rfl, kc, rfl, ⟨_, SqT.of (G6H ekc)⟩, fun D4 hD4 => lc_mapT (K := K) (ys := (cl.map fun l => decide (truOf sy.picks bs l.1 = some l.2)).map V.bl) (SqT.of (G6H ekc)) hD4 (by rw [List.length_map, List.length_map, ly]) (by omega) (fun c x y H7 Qe hx7 hy7 S7 kq => ?_) gPair_mono (fun H7 e7 S7 => ?_)⟩
            · obtain ⟨d7, hd7, Dx7⟩ := dats_get' Dkc c x hx7
              obtain ⟨l, hl, rfl⟩ := get_map hd7
              obtain ⟨t, rfl, et⟩ := ltr_row Dx7
              have ey : y = V.bl (decide (truOf sy.picks bs l.1 = some l.2)) := by
                rw [List.getElem?_map, List.getElem?_map, hl] at hy7
                exact (Option.some.inj hy7).symm
              have tv := tru_val l.1 sy.picks bs
              rw [ey] at kq
              refine ⟨t, _, rfl, SqT.of (S7 _ _ (G6H et)), rfl, _, _, rfl, _, _, rfl, rfl, rfl, _, rfl, _, rfl, p, _, rfl, .inl ⟨_, .inr l.1, .inl (S7 _ _ ep6), rfl, rfl⟩, _, rfl, ?_⟩
              rw [tv]
              cases htr : truOf sy.picks bs l.1 with
              | none =>
                rw [if_neg (by decide)]
                rw [htr] at kq
                exact kq H7 (Same.refl _)
              | some tb =>
                rw [if_pos (show (Option.map V.bl (some tb)).isSome = true from rfl)]
                rw [htr] at kq tv
                refine ⟨_, rfl, _, rfl, p, .bl tb, rfl, .inl ⟨_, .inr l.1, .inl (S7 _ _ ep6), rfl, tv.symm⟩, _, rfl, rfl, ?_⟩
                have ed : decide (V.bl tb = V.bl l.2) = decide (some tb = some l.2) := by
                  by_cases z : tb = l.2
                  · rw [decide_eq_true (by rw [z]), decide_eq_true (by rw [z])]
                  · rw [decide_eq_false (fun q => z (V.bl.inj q)), decide_eq_false (fun q => z (Option.some.inj q))]
                rw [ed]
                exact kq H7 (Same.refl _)
            · refine ⟨D4, _, rfl, SqL.of e7, ?_⟩
              rw [dead_any ok hl' cl]
              have NK7 := NK6.same S7
              have eK7 := S7 _ _ eK6
              have ekc7 := S7 _ _ (G6H ekc)
              have B7 := B6.same S7
              have dE7 := dE6.same S7
              have kE7 := kE6.same S7
              have G7H : ∀ {x : Addr} {o : HO}, H x = some o → H7 x = some o := fun {x o} e => S7 _ _ (G6H e)
              refine ⟨_, rfl, ?_⟩
              have fl : (sy.cls.take (i + 1)).filter (fun cl => !dead sy bs cl) = (sy.cls.take i).filter (fun cl => !dead sy bs cl) ++ (if dead sy bs cl = true then [] else [cl]) := by
                rw [take_next hcl, List.filter_append]
                congr 1
                cases h : dead sy bs cl <;> simp [h]
              cases dd : dead sy bs cl with
              | true =>
                show if (!true) = true then _ else _
                rw [if_neg (by decide)]
                refine ⟨_, _, _, _, _, E6, rfl, B7, dE7, kE7, ?_⟩
                rw [fl, if_pos dd, List.append_nil]
                exact KE6.up (Nat.le_succ _)
              | false =>
                show if (!false) = true then _ else _
                rw [if_pos (show (!false) = true from rfl)]
                refine ⟨_, rfl, _, rfl, kc, rfl, ⟨_, SqT.of ekc7⟩, fun D5 hD5 => ?_⟩
                refine lc_tup (K := K) (a := kc) (xs := ys) (fun c H8 => ∃ T : List TRow, H8 D5 = some (.lst (T.map TRow.v)) ∧ T.map Prod.snd = (marks sy bs (cl.take c)).map mkD ∧ (∀ r ∈ T, Dat H8 r.v r.2) ∧ Same H7 H8) ⟨[], upd_same, rfl, fun r hr => absurd hr (by simp), same_new hD5⟩ (fun c H8 _ ⟨_, _, _, _, S⟩ => SqT.of (S _ _ ekc7)) ?_ ?_
                · rintro c x H8 hx8 ⟨T, e8, dT, DT, S8⟩
                  obtain ⟨d8, hd8, Dx8⟩ := dats_get' Dkc c x hx8
                  obtain ⟨l, hl, rfl⟩ := get_map hd8
                  obtain ⟨t, rfl, et⟩ := ltr_row Dx8
                  have mk := marks_snoc sy bs (cl.take c) l
                  rw [← take_next hl] at mk
                  have kT : ∀ r ∈ T, keyable r.2 = true := fun r hr => by
                    have m : r.2 ∈ (marks sy bs (cl.take c)).map mkD := dT ▸ List.mem_map_of_mem hr
                    obtain ⟨z, _, hz⟩ := List.mem_map.mp m
                    rw [← hz]
                    exact keyable_mk z
                  have lT : T.length ≤ cl.length := by
                    rw [← List.length_map (f := Prod.snd), dT, List.length_map]
                    refine Nat.le_trans (marks_len _ _ _) ?_
                    rw [List.length_take]
                    exact Nat.min_le_right _ _
                  refine ⟨t, _, rfl, SqT.of (S8 _ _ (G7H et)), rfl, _, _, rfl, _, _, rfl, rfl, rfl, _, rfl, _, rfl, aK, _, rfl, DGet.k (k := .inr l.1) (S8 _ _ eK7), _, rfl, ?_⟩
                  rcases kn_find NK7 l.1 with ⟨sn, vn⟩ | ⟨tr, v, ss, vs, Dv⟩
                  · rw [vn, if_neg (by decide)]
                    rw [sn] at mk
                    exact ⟨T, e8, by rw [dT, mk]; simp, DT, S8⟩
                  · rw [vs, if_pos (show (some v).isSome = true from rfl)]
                    rw [ss] at mk
                    refine ⟨_, rfl, _, rfl, _, rfl, aK, v, rfl, .inl ⟨kn, .inr l.1, .inl (S8 _ _ eK7), rfl, vs.symm⟩, _, rfl, (by show 3 ≤ sizeLine; decide), fun t9 ht9 => ?_⟩
                    have S9 := same_new (o := .tup [.str l.1, v, .bl l.2]) ht9
                    have e9 := S9 _ _ e8
                    refine ⟨_, e9, by rw [List.length_map]; exact small1000 (by omega), T ++ [(t9, mkD (l.1, tr, l.2))], by rw [upd_same, List.map_append]; rfl, by rw [List.map_append, dT, mk, List.map_append]; rfl, fun r hr => ?_, same_upd (S8.trans S9) hD5⟩
                    rcases List.mem_append.mp hr with m | m
                    · exact dat_upd e9 (kT r m) ((DT r m).same S9)
                    · cases List.mem_singleton.mp m
                      exact dat_upd e9 (keyable_mk _) (.tup upd_same (.cons (.str _) (.cons (Dv.same (S8.trans S9)) (.cons (.bl _) .nil))))
                · rintro H8 ⟨T, e8, dT, DT, S8⟩
                  rw [ly, List.take_length] at dT
                  refine .inl ⟨D5, _, rfl, SqL.of e8, fun tt htt => ?_⟩
                  have S9 := same_new (o := .tup (T.map TRow.v)) htt
                  have Dm : Dat (upd H8 tt (.tup (T.map TRow.v))) (.ref tt) (mksD (marks sy bs cl)) := .tup upd_same (by
                    rw [← dT]
                    exact dats_rows fun r hr => (DT r hr).same S9)
                  have S79 := S8.trans S9
                  have dE9 := dE7.same S79
                  have kE9 := kE7.same S79
                  have B9 := B7.same S79
                  generalize upd H8 tt (.tup (T.map TRow.v)) = H9 at Dm dE9 kE9 B9 ⊢
                  have lE := KE6.len
                  have p64 : 2 ^ sy.picks.length ≤ 2 ^ 6 := Nat.pow_le_pow_right (by decide) ok.pl
                  rw [plays_len] at jl
                  have il : i < sy.cls.length := (List.getElem?_eq_some_iff.mp hcl).1
                  refine ⟨aF, tt, E6, mksD (marks sy bs cl), rfl, rfl, dE9, kE9, Dm, enc_mks.k _, enc_mks.d _, small16 (by omega), ?_⟩
                  refine ⟨_, _, _, _, _, _, rfl, B9.put (by simp), .inl upd_same, keys_tups (keys_put (v := .bl true) kE9 Dm (enc_mks.k _) (enc_mks.d _)) (Tups.upd (dn_noTup dE9)), ?_⟩
                  rw [fl, if_neg (by rw [dd]; decide), List.map_append, ← List.append_assoc]
                  exact KE6.put enc_mks
          · rintro σ G6 ⟨o5, o6, o7, o8, o9, E6, rfl, B6, dE6, kE6, KE6⟩
            rw [lk, List.take_length] at KE6
            refine ⟨_, _, _, _, _, _, _, E6, rfl, fun b o nb e => B6 b o nb (BG5 b o nb e), dE6, kE6, ?_⟩
            have z : toldM sy ((playsD sy.picks.length).take (j + 1)) = toldM sy ((playsD sy.picks.length).take j) ++ (sy.cls.filter fun cl => !dead sy bs cl).map fun cl => marks sy bs cl := by
              unfold toldM
              rw [take_next hbs, List.flatMap_append, List.flatMap_cons, List.flatMap_nil, List.append_nil]
            rw [z]
            exact KE6.up (by omega)
      · rintro σ G ⟨o3, o4, o5, o6, o7, o8, o9, E, rfl, BG, dE, kE, KE⟩
        rw [List.length_map, las, List.take_length] at KE
        refine ⟨_, rfl, aF, E, rfl, dE, kE, fun l hl => ?_⟩
        obtain ⟨S', eS', lS', iff⟩ := KE.list
        have Sl := same_new (o := .lst ((E.map Prod.fst).map TRow.v)) hl
        have p64 : 2 ^ sy.picks.length ≤ 2 ^ 6 := Nat.pow_le_pow_right (by decide) ok.pl
        have lE := KE.len
        rw [plays_len] at lE
        have SHF : Same H G := fun x o e => BG _ _ (offF e) (SH2 _ _ e)
        refine q l _ S' (SHF.trans Sl) (SHF.free hl) ⟨E.map Prod.fst, upd_same, eS', fun r hr => ?_⟩ (iff enc_mks.inj) (by omega)
        obtain ⟨p, hp, rfl⟩ := List.mem_map.mp hr
        exact ((kE p hp).1).same Sl
end
end S1

set_option Elab.async false
set_option linter.all false
set_option maxRecDepth 100000
set_option maxHeartbeats 4000000
/-! copies, tables, and whether all is so, by the law -/
namespace S1
open PySem PySem.W PySem.Spec PyProof.Rows L2
theorem range_add (a b : Nat) : List.range (a + b) = List.range a ++ (List.range b).map (a + ·) := by
  rw [List.range_eq_range', List.range_eq_range', List.range_eq_range', ← List.range'_append_1, Nat.zero_add]
  congr 1
  rw [List.map_add_range', Nat.add_zero]
/-- what is seen, by its place -/
theorem seen_bits2 : ∀ n, seenD n = (List.range (2 ^ n)).map fun spot => (List.range n).map fun at_ => spot.testBit at_
  | 0 => rfl
  | n + 1 => by
    have ih := seen_bits2 n
    rw [show seenD (n + 1) = (seenD n).map (· ++ [false]) ++ (seenD n).map (· ++ [true]) from rfl, ih]
    rw [show 2 ^ (n + 1) = 2 ^ n + 2 ^ n by rw [Nat.pow_succ]; omega, range_add (2 ^ n) (2 ^ n), List.map_append, List.map_map, List.map_map, List.map_map]
    congr 1
    · refine List.map_congr_left fun s hs => ?_
      have sl : s < 2 ^ n := List.mem_range.mp hs
      show (List.range n).map (fun at_ => s.testBit at_) ++ [false] = (List.range (n + 1)).map fun at_ => s.testBit at_
      rw [List.range_succ, List.map_append, List.map_singleton, Nat.testBit_lt_two_pow sl]
    · refine List.map_congr_left fun s hs => ?_
      have sl : s < 2 ^ n := List.mem_range.mp hs
      have nb : s.testBit n = false := Nat.testBit_lt_two_pow sl
      show (List.range n).map (fun at_ => s.testBit at_) ++ [true] = (List.range (n + 1)).map fun at_ => (2 ^ n + s).testBit at_
      rw [List.range_succ, List.map_append, List.map_singleton, tb_add n s n nb, decide_eq_true rfl, Bool.true_or]
      congr 1
      refine List.map_congr_left fun i hi => ?_
      have il : i < n := List.mem_range.mp hi
      show s.testBit i = (2 ^ n + s).testBit i
      rw [tb_add n s i nb, decide_eq_false (by omega), Bool.false_or]
theorem seen_get {n spot : Nat} (h : spot < 2 ^ n) : (seenD n)[spot]? = some ((List.range n).map fun at_ => spot.testBit at_) := by
  rw [seen_bits2, List.getElem?_map, List.getElem?_range h]
  rfl
theorem bit_eq (t i : Nat) : decide (V.int (Builtin.bitAnd (((t : Nat) : Int) / 2 ^ ((0 : Int) + ((i : Nat) : Int)).toNat) 1) = V.int 1) = t.testBit i := by
  rw [bitAnd_m1, Int.zero_add, Int.toNat_natCast, Nat.testBit_eq_decide_div_mod_eq]
  have : (((t : Nat) : Int) / 2 ^ i) % 2 = ((t / 2 ^ i % 2 : Nat) : Int) := by
    rw [show ((2 : Int) ^ i) = ((2 ^ i : Nat) : Int) by rw [Int.natCast_pow]; rfl]
    rfl
  rw [this]
  rcases Nat.mod_two_eq_zero_or_one (t / 2 ^ i) with z | z <;> rw [z] <;> rfl
theorem cop_snoc (os : List Own) (o : Own) : copD (os ++ [o]) = copD os ++ (seenD o.2.length).map fun t => (o.1, t) := by
  unfold copD
  rw [List.flatMap_append, List.flatMap_cons, List.flatMap_nil, List.append_nil]
structure OwsOk (os : List Own) : Prop where
  ol : os.length ≤ 8
  oc : copies os ≤ 120
  le : ∀ o ∈ os, o.2.length ≤ 6
def spLCopies : Sp := fun vs H Q _ => ∃ (v : V) (os : List Own), vs = [v] ∧ DatO H v os ∧ OwsOk os ∧ ∀ (l : Addr) (H' : Hp), Rows H H' l ((copD os).map cpD) → Q (.ref l) H'
abbrev nLC : List Str := ["owns", "found", "name", "sight", "spot", "at"]
section
variable {P : Program} {w : World} {K : PySem.W.Frag} {mg : Str → Option Value} {base : Heap}
theorem scLCopies : FnScope nLC ["owns"] (defScope sLCopies) := ⟨rfl, rfl, rfl, by decide +kernel, rfl, by decide +kernel, by decide +kernel⟩
theorem ok_lCopies {f : Addr} {fd : FuncData} (F : Fun K "_law_copies" "_law_copies" sLCopies f fd) (B : Blt mg) : FnOk P w K mg base CX0 1 f fd ["owns"] spLCopies := by
  refine F.ok scLCopies (fun vs H Q E h => ?_) (fun cdv A outer s H vs Q E hr h => ?_)
  · obtain ⟨v, os, rfl, _⟩ := h
    rfl
  · obtain ⟨v, os, rfl, D, ok, q⟩ := h
    refine ⟨_, pss_cons (ps_set (i := 1) scLCopies.nd rfl (.inl rfl) (pe_lst pa_nil))
      (pss_cons (ps_for PassesOwn.never rfl (pi_tup (pv 0)) (pg_tup rfl (pgs_cons (pg_name (i := 2) scLCopies.nd rfl (.inl rfl)) (pgs_cons (pg_name (i := 3) scLCopies.nd rfl (.inl rfl)) pgs_nil)))
        (pss_one (ps_for PassesOwn.never rfl (pi_range1 rfl B.range (pa_cons (pe_op op_shl pe_int (pe_callB call_len_seq (by rfl) B.len (by decide +kernel) (pa_cons (pv 3) pa_nil))) pa_nil)) (pg_name (i := 4) scLCopies.nd rfl (.inr rfl))
          (pss_one (ps_expr (pe_bm PySem.F.plainAttrs_list PySem.F.slot_list_append PySem.F.type_list_append mt_append (pv 1) (pa_cons (pe_tup (pa_cons (pv 2) (pa_cons (pe_tupleOf rfl B.tuple
            (pe_lc (own := [("at", 5)]) (g := gName 5) (tt := tYes) (te := tOp rEq (tOp (rI0 fun i j => V.int (Builtin.bitAnd i j)) (tOp (rI (fun _ j => 0 ≤ j) fun i j => .int (i / 2 ^ j.toNat)) (tVar 4) (tVar 5)) (tC (V.int 1))) (tC (V.int 1))) rfl scLCopies.nd
              (pi_range1 rfl B.range (pa_cons (pe_callB call_len_seq (by rfl) B.len (by decide +kernel) (pa_cons (pv 3) pa_nil)) pa_nil)) (blkOk_by (N := nLC) (sc := defScope sLCopies) (by decide +kernel)) (fun _ _ _ _ _ => pg_name (i := 5) scLCopies.nd rfl (Or.inl rfl)) (fun _ _ _ _ _ => pts_nil)
              (fun _ _ _ _ _ => by exact pe_cmpR op_eq (pe_op op_and (pe_op op_shr (pv 4) (pv 5)) pe_int) pe_int (nomark _)))) pa_nil))) pa_nil)))))))
      (pss_one (ps_ret (pv 1)))), ?_⟩
    obtain ⟨b, us, rfl, eb, Db⟩ := D
    have lu : us.length = os.length := by rw [Db.len, List.length_map]
    have lo := ok.ol
    have loc := ok.oc
    refine ⟨Nat.zero_le _, fun l hl => ?_⟩
    have S0 := same_new (o := .lst []) hl
    refine ⟨_, rfl, b, rfl, ⟨_, FT.sq (FT.same eb S0)⟩, ?_⟩
    refine for_tup (K := K) (a := b) (xs := us) (fun i σ G => ∃ (o2 o3 o4 o5 : Option V) (T : List TRow), σ = [some (.ref b), some (.ref l), o2, o3, o4, o5] ∧ G l = some (.lst (T.map TRow.v)) ∧ T.map Prod.snd = (copD (os.take i)).map cpD ∧ (∀ q ∈ T, Dat G q.v q.2) ∧ Same H G)
      ⟨_, _, _, _, [], rfl, upd_same, rfl, fun q hq => absurd hq (by simp), S0⟩ (fun i σ G _ ⟨_, _, _, _, _, _, _, _, _, S⟩ => FT.sq (FT.same eb S)) ?_ ?_
    · rintro i x σ G hx ⟨o2, o3, o4, o5, T, rfl, eG, dT, DT, SG⟩
      obtain ⟨d, hd, Dx⟩ := dats_get' Db i x hx
      obtain ⟨o, ho, rfl⟩ := get_map hd
      obtain ⟨t, rfl⟩ := tuple_ref (ds := [.str o.1, nmsD o.2]) Dx
      obtain ⟨t', g1, g2⟩ := own_row (q := (t, ownD o)) rfl Dx
      have ole := ok.le o (List.mem_of_getElem? ho)
      have il : i < os.length := (List.getElem?_eq_some_iff.mp ho).1
      refine ⟨t, _, rfl, SqT.of (SG _ _ g1), rfl, _, _, rfl, _, _, rfl, rfl, ?_⟩
      have e2n : (1 : Int) * 2 ^ (((o.2.map V.str).length : Int)).toNat = ((2 ^ o.2.length : Nat) : Int) := by
        rw [List.length_map, Int.toNat_natCast, Int.one_mul, Int.natCast_pow]
        rfl
      have p64 : 2 ^ o.2.length ≤ 2 ^ 6 := Nat.pow_le_pow_right (by decide) ole
      have ppos : 0 < 2 ^ o.2.length := Nat.two_pow_pos _
      refine ⟨_, rfl, _, _, rfl, .inr (SqT.of (SG _ _ g2)), _, _, rfl, rfl, ⟨by omega, by rw [List.length_map]; omega, by decide⟩, _, rfl, by rw [e2n]; omega, by rw [e2n]; omega, ?_⟩
      rw [e2n]
      refine for_range (lo := 0) (n := ((2 ^ o.2.length : Nat) : Int).toNat) (fun c σ G1 => ∃ (o4 o5 : Option V) (T1 : List TRow), σ = [some (.ref b), some (.ref l), some (.str o.1), some (.ref t'), o4, o5] ∧ G1 l = some (.lst (T1.map TRow.v)) ∧ T1.map Prod.snd = (copD (os.take i) ++ ((seenD o.2.length).take c).map fun t => (o.1, t)).map cpD ∧ (∀ q ∈ T1, Dat G1 q.v q.2) ∧ Same H G1)
        ⟨_, _, T, rfl, eG, by rw [List.take_zero, List.map_nil, List.append_nil]; exact dT, DT, SG⟩ ?_ ?_
      · rintro c σ G1 hc ⟨o4, o5, T1, rfl, e1, d1, D1, S1⟩
        have hc2 : c < 2 ^ o.2.length := by rw [Int.toNat_natCast] at hc; exact hc
        have sg := seen_get hc2
        refine ⟨_, rfl, .inl ⟨rfl, _, SqL.of e1⟩, _, rfl, _, rfl, _, _, rfl, .inr (SqT.of (S1 _ _ g2)), _, rfl, by rw [List.length_map]; omega, by rw [List.length_map]; omega, fun D2 hD2 => ?_⟩
        refine lc_range (lo := 0) (n := (((o.2.map V.str).length : Nat) : Int).toNat) (fun j G2 => G2 D2 = some (.lst (((List.range j).map fun at_ => c.testBit at_).map V.bl)) ∧ Same G1 G2) ⟨upd_same, same_new hD2⟩ ?_ ?_
        · rintro j G2 hj ⟨e2, S2⟩
          have jl : j < o.2.length := by rw [Int.toNat_natCast, List.length_map] at hj; exact hj
          refine ⟨rfl, yes_of ⟨_, rfl, _, rfl, _, _, rfl, rfl, (show (0 : Int) ≤ 0 + (j : Nat) by omega), _, _, rfl, rfl, rfl, ?_⟩⟩
          refine ⟨_, e2, by rw [List.length_map, List.length_map, List.length_range]; exact small1000 (by omega), ?_, same_upd S2 hD2⟩
          rw [upd_same, List.range_succ, List.map_append, List.map_append]
          congr 3
          refine congrArg (fun b => [V.bl b]) ?_
          have z := bit_eq c j
          rw [Int.zero_add] at z ⊢
          rw [Int.zero_add]
          exact z
        · rintro G2 ⟨e2, S2⟩
          rw [Int.toNat_natCast, List.length_map] at e2
          refine .inl ⟨D2, _, rfl, SqL.of e2, fun tt htt => ⟨(by show 2 ≤ sizeLine; decide), fun tq htq => ?_⟩⟩
          have T1' := same_new (o := .tup (((List.range o.2.length).map fun at_ => c.testBit at_).map V.bl)) htt
          have ett : upd G2 tt (.tup (((List.range o.2.length).map fun at_ => c.testBit at_).map V.bl)) tt = some (.tup (((List.range o.2.length).map fun at_ => c.testBit at_).map V.bl)) := upd_same
          generalize upd G2 tt (.tup (((List.range o.2.length).map fun at_ => c.testBit at_).map V.bl)) = G3 at T1' ett htq ⊢
          have S4 := same_new (o := .tup [.str o.1, .ref tt]) htq
          have Dq : Dat (upd G3 tq (.tup [.str o.1, .ref tt])) (.ref tq) (cpD (o.1, (List.range o.2.length).map fun at_ => c.testBit at_)) := .tup upd_same (.cons (.str _) (.cons (.tup (S4 _ _ ett) (dats_bls _)) .nil))
          have S5 := (S2.trans T1').trans S4
          generalize upd G3 tq (.tup [.str o.1, .ref tt]) = G4 at S4 S5 Dq ⊢
          have e5 := S5 _ _ e1
          have lT1 : T1.length ≤ 240 := by
            rw [← List.length_map (f := Prod.snd), d1, List.length_map, List.length_append, cop_len, List.length_map, List.length_take]
            have := copies_take os i
            omega
          refine ⟨l, _, _, rfl, rfl, e5, by rw [List.length_map]; exact small1000 (by omega), ?_⟩
          refine ⟨_, _, T1 ++ [(tq, cpD (o.1, (List.range o.2.length).map fun at_ => c.testBit at_))], rfl, by rw [upd_same, List.map_append]; rfl, ?_, fun q hq => ?_, same_upd (S1.trans S5) hl⟩
          · rw [List.map_append, d1, take_next sg]
            simp only [List.map_append, List.append_assoc, List.map_cons, List.map_nil]
          · rcases List.mem_append.mp hq with m | m
            · have kq : keyable q.2 = true := by
                have m2 : q.2 ∈ (copD (os.take i) ++ ((seenD o.2.length).take c).map fun t => (o.1, t)).map cpD := d1 ▸ List.mem_map_of_mem m
                obtain ⟨z, _, hz⟩ := List.mem_map.mp m2
                rw [← hz]
                exact keyable_cp z
              exact dat_upd e5 kq ((D1 q m).same S5)
            · cases List.mem_singleton.mp m
              exact dat_upd e5 (keyable_cp _) Dq
      · rintro σ G1 ⟨o4, o5, T1, rfl, e1, d1, D1, S1⟩
        rw [Int.toNat_natCast, ← seen_len, List.take_length] at d1
        refine ⟨_, _, _, _, T1, rfl, e1, ?_, D1, S1⟩
        rw [take_next ho, cop_snoc]
        exact d1
    · rintro σ G ⟨o2, o3, o4, o5, T, rfl, eG, dT, DT, SG⟩
      rw [lu, List.take_length] at dT
      exact ⟨_, rfl, q l G ⟨SG, hl, T, eG, dT, DT⟩⟩
end
/-- truths of copies in a dict -/
def Vls (w : World) (H : Hp) (D : Addr) (cs : List Cpy) (r : Cpy → Bool) : Prop := ∃ E, DnAt w H D E ∧ KeysAt H E ∧ ∀ c ∈ cs, lookN E (cpD c) = some (V.bl (r c))
theorem Vls.same {w : World} {H H' : Hp} {D : Addr} {cs : List Cpy} {r : Cpy → Bool} (h : Vls w H D cs r) (S : Same H H') : Vls w H' D cs r := let ⟨E, a, b, c⟩ := h; ⟨E, a.same S, b.same S, c⟩
def soM (r : Cpy → Bool) (ms : List Mk) : Bool := ms.any fun m => decide (r (m.1, m.2.1) = m.2.2)
def spIsSo (w : World) : Sp := fun vs H Q _ => ∃ (l D : Addr) (S : List (List Mk)) (cs : List Cpy) (r : Cpy → Bool), vs = [.ref l, .ref D] ∧ Mks H l S ∧ Vls w H D cs r ∧ (∀ ms ∈ S, ms.length ≤ 14 ∧ ∀ m ∈ ms, ((m.1, m.2.1) : Cpy) ∈ cs) ∧ S.length ≤ 2560 ∧ ∀ H', Same H H' → Q (.bl (S.all (soM r))) H'
theorem mk_row {H : Hp} {v : V} {m : Mk} (D : Dat H v (mkD m)) : ∃ t y, v = .ref t ∧ H t = some (.tup [.str m.1, y, .bl m.2.2]) ∧ Dat H y (blsD m.2.1) := by
  obtain ⟨t, xs, rfl, e, h⟩ := dat_tup (ds := [.str m.1, blsD m.2.1, .bool m.2.2]) D
  cases h with
  | cons a h =>
    cases h with
    | cons b h =>
      cases h with
      | cons c h =>
        cases h
        cases a
        cases c
        exact ⟨t, _, rfl, e, b⟩
theorem gTri_mono {K : PySem.W.Frag} {i j k : Nat} : ∀ (x : V) (σ1 : L2.St) (H1 : Hp) (A B : L2.St → Hp → Prop), (∀ σ2 H2, A σ2 H2 → B σ2 H2) → gTup K 3 (gCons (gName i) (gCons (gName j) (gCons (gName k) gNil))) x σ1 H1 A → gTup K 3 (gCons (gName i) (gCons (gName j) (gCons (gName k) gNil))) x σ1 H1 B := by
  rintro x σ1 H1 A B h ⟨a, xs, e1, e2, e3, v, r, e4, v2, r2, e5, v3, r3, e6, e7, z⟩
  exact ⟨a, xs, e1, e2, e3, v, r, e4, v2, r2, e5, v3, r3, e6, e7, h _ _ z⟩
def spLTables : Sp := fun vs H Q _ => ∃ (v : V) (r : Addr) (os : List Own) (an : List Tbl), vs = [v, .ref r] ∧ DatO H v os ∧ OwsOk os ∧ AnsOk os an ∧ H r = some (.lst (an.flatten.map V.bl)) ∧ ∀ (t : V) (H' : Hp), Same H H' → Dat H' t (ansT an) → Q t H'
abbrev nIS : List Str := ["told", "values", "letters", "name", "seen", "truth"]
abbrev nLT : List Str := ["owns", "row", "found", "at", "name", "sight"]
section
variable {P : Program} {w : World} {K : PySem.W.Frag} {mg : Str → Option Value} {base : Heap}
theorem scIsSo : FnScope nIS ["told", "values"] (defScope sLIsSo) := ⟨rfl, rfl, rfl, by decide +kernel, rfl, by decide +kernel, by decide +kernel⟩
theorem scLTables : FnScope nLT ["owns", "row"] (defScope sLTables) := ⟨rfl, rfl, rfl, by decide +kernel, rfl, by decide +kernel, by decide +kernel⟩
theorem ok_isSo {f : Addr} {fd : FuncData} (F : Fun K "_law_is_so" "_law_is_so" sLIsSo f fd) (ny : mg "any" = none) : FnOk P w K mg base CX0 1 f fd ["told", "values"] (spIsSo w) := by
  refine F.ok scIsSo (fun vs H Q E h => ?_) (fun cdv A outer s H vs Q E hr h => ?_)
  · obtain ⟨l, D, S, cs, r, rfl, _⟩ := h
    rfl
  · obtain ⟨l, D, S, cs, r, rfl, Ms, Vd, ok, lS, q⟩ := h
    have hu : (A.deeper (envOfC "_law_is_so" (defScope sLIsSo) s.heap.objs.size f cdv)).units + 16 < cLine := by
      have h64 : (A.deeper (envOfC "_law_is_so" (defScope sLIsSo) s.heap.objs.size f cdv)).units + 64 < cLine := hr.units
      omega
    refine ⟨_, pss_cons (ps_for PassesOwn.never rfl (pi_list (pv 0)) (pg_name (i := 2) scIsSo.nd rfl (.inl rfl))
        (pss_one (ps_if (pt_not (pt_val (pe_callB (cr_any rfl) (by rfl) ny (by decide +kernel) (pa_cons (pe_lc (own := [("name", 3), ("seen", 4), ("truth", 5)]) (g := gTup K 3 (gCons (gName 3) (gCons (gName 4) (gCons (gName 5) gNil)))) (tt := tYes)
            (te := tOp rEq (tNGet w (tVar 1) (tTup (tCons (tVar 3) (tCons (tVar 4) tNil)))) (tVar 5)) rfl scIsSo.nd (pi_tup (pv 2)) (blkOk_by (N := nIS) (sc := defScope sLIsSo) (by decide +kernel))
            (fun _ _ _ _ _ => by exact pg_tup rfl (pgs_cons (pg_name (i := 3) scIsSo.nd rfl (.inl rfl)) (pgs_cons (pg_name (i := 4) scIsSo.nd rfl (.inl rfl)) (pgs_cons (pg_name (i := 5) scIsSo.nd rfl (.inl rfl)) pgs_nil)))) (fun _ _ _ _ _ => pts_nil)
            (fun _ _ _ _ _ => by exact pe_cmpR op_eq (pe_nget (by exact hu) (pv 1) (pe_tup (pa_cons (pv 3) (pa_cons (pv 4) pa_nil))) (fun _ _ => rfl)) (pv 5) (nomark _))) pa_nil)))) (pss_one (ps_ret pe_bl)) pss_nil)))
      (pss_one (ps_ret pe_bl)), ?_⟩
    obtain ⟨T, eT, dT, DT⟩ := Ms
    have lT : T.length = S.length := by rw [← List.length_map (f := Prod.snd), dT, List.length_map]
    refine ⟨_, rfl, l, rfl, ⟨_, SqL.of eT⟩, ?_⟩
    refine for_list (K := K) (a := l) (xs := T.map TRow.v) (fun i σ G => ∃ (o2 o3 o4 o5 : Option V), σ = [some (.ref l), some (.ref D), o2, o3, o4, o5] ∧ (S.take i).all (soM r) = true ∧ Same H G) ⟨_, _, _, _, rfl, rfl, Same.refl _⟩ (fun i σ G _ ⟨_, _, _, _, _, _, S⟩ => SqL.of (S _ _ eT)) ?_ ?_
    · rintro i x σ G hx ⟨o2, o3, o4, o5, rfl, so, SG⟩
      rw [List.getElem?_map] at hx
      obtain ⟨y, hy, rfl⟩ := Option.map_eq_some_iff.mp hx
      have ey : (S.map mksD)[i]? = some y.2 := by rw [← dT, List.getElem?_map, hy]; rfl
      obtain ⟨ms, hms, ems⟩ := get_map ey
      obtain ⟨lms, cms⟩ := ok ms (List.mem_of_getElem? hms)
      have Dy := (DT y (List.mem_of_getElem? hy)).same SG
      rw [ems] at Dy
      obtain ⟨a, us, ea, eu, Du⟩ := dat_tup (ds := ms.map mkD) Dy
      have lu : us.length = ms.length := by rw [Du.len, List.length_map]
      rw [ea]
      have Vg := Vd.same SG
      refine ⟨_, rfl, a, rfl, ⟨_, SqT.of eu⟩, fun D1 hD1 => lc_mapT (K := K) (ys := (ms.map fun m => decide (r (m.1, m.2.1) = m.2.2)).map V.bl) (SqT.of eu) hD1 (by rw [List.length_map, List.length_map, lu]) (by omega) (fun c x y H7 Qe hx7 hy7 S7 kq => ?_) gTri_mono (fun H7 e7 S7 => ?_)⟩
      · obtain ⟨d7, hd7, Dx7⟩ := dats_get' Du c x hx7
        obtain ⟨m, hm, rfl⟩ := get_map hd7
        obtain ⟨t, y, rfl, et, Dm⟩ := mk_row Dx7
        have ey : ∃ b, y = V.ref b := tuple_ref (ds := m.2.1.map PyData.bool) Dm
        have ey7 : ‹V› = ‹V› := rfl
        have hv : (ms.map fun m => decide (r (m.1, m.2.1) = m.2.2))[c]? = some (decide (r (m.1, m.2.1) = m.2.2)) := by rw [List.getElem?_map, hm]; rfl
        rw [List.getElem?_map, hv] at hy7
        cases hy7
        have cm := cms m (List.mem_of_getElem? hm)
        refine ⟨t, _, rfl, SqT.of (S7 _ _ et), rfl, _, _, rfl, _, _, rfl, _, _, rfl, rfl, rfl, ?_⟩
        refine ⟨_, rfl, _, rfl, _, rfl, (by show 2 ≤ sizeLine; decide), fun tq htq => ?_⟩
        have S8 := same_new (o := .tup [.str m.1, y]) htq
        obtain ⟨E, dE, kE, look⟩ := (Vg.same S7).same S8
        refine ⟨D, tq, E, cpD (m.1, m.2.1), _, rfl, rfl, dE, kE, .tup upd_same (.cons (.str _) (.cons (Dm.same (S7.trans S8)) .nil)), keyable_cp _, Nat.le_trans (depth_cpD _) (by decide), look _ cm, _, rfl, rfl, ?_⟩
        have ed : decide (V.bl (r (m.1, m.2.1)) = V.bl m.2.2) = decide (r (m.1, m.2.1) = m.2.2) := by
          by_cases z : r (m.1, m.2.1) = m.2.2
          · rw [decide_eq_true z, decide_eq_true (by rw [z])]
          · rw [decide_eq_false z, decide_eq_false (fun q => z (V.bl.inj q))]
        rw [ed]
        exact kq _ S8
      · refine ⟨D1, _, rfl, SqL.of e7, _, rfl, ?_⟩
        have e9 : (ms.map fun m => decide (r (m.1, m.2.1) = m.2.2)).any id = soM r ms := by
          unfold soM
          rw [List.any_map]
          rfl
        rw [e9]
        cases hs : soM r ms with
        | true =>
          show if (!true) = true then _ else _
          rw [if_neg (by decide)]
          refine ⟨_, _, _, _, rfl, ?_, SG.trans S7⟩
          rw [take_next hms, List.all_append, so, List.all_cons, hs]
          rfl
        | false =>
          show if (!false) = true then _ else _
          rw [if_pos (show (!false) = true from rfl)]
          have e10 : S.all (soM r) = false := by
            rw [List.all_eq_false]
            exact ⟨ms, List.mem_of_getElem? hms, by rw [hs]; decide⟩
          have z := q _ (SG.trans S7)
          rw [e10] at z
          exact z
    · rintro σ G ⟨o2, o3, o4, o5, rfl, so, SG⟩
      rw [List.length_map, lT, List.take_length] at so
      have z := q _ SG
      rw [so] at z
      exact z
end
end S1

set_option Elab.async false
set_option linter.all false
set_option maxRecDepth 100000
set_option maxHeartbeats 4000000
/-! tables, by the law -/
namespace S1
open PySem PySem.W PySem.Spec PyProof.Rows L2
section
variable {P : Program} {w : World} {K : PySem.W.Frag} {mg : Str → Option Value} {base : Heap}
theorem ok_lTables {f : Addr} {fd : FuncData} (F : Fun K "_law_tables" "_law_tables" sLTables f fd) (B : Blt mg) : FnOk P w K mg base CX0 1 f fd ["owns", "row"] spLTables := by
  refine F.ok scLTables (fun vs H Q E h => ?_) (fun cdv A outer s H vs Q E hr h => ?_)
  · obtain ⟨v, r, os, an, rfl, _⟩ := h
    rfl
  · obtain ⟨v, r, os, an, rfl, D, ok, ao, er, q⟩ := h
    refine ⟨_, pss_cons (ps_par (i := 2) (j := 3) rfl scLTables.nd rfl rfl (by decide) rfl rfl (pa_cons (pe_lst pa_nil) (pa_cons pe_int pa_nil)) (by with_unfolding_all rfl))
      (pss_cons (ps_for PassesOwn.never rfl (pi_tup (pv 0)) (pg_tup rfl (pgs_cons (pg_name (i := 4) scLTables.nd rfl (.inl rfl)) (pgs_cons (pg_name (i := 5) scLTables.nd rfl (.inl rfl)) pgs_nil)))
        (pss_cons (ps_expr (pe_bm PySem.F.plainAttrs_list PySem.F.slot_list_append PySem.F.type_list_append mt_append (pv 2) (pa_cons (pe_tupleOf rfl B.tuple (pe_slice sl_list (pv 1) (po_some (pv 3)) (po_some (pe_op op_add (pv 3) (pe_op op_shl pe_int (pe_callB call_len_seq (by rfl) B.len (by decide +kernel) (pa_cons (pv 5) pa_nil))))))) pa_nil)))
        (pss_one (ps_set (i := 3) scLTables.nd rfl (.inl rfl) (pe_op op_add (pv 3) (pe_op op_shl pe_int (pe_callB call_len_seq (by rfl) B.len (by decide +kernel) (pa_cons (pv 5) pa_nil))))))))
      (pss_one (ps_ret (pe_tupleOf rfl B.tuple (pv 2))))), ?_⟩
    obtain ⟨b, us, rfl, eb, Db⟩ := D
    have lu : us.length = os.length := by rw [Db.len, List.length_map]
    have lo := ok.ol
    have oc := ok.oc
    have lf := ans_len ao
    refine ⟨Nat.zero_le _, fun lT hT => ⟨_, _, rfl, ?_⟩⟩
    have S1 := same_new (o := .lst []) hT
    refine ⟨_, rfl, b, rfl, ⟨_, FT.sq (eb.same S1)⟩, ?_⟩
    refine for_tup (K := K) (a := b) (xs := us) (fun i σ H4 => ∃ (T : List TRow) (o4 o5 : Option V), σ = [some (.ref b), some (.ref r), some (.ref lT), some (.int (copies (os.take i) : Nat)), o4, o5] ∧ H4 lT = some (.lst (T.map TRow.v)) ∧
      T.map Prod.snd = (an.take i).map blsD ∧ (∀ q' ∈ T, Dat H4 q'.v q'.2) ∧ Same H H4) ⟨[], _, _, rfl, upd_same, rfl, fun q' hq' => absurd hq' (by simp), S1⟩
      (fun i σ H4 _ ⟨_, _, _, _, _, _, _, S⟩ => FT.sq (eb.same S)) ?_ ?_
    · rintro i x σ H4 hx ⟨T, o4, o5, rfl, e4, d4, D4, S4⟩
      obtain ⟨d, hd, Dx⟩ := dats_get' Db i x hx
      obtain ⟨o, ho, rfl⟩ := get_map hd
      obtain ⟨to, rfl⟩ := tuple_ref (ds := [.str o.1, nmsD o.2]) Dx
      obtain ⟨t', h1, h2⟩ := own_row (q := (to, ownD o)) rfl Dx
      have il : i < os.length := (List.getElem?_eq_some_iff.mp ho).1
      obtain ⟨tb, htb⟩ : ∃ t, an[i]? = some t := ⟨_, List.getElem?_eq_getElem (by have := ao.len; omega)⟩
      have og := ok.le o (List.mem_of_getElem? ho)
      have ct := copies_take os (i + 1)
      have cs : copies (os.take (i + 1)) = copies (os.take i) + 2 ^ o.2.length := by rw [take_next ho, copies_snoc]
      have ec : (copies (os.take i) : Int) + 1 * 2 ^ ((o.2.map V.str).length : Int).toNat = ((copies (os.take (i + 1)) : Nat) : Int) := by
        rw [cs, List.length_map, Int.toNat_natCast, Int.one_mul]
        push_cast
        rfl
      have len4 : T.length ≤ 8 := by
        rw [← List.length_map (f := Prod.snd), d4, List.length_map, List.length_take]
        omega
      refine ⟨to, _, rfl, SqT.of (S4 _ _ h1), rfl, _, _, rfl, _, _, rfl, rfl, ?_⟩
      refine ⟨_, rfl, .inl ⟨rfl, _, SqL.of e4⟩, _, rfl, _, rfl, (copies (os.take i) : Nat), rfl, _, rfl, _, rfl, _, _, rfl, .inr (SqT.of (S4 _ _ h2)), _, _, rfl, rfl, ⟨by omega, by first | omega | (rw [List.length_map]; omega), by decide⟩, _, _, rfl, rfl, (copies (os.take (i + 1)) : Nat), by rw [← ec], r, _, rfl, SqL.of (S4 _ _ er), fun p hp => ?_⟩
      have Sp := same_new (o := .lst (cutV (an.flatten.map V.bl) (some ((copies (os.take i) : Nat) : Int)) (some ((copies (os.take (i + 1)) : Nat) : Int)))) hp
      refine .inl ⟨p, _, rfl, SqL.of upd_same, fun t ht => ?_⟩
      have le1 : copies (os.take i) ≤ copies (os.take (i + 1)) := by rw [cs]; exact Nat.le_add_right _ _
      have le2 : copies (os.take (i + 1)) ≤ an.flatten.length := by rw [lf]; exact ct
      rw [cut_any le1 le2, ans_cut ao ho htb] at Sp ht ⊢
      have St := same_new (o := .tup (tb.map V.bl)) ht
      have e6 := St _ _ (Sp _ _ e4)
      refine ⟨lT, _, _, rfl, rfl, e6, by rw [List.length_map]; exact small1000 (by omega), ?_⟩
      have Sf : Same H (upd (upd (upd H4 p (.lst (tb.map V.bl))) t (.tup (tb.map V.bl))) lT (.lst (T.map TRow.v ++ [.ref t]))) := same_upd (S4.trans (Sp.trans St)) hT
      refine ⟨_, rfl, _, rfl, _, _, rfl, .inr (SqT.of (Sf _ _ h2)), _, _, rfl, rfl, ⟨by omega, by first | omega | (rw [List.length_map]; omega), by decide⟩, _, _, rfl, rfl, ?_⟩
      refine ⟨T ++ [(t, blsD tb)], some (.str o.1), some (.ref t'), ?_, by rw [upd_same, List.map_append]; rfl, ?_, fun q' hq' => ?_, Sf⟩
      · rw [← ec]
        rfl
      · rw [List.map_append, d4, take_next htb, List.map_append]
        rfl
      · rcases List.mem_append.mp hq' with m | m
        · have kq : keyable q'.2 = true := by
            have m2 : q'.2 ∈ (an.take i).map blsD := d4 ▸ List.mem_map_of_mem m
            obtain ⟨z, _, hz⟩ := List.mem_map.mp m2
            rw [← hz]
            exact keyable_bls z
          exact dat_upd e6 kq ((D4 q' m).same (Sp.trans St))
        · cases List.mem_singleton.mp m
          exact dat_upd e6 (keyable_bls _) (.tup upd_same (dats_bls tb))
    · rintro σ H4 ⟨T, o4, o5, rfl, e4, d4, D4, S4⟩
      rw [lu, ← ao.len, List.take_length] at d4
      refine ⟨_, rfl, .inl ⟨lT, _, rfl, SqL.of e4, fun t1 ht1 => ?_⟩⟩
      refine q _ _ (S4.trans (same_new ht1)) (.tup upd_same ?_)
      rw [← d4]
      exact dats_rows fun r hr => (D4 r hr).same (same_new ht1)
end
end S1

set_option Elab.async false
set_option linter.all false
set_option maxRecDepth 100000
set_option maxHeartbeats 4000000
/-! what the program's letters and the law's marked letters have to do with one another -/
namespace S1
open PySem PySem.W PySem.Spec PyProof.Rows L2
def codeM (os : List Own) (m : Mk) : Nat := 2 * plc os (m.1, m.2.1) + b2n m.2.2
theorem code_half (os : List Own) (m : Mk) : codeM os m / 2 = plc os (m.1, m.2.1) := by
  have : b2n m.2.2 ≤ 1 := by
    unfold b2n
    split <;> omega
  unfold codeM
  omega
theorem code_odd (os : List Own) (m : Mk) : decide (codeM os m % 2 = 1) = m.2.2 := by
  unfold codeM b2n
  cases m.2.2 with
  | true =>
    rw [if_pos rfl]
    exact decide_eq_true (by omega)
  | false =>
    rw [if_neg (by decide)]
    exact decide_eq_false (by omega)
theorem here_sees (s : Say) (bs : List Bool) (x : Str) : hereAt s bs x = (seesAt s bs x).map fun t => plc s.owns (x, t) := by
  unfold hereAt seesAt
  cases h : s.owns.find? fun o => decide (o.1 = x) with
  | none => rfl
  | some o =>
    have e : o.1 = x := by simpa using List.find?_some h
    show some (hereOf s bs o) = some (plc s.owns (x, seesD s.picks o.2 bs))
    unfold hereOf
    rw [e]
theorem codes_marks (s : Say) (bs : List Bool) (cl : List Ltr) : codes s bs cl = (marks s bs cl).map (codeM s.owns) := by
  unfold codes marks
  rw [List.map_filterMap]
  congr 1
  funext l
  rw [here_sees, Option.map_map, Option.map_map]
  rfl
theorem so_codes (os : List Own) (r : Nat → Bool) (ms : List Mk) : (∃ c ∈ ms.map (codeM os), r (c / 2) = decide (c % 2 = 1)) ↔ soM (fun c => r (plc os c)) ms = true := by
  unfold soM
  rw [List.any_eq_true]
  constructor
  · rintro ⟨c, hc, e⟩
    obtain ⟨m, hm, rfl⟩ := List.mem_map.mp hc
    rw [code_half, code_odd] at e
    exact ⟨m, hm, decide_eq_true e⟩
  · rintro ⟨m, hm, e⟩
    refine ⟨_, List.mem_map_of_mem hm, ?_⟩
    rw [code_half, code_odd]
    exact of_decide_eq_true e
theorem mem_toldS {s : Say} {x : List Nat} : x ∈ toldS s s.cls ↔ ∃ bs ∈ playsD s.picks.length, ∃ cl ∈ s.cls, dead s bs cl = false ∧ x = codes s bs cl := by
  unfold toldS toldC
  rw [List.mem_flatMap]
  constructor
  · rintro ⟨cl, hcl, h⟩
    obtain ⟨bs, hbs, rfl⟩ := List.mem_map.mp h
    obtain ⟨h1, h2⟩ := List.mem_filter.mp hbs
    exact ⟨bs, h1, cl, hcl, by simpa using h2, rfl⟩
  · rintro ⟨bs, h1, cl, hcl, h2, rfl⟩
    exact ⟨cl, hcl, List.mem_map.mpr ⟨bs, List.mem_filter.mpr ⟨h1, by simpa using h2⟩, rfl⟩⟩
theorem mem_toldM {s : Say} {x : List Mk} : x ∈ toldM s (playsD s.picks.length) ↔ ∃ bs ∈ playsD s.picks.length, ∃ cl ∈ s.cls, dead s bs cl = false ∧ x = marks s bs cl := by
  unfold toldM
  rw [List.mem_flatMap]
  constructor
  · rintro ⟨bs, h1, h⟩
    obtain ⟨cl, hcl, rfl⟩ := List.mem_map.mp h
    obtain ⟨h2, h3⟩ := List.mem_filter.mp hcl
    exact ⟨bs, h1, cl, h2, by simpa using h3, rfl⟩
  · rintro ⟨bs, h1, cl, hcl, h2, rfl⟩
    exact ⟨bs, h1, List.mem_map.mpr ⟨cl, List.mem_filter.mpr ⟨hcl, by simpa using h2⟩, rfl⟩⟩
/-- a row meets what is told just if all is so by it -/
theorem meets_so {s : Say} {S : List (List Mk)} (iff : ∀ x, x ∈ S ↔ x ∈ toldM s (playsD s.picks.length)) (r : Nat → Bool) : Meets r (toldS s s.cls) ↔ S.all (soM fun c => r (plc s.owns c)) = true := by
  rw [List.all_eq_true]
  constructor
  · intro h ms hms
    obtain ⟨bs, h1, cl, h2, h3, rfl⟩ := mem_toldM.mp ((iff ms).mp hms)
    have z := h _ (mem_toldS.mpr ⟨bs, h1, cl, h2, h3, rfl⟩)
    rw [codes_marks] at z
    exact (so_codes _ _ _).mp z
  · intro h ns hns
    obtain ⟨bs, h1, cl, h2, h3, rfl⟩ := mem_toldS.mp hns
    have z := h _ ((iff _).mpr (mem_toldM.mpr ⟨bs, h1, cl, h2, h3, rfl⟩))
    rw [codes_marks]
    exact (so_codes _ _ _).mpr z
/-- all marked letters are of copies -/
theorem marks_ok {s : Say} (ok : SayOk 6 8 120 40 s) {S : List (List Mk)} (iff : ∀ x, x ∈ S ↔ x ∈ toldM s (playsD s.picks.length)) : ∀ ms ∈ S, ms.length ≤ 14 ∧ ∀ m ∈ ms, ((m.1, m.2.1) : Cpy) ∈ copD s.owns := by
  intro ms hms
  obtain ⟨bs, h1, cl, h2, h3, rfl⟩ := mem_toldM.mp ((iff ms).mp hms)
  refine ⟨Nat.le_trans (marks_len s bs cl) (Nat.le_trans (cl_len (ok.ck cl h2)) ok.nlen), fun m hm => ?_⟩
  unfold marks at hm
  obtain ⟨l, hl, e⟩ := List.mem_filterMap.mp hm
  obtain ⟨t, ht, rfl⟩ := Option.map_eq_some_iff.mp e
  unfold seesAt at ht
  obtain ⟨o, ho, rfl⟩ := Option.map_eq_some_iff.mp ht
  have e1 : o.1 = l.1 := by simpa using List.find?_some ho
  have z := sees_cop ok (plays_bits _ _ h1) (List.mem_of_find?_eq_some ho)
  rw [e1] at z
  exact z
theorem plc_lt {os : List Own} {c : Cpy} (h : c ∈ copD os) : plc os c < copies os := by
  unfold plc
  rw [← cop_len]
  exact List.idxOf_lt_length_iff.mpr h
/-- two rows that agree at the copies -/
theorem so_agree {os : List Own} {S : List (List Mk)} (hS : ∀ ms ∈ S, ms.length ≤ 14 ∧ ∀ m ∈ ms, ((m.1, m.2.1) : Cpy) ∈ copD os) {f g : Cpy → Bool} (e : ∀ c ∈ copD os, f c = g c) : S.all (soM f) = S.all (soM g) := by
  refine Bool.eq_iff_iff.mpr ?_
  rw [List.all_eq_true, List.all_eq_true]
  have key : ∀ ms ∈ S, soM f ms = soM g ms := fun ms hms => by
    unfold soM
    refine Bool.eq_iff_iff.mpr ?_
    rw [List.any_eq_true, List.any_eq_true]
    constructor
    · rintro ⟨m, hm, z⟩
      exact ⟨m, hm, by rw [← e _ ((hS ms hms).2 m hm)]; exact z⟩
    · rintro ⟨m, hm, z⟩
      exact ⟨m, hm, by rw [e _ ((hS ms hms).2 m hm)]; exact z⟩
  exact ⟨fun h ms hms => by rw [← key ms hms]; exact h ms hms, fun h ms hms => by rw [key ms hms]; exact h ms hms⟩
/-- what a row says of a copy -/
def atRow (os : List Own) (row : List Bool) (c : Cpy) : Bool := row.getD (plc os c) false
theorem row_at {os : List Own} (t : Nat) {c : Cpy} (h : c ∈ copD os) : atRow os (rowOf (copies os) t) c = t.testBit (plc os c) := by
  unfold atRow rowOf
  rw [List.getD_eq_getElem?_getD, List.getElem?_map, List.getElem?_range (plc_lt h)]
  rfl
def goodRows (s : Say) (S : List (List Mk)) : List (List Bool) := (seenD (copies s.owns)).filter fun row => S.all (soM (atRow s.owns row))
def leastOf (n : Nat) (rows : List (List Bool)) : List Bool := (List.range n).map fun i => rows.all fun row => row.getD i false
section
variable {s : Say} {S : List (List Mk)}
theorem good_none (iff : ∀ x, x ∈ S ↔ x ∈ toldM s (playsD s.picks.length)) (no : ∀ r, ¬ Meets r (toldS s s.cls)) : goodRows s S = [] := by
  unfold goodRows
  rw [List.filter_eq_nil_iff]
  intro row _ h
  exact no (fun i => row.getD i false) ((meets_so iff _).mpr h)
theorem good_least (ok : SayOk 6 8 120 40 s) (iff : ∀ x, x ∈ S ↔ x ∈ toldM s (playsD s.picks.length)) {t : Nat} (M : Meets (fun i => t.testBit i) (toldS s s.cls)) (low : ∀ r, Meets r (toldS s s.cls) → ∀ i, t.testBit i = true → r i = true) :
    rowOf (copies s.owns) t ∈ goodRows s S ∧ leastOf (copies s.owns) (goodRows s S) = rowOf (copies s.owns) t := by
  have hS := marks_ok ok iff
  have m : rowOf (copies s.owns) t ∈ goodRows s S := by
    refine List.mem_filter.mpr ⟨mem_seen _ _ (by unfold rowOf; rw [List.length_map, List.length_range]), ?_⟩
    rw [so_agree hS (g := fun c => t.testBit (plc s.owns c)) fun c hc => row_at t hc]
    exact (meets_so iff _).mp M
  refine ⟨m, ?_⟩
  unfold leastOf rowOf
  refine List.map_congr_left fun i hi => ?_
  have il := List.mem_range.mp hi
  refine Bool.eq_iff_iff.mpr ?_
  rw [List.all_eq_true]
  constructor
  · intro h
    have z := h _ m
    unfold rowOf at z
    rw [List.getD_eq_getElem?_getD, List.getElem?_map, List.getElem?_range il] at z
    exact z
  · intro h row hrow
    have z := (List.mem_filter.mp hrow).2
    exact low _ ((meets_so iff fun i => row.getD i false).mpr z) i h
end
end S1

set_option Elab.async false
set_option linter.all false
set_option maxRecDepth 100000
set_option maxHeartbeats 4000000
/-! what is forced, round by round -/
namespace S1
open PySem PySem.W PySem.Spec PyProof.Rows L2
theorem Mks.same {H H' : Hp} {l : Addr} {S : List (List Mk)} (h : Mks H l S) (G : Same H H') : Mks H' l S := let ⟨T, a, b, c⟩ := h; ⟨T, G _ _ a, b, fun q hq => (c q hq).same G⟩
def MeetsM (r : Cpy → Bool) (S : List (List Mk)) : Prop := ∀ ms ∈ S, soM r ms = true
def headsM (ms : List Mk) : List Cpy := (ms.filter fun m => m.2.2).map fun m => (m.1, m.2.1)
def lackM (F : List Cpy) (ms : List Mk) : List Bool := (ms.filter fun m => !m.2.2 && !decide (((m.1, m.2.1) : Cpy) ∈ F)).map fun m => m.2.2
theorem so_iff {r : Cpy → Bool} {ms : List Mk} : soM r ms = true ↔ ∃ m ∈ ms, r (m.1, m.2.1) = m.2.2 := by
  unfold soM
  rw [List.any_eq_true]
  exact ⟨fun ⟨m, h, e⟩ => ⟨m, h, of_decide_eq_true e⟩, fun ⟨m, h, e⟩ => ⟨m, h, decide_eq_true e⟩⟩
theorem meets_all {r : Cpy → Bool} {S : List (List Mk)} : S.all (soM r) = true ↔ MeetsM r S := List.all_eq_true
theorem mem_heads {ms : List Mk} {c : Cpy} : c ∈ headsM ms ↔ ∃ m ∈ ms, m.2.2 = true ∧ (m.1, m.2.1) = c := by
  unfold headsM
  rw [List.mem_map]
  constructor
  · rintro ⟨m, h, e⟩
    obtain ⟨h1, h2⟩ := List.mem_filter.mp h
    exact ⟨m, h1, h2, e⟩
  · rintro ⟨m, h1, h2, e⟩
    exact ⟨m, List.mem_filter.mpr ⟨h1, h2⟩, e⟩
theorem lack_snoc (F : List Cpy) (l : List Mk) (m : Mk) : lackM F (l ++ [m]) = lackM F l ++ (if (!m.2.2 && !decide (((m.1, m.2.1) : Cpy) ∈ F)) = true then [m.2.2] else []) := by
  unfold lackM
  rw [List.filter_append, List.map_append]
  congr 1
  by_cases h : (!m.2.2 && !decide (((m.1, m.2.1) : Cpy) ∈ F)) = true
  · rw [if_pos h, List.filter_cons, if_pos h]
    rfl
  · rw [if_neg h, List.filter_cons, if_neg h]
    rfl
theorem lack_len (F : List Cpy) (l : List Mk) : (lackM F l).length ≤ l.length := by
  unfold lackM
  rw [List.length_map]
  exact List.length_filter_le _ _
theorem heads_snoc (l : List Mk) (m : Mk) : headsM (l ++ [m]) = headsM l ++ (if m.2.2 = true then [(m.1, m.2.1)] else []) := by
  unfold headsM
  rw [List.filter_append, List.map_append]
  congr 1
  by_cases h : m.2.2 = true
  · rw [if_pos h, List.filter_cons, if_pos h]
    rfl
  · rw [if_neg h, List.filter_cons, if_neg h]
    rfl
theorem heads_len (l : List Mk) : (headsM l).length ≤ l.length := by
  unfold headsM
  rw [List.length_map]
  exact List.length_filter_le _ _
theorem lack_nil {F : List Cpy} {ms : List Mk} : lackM F ms = [] ↔ ∀ m ∈ ms, m.2.2 = false → ((m.1, m.2.1) : Cpy) ∈ F := by
  unfold lackM
  rw [List.map_eq_nil_iff, List.filter_eq_nil_iff]
  constructor
  · intro h m hm e
    have z := h m hm
    rw [e] at z
    simpa using z
  · intro h m hm z
    cases e : m.2.2 with
    | true => rw [e] at z; simp at z
    | false => rw [e] at z; simp [h m hm e] at z
/-- none is lacking: then a head is so -/
theorem head_so {S : List (List Mk)} {F : List Cpy} {ms : List Mk} {r : Cpy → Bool} (hS : ms ∈ S) (M : MeetsM r S) (low : ∀ c ∈ F, r c = true) (one : (headsM ms).length ≤ 1) (no : lackM F ms = []) : ∃ c, headsM ms = [c] ∧ r c = true := by
  obtain ⟨m, hm, e⟩ := so_iff.mp (M ms hS)
  have tr : m.2.2 = true := by
    cases h : m.2.2 with
    | true => rfl
    | false =>
      have z := low _ (lack_nil.mp no m hm h)
      rw [z, h] at e
      cases e
  rw [tr] at e
  have mem : ((m.1, m.2.1) : Cpy) ∈ headsM ms := mem_heads.mpr ⟨m, hm, tr, rfl⟩
  match h : headsM ms with
  | [] => rw [h] at mem; cases mem
  | [x] =>
    rw [h] at mem
    cases List.mem_singleton.mp mem
    exact ⟨_, rfl, e⟩
  | x :: y :: l => rw [h] at one; simp at one
structure GrwM (S : List (List Mk)) (F : List Cpy) (R : List (List Mk)) : Prop where
  low : ∀ r, MeetsM r S → ∀ c ∈ F, r c = true
  told : ∀ ms ∈ S, ms ∈ R ∨ ∃ c ∈ headsM ms, c ∈ F
  of_ : ∀ x ∈ R, x ∈ S
  len : F.length + R.length ≤ S.length
theorem GrwM.start {S : List (List Mk)} : GrwM S [] S := ⟨fun _ _ _ h => absurd h (by simp), fun _ h => .inl h, fun _ h => h, by simp⟩
theorem GrwM.done {S : List (List Mk)} {F : List Cpy} {R : List (List Mk)} (g : GrwM S F R) (no : ∀ x ∈ R, lackM F x ≠ []) : MeetsM (fun c => decide (c ∈ F)) S := by
  intro ms hS
  rw [so_iff]
  rcases g.told ms hS with h | ⟨c, h1, h2⟩
  · have z := no ms h
    rw [ne_eq, lack_nil] at z
    have : ∃ m ∈ ms, m.2.2 = false ∧ ((m.1, m.2.1) : Cpy) ∉ F := by
      apply Classical.byContradiction
      intro q
      exact z fun m hm e => Classical.byContradiction fun n => q ⟨m, hm, e, n⟩
    obtain ⟨m, hm, e, n⟩ := this
    exact ⟨m, hm, by rw [e]; exact decide_eq_false n⟩
  · obtain ⟨m, hm, e, rfl⟩ := mem_heads.mp h1
    exact ⟨m, hm, by rw [e]; exact decide_eq_true h2⟩
/-- in the midst of a round: i of R looked at, of them W stay -/
structure PassM (S R : List (List Mk)) (F0 : List Cpy) (i : Nat) (F : List Cpy) (W : List (List Mk)) (g : Bool) : Prop where
  st : GrwM S F (W ++ R.drop i)
  same : g = false → F = F0 ∧ ∀ x ∈ W, lackM F x ≠ []
  len : W.length + (if g = true then 1 else 0) ≤ i
section
variable {S R W : List (List Mk)} {F0 F : List Cpy} {i : Nat} {g : Bool} {x : List Mk}
theorem PassM.start (h : GrwM S F R) : PassM S R F 0 F [] false := ⟨by rw [List.drop_zero]; exact h, fun _ => ⟨rfl, fun _ h => absurd h (by simp)⟩, Nat.le_refl _⟩
theorem PassM.mem (p : PassM S R F0 i F W g) (h : R[i]? = some x) : x ∈ S := p.st.of_ x (List.mem_append_right _ (by rw [drop_at h]; exact List.mem_cons_self))
theorem PassM.wait (p : PassM S R F0 i F W g) (h : R[i]? = some x) (n : lackM F x ≠ []) : PassM S R F0 (i + 1) F (W ++ [x]) g := by
  refine ⟨?_, fun e => ⟨(p.same e).1, fun y hy => ?_⟩, ?_⟩
  · have z := p.st
    rw [drop_at h] at z
    rw [List.append_assoc]
    exact z
  · rcases List.mem_append.mp hy with m | m
    · exact (p.same e).2 y m
    · cases List.mem_singleton.mp m
      exact n
  · rw [List.length_append]
    have := p.len
    show W.length + 1 + _ ≤ i + 1
    omega
theorem PassM.stop (p : PassM S R F0 i F W g) (one : ∀ ms ∈ S, (headsM ms).length ≤ 1) (h : R[i]? = some x) (n : lackM F x = []) (m : headsM x = []) (r : Cpy → Bool) : ¬ MeetsM r S := fun M => by
  obtain ⟨c, e, _⟩ := head_so (p.mem h) M (p.st.low r M) (one x (p.mem h)) n
  rw [m] at e
  cases e
theorem PassM.drop_ (p : PassM S R F0 i F W g) (h : R[i]? = some x) {c : Cpy} (hc : c ∈ headsM x) (m : c ∈ F) : PassM S R F0 (i + 1) F W g := by
  refine ⟨⟨p.st.low, fun ms hS => ?_, fun y hy => p.st.of_ y ?_, ?_⟩, p.same, Nat.le_succ_of_le p.len⟩
  · rcases p.st.told ms hS with z | z
    · rw [drop_at h] at z
      rcases List.mem_append.mp z with z | z
      · exact .inl (List.mem_append_left _ z)
      · rcases List.mem_cons.mp z with z | z
        · rw [z]
          exact .inr ⟨c, hc, m⟩
        · exact .inl (List.mem_append_right _ z)
    · exact .inr z
  · rw [drop_at h]
    rcases List.mem_append.mp hy with z | z
    · exact List.mem_append_left _ z
    · exact List.mem_append_right _ (List.mem_cons_of_mem _ z)
  · have z := p.st.len
    rw [drop_at h, List.length_append, List.length_cons] at z
    rw [List.length_append]
    omega
theorem PassM.grow (p : PassM S R F0 i F W g) (one : ∀ ms ∈ S, (headsM ms).length ≤ 1) (h : R[i]? = some x) (n : lackM F x = []) {c : Cpy} (hc : headsM x = [c]) : PassM S R F0 (i + 1) (F ++ [c]) W true := by
  have mS := p.mem h
  refine ⟨⟨fun r M y hy => ?_, fun ms hS => ?_, fun y hy => p.st.of_ y ?_, ?_⟩, fun z => (nomatch z), ?_⟩
  · rcases List.mem_append.mp hy with z | z
    · exact p.st.low r M y z
    · cases List.mem_singleton.mp z
      obtain ⟨c', e, rc⟩ := head_so mS M (p.st.low r M) (one x mS) n
      rw [hc] at e
      cases e
      exact rc
  · rcases p.st.told ms hS with z | ⟨y, y1, y2⟩
    · rw [drop_at h] at z
      rcases List.mem_append.mp z with z | z
      · exact .inl (List.mem_append_left _ z)
      · rcases List.mem_cons.mp z with z | z
        · rw [z]
          exact .inr ⟨c, by rw [hc]; exact List.mem_singleton.mpr rfl, List.mem_append_right _ (List.mem_singleton.mpr rfl)⟩
        · exact .inl (List.mem_append_right _ z)
    · exact .inr ⟨y, y1, List.mem_append_left _ y2⟩
  · rw [drop_at h]
    rcases List.mem_append.mp hy with z | z
    · exact List.mem_append_left _ z
    · exact List.mem_append_right _ (List.mem_cons_of_mem _ z)
  · have z := p.st.len
    rw [drop_at h, List.length_append, List.length_cons] at z
    rw [List.length_append, List.length_append, List.length_singleton]
    omega
  · have := p.len
    rw [if_pos rfl]
    split at this <;> omega
end
/-- rows by places and rows by copies -/
theorem meets_m {s : Say} {r : Nat → Bool} {S : List (List Mk)} (iff : ∀ x, x ∈ S ↔ x ∈ toldM s (playsD s.picks.length)) : Meets r (toldS s s.cls) ↔ MeetsM (fun c => r (plc s.owns c)) S := by
  constructor
  · intro M ms hm
    obtain ⟨bs, h1, cl, h2, h3, rfl⟩ := mem_toldM.mp ((iff ms).mp hm)
    refine (so_codes s.owns r _).mp ?_
    rw [← codes_marks]
    exact M _ (mem_toldS.mpr ⟨bs, h1, cl, h2, h3, rfl⟩)
  · intro M ns hn
    obtain ⟨bs, h1, cl, h2, h3, rfl⟩ := mem_toldS.mp hn
    rw [codes_marks]
    exact (so_codes s.owns r _).mpr (M _ ((iff _).mpr (mem_toldM.mpr ⟨bs, h1, cl, h2, h3, rfl⟩)))
end S1

set_option Elab.async false
set_option linter.all false
set_option maxRecDepth 100000
set_option maxHeartbeats 4000000
/-! what is forced -/
namespace S1
open PySem PySem.W PySem.Spec PyProof.Rows L2
section
variable {X : Cx}
def rEqP : R2 := fun x y H Q => ∃ d e, Dat H x d ∧ Dat H y e ∧ d.plain = true ∧ e.plain = true ∧ d.depth ≤ 8 ∧ Q (.bl (PyData.eqv d e)) H
theorem op_eqP (hu : X.A.units + 64 < cLine) : OpR X (compareOp .Eq) rEqP := by
  intro pins s σ H x y v u Q I rx ry h
  obtain ⟨d, e, D1, D2, p1, p2, dp, q⟩ := h
  obtain ⟨as, R1⟩ := reads_of_dat I.hok D1 rx
  obtain ⟨bs, R2⟩ := reads_of_dat I.hok D2 ry
  exact PySem.SeqAt.eq_plain R1 R2 p1 p2 (by have := Nat.min_le_left d.depth e.depth; omega) ⟨.bl _, H, I, rfl, q⟩
end
def spForced (w : World) : Sp := fun vs H Q _ => ∃ (l : Addr) (S : List (List Mk)), vs = [.ref l] ∧ Mks H l S ∧ (∀ ms ∈ S, (headsM ms).length ≤ 1 ∧ ms.length ≤ 14) ∧ S.length ≤ 2560 ∧
  ∀ H', Same H H' → ((∀ r, ¬ MeetsM r S) → Q .non H') ∧ (∀ (D : Addr) (E : List DRow) (F : List Cpy), MeetsM (fun c => decide (c ∈ F)) S → (∀ r, MeetsM r S → ∀ c ∈ F, r c = true) → H D = none → DnAt w H' D E → KeysAt H' E → KysG cpD E F F.length → F.length ≤ 2560 → Q (.ref D) H')
abbrev nFo : List Str := ["told", "found", "left", "grown", "rest", "letters", "lacking", "heads", "name", "seen", "truth"]
def muF (σ : L2.St) (G : Hp) : Nat := match (σ : List (Option V))[3]?, (σ : List (Option V))[2]? with
  | some (some (V.bl true)), some (some (V.ref lr)) => (match G lr with
    | some (.lst xs) => xs.length + 1
    | _ => 0)
  | _, _ => 0
theorem kb_mks (R : List (List Mk)) {T : List TRow} (e : T.map Prod.snd = R.map mksD) : ∀ q ∈ T, keyable q.2 = true := fun q hq => by
  have z : q.2 ∈ R.map mksD := e ▸ List.mem_map_of_mem hq
  obtain ⟨y, _, hy⟩ := List.mem_map.mp z
  rw [← hy]
  exact enc_mks.k y
theorem eq_nilL {xs : List PyData} : PyData.eqv (.list xs) (.list []) = xs.isEmpty := by
  cases xs <;> simp [PyData.eqv, PyData.eqvAll]
theorem plains_map {α : Type} (f : α → PyData) (h : ∀ x, (f x).plain = true) : ∀ l : List α, PyData.plainAll (l.map f) = true
  | [] => rfl
  | x :: l => by rw [List.map_cons, PyData.plainAll, h x, plains_map f h l]; rfl
theorem plain_bls (bs : List Bool) : (blsD bs).plain = true := plains_map PyData.bool (fun _ => rfl) bs
theorem plain_cp (c : Cpy) : (cpD c).plain = true := by
  show (true && ((blsD c.2).plain && true)) = true
  rw [plain_bls]
  rfl
section
variable {w : World} {H G : Hp} {l lw a aD : Addr} {W S : List (List Mk)} {ms : List Mk} {xs : List V} {E : List DRow} {o : HO}
theorem Mks.push (h : Mks G lw W) (e : G lw = some (.lst xs)) (D : Dat G (.ref a) (mksD ms)) : Mks (upd G lw (.lst (xs ++ [.ref a]))) lw (W ++ [ms]) := by
  obtain ⟨T, e1, e2, e3⟩ := h
  rw [e] at e1
  cases e1
  refine ⟨T ++ [(a, mksD ms)], by rw [upd_same, List.map_append]; rfl, by rw [List.map_append, e2, List.map_append]; rfl, fun q hq => ?_⟩
  rcases List.mem_append.mp hq with m | m
  · exact dat_upd e (kb_mks W e2 q m) (e3 q m)
  · cases List.mem_singleton.mp m
    exact dat_upd e (enc_mks.k _) D
theorem Mks.off (h : Mks G lw W) (T : Tups G (upd G l o)) (n : lw ≠ l) : Mks (upd G l o) lw W := by
  obtain ⟨T1, e1, e2, e3⟩ := h
  exact ⟨T1, by rw [upd_ne n]; exact e1, e2, fun q hq => T.dat (kb_mks W e2 q hq) (e3 q hq)⟩
theorem Mks.len (h : Mks G lw W) : ∃ xs, G lw = some (.lst xs) ∧ xs.length = W.length := by
  obtain ⟨T, e1, e2, e3⟩ := h
  exact ⟨_, e1, by rw [List.length_map, ← List.length_map (f := Prod.snd), e2, List.length_map]⟩
theorem dn_off (h : DnAt w G aD E) (n : aD ≠ l) : DnAt w (upd G l o) aD E := by
  rcases h with e | ⟨e, z⟩
  · exact .inl (by rw [upd_ne n]; exact e)
  · exact .inr ⟨by rw [upd_ne n]; exact e, z⟩
theorem sb_off {As : List Addr} (h : Sb As H G) (n : H l = none) : Sb As H (upd G l o) := fun b u m e => by
  rw [upd_ne (ne_of_none e n)]
  exact h b u m e
end
section
variable {P : Program} {w : World} {K : PySem.W.Frag} {mg : Str → Option Value} {base : Heap}
theorem scForced : FnScope nFo ["told"] (defScope sLForced) := ⟨rfl, rfl, rfl, by decide +kernel, rfl, by decide +kernel, by decide +kernel⟩
theorem ok_forced {f : Addr} {fd : FuncData} (F : Fun K "_law_forced" "_law_forced" sLForced f fd) (B : Blt mg) : FnOk P w K mg base CX0 1 f fd ["told"] (spForced w) := by
  refine F.ok scForced (fun vs H Q E h => ?_) (fun cdv A outer s H vs Q E hr h => ?_)
  · obtain ⟨l, S, rfl, _⟩ := h
    rfl
  · obtain ⟨l, S, rfl, Ms, ES, lS, q⟩ := h
    have h64 : (A.deeper (envOfC "_law_forced" (defScope sLForced) s.heap.objs.size f cdv)).units + 64 < cLine := hr.units
    have hu : (A.deeper (envOfC "_law_forced" (defScope sLForced) s.heap.objs.size f cdv)).units + 16 < cLine := by omega
    refine ⟨_, pss_cons (ps_asg (pe_tup (pa_cons pe_dnewK (pa_cons (pv 0) (pa_cons pe_bl pa_nil)))) (pg_tup rfl (pgs_cons (pg_name (i := 1) scForced.nd rfl (.inr rfl)) (pgs_cons (pg_name (i := 2) scForced.nd rfl (.inl rfl)) (pgs_cons (pg_name (i := 3) scForced.nd rfl (.inl rfl)) pgs_nil)))))
      (pss_cons (ps_while PassesOwn.never (pt_val (pv 3))
        (pss_cons (ps_par (i := 3) (j := 4) rfl scForced.nd rfl rfl (by decide) rfl rfl (pa_cons pe_bl (pa_cons (pe_lst pa_nil) pa_nil)) (by with_unfolding_all rfl))
        (pss_cons (ps_for PassesOwn.never rfl (pi_list (pv 2)) (pg_name (i := 5) scForced.nd rfl (.inl rfl))
          (pss_cons (ps_setLc (i := 6) (own := [("name", 8), ("seen", 9), ("truth", 10)]) (g := gTup K 3 (gCons (gName 8) (gCons (gName 9) (gCons (gName 10) gNil)))) (tt := tAnd (tNot (tB (tVar 10))) (tTest (tOp (rInN not w) (tTup (tCons (tVar 8) (tCons (tVar 9) tNil))) (tVar 1)))) (te := tVar 10) rfl scForced.nd rfl rfl (sw_true rfl rfl rfl (by decide +kernel)) (pi_tup (pv 5)) (blkOk_by (N := nFo) (sc := defScope sLForced) (by decide +kernel))
            (fun _ _ _ _ _ => by exact pg_tup rfl (pgs_cons (pg_name (i := 8) scForced.nd rfl (.inl rfl)) (pgs_cons (pg_name (i := 9) scForced.nd rfl (.inl rfl)) (pgs_cons (pg_name (i := 10) scForced.nd rfl (.inl rfl)) pgs_nil))))
            (fun _ _ _ _ _ => by exact pts_one (PW.pt (pw_and (pt_not (pt_val (pv 10))) (pw_and1 (pt_cmpR (op_notInN (by exact hu)) (pe_tup (pa_cons (pv 8) (pa_cons (pv 9) pa_nil))) (pv 1) (by with_unfolding_all rfl))))))
            (fun _ _ _ _ _ => by exact pv 10))
          (pss_cons (ps_setLc (i := 7) (own := [("name", 8), ("seen", 9), ("truth", 10)]) (g := gTup K 3 (gCons (gName 8) (gCons (gName 9) (gCons (gName 10) gNil)))) (tt := tB (tVar 10)) (te := tTup (tCons (tVar 8) (tCons (tVar 9) tNil))) rfl scForced.nd rfl rfl (sw_true rfl rfl rfl (by decide +kernel)) (pi_tup (pv 5)) (blkOk_by (N := nFo) (sc := defScope sLForced) (by decide +kernel))
            (fun _ _ _ _ _ => by exact pg_tup rfl (pgs_cons (pg_name (i := 8) scForced.nd rfl (.inl rfl)) (pgs_cons (pg_name (i := 9) scForced.nd rfl (.inl rfl)) (pgs_cons (pg_name (i := 10) scForced.nd rfl (.inl rfl)) pgs_nil))))
            (fun _ _ _ _ _ => by exact pts_one (pt_val (pv 10)))
            (fun _ _ _ _ _ => by exact pe_tup (pa_cons (pv 8) (pa_cons (pv 9) pa_nil))))
          (pss_cons (ps_if (PW.pt (pw_and (pt_cmpR (op_eqP (by exact h64)) (pv 6) (pe_lst pa_nil) (nomark _)) (pw_and1 (pt_cmpR (op_eqP (by exact h64)) (pv 7) (pe_lst pa_nil) (nomark _))))) (pss_one (ps_ret pe_non)) pss_nil)
          (pss_one (ps_if (pt_cmpR (op_eqP (by exact h64)) (pv 6) (pe_lst pa_nil) (nomark _))
            (pss_cons (ps_nput (by exact hu) (pv 1) (pe_ix ix_list (pv 7) pe_int (fun _ _ => rfl)) pe_bl (by rfl)) (pss_one (ps_set (i := 3) scForced.nd rfl (.inl rfl) pe_bl)))
            (pss_one (ps_if (PW.pt (pw_or (pt_cmpR (op_eqP (by exact h64)) (pv 7) (pe_lst pa_nil) (nomark _)) (pw_or1 (pt_cmpR (op_notInN (by exact hu)) (pe_ix ix_list (pv 7) pe_int (fun _ _ => rfl)) (pv 1) (by with_unfolding_all rfl)))))
              (pss_one (ps_expr (pe_bm PySem.F.plainAttrs_list PySem.F.slot_list_append PySem.F.type_list_append mt_append (pv 4) (pa_cons (pv 5) pa_nil)))) pss_nil))))))))
        (pss_one (ps_set (i := 2) scForced.nd rfl (.inl rfl) (pv 4))))))
      (pss_one (ps_ret (pv 1)))), ?_⟩
    obtain ⟨T0, eT0, dT0, DT0⟩ := Ms
    refine fun aD hD => ⟨_, rfl, (by show 3 ≤ sizeLine; decide), fun tp htp => ?_⟩
    have S1 := same_new (o := .dK []) hD
    have S2 := same_new (o := .tup [V.ref aD, .ref l, .bl true]) htp
    have etp : upd (upd H aD (.dK [])) tp (.tup [V.ref aD, .ref l, .bl true]) tp = some (.tup [V.ref aD, .ref l, .bl true]) := upd_same
    have eD := S2 _ _ (show upd H aD (.dK []) aD = some (.dK []) from upd_same)
    have S12 := S1.trans S2
    generalize upd (upd H aD (.dK [])) tp (.tup [V.ref aD, .ref l, .bl true]) = H1 at etp eD S12 ⊢
    refine ⟨tp, _, rfl, SqT.of etp, rfl, _, _, rfl, _, _, rfl, _, _, rfl, rfl, ?_⟩
    have one : ∀ ms ∈ S, (headsM ms).length ≤ 1 := fun ms h => (ES ms h).1
    have M0 : Mks H1 l S := ⟨T0, S12 _ _ eT0, dT0, fun q hq => (DT0 q hq).same S12⟩
    refine while_by (fun σ G => ∃ (lr : Addr) (g : Bool) (F : List Cpy) (E : List DRow) (R : List (List Mk)) (o4 o5 o6 o7 o8 o9 o10 : Option V), σ = [some (.ref l), some (.ref aD), some (.ref lr), some (.bl g), o4, o5, o6, o7, o8, o9, o10] ∧ Sb [aD] H G ∧ DnAt w G aD E ∧ KeysAt G E ∧ KysG cpD E F F.length ∧ Mks G lr R ∧ GrwM S F R ∧ (g = false → ∀ x ∈ R, lackM F x ≠ [])) muF
      ⟨l, true, [], [], S, _, _, _, _, _, _, _, rfl, fun b o _ e => S12 b o e, .inr ⟨eD, rfl⟩, fun p hp => absurd hp (by simp), KysG.nil, M0, GrwM.start, fun z => (nomatch z)⟩ ?_ (fun σ H Q Q' h ⟨v, e, d, e2, q⟩ => ⟨v, e, d, e2, h _ _ q⟩)
    rintro σ G ⟨lr, g, F, E, R, o4, o5, o6, o7, o8, o9, o10, rfl, BG, dE, kE, KE, MR, GR, nog⟩
    refine ⟨_, rfl, _, rfl, ?_⟩
    cases g with
    | true =>
      rw [if_pos rfl]
      obtain ⟨TR, eTR, dTR, DTR⟩ := MR
      have lTR : TR.length = R.length := by rw [← List.length_map (f := Prod.snd), dTR, List.length_map]
      have kTR := kb_mks R dTR
      have mu0 : muF [some (.ref l), some (.ref aD), some (.ref lr), some (.bl true), o4, o5, o6, o7, o8, o9, o10] G = R.length + 1 := by
        show (match G lr with | some (.lst xs) => xs.length + 1 | _ => 0) = _
        rw [eTR]
        show (TR.map TRow.v).length + 1 = _
        rw [List.length_map, lTR]
      refine ⟨(by show 0 ≤ sizeLine; decide), fun lw hlw => ⟨_, _, rfl, ?_⟩⟩
      have S1 := same_new (o := .lst []) hlw
      have lwr : lr ≠ lw := ne_of_none eTR hlw
      have lwD : lw ≠ aD := fun z => by
        rw [z] at hlw
        rcases dE with e | ⟨e, _⟩ <;> rw [hlw] at e <;> cases e
      have lrD : lr ≠ aD := fun z => by
        rw [z] at eTR
        rcases dE with e | ⟨e, _⟩ <;> rw [eTR] at e <;> cases e
      have hlw0 : H lw = none := by
        cases h : H lw with
        | none => rfl
        | some u => rw [BG lw u (by simpa using lwD) h] at hlw; cases hlw
      refine ⟨_, rfl, lr, rfl, ⟨_, SqL.of (S1 _ _ eTR)⟩, ?_⟩
      refine for_list (K := K) (a := lr) (xs := TR.map TRow.v) (fun i σ G' => ∃ (g : Bool) (F' : List Cpy) (E' : List DRow) (W : List (List Mk)) (o5 o6 o7 o8 o9 o10 : Option V), σ = [some (.ref l), some (.ref aD), some (.ref lr), some (.bl g), some (.ref lw), o5, o6, o7, o8, o9, o10] ∧ Sb [aD] H G' ∧ G' lr = some (.lst (TR.map TRow.v)) ∧ (∀ q ∈ TR, Dat G' q.v q.2) ∧ DnAt w G' aD E' ∧ KeysAt G' E' ∧ KysG cpD E' F' F'.length ∧ Mks G' lw W ∧ PassM S R F i F' W g)
        ⟨false, F, E, [], _, _, _, _, _, _, rfl, BG.same S1, S1 _ _ eTR, fun q hq => (DTR q hq).same S1, dE.same S1, kE.same S1, KE, ⟨[], upd_same, rfl, fun q hq => absurd hq (by simp)⟩, PassM.start GR⟩ (fun i σ G' _ ⟨_, _, _, _, _, _, _, _, _, _, _, _, e, _⟩ => SqL.of e) ?_ ?_
      · rintro i x σ G' hx ⟨g, F', E', W, p5, p6, p7, p8, p9, p10, rfl, BG', eR, DR, dE', kE', KE', MW, PS⟩
        rw [List.getElem?_map] at hx
        obtain ⟨y, hy, rfl⟩ := Option.map_eq_some_iff.mp hx
        have ey : (R.map mksD)[i]? = some y.2 := by rw [← dTR, List.getElem?_map, hy]; rfl
        obtain ⟨ms, hms, ems⟩ := get_map ey
        have Dy := DR y (List.mem_of_getElem? hy)
        rw [ems] at Dy
        obtain ⟨a, us, ea, eu, Du⟩ := dat_tup (ds := ms.map mkD) Dy
        have lu : us.length = ms.length := by rw [Du.len, List.length_map]
        have mS := PS.mem hms
        have l14 := (ES ms mS).2
        rw [ea]
        refine ⟨_, rfl, a, rfl, ⟨_, SqT.of eu⟩, fun DL hDL => ?_⟩
        refine lc_tup (K := K) (a := a) (xs := us) (fun c H8 => H8 DL = some (.lst ((lackM F' (ms.take c)).map V.bl)) ∧ Same G' H8) ⟨upd_same, same_new hDL⟩ (fun c H8 _ h => SqT.of (h.2 _ _ eu)) ?_ ?_
        · rintro c x H8 hx8 ⟨e8, S8⟩
          obtain ⟨d8, hd8, Dx8⟩ := dats_get' Du c x hx8
          obtain ⟨m, hm, rfl⟩ := get_map hd8
          obtain ⟨t, yv, rfl, et, Dm⟩ := mk_row Dx8
          have cl8 : c < ms.length := (List.getElem?_eq_some_iff.mp hm).1
          refine ⟨t, _, rfl, SqT.of (S8 _ _ et), rfl, _, _, rfl, _, _, rfl, _, _, rfl, rfl, rfl, ?_⟩
          have tk := lack_snoc F' (ms.take c) m
          rw [← take_next hm] at tk
          have ll := lack_len F' (ms.take c)
          rw [List.length_take] at ll
          refine ⟨_, rfl, _, rfl, ?_⟩
          cases tr : m.2.2 with
          | true =>
            rw [tr, if_neg (by simp), List.append_nil] at tk
            show if (!true) = true then _ else _
            rw [if_neg (by decide)]
            show if false = true then _ else _
            rw [if_neg (by decide)]
            exact ⟨by rw [tk]; exact e8, S8⟩
          | false =>
            show if (!false) = true then _ else _
            rw [if_pos (show (!false) = true from rfl)]
            refine ⟨_, rfl, _, rfl, (by show 2 ≤ sizeLine; decide), fun tq htq => ?_⟩
            have S9 := same_new (o := .tup [V.str m.1, yv]) htq
            have Dq : Dat (upd H8 tq (.tup [V.str m.1, yv])) (.ref tq) (cpD (m.1, m.2.1)) := .tup upd_same (.cons (.str _) (.cons (Dm.same (S8.trans S9)) .nil))
            have S89 := S8.trans S9
            have e9 := S9 _ _ e8
            generalize upd H8 tq (.tup [V.str m.1, yv]) = H9 at S9 Dq S89 e9 ⊢
            refine ⟨_, rfl, tq, aD, E', _, rfl, rfl, dE'.same S89, kE'.same S89, Dq, keyable_cp _, enc_cp.d _, _, rfl, ?_⟩
            by_cases mem : ((m.1, m.2.1) : Cpy) ∈ F'
            · have z := (KE'.some_iff enc_cp (m.1, m.2.1)).mpr mem
              rw [tr, decide_eq_true mem, if_neg (by simp), List.append_nil] at tk
              rw [z]
              show if (!true) = true then _ else _
              rw [if_neg (by decide)]
              exact ⟨by rw [tk]; exact e9, S89⟩
            · have z := (KE'.none_iff enc_cp (m.1, m.2.1)).mpr mem
              rw [tr, decide_eq_false mem, if_pos (by simp)] at tk
              rw [z]
              show if (!false) = true then _ else _
              rw [if_pos (show (!false) = true from rfl)]
              refine ⟨_, rfl, _, e9, by rw [List.length_map]; exact small1000 (by omega), ?_, same_upd S89 hDL⟩
              rw [upd_same, tk, List.map_append]
              rfl
        · rintro H8 ⟨e8, S8⟩
          rw [lu, List.take_length] at e8
          refine ⟨_, rfl, a, rfl, ⟨_, SqT.of (S8 _ _ eu)⟩, fun DH hDH => ?_⟩
          refine lc_tup (K := K) (a := a) (xs := us) (fun c H9 => ∃ T : List TRow, H9 DH = some (.lst (T.map TRow.v)) ∧ T.map Prod.snd = (headsM (ms.take c)).map cpD ∧ (∀ q ∈ T, Dat H9 q.v q.2) ∧ Same H8 H9) ⟨[], upd_same, rfl, fun q hq => absurd hq (by simp), same_new hDH⟩ (fun c H9 _ ⟨_, _, _, _, S⟩ => SqT.of (S _ _ (S8 _ _ eu))) ?_ ?_
          · rintro c x H9 hx9 ⟨T, e9, dT, DT, S9⟩
            obtain ⟨d9, hd9, Dx9⟩ := dats_get' Du c x hx9
            obtain ⟨m, hm, rfl⟩ := get_map hd9
            obtain ⟨t, yv, rfl, et, Dm⟩ := mk_row Dx9
            have S89 := S8.trans S9
            refine ⟨t, _, rfl, SqT.of (S89 _ _ et), rfl, _, _, rfl, _, _, rfl, _, _, rfl, rfl, rfl, ?_⟩
            have tk := heads_snoc (ms.take c) m
            rw [← take_next hm] at tk
            have kT : ∀ q ∈ T, keyable q.2 = true := fun q hq => by
              have z : q.2 ∈ (headsM (ms.take c)).map cpD := dT ▸ List.mem_map_of_mem hq
              obtain ⟨y, _, hy⟩ := List.mem_map.mp z
              rw [← hy]
              exact keyable_cp y
            have lT : T.length ≤ 14 := by
              rw [← List.length_map (f := Prod.snd), dT, List.length_map]
              refine Nat.le_trans (heads_len _) ?_
              rw [List.length_take]
              omega
            refine ⟨_, rfl, _, rfl, ?_⟩
            cases tr : m.2.2 with
            | false =>
              rw [tr, if_neg (by decide), List.append_nil] at tk
              show if false = true then _ else _
              rw [if_neg (by decide)]
              exact ⟨T, e9, by rw [tk]; exact dT, DT, S9⟩
            | true =>
              rw [tr, if_pos rfl] at tk
              show if true = true then _ else _
              rw [if_pos rfl]
              refine ⟨_, rfl, _, rfl, (by show 2 ≤ sizeLine; decide), fun tq htq => ?_⟩
              have S10 := same_new (o := .tup [V.str m.1, yv]) htq
              have Dq : Dat (upd H9 tq (.tup [V.str m.1, yv])) (.ref tq) (cpD (m.1, m.2.1)) := .tup upd_same (.cons (.str _) (.cons (Dm.same (S89.trans S10)) .nil))
              have S9' := S9.trans S10
              have e10 := S10 _ _ e9
              generalize upd H9 tq (.tup [V.str m.1, yv]) = H10 at S10 Dq S9' e10 ⊢
              refine ⟨_, e10, by rw [List.length_map]; exact small1000 (by omega), T ++ [(tq, cpD (m.1, m.2.1))], by rw [upd_same, List.map_append]; rfl, by rw [List.map_append, dT, tk, List.map_append]; rfl, fun q hq => ?_, same_upd S9' hDH⟩
              rcases List.mem_append.mp hq with z | z
              · exact dat_upd e10 (kT q z) ((DT q z).same S10)
              · cases List.mem_singleton.mp z
                exact dat_upd e10 (keyable_cp _) Dq
          · rintro H9 ⟨T, e9, dT, DT, S9⟩
            rw [lu, List.take_length] at dT
            have S89 := S8.trans S9
            have eL := S9 _ _ e8
            have lT : T.length = (headsM ms).length := by rw [← List.length_map (f := Prod.snd), dT, List.length_map]
            have lH1 := one ms mS
            have BG9 := BG'.same S89
            have eR9 := S89 _ _ eR
            have DR9 : ∀ q ∈ TR, Dat H9 q.v q.2 := fun q hq => (DR q hq).same S89
            have dE9 := dE'.same S89
            have kE9 := kE'.same S89
            have MW9 := MW.same S89
            have eu9 := S89 _ _ eu
            have nlk : (PyData.list ((lackM F' ms).map PyData.bool)).plain = true := plains_map PyData.bool (fun _ => rfl) _
            have nhd : (PyData.list ((headsM ms).map cpD)).plain = true := plains_map cpD plain_cp _
            have dlk : (PyData.list ((lackM F' ms).map PyData.bool)).depth ≤ 8 := by
              have := depths_map PyData.bool 0 (fun _ => Nat.le_refl _) (lackM F' ms)
              simp only [PyData.depth]
              omega
            have dhd : (PyData.list ((headsM ms).map cpD)).depth ≤ 8 := by
              have := depths_map cpD 2 depth_cpD (headsM ms)
              simp only [PyData.depth]
              omega
            have DtL : ∀ G2, Same H9 G2 → Dat G2 (.ref DL) (.list ((lackM F' ms).map PyData.bool)) := fun G2 z => .lst (z _ _ eL) (dats_bls _)
            have DtH : ∀ G2, Same H9 G2 → Dat G2 (.ref DH) (.list ((headsM ms).map cpD)) := fun G2 z => .lst (z _ _ e9) (by rw [← dT]; exact dats_rows fun q hq => (DT q hq).same z)
            have SbH : ∀ G2, Same H9 G2 → Same H G2 := fun G2 z b u e => z _ _ (BG9 b u (fun m => by rw [List.mem_singleton.mp m, hD] at e; cases e) e)
            have fin_app : ∀ (G2 : Hp) (p8 p9 p10 : Option V), Same H9 G2 → lackM F' ms ≠ [] →
                ∃ (lx : Addr) (xs : List V) (y : V), V.ref lw = .ref lx ∧ [V.ref a] = [y] ∧ G2 lx = some (.lst xs) ∧ xs.length < sizeLine ∧ ∃ (g' : Bool) (F2 : List Cpy) (E2 : List DRow) (W2 : List (List Mk)) (q5 q6 q7 q8 q9 q10 : Option V), ([some (.ref l), some (.ref aD), some (.ref lr), some (.bl g), some (.ref lw), some (.ref a), some (.ref DL), some (.ref DH), p8, p9, p10] : L2.St) = [some (.ref l), some (.ref aD), some (.ref lr), some (.bl g'), some (.ref lw), q5, q6, q7, q8, q9, q10] ∧ Sb [aD] H (upd G2 lx (.lst (xs ++ [y]))) ∧ upd G2 lx (.lst (xs ++ [y])) lr = some (.lst (TR.map TRow.v)) ∧ (∀ q ∈ TR, Dat (upd G2 lx (.lst (xs ++ [y]))) q.v q.2) ∧ DnAt w (upd G2 lx (.lst (xs ++ [y]))) aD E2 ∧ KeysAt (upd G2 lx (.lst (xs ++ [y]))) E2 ∧ KysG cpD E2 F2 F2.length ∧ Mks (upd G2 lx (.lst (xs ++ [y]))) lw W2 ∧ PassM S R F (i + 1) F2 W2 g' := fun G2 p8 p9 p10 z no => by
              have MW2 := MW9.same z
              obtain ⟨xs, exs, lxs⟩ := MW2.len
              have ntw : ∀ ys, G2 lw ≠ some (.tup ys) := fun ys e => by rw [exs] at e; cases e
              have plen := PS.len
              have st := PS.st.len
              rw [List.length_append] at st
              have Da : Dat G2 (.ref a) (mksD ms) := .tup (z _ _ eu9) (DatAll.same (S89.trans z) Du)
              exact ⟨lw, xs, _, rfl, rfl, exs, by rw [lxs]; exact small16 (by omega), g, F', E', W ++ [ms], _, _, _, _, _, _, rfl, sb_off (BG9.same z) hlw0, by rw [upd_ne lwr]; exact z _ _ eR9, fun q hq => dat_upd exs (kTR q hq) ((DR9 q hq).same z), dn_off (dE9.same z) (Ne.symm lwD), keys_tups (kE9.same z) (Tups.upd ntw), KE', MW2.push exs Da, PS.wait hms no⟩
            refine ⟨_, rfl, (by show 0 ≤ sizeLine; decide), fun l1 hl1 => ?_⟩
            have z1 := same_new (o := .lst []) hl1
            have en1 : Dat (upd H9 l1 (.lst [])) (.ref l1) (.list []) := .lst upd_same .nil
            generalize upd H9 l1 (.lst []) = H10 at z1 en1 ⊢
            refine ⟨_, _, DtL _ z1, en1, nlk, rfl, dlk, _, rfl, ?_⟩
            rw [eq_nilL]
            by_cases c1 : lackM F' ms = []
            · rw [c1]
              show if true = true then _ else _
              rw [if_pos rfl]
              refine ⟨_, rfl, (by show 0 ≤ sizeLine; decide), fun l2 hl2 => ?_⟩
              have z2 := z1.trans (same_new (o := .lst []) hl2)
              have en2 : Dat (upd H10 l2 (.lst [])) (.ref l2) (.list []) := .lst upd_same .nil
              generalize upd H10 l2 (.lst []) = H11 at z2 en2 ⊢
              refine ⟨_, _, DtH _ z2, en2, nhd, rfl, dhd, _, rfl, ?_⟩
              rw [eq_nilL]
              match hh : headsM ms with
              | [] =>
                show if true = true then _ else _
                rw [if_pos rfl]
                exact (q _ (SbH _ z2)).1 fun r => PS.stop one hms c1 hh r
              | [c] =>
                show if false = true then _ else _
                rw [if_neg (by decide)]
                refine ⟨_, rfl, (by show 0 ≤ sizeLine; decide), fun l3 hl3 => ?_⟩
                have z3 := z2.trans (same_new (o := .lst []) hl3)
                have en3 : Dat (upd H11 l3 (.lst [])) (.ref l3) (.list []) := .lst upd_same .nil
                generalize upd H11 l3 (.lst []) = H12 at z3 en3 ⊢
                have DL3 := DtL _ z3
                rw [c1] at DL3
                refine ⟨_, _, DL3, en3, rfl, rfl, (by decide), _, rfl, ?_⟩
                rw [eq_nilL]
                show if true = true then _ else _
                rw [if_pos rfl]
                rw [hh] at dT
                obtain ⟨t0, d0, rfl⟩ : ∃ t0 d0, T = [(t0, d0)] := by
                  match T, dT with
                  | [(t0, d0)], _ => exact ⟨t0, d0, rfl⟩
                have ed0 : d0 = cpD c := by simpa using dT
                subst ed0
                have Dq := ((DT _ (List.mem_singleton.mpr rfl)).same z3 : Dat H12 (.ref t0) (cpD c))
                have dE3 := dE9.same z3
                have kE3 := kE9.same z3
                have TD : Tups H12 (upd H12 aD (DnO w aD (putN E' (t0, cpD c) (.bl true)))) := Tups.upd (dn_noTup dE3)
                have st := PS.st.len
                have kl := KE'.len
                refine ⟨_, rfl, _, rfl, DH, _, 0, _, rfl, rfl, SqL.of (z3 _ _ e9), rfl, aD, t0, E', cpD c, rfl, rfl, dE3, kE3, Dq, keyable_cp _, enc_cp.d _, small16 (by omega), ?_⟩
                refine ⟨true, F' ++ [c], putN E' (t0, cpD c) (.bl true), W, _, _, _, _, _, _, rfl, (BG9.same z3).put (by simp), by rw [upd_ne lrD]; exact z3 _ _ eR9, fun q hq => TD.dat (kTR q hq) ((DR9 q hq).same z3), .inl upd_same, keys_tups (keys_put (v := .bl true) kE3 Dq (keyable_cp _) (enc_cp.d _)) TD, ?_, (MW9.same z3).off TD lwD, PS.grow one hms c1 hh⟩
                rw [List.length_append]
                exact KE'.put enc_cp
              | x :: y :: k => rw [hh] at lH1; simp at lH1
            · have e1 : ((lackM F' ms).map PyData.bool).isEmpty = false := by
                cases h : lackM F' ms with
                | nil => exact absurd h c1
                | cons x l => rfl
              rw [e1]
              show if false = true then _ else _
              rw [if_neg (by decide)]
              show if false = true then _ else _
              rw [if_neg (by decide)]
              refine ⟨_, rfl, (by show 0 ≤ sizeLine; decide), fun l2 hl2 => ?_⟩
              have z2 := z1.trans (same_new (o := .lst []) hl2)
              have en2 : Dat (upd H10 l2 (.lst [])) (.ref l2) (.list []) := .lst upd_same .nil
              generalize upd H10 l2 (.lst []) = H11 at z2 en2 ⊢
              refine ⟨_, _, DtL _ z2, en2, nlk, rfl, dlk, _, rfl, ?_⟩
              rw [eq_nilL, e1]
              show if false = true then _ else _
              rw [if_neg (by decide)]
              refine ⟨_, rfl, (by show 0 ≤ sizeLine; decide), fun l3 hl3 => ?_⟩
              have z3 := z2.trans (same_new (o := .lst []) hl3)
              have en3 : Dat (upd H11 l3 (.lst [])) (.ref l3) (.list []) := .lst upd_same .nil
              generalize upd H11 l3 (.lst []) = H12 at z3 en3 ⊢
              refine ⟨_, _, DtH _ z3, en3, nhd, rfl, dhd, _, rfl, ?_⟩
              rw [eq_nilL]
              obtain ⟨xw, exw, _⟩ := (MW9.same z3).len
              match hh : headsM ms with
              | [] =>
                show if true = true then _ else _
                rw [if_pos rfl]
                show if true = true then _ else _
                rw [if_pos rfl]
                exact ⟨_, rfl, .inl ⟨rfl, _, SqL.of exw⟩, _, rfl, fin_app H12 _ _ _ z3 c1⟩
              | [c] =>
                show if false = true then _ else _
                rw [if_neg (by decide)]
                rw [hh] at dT
                obtain ⟨t0, d0, rfl⟩ : ∃ t0 d0, T = [(t0, d0)] := by
                  match T, dT with
                  | [(t0, d0)], _ => exact ⟨t0, d0, rfl⟩
                have ed0 : d0 = cpD c := by simpa using dT
                subst ed0
                have Dq := ((DT _ (List.mem_singleton.mpr rfl)).same z3 : Dat H12 (.ref t0) (cpD c))
                have dE3 := dE9.same z3
                have kE3 := kE9.same z3
                refine ⟨_, rfl, DH, _, 0, _, rfl, rfl, SqL.of (z3 _ _ e9), rfl, _, rfl, t0, aD, E', cpD c, rfl, rfl, dE3, kE3, Dq, keyable_cp _, enc_cp.d _, _, rfl, ?_⟩
                by_cases mem : c ∈ F'
                · rw [(KE'.some_iff enc_cp c).mpr mem]
                  show if false = true then _ else _
                  rw [if_neg (by decide)]
                  exact ⟨g, F', E', W, _, _, _, _, _, _, rfl, BG9.same z3, z3 _ _ eR9, fun q hq => (DR9 q hq).same z3, dE3, kE3, KE', MW9.same z3, PS.drop_ hms (by rw [hh]; exact List.mem_singleton.mpr rfl) mem⟩
                · rw [(KE'.none_iff enc_cp c).mpr mem]
                  show if true = true then _ else _
                  rw [if_pos rfl]
                  exact ⟨_, rfl, .inl ⟨rfl, _, SqL.of exw⟩, _, rfl, fin_app H12 _ _ _ z3 c1⟩
              | x :: y :: k => rw [hh] at lH1; simp at lH1
      · rintro σ G' ⟨g, F', E', W, p5, p6, p7, p8, p9, p10, rfl, BG', eR, DR, dE', kE', KE', MW, PS⟩
        rw [List.length_map, lTR] at PS
        have plen := PS.len
        have st := PS.st
        rw [List.drop_length, List.append_nil] at st
        refine ⟨_, rfl, ⟨lw, g, F', E', W, _, _, _, _, _, _, _, rfl, BG', dE', kE', KE', MW, st, fun e => (PS.same e).2⟩, ?_⟩
        show muF _ G' < muF [some (.ref l), some (.ref aD), some (.ref lr), some (.bl true), o4, o5, o6, o7, o8, o9, o10] G
        rw [mu0]
        cases g with
        | false => exact Nat.succ_pos _
        | true =>
          obtain ⟨TW, eW, dW, _⟩ := MW
          have lW : TW.length = W.length := by rw [← List.length_map (f := Prod.snd), dW, List.length_map]
          show (match G' lw with | some (.lst xs) => xs.length + 1 | _ => 0) < _
          rw [eW]
          rw [if_pos rfl] at plen
          show (TW.map TRow.v).length + 1 < _
          rw [List.length_map, lW]
          omega
    | false =>
      rw [if_neg (by decide)]
      have M := GR.done (nog rfl)
      have SG : Same H G := fun b u e => BG b u (fun m => by rw [List.mem_singleton.mp m, hD] at e; cases e) e
      have lF := GR.len
      exact ⟨_, rfl, (q G SG).2 aD E F M GR.low hD dE kE KE (by omega)⟩
end
end S1

set_option Elab.async false
set_option linter.all false
set_option maxRecDepth 100000
set_option maxHeartbeats 4000000
/-! the least of all that is so -/
namespace S1
open PySem PySem.W PySem.Spec PyProof.Rows L2
/-- d tells the least values by which all of S is so, or that there are none -/
def LTm (os : List Own) (S : List (List Mk)) (d : PyData) : Prop := (d = .none ∧ ∀ r, ¬ MeetsM r S) ∨ ∃ L : Cpy → Bool, MeetsM L S ∧ (∀ r, MeetsM r S → ∀ c ∈ copD os, L c = true → r c = true) ∧ d = ansT (tabs os ((copD os).map L))
theorem LTm.uniq {os : List Own} {S : List (List Mk)} {d e : PyData} (h : LTm os S d) (g : LTm os S e) : d = e := by
  rcases h with ⟨rfl, n1⟩ | ⟨L1, M1, l1, rfl⟩
  · rcases g with ⟨rfl, _⟩ | ⟨L2, M2, _, _⟩
    · rfl
    · exact absurd M2 (n1 L2)
  · rcases g with ⟨_, n2⟩ | ⟨L2, M2, l2, rfl⟩
    · exact absurd M1 (n2 L1)
    · have : (copD os).map L1 = (copD os).map L2 := List.map_congr_left fun c hc => Bool.eq_iff_iff.mpr ⟨l1 L2 M2 c hc, l2 L1 M1 c hc⟩
      rw [this]
theorem meetsm_congr {r : Cpy → Bool} {S S' : List (List Mk)} (e : ∀ x, x ∈ S ↔ x ∈ S') : MeetsM r S ↔ MeetsM r S' := ⟨fun h ns m => h ns ((e ns).mpr m), fun h ns m => h ns ((e ns).mp m)⟩
theorem LTm.congr {os : List Own} {S S' : List (List Mk)} {d : PyData} (h : LTm os S d) (e : ∀ x, x ∈ S ↔ x ∈ S') : LTm os S' d := by
  rcases h with ⟨rfl, n⟩ | ⟨L, M, l, rfl⟩
  · exact .inl ⟨rfl, fun r m => n r ((meetsm_congr e).mpr m)⟩
  · exact .inr ⟨L, (meetsm_congr e).mp M, fun r m => l r ((meetsm_congr e).mpr m), rfl⟩
abbrev toldA (s : Say) : List (List Mk) := toldM s (playsD s.picks.length)
abbrev LTS (s : Say) (d : PyData) : Prop := LTm s.owns (toldA s) d
theorem heads_codes (os : List Own) (ms : List Mk) : (truesL (ms.map (codeM os))).length = (headsM ms).length := by
  unfold truesL headsM
  rw [List.length_map, List.length_map, List.filter_map, List.length_map]
  congr 2
  funext m
  exact code_odd os m
theorem easy_marks {s : Say} (ok : SayOk 6 8 120 40 s) (pl : (s.cls.map (plainC s)).all id = true) {S : List (List Mk)} (iff : ∀ x, x ∈ S ↔ x ∈ toldA s) : ∀ ms ∈ S, (headsM ms).length ≤ 1 ∧ ms.length ≤ 14 := fun ms hms => by
  refine ⟨?_, (marks_ok ok iff ms hms).1⟩
  obtain ⟨bs, h1, cl, h2, h3, rfl⟩ := mem_toldM.mp ((iff ms).mp hms)
  have p : plainC s cl = true := List.all_eq_true.mp pl _ (List.mem_map_of_mem h2)
  have z := (easy_codes ok (plays_bits _ _ h1) (ok.ck cl h2) p).1.one
  rw [codes_marks, heads_codes] at z
  exact z
/-- two rows that agree at the copies of S -/
theorem meets_agree {os : List Own} {S : List (List Mk)} (hS : ∀ ms ∈ S, ms.length ≤ 14 ∧ ∀ m ∈ ms, ((m.1, m.2.1) : Cpy) ∈ copD os) {f g : Cpy → Bool} (e : ∀ c ∈ copD os, f c = g c) : MeetsM f S ↔ MeetsM g S := by
  rw [← meets_all, ← meets_all, so_agree hS e]
theorem plc_get {os : List Own} {c : Cpy} (h : c ∈ copD os) : (copD os)[plc os c]? = some c := by
  unfold plc
  rw [List.getElem?_eq_getElem (List.idxOf_lt_length_iff.mpr h), List.getElem_idxOf]
theorem rowOf_copies {os : List Own} (nd : (copD os).Nodup) (t : Nat) : rowOf (copies os) t = (copD os).map fun c => t.testBit (plc os c) := by
  refine List.ext_getElem? fun i => ?_
  unfold rowOf
  rw [List.getElem?_map, List.getElem?_map]
  cases h : (copD os)[i]? with
  | none =>
    have : copies os ≤ i := by rw [← cop_len]; exact List.getElem?_eq_none_iff.mp h
    rw [List.getElem?_eq_none_iff.mpr (by rw [List.length_range]; exact this)]
    rfl
  | some c =>
    have il := (List.getElem?_eq_some_iff.mp h).1
    rw [List.getElem?_range (by rw [← cop_len]; exact il)]
    have hc := List.mem_of_getElem? h
    have e : plc os c = i := (List.getElem?_inj (by have := plc_lt hc; rw [cop_len]; exact this) nd).mp ((plc_get hc).trans h.symm)
    show some (t.testBit i) = some (t.testBit (plc os c))
    rw [e]
/-- what the program tells is the least -/
theorem lt_prog {s : Say} (ok : SayOk 6 8 120 40 s) {H : Hp} {u : V} (h : u = .non ∧ (∀ r, ¬ Meets r (toldS s s.cls)) ∨ ∃ t : Nat, Meets (fun i => t.testBit i) (toldS s s.cls) ∧ (∀ r, Meets r (toldS s s.cls) → ∀ i, t.testBit i = true → r i = true) ∧ Dat H u (ansT (tabs s.owns (rowOf (copies s.owns) t)))) : ∃ d, LTS s d ∧ Dat H u d := by
  have hS := marks_ok ok (S := toldA s) fun _ => Iff.rfl
  have lift : ∀ r : Cpy → Bool, MeetsM r (toldA s) → ∃ rN : Nat → Bool, Meets rN (toldS s s.cls) ∧ ∀ c ∈ copD s.owns, rN (plc s.owns c) = r c := fun r M => by
    refine ⟨fun i => match (copD s.owns)[i]? with | some c => r c | none => false, ?_, fun c hc => ?_⟩
    · refine (meets_m (S := toldA s) fun _ => Iff.rfl).mpr ?_
      refine (meets_agree hS fun c hc => ?_).mpr M
      show (match (copD s.owns)[plc s.owns c]? with | some c => r c | none => false) = r c
      rw [plc_get hc]
    · show (match (copD s.owns)[plc s.owns c]? with | some c => r c | none => false) = r c
      rw [plc_get hc]
  rcases h with ⟨rfl, n⟩ | ⟨t, M, low, D⟩
  · refine ⟨.none, .inl ⟨rfl, fun r m => ?_⟩, .non⟩
    obtain ⟨rN, m2, _⟩ := lift r m
    exact n rN m2
  · rw [rowOf_copies (cop_nodup s.owns (own_nd ok))] at D
    refine ⟨_, .inr ⟨fun c => t.testBit (plc s.owns c), (meets_m (S := toldA s) fun _ => Iff.rfl).mp M, fun r m c hc e => ?_, rfl⟩, D⟩
    obtain ⟨rN, m2, ag⟩ := lift r m
    rw [← ag c hc]
    exact low rN m2 _ e
/-- what is forced is the least -/
theorem lt_forced {os : List Own} {S : List (List Mk)} {F : List Cpy} (M : MeetsM (fun c => decide (c ∈ F)) S) (low : ∀ r, MeetsM r S → ∀ c ∈ F, r c = true) : LTm os S (ansT (tabs os ((copD os).map fun c => decide (c ∈ F)))) := .inr ⟨_, M, fun r m c _ h => low r m c (of_decide_eq_true h), rfl⟩
end S1

set_option Elab.async false
set_option linter.all false
set_option maxRecDepth 100000
set_option maxHeartbeats 4000000
/-! the least, by the law -/
namespace S1
open PySem PySem.W PySem.Spec PyProof.Rows L2
theorem ows_ok {a b c d : Nat} {s : Say} (ok : SayOk a b c d s) (hb : b ≤ 8) (hc : c ≤ 120) (ha : a ≤ 6) : OwsOk s.owns := ⟨Nat.le_trans ok.ol hb, Nat.le_trans ok.oc hc, fun o ho => by
  have h := (ok.own ho).le
  have := ok.pl
  omega⟩
def spLLeast : Sp := fun vs H Q _ => ∃ (v : V) (os : List Own) (l : Addr) (S : List (List Mk)), vs = [v, .ref l] ∧ DatO H v os ∧ OwsOk os ∧ Mks H l S ∧ (∀ ms ∈ S, (headsM ms).length ≤ 1 ∧ ms.length ≤ 14) ∧ S.length ≤ 2560 ∧ ∀ (u : V) (H' : Hp) (d : PyData), Same H H' → LTm os S d → Dat H' u d → Q u H'
abbrev nLl : List Str := ["owns", "told", "found", "copy"]
section
variable {P : Program} {w : World} {K : PySem.W.Frag} {mg : Str → Option Value} {base : Heap}
theorem scLLeast : FnScope nLl ["owns", "told"] (defScope sLLeast) := ⟨rfl, rfl, rfl, by decide +kernel, rfl, by decide +kernel, by decide +kernel⟩
theorem ok_lLeast {f fF fC fT : Addr} {fd fdF fdC fdT : FuncData} (F : Fun K "_law_least" "_law_least" sLLeast f fd) (B : Blt mg) (Fo : Has K mg "_law_forced" sLForced ["told"] fF fdF) (Co : Has K mg "_law_copies" sLCopies ["owns"] fC fdC) (To : Has K mg "_law_tables" sLTables ["owns", "row"] fT fdT) : FnOk P w K mg base CX0 2 f fd ["owns", "told"] spLLeast := by
  have GF : FnOk P w K mg base CX0 1 fF fdF ["told"] (spForced w) := ok_forced Fo.F B
  have GC : FnOk P w K mg base CX0 1 fC fdC ["owns"] spLCopies := ok_lCopies Co.F B
  have GT : FnOk P w K mg base CX0 1 fT fdT ["owns", "row"] spLTables := ok_lTables To.F B
  refine F.ok scLLeast (fun vs H Q E h => ?_) (fun cdv A outer s H vs Q E hr h => ?_)
  · obtain ⟨v, os, l, S, rfl, _⟩ := h
    rfl
  · obtain ⟨v, os, l, S, rfl, D, ok, Ms, ES, lS, q⟩ := h
    have hu : (A.deeper (envOfC "_law_least" (defScope sLLeast) s.heap.objs.size f cdv)).units + 16 < cLine := by
      have h64 : (A.deeper (envOfC "_law_least" (defScope sLLeast) s.heap.objs.size f cdv)).units + 64 < cLine := hr.units
      omega
    refine ⟨_, pss_cons (ps_set (i := 2) scLLeast.nd rfl (.inr rfl) (pe_call GF hr rfl Fo.g Fo.F.kp Fo.b .nil pass0 (pa_cons (pv 1) pa_nil)))
      (pss_cons (ps_if (pt_cmpR op_isN (pv 2) pe_non (nomark _)) (pss_one (ps_ret pe_non)) pss_nil)
      (pss_one (ps_ret (pe_call GT hr rfl To.g To.F.kp To.b .nil pass0 (pa_cons (pv 0) (pa_cons
        (pe_lc (own := [("copy", 3)]) (g := gName 3) (tt := tYes) (te := tOp (rInN id w) (tVar 3) (tVar 2)) rfl scLLeast.nd (pi_list (pe_call GC (by exact hr) (by rfl) Co.g Co.F.kp Co.b .nil pass0 (pa_cons (pv 0) pa_nil))) (blkOk_by (N := nLl) (sc := defScope sLLeast) (by decide +kernel))
          (fun _ _ _ _ _ => pg_name (i := 3) scLLeast.nd rfl (Or.inl rfl)) (fun _ _ _ _ _ => pts_nil) (fun _ _ _ _ _ => by exact pe_cmpR (op_inN (by exact hu)) (pv 3) (pv 2) (by with_unfolding_all rfl))) pa_nil)))))), ?_⟩
    refine ⟨_, rfl, l, S, rfl, Ms, ES, lS, fun H1 S1 => ⟨fun no => ?_, fun aD E F' M low hD dE kE KE lF => ?_⟩⟩
    · refine ⟨_, rfl, rfl, _, rfl, ?_⟩
      show if true = true then _ else _
      rw [if_pos rfl]
      exact q _ _ _ S1 (.inl ⟨rfl, no⟩) .non
    · refine ⟨_, rfl, rfl, _, rfl, ?_⟩
      show if false = true then _ else _
      rw [if_neg (by decide)]
      refine ⟨_, rfl, _, rfl, v, os, rfl, D.same S1, ok, fun lc H2 R2 => ?_⟩
      obtain ⟨T, eT, dT, DT⟩ := R2.ex
      have lT : T.length = copies os := by rw [← List.length_map (f := Prod.snd), dT, List.length_map, cop_len]
      have oc := ok.oc
      refine ⟨lc, rfl, ⟨_, SqL.of eT⟩, fun DR hDR => ?_⟩
      refine lc_list (K := K) (a := lc) (xs := T.map TRow.v) (fun i H4 => H4 DR = some (.lst ((((copD os).take i).map fun c => decide (c ∈ F')).map V.bl)) ∧ Same H2 H4) ⟨upd_same, same_new hDR⟩ (fun i H4 _ h => SqL.of (h.2 _ _ eT)) ?_ ?_
      · rintro i x H4 hx ⟨e4, S4⟩
        rw [List.getElem?_map] at hx
        obtain ⟨y, hy, rfl⟩ := Option.map_eq_some_iff.mp hx
        have ey : ((copD os).map cpD)[i]? = some y.2 := by rw [← dT, List.getElem?_map, hy]; rfl
        obtain ⟨c, hc, ec⟩ := get_map ey
        have Dy := (DT y (List.mem_of_getElem? hy)).same S4
        rw [ec] at Dy
        have S24 := R2.S.trans S4
        have il : i < copies os := by rw [← lT]; exact (List.getElem?_eq_some_iff.mp hy).1
        refine ⟨rfl, yes_of ⟨_, rfl, _, rfl, y.1, aD, E, cpD c, rfl, rfl, dE.same S24, kE.same S24, Dy, keyable_cp _, enc_cp.d _, _, e4, ?_, ?_, same_upd S4 hDR⟩⟩
        · rw [List.length_map, List.length_map, List.length_take]
          exact small1000 (by omega)
        · rw [upd_same, take_next hc, List.map_append, List.map_append]
          congr 3
          refine congrArg (fun b => [V.bl b]) ?_
          exact Bool.eq_iff_iff.mpr ((KE.some_iff enc_cp c).trans ⟨fun h => decide_eq_true h, fun h => of_decide_eq_true h⟩)
      · rintro H4 ⟨e4, S4⟩
        rw [List.length_map, lT, ← cop_len, List.take_length] at e4
        have S14 := (S1.trans R2.S).trans S4
        obtain ⟨ao, fl⟩ := tabs_ok os ((copD os).map fun c => decide (c ∈ F')) (by rw [List.length_map, cop_len])
        exact ⟨v, DR, os, _, rfl, D.same S14, ok, ao, by rw [fl]; exact e4, fun u H5 S5 Du => q u H5 _ (S14.trans S5) (lt_forced M low) Du⟩
end
end S1

set_option Elab.async false
set_option linter.all false
set_option maxRecDepth 100000
set_option maxHeartbeats 1000000
/-! how long a shown saying is -/
namespace S1
open PySem PySem.W PySem.Spec PyProof.Rows L2
theorem listText_le : ∀ ts : List Str, (listText ts).length ≤ piled ts + 2
  | [] => by decide
  | t :: r => by
    have h := textFrom_length_pos r 1 (("[" : Str) ++ (if (0 : Nat) > 0 then ", " else "" : String) ++ t) (Nat.succ_pos 0)
    have e1 : (("[" : Str) ++ (if (0 : Nat) > 0 then ", " else "" : String) ++ t).length = 1 + t.length := by
      rw [strLen_append, strLen_append]
      rfl
    have e2 : (listText (t :: r)).length = (textFrom 1 (("[" : Str) ++ (if (0 : Nat) > 0 then ", " else "" : String) ++ t) r).length + 1 := by
      show (textFrom 1 _ r ++ "]").length = _
      rw [strLen_append]
      rfl
    rw [piled_cons]
    omega
theorem join_le (ts : List Str) : (Str.join ", " ts).length ≤ piled ts := by
  by_cases h : ts = []
  · subst h
    decide
  · have := join_length_add ts h
    omega
theorem tupleText_le (ts : List Str) : (tupleText ts).length ≤ piled ts + 3 := by
  have h := join_le ts
  unfold tupleText
  rw [strLen_append, strLen_append]
  have e1 : ((("(" : String) : Str)).length = 1 := rfl
  have e3 : (((if ts.length == 1 then ",)" else ")" : String) : Str)).length ≤ 2 := by split <;> decide
  omega
theorem piled_le {b : Nat} : ∀ ts : List Str, (∀ t ∈ ts, t.length ≤ b) → piled ts ≤ ts.length * (b + 2)
  | [], _ => Nat.zero_le _
  | t :: r, h => by
    have h1 := h t (List.mem_cons_self ..)
    have h2 := piled_le r fun u hu => h u (List.mem_cons_of_mem _ hu)
    rw [piled_cons, List.length_cons, Nat.succ_mul]
    omega
/-- it can be shown, in a text of at most b signs, k deep -/
structure Shw (b k : Nat) (d : PyData) : Prop where
  s : d.showable = true
  z : d.shown.length ≤ b
  d : d.depth ≤ k
theorem Shw.up {b b' k k' : Nat} {d : PyData} (h : Shw b k d) (hb : b ≤ b') (hk : k ≤ k') : Shw b' k' d := ⟨h.s, Nat.le_trans h.z hb, Nat.le_trans h.d hk⟩
theorem shw_all {b k : Nat} : ∀ ds : List PyData, (∀ d ∈ ds, Shw b k d) → PyData.showableAll ds = true ∧ PyData.depthAll ds ≤ k ∧ (∀ t ∈ PyData.shownAll ds, t.length ≤ b) ∧ (PyData.shownAll ds).length = ds.length
  | [], _ => ⟨by simp only [PyData.showableAll], by simp only [PyData.depthAll]; omega, (fun t h => by simp only [PyData.shownAll] at h; exact nomatch h), by simp only [PyData.shownAll]; rfl⟩
  | d :: ds, h => by
    have h1 := h d (List.mem_cons_self ..)
    obtain ⟨a, b, c, e⟩ := shw_all ds fun x hx => h x (List.mem_cons_of_mem _ hx)
    refine ⟨by simp only [PyData.showableAll, h1.s, a, Bool.and_self], ?_, fun t ht => ?_, ?_⟩
    · simp only [PyData.depthAll]
      exact Nat.max_le.mpr ⟨h1.d, b⟩
    · simp only [PyData.shownAll, List.mem_cons] at ht
      rcases ht with rfl | ht
      · exact h1.z
      · exact c t ht
    · simp only [PyData.shownAll, List.length_cons, e]
theorem shw_tup {b k n : Nat} {ds : List PyData} (h : ∀ d ∈ ds, Shw b k d) (hl : ds.length ≤ n) : Shw (n * (b + 2) + 3) (k + 1) (.tuple ds) := by
  obtain ⟨a, dd, c, e⟩ := shw_all ds h
  refine ⟨by simp only [PyData.showable, a], ?_, by simp only [PyData.depth]; omega⟩
  simp only [PyData.shown]
  have h1 := tupleText_le (PyData.shownAll ds)
  have h2 := piled_le _ c
  have h3 : (PyData.shownAll ds).length * (b + 2) ≤ n * (b + 2) := Nat.mul_le_mul_right _ (by omega)
  omega
theorem shw_lst {b k n : Nat} {ds : List PyData} (h : ∀ d ∈ ds, Shw b k d) (hl : ds.length ≤ n) : Shw (n * (b + 2) + 3) (k + 1) (.list ds) := by
  obtain ⟨a, dd, c, e⟩ := shw_all ds h
  refine ⟨by simp only [PyData.showable, a], ?_, by simp only [PyData.depth]; omega⟩
  simp only [PyData.shown]
  have h1 := listText_le (PyData.shownAll ds)
  have h2 := piled_le _ c
  have h3 : (PyData.shownAll ds).length * (b + 2) ≤ n * (b + 2) := Nat.mul_le_mul_right _ (by omega)
  omega
theorem shw_map {α : Type} {b k n : Nat} {f : α → PyData} {l : List α} (h : ∀ x ∈ l, Shw b k (f x)) (hl : l.length ≤ n) : Shw (n * (b + 2) + 3) (k + 1) (.tuple (l.map f)) := shw_tup (fun d hd => by
  obtain ⟨x, hx, rfl⟩ := List.mem_map.mp hd
  exact h x hx) (by rw [List.length_map]; exact hl)
theorem shw_bl (b : Bool) : Shw 5 0 (.bool b) := by cases b <;> exact ⟨rfl, by decide, Nat.le_refl _⟩
theorem shw_nm {x : Str} (h : Nm x) : Shw 82 0 (.str x) := by
  refine ⟨rfl, ?_, Nat.le_refl _⟩
  simp only [PyData.shown]
  have := StrLaws.reprText_len x fun c hc => Nat.lt_of_le_of_lt (h.az c hc).2 (by decide)
  have := h.hi
  omega
theorem shw_nms {xs : List Str} (h : ∀ x ∈ xs, Nm x) (hl : xs.length ≤ 6) : Shw 507 1 (nmsD xs) := shw_map (n := 6) (fun x hx => shw_nm (h x hx)) hl
theorem shw_say {s : Say} (ok : SayOk 6 8 120 40 s) : Shw 300000 5 s.d := by
  have hp : Shw 507 1 (nmsD s.picks) := shw_nms ok.pn ok.pl
  have ho : Shw 8187 3 (.tuple (s.owns.map ownD)) := shw_map (b := 1021) (k := 2) (n := 8) (fun o m => by
    have og := ok.own m
    refine shw_tup (b := 507) (k := 1) (n := 2) (ds := [.str o.1, nmsD o.2]) (fun d hd => ?_) (Nat.le_refl _)
    rcases List.mem_cons.mp hd with rfl | hd
    · exact (shw_nm (ok.on o m).1).up (by decide) (by decide)
    · cases List.mem_singleton.mp hd
      exact shw_nms (fun x hx => ok.pn x ((ok.on o m).2.2.2 x hx)) (Nat.le_trans og.le ok.pl)) ok.ol
  have hn : ∀ x ∈ s.names, Nm x := fun x hx => by
    rcases List.mem_append.mp hx with m | m
    · exact ok.pn x m
    · obtain ⟨o, mo, rfl⟩ := List.mem_map.mp m
      exact (ok.on o mo).1
  have hc : Shw 97083 3 (.tuple (s.cls.map clD)) := shw_map (b := 2425) (k := 2) (n := 40) (fun cl m => by
    have ck := ok.ck cl m
    have lc : cl.length ≤ 14 := Nat.le_trans (cl_len ck) ok.nlen
    refine shw_map (b := 171) (k := 1) (n := 14) (fun l ml => ?_) lc
    refine shw_tup (b := 82) (k := 0) (n := 2) (ds := [.str l.1, .bool l.2]) (fun d hd => ?_) (Nat.le_refl _)
    rcases List.mem_cons.mp hd with rfl | hd
    · exact shw_nm (hn _ (ck.mem l ml))
    · cases List.mem_singleton.mp hd
      exact (shw_bl _).up (by decide) (by decide)) ok.cl
  exact (shw_tup (b := 97083) (k := 3) (n := 3) (ds := [nmsD s.picks, .tuple (s.owns.map ownD), .tuple (s.cls.map clD)]) (fun d hd => by
    rcases List.mem_cons.mp hd with rfl | hd
    · exact hp.up (by decide) (by decide)
    rcases List.mem_cons.mp hd with rfl | hd
    · exact ho.up (by decide) (by decide)
    · cases List.mem_singleton.mp hd
      exact hc) (Nat.le_refl _)).up (by decide) (by decide)
end S1

set_option Elab.async false
set_option linter.all false
set_option maxRecDepth 100000
set_option maxHeartbeats 4000000
/-! answers as they are shown -/
namespace S1
open PySem PySem.W PySem.Spec PyProof.Rows L2
theorem shw_ans {os : List Own} {an : List Tbl} (ok : OwsOk os) (ao : AnsOk os an) : Shw 4000 2 (ansT an) := by
  refine (shw_map (b := 451) (k := 1) (n := 8) (fun t ht => ?_) (by rw [ao.len]; exact ok.ol)).up (by decide) (by decide)
  obtain ⟨i, hi⟩ := List.mem_iff_getElem?.mp ht
  obtain ⟨o, ho⟩ : ∃ o, os[i]? = some o := ⟨_, List.getElem?_eq_getElem (by have := (List.getElem?_eq_some_iff.mp hi).1; have := ao.len; omega)⟩
  have z := ao.tbl i o t ho hi
  have ole := ok.le o (List.mem_of_getElem? ho)
  have p64 : 2 ^ o.2.length ≤ 2 ^ 6 := Nat.pow_le_pow_right (by decide) ole
  exact (shw_map (b := 5) (k := 0) (n := 64) (f := PyData.bool) (fun b _ => shw_bl b) (by omega)).up (by decide) (by decide)
theorem shw_ltm {os : List Own} {S : List (List Mk)} {d : PyData} (ok : OwsOk os) (h : LTm os S d) : Shw 4000 2 d := by
  rcases h with ⟨rfl, _⟩ | ⟨L, _, _, rfl⟩
  · exact ⟨rfl, by decide, by decide⟩
  · exact shw_ans ok (tabs_ok _ _ (by rw [List.length_map, cop_len])).1
theorem kb_least {K : PySem.W.Frag} {f : Addr} {fd : FuncData} (F : Fun K "least_true" "least_true" sLeastTrue f fd) : KB0 K fd ["saying"] ["saying"] id id := Fun.kb1 F fun _ _ _ _ _ _ _ => rfl
end S1

set_option Elab.async false
set_option linter.all false
set_option maxRecDepth 100000
set_option maxHeartbeats 2000000
/-! dict(pairs), the keys unlike tuples -/
namespace L2
open PySem PySem.W PySem.Spec PyProof.Rows
section
variable {X : Cx}
theorem kn_pairs {pins : List (Addr × Obj)} {σ : L2.St} {H : Hp} {s : Shared} (I : Inv X pins σ H s) : ∀ {ps : List Addr} {E : List DRow}, Paired (fun (p : Addr) (e : DRow) => H p = some (.tup [.ref e.1.1, e.2])) ps E →
    ∃ xs : List (NestedKey × Addr × Value), KN E xs ∧ xs.length = ps.length ∧ ∀ (j : Nat) (p : Addr), ps[j]? = some p → ∃ x, xs[j]? = some x ∧ s.heap.IsTuple p #[.ref x.2.1, x.2.2]
  | _, _, .nil => ⟨[], .nil, rfl, fun j q e => by simp at e⟩
  | _, _, .cons (a := p) (b := e) h t => by
    obtain ⟨xs, r, hl, hp⟩ := kn_pairs I t
    obtain ⟨its, rv, ht, _⟩ := I.tuple (SqT.of (K := X.K) h)
    obtain ⟨u, y, ei, ru, ry⟩ := vals2 rv
    subst ei
    cases (show u = Value.ref e.1.1 from ru)
    refine ⟨(nkey e.1.2, e.1.1, y) :: xs, .cons ⟨rfl, rfl, ry⟩ r, by rw [List.length_cons, List.length_cons, hl], fun j q e' => ?_⟩
    cases j with
    | zero =>
      have e' : p = q := Option.some.inj e'
      subst e'
      obtain ⟨o, a1, a2, a3, a4⟩ := ht
      exact ⟨_, rfl, o, a1, a2, _, a4⟩
    | succ j =>
      obtain ⟨x, e1, e2⟩ := hp j q (by simpa using e')
      exact ⟨x, by simpa using e1, e2⟩
def rDictN (K : PySem.W.Frag) (w : World) : List V → Hp → VK → Prop := fun vs H Q => ∃ (l : Addr) (ps : List Addr) (E : List DRow), vs = [.ref l] ∧ SqL K H l (ps.map V.ref) ∧ Paired (fun (p : Addr) (e : DRow) => H p = some (.tup [.ref e.1.1, e.2])) ps E ∧ KeysAt H E ∧
  (E.map fun e => nkey e.1.2).Nodup ∧ ∀ b, H b = none → Q (.ref b) (upd H b (DnO w b E))
theorem call_dictN (hc : X.calm = true) (hu : X.A.units + 16 < cLine) : CallR X (.type "dict") (rDictN X.K X.w) := by
  intro pins s σ H vs us Q I r h
  obtain ⟨l, ps, E, rfl, hq, pr, kk, nd, q⟩ := h
  rw [Vals.ref1 r]
  obtain ⟨its, rv, pl, hz⟩ := I.list hq
  have ei := refs_at rv
  subst ei
  obtain ⟨o, n, ho, hcl, hd, hdat⟩ := pl
  obtain ⟨xs, rel, lx, hx⟩ := kn_pairs I pr
  have lE : E.length = xs.length := Paired.length rel
  have ex : xs.map (·.1) = E.map fun e => nkey e.1.2 := by
    clear hx lx lE nd kk pr q
    induction rel with
    | nil => rfl
    | cons h t ih => rw [List.map_cons, List.map_cons, h.1, ih]
  have ok : PlainSeq "list" s.heap l (ps.map Value.ref).toArray ∧ PairItems s.heap (ps.map Value.ref).toArray (fun j => ps[j]?.getD 0) (xs.map fun x => (Value.ref x.2.1, x.2.2)) := by
    refine ⟨⟨o, n, ho, hcl, hd, hdat⟩, ?_, fun j k v hj => ?_⟩
    · simp [lx]
    · rw [List.getElem?_map] at hj
      obtain ⟨x, hx1, e⟩ := Option.map_eq_some_iff.mp hj
      cases e
      have jl : j < ps.length := by rw [← lx]; exact (List.getElem?_eq_some_iff.mp hx1).1
      obtain ⟨x', h1, h2⟩ := hx j ps[j] (List.getElem?_eq_getElem jl)
      rw [hx1] at h1
      cases h1
      refine ⟨by simp [jl], ?_⟩
      show PairAt _ (ps[j]?.getD 0) _ _
      rw [List.getElem?_eq_getElem jl]
      exact .inl h2
  refine call_dict_pairsH (knd := nestedKind X.prog X.w) (ps := xs) (PairArg.list l _ _ _) (I.ok.hd hc) (show X.A.in1.in1.units + 8 < cLine by simp only [Around.in1_units]; omega) ok ⟨by rw [List.length_map], fun i key v hr => ?_⟩ (fun h' hk x hx' => ?_) ?_ fun h' tk hd' hk => ?_
  · unfold PairRel at hr
    rw [List.getElem?_map] at hr
    obtain ⟨x, hx1, e⟩ := Option.map_eq_some_iff.mp hr
    cases e
    exact ⟨x.1, x.2.1, hx1, rfl⟩
  · have z := kn_keys I.hok rel kk x hx'
    exact nestedKind_stays.all h' (fun b o' _ e => hk b o' (Nat.ne_of_lt (Heap.lt_size e)) (by simp) e) _ _ z
  · rw [List.length_map, lx]
    rw [List.length_map] at hz
    exact hz
  · rw [storedAllH_nil_of_nodup xs (by rw [ex]; exact nd)] at hd'
    obtain ⟨o', es, ep, h1, h2, h3, h4, _, h5⟩ := hd'
    have hm : (s.heap.objs.size == sysModules) = false := beq_eq_false_iff_ne.mpr (Nat.ne_of_gt I.big)
    rw [List.length_map] at hz
    exact ⟨.ref s.heap.objs.size, upd H s.heap.objs.size (DnO X.w s.heap.objs.size E), I.laid (t' := tk) (fun b o e => hk b o (by simp) e) (Nat.le_refl _) (dn_ok ⟨xs, o', es, ep, rel, h1, h2, h3, h4, h5, by omega, hm⟩), rfl, q _ (I.hok.fresh (Nat.le_refl _))⟩
end
end L2

set_option Elab.async false
set_option linter.all false
set_option maxRecDepth 100000
set_option maxHeartbeats 4000000
/-! truths of copies, in a dict in their sequence -/
namespace S1
open PySem PySem.W PySem.Spec PyProof.Rows L2
/-- a dict of the copies of cs with their truths -/
def VlX (w : World) (H : Hp) (D : Addr) (cs : List Cpy) (r : Cpy → Bool) : Prop := ∃ E, DnAt w H D E ∧ KeysAt H E ∧ E.map (fun p => p.1.2) = cs.map cpD ∧ E.map (·.2) = cs.map fun c => V.bl (r c)
theorem VlX.same {w : World} {H H' : Hp} {D : Addr} {cs : List Cpy} {r : Cpy → Bool} (h : VlX w H D cs r) (S : Same H H') : VlX w H' D cs r := let ⟨E, a, b, c, d⟩ := h; ⟨E, a.same S, b.same S, c, d⟩
theorem look_x : ∀ (E : List DRow) (cs : List Cpy) (r : Cpy → Bool), E.map (fun p => p.1.2) = cs.map cpD → (E.map (·.2) = cs.map fun c => V.bl (r c)) → ∀ c ∈ cs, lookN E (cpD c) = some (V.bl (r c))
  | [], [], _, _, _, c, h => absurd h (by simp)
  | [], _ :: _, _, h, _, _, _ => by cases h
  | _ :: _, [], _, h, _, _, _ => by cases h
  | p :: E, c0 :: cs, r, h1, h2, c, hc => by
    injection h1 with h1a h1
    injection h2 with h2a h2
    replace h1a : p.1.2 = cpD c0 := h1a
    replace h2a : p.2 = V.bl (r c0) := h2a
    rw [lookN_cons, h1a]
    by_cases e : c0 = c
    · subst e
      rw [if_pos rfl]
      exact congrArg some h2a
    · have nk : ¬ nkey (cpD c0) = nkey (cpD c) := fun z => e (nkey_cpD.mp z)
      have hc' : c ∈ cs := (List.mem_cons.mp hc).elim (fun z => absurd z.symm e) id
      rw [if_neg nk]
      exact look_x E cs r h1 h2 c hc'
theorem VlX.vls {w : World} {H : Hp} {D : Addr} {cs : List Cpy} {r : Cpy → Bool} (h : VlX w H D cs r) : Vls w H D cs r := let ⟨E, a, b, c, d⟩ := h; ⟨E, a, b, look_x E cs r c d⟩
/-- entries of rows of copies -/
theorem ent_of {os : List Own} {T : List TRow} (nd : (os.map Prod.fst).Nodup) (dT : T.map Prod.snd = (copD os).map cpD) {H : Hp} (DT : ∀ q ∈ T, Dat H q.v q.2) (r : Cpy → Bool) :
    ∃ E : List DRow, E.map (fun p => p.1.2) = (copD os).map cpD ∧ (E.map (·.2) = (copD os).map fun c => V.bl (r c)) ∧ KeysAt H E ∧ (E.map fun e => nkey e.1.2).Nodup ∧ E.length = T.length ∧ ∀ (j : Nat) (e : DRow), E[j]? = some e → T[j]? = some e.1 ∧ ∃ c, (copD os)[j]? = some c ∧ e.2 = V.bl (r c) := by
  have lT : T.length = (copD os).length := by rw [← List.length_map (f := Prod.snd), dT, List.length_map]
  have e1 : ((T.zip (copD os)).map fun x => ((x.1, V.bl (r x.2)) : DRow)).map (fun p => p.1.2) = (copD os).map cpD := by
    rw [List.map_map]
    have : (T.zip (copD os)).map ((fun p : DRow => p.1.2) ∘ fun x => (x.1, V.bl (r x.2))) = ((T.zip (copD os)).map Prod.fst).map Prod.snd := by rw [List.map_map]; rfl
    rw [this, List.map_fst_zip (Nat.le_of_eq lT), dT]
  refine ⟨(T.zip (copD os)).map fun x => (x.1, V.bl (r x.2)), e1, ?_, fun e he => ?_, ?_, ?_, fun j e he => ?_⟩
  · rw [List.map_map]
    have : (T.zip (copD os)).map ((fun p : DRow => p.2) ∘ fun x => (x.1, V.bl (r x.2))) = ((T.zip (copD os)).map Prod.snd).map fun c => V.bl (r c) := by rw [List.map_map]; rfl
    rw [this, List.map_snd_zip (Nat.le_of_eq lT.symm)]
  · have m : e.1.2 ∈ (copD os).map cpD := e1 ▸ List.mem_map_of_mem (f := fun p : DRow => p.1.2) he
    obtain ⟨z, hz, rfl⟩ := List.mem_map.mp he
    obtain ⟨c, _, hc⟩ := List.mem_map.mp m
    have zT := (List.of_mem_zip (show (z.1, z.2) ∈ T.zip (copD os) from hz)).1
    refine ⟨DT z.1 zT, ?_, ?_⟩
    · rw [← hc]
      exact keyable_cp c
    · rw [← hc]
      exact enc_cp.d c
  · have : ((T.zip (copD os)).map fun x => ((x.1, V.bl (r x.2)) : DRow)).map (fun e => nkey e.1.2) = (copD os).map fun c => nkey (cpD c) := by
      have z : ∀ E : List DRow, E.map (fun e => nkey e.1.2) = (E.map fun p => p.1.2).map nkey := fun E => by rw [List.map_map]; rfl
      rw [z, e1, List.map_map]
      rfl
    rw [this]
    exact List.pairwise_map.mpr (List.Pairwise.imp (fun {a b} n e => n (nkey_cpD.mp e)) (cop_nodup os nd))
  · rw [List.length_map, List.length_zip, ← lT, Nat.min_self]
  · rw [List.getElem?_map] at he
    obtain ⟨z, hz, rfl⟩ := Option.map_eq_some_iff.mp he
    rw [List.getElem?_zip_eq_some] at hz
    exact ⟨hz.1, z.2, hz.2, rfl⟩
end S1

set_option Elab.async false
set_option linter.all false
set_option maxRecDepth 100000
set_option maxHeartbeats 4000000
/-! hidden truths, drawn -/
namespace S1
open PySem PySem.W PySem.Spec PyProof.Rows L2
/-- one of things of any kind -/
def spLPickV : Sp := fun vs H Q _ => ∃ (p l : Addr) (c : Nat) (xs : List V), vs = [.ref p, .ref l] ∧ Src H p c ∧ c ≤ 90000 ∧ H l = some (.lst xs) ∧ l ≠ p ∧ 0 < xs.length ∧ xs.length ≤ 1000 ∧
  ∀ (i : Nat) (v : V) (o : HO), xs[i]? = some v → Src (upd H p o) p (c + 1) → Q v (upd H p o)
def spHidden (w : World) : Sp := fun vs H Q _ => ∃ (p : Addr) (c : Nat) (v : V) (os : List Own), vs = [.ref p, v] ∧ Src H p c ∧ c ≤ 80000 ∧ Dat H v (.tuple (os.map ownD)) ∧ OwsOk os ∧ (os.map Prod.fst).Nodup ∧
  ∀ (D : Addr) (r : Cpy → Bool) (H' : Hp), Dr H p (c + 130) H' → H D = none → VlX w H' D (copD os) r → Q (.ref D) H'
abbrev nHi : List Str := ["tank", "owns", "often", "copy"]
theorem at_row {os : List Own} (nd : (os.map Prod.fst).Nodup) {rs : List Bool} {j : Nat} {c : Cpy} {b : Bool} (hc : (copD os)[j]? = some c) (hb : rs[j]? = some b) : atRow os rs c = b := by
  have il := (List.getElem?_eq_some_iff.mp hc).1
  have m := List.mem_of_getElem? hc
  have e : plc os c = j := (List.getElem?_inj (by have := plc_lt m; rw [cop_len]; exact this) (cop_nodup os nd)).mp ((plc_get m).trans hc.symm)
  unfold atRow
  rw [e, List.getD_eq_getElem?_getD, hb]
  rfl
section
variable {P : Program} {w : World} {K : PySem.W.Frag} {mg : Str → Option Value} {base : Heap}
theorem scHidden : FnScope nHi ["tank", "owns"] (defScope sLHidden) := ⟨rfl, rfl, rfl, by decide +kernel, rfl, by decide +kernel, by decide +kernel⟩
theorem ok_lPickV {f fP : Addr} {fd fdP : FuncData} (F : Fun K "_law_pick" "_law_pick" sLPick f fd) (Pk : Has K mg "_law_drop" sDrop ["tank", "many"] fP fdP) (B : Blt mg) : FnOk P w K mg base CX0 2 f fd ["tank", "things"] spLPickV := by
  have GP : FnOk P w K mg base CX0 1 fP fdP ["tank", "many"] spPick := ok_pick Pk.F B
  refine F.ok scLPick (fun vs H Q E h => ?_) (fun cdv A outer s H vs Q E hr h => ?_)
  · obtain ⟨p, l, c, xs, rfl, _⟩ := h
    rfl
  · obtain ⟨p, l, c, xs, rfl, hs, hc, hl, npl, h0, h1, q⟩ := h
    refine ⟨_, pss_one (ps_ret (pe_ix ix_list (pv 1) (pe_call GP hr rfl Pk.g Pk.F.kp Pk.b .nil pass0 (pa_cons (pv 0) (pa_cons (pe_callB call_len_seq (by rfl) B.len (by decide +kernel) (pa_cons (pv 1) pa_nil)) pa_nil))) (fun _ _ => rfl))), ?_⟩
    refine ⟨_, rfl, _, rfl, _, rfl, _, _, rfl, .inl (SqL.of hl), p, _, _, rfl, hs, by omega, by omega, by omega, fun r o r0 r1 hp1 => ?_⟩
    have rl : r.toNat < xs.length := by omega
    have hv := atI_nat (xs := xs) (j := r.toNat) (v := xs[r.toNat]) (List.getElem?_eq_getElem rl)
    rw [Int.toNat_of_nonneg r0] at hv
    exact ⟨l, _, r, _, rfl, rfl, SqL.of (by rw [upd_ne npl]; exact hl), hv, q r.toNat _ o (List.getElem?_eq_getElem rl) hp1⟩
theorem ok_hidden {f fP fQ fC : Addr} {fd fdP fdQ fdC : FuncData} (F : Fun K "_law_hidden" "_law_hidden" sLHidden f fd) (B : Blt mg) (Pk : Has K mg "_law_drop" sDrop ["tank", "many"] fP fdP) (Pi : Has K mg "_law_pick" sLPick ["tank", "things"] fQ fdQ) (Co : Has K mg "_law_copies" sLCopies ["owns"] fC fdC) : FnOk P w K mg base CX0 3 f fd ["tank", "owns"] (spHidden w) := by
  have GP : FnOk P w K mg base CX0 1 fP fdP ["tank", "many"] spPick := ok_pick Pk.F B
  have GQ : FnOk P w K mg base CX0 2 fQ fdQ ["tank", "things"] spLPick := ok_lPick Pi.F Pk B
  have GC : FnOk P w K mg base CX0 1 fC fdC ["owns"] spLCopies := ok_lCopies Co.F B
  refine F.ok scHidden (fun vs H Q E h => ?_) (fun cdv A outer s H vs Q E hr h => ?_)
  · obtain ⟨p, c, v, os, rfl, _⟩ := h
    rfl
  · obtain ⟨p, c, v, os, rfl, hs, hc, D, ok, nd, q⟩ := h
    have hr1 := hr.mono (show 1 ≤ 2 by decide)
    have hu : (A.deeper (envOfC "_law_hidden" (defScope sLHidden) s.heap.objs.size f cdv)).units + 16 < cLine := by
      have h64 : (A.deeper (envOfC "_law_hidden" (defScope sLHidden) s.heap.objs.size f cdv)).units + 64 < cLine := hr1.units
      omega
    refine ⟨_, pss_cons (ps_set (i := 2) scHidden.nd rfl (.inr rfl) (pe_call GQ hr rfl Pi.g Pi.F.kp Pi.b .nil pass0 (pa_cons (pv 0) (pa_cons (pe_lst (pa_cons pe_int (pa_cons pe_int (pa_cons pe_int pa_nil)))) pa_nil))))
      (pss_one (ps_ret (pe_callTy (call_dictN rfl (by exact hu)) (by rfl) B.dict (by decide +kernel) (pa_cons
        (pe_lc (own := [("copy", 3)]) (g := gName 3) (tt := tYes) (te := tTup (tCons (tVar 3) (tCons (tOp (rI0 fun i j => V.bl (decide (j < i))) (tCall spPick [] E0 (tCons (tVar 0) (tCons (tVar 2) tNil))) (tC (V.int 0))) tNil))) rfl scHidden.nd (pi_list (pe_call GC (by exact hr1) (by rfl) Co.g Co.F.kp Co.b .nil pass0 (pa_cons (pv 1) pa_nil))) (blkOk_by (N := nHi) (sc := defScope sLHidden) (by decide +kernel))
          (fun _ _ _ _ _ => pg_name (i := 3) scHidden.nd rfl (Or.inl rfl)) (fun _ _ _ _ _ => pts_nil) (fun _ _ _ _ _ => by exact pe_tup (pa_cons (pv 3) (pa_cons (pe_cmpR op_gt (pe_call GP (by exact hr1) (by rfl) Pk.g Pk.F.kp Pk.b .nil pass0 (pa_cons (pv 0) (pa_cons (pv 2) pa_nil))) pe_int (nomark _)) pa_nil)))) pa_nil)))), ?_⟩
    have k2 : keyable (.tuple (os.map ownD)) = true := by
      show keyables (os.map ownD) = true
      exact keyables_map ownD keyable_own os
    have oc := ok.oc
    have d0 := Dr.start hs
    refine ⟨_, rfl, (by show 3 ≤ sizeLine; decide), fun l3 hl3 => ?_⟩
    have d1 := d0.new (o := .lst ([2, 3, 5].map V.int)) hl3
    refine ⟨p, l3, _, [2, 3, 5], rfl, d1.s, by omega, upd_same, d0.ne hl3, by decide, by decide, fun z o hz hp1 => ?_⟩
    have d2 := d1.src hp1
    have zb : 0 < z ∧ z < 2 ^ 100 := by
      simp only [List.mem_cons, List.not_mem_nil, or_false] at hz
      rcases hz with h | h | h <;> subst h <;> decide
    have D2 := d2.dat hs k2 D
    obtain ⟨b, us, rfl, eb, Db⟩ := dat_tup D2
    refine ⟨_, rfl, .ref b, os, rfl, ⟨b, us, rfl, eb, Db⟩, ok, fun lc H1 R1 => ?_⟩
    have d3 := d2.same R1.S
    have lcp := d2.ne R1.new
    obtain ⟨T, eT, dT, DT⟩ := R1.ex
    have lT : T.length = copies os := by rw [← List.length_map (f := Prod.snd), dT, List.length_map, cop_len]
    refine ⟨lc, rfl, ⟨_, SqL.of eT⟩, fun DL hDL => ?_⟩
    have DLp := d3.ne hDL
    have hDL0 := d3.free hDL
    have lcD : lc ≠ DL := ne_of_none eT hDL
    refine lc_list (K := K) (a := lc) (xs := T.map TRow.v) (fun i H4 => ∃ (rs : List Bool) (ts : List Addr), H4 DL = some (.lst (ts.map V.ref)) ∧ ts.length = i ∧ rs.length = i ∧ (∀ (j : Nat) (t : Addr), ts[j]? = some t → ∃ q b, T[j]? = some q ∧ rs[j]? = some b ∧ H4 t = some (.tup [.ref q.1, .bl b])) ∧ H4 lc = some (.lst (T.map TRow.v)) ∧ Dr H p (c + 1 + i) H4 ∧ Dr H1 p (c + 1 + i) H4) 
      ⟨[], [], upd_same, rfl, rfl, fun j t h => by simp at h, by rw [upd_ne lcD]; exact eT, d3.new hDL, (Dr.start d3.s).new hDL⟩ (fun i H4 _ ⟨_, _, _, _, _, _, e, _⟩ => SqL.of e) ?_ ?_
    · rintro i x H4 hx ⟨rs, ts, e4, lts, lrs, hts, el4, d4, d4'⟩
      rw [List.getElem?_map] at hx
      obtain ⟨y, hy, rfl⟩ := Option.map_eq_some_iff.mp hx
      have il : i < copies os := by rw [← lT]; exact (List.getElem?_eq_some_iff.mp hy).1
      refine ⟨rfl, yes_of ⟨_, rfl, _, rfl, _, rfl, p, _, z, rfl, d4.s, by omega, zb.1, zb.2, fun r o4 r0 r1 hp4 => ⟨_, _, rfl, rfl, (by show 2 ≤ sizeLine; decide), fun t ht => ?_⟩⟩⟩
      have d5 := d4.src hp4
      have d5' := d4'.src hp4
      have keepT : ∀ {t' : Addr} {xs : List V}, H4 t' = some (.tup xs) → upd H4 p o4 t' = some (.tup xs) := fun {t' xs} e => by
        rw [upd_ne (fun h => by obtain ⟨ys, ey⟩ := d4.s.lst; rw [h, ey] at e; cases e)]
        exact e
      have e5 : upd H4 p o4 DL = some (.lst (ts.map V.ref)) := by rw [upd_ne DLp]; exact e4
      have el5 : upd H4 p o4 lc = some (.lst (T.map TRow.v)) := by rw [upd_ne lcp]; exact el4
      have hts5 : ∀ (j : Nat) (t : Addr), ts[j]? = some t → ∃ q b, T[j]? = some q ∧ rs[j]? = some b ∧ upd H4 p o4 t = some (.tup [.ref q.1, .bl b]) := fun j t h => let ⟨q, b, h1, h2, h3⟩ := hts j t h; ⟨q, b, h1, h2, keepT h3⟩
      generalize upd H4 p o4 = H5 at d5 d5' e5 el5 hts5 ht ⊢
      have S6 := same_new (o := .tup [V.ref y.1, .bl (decide (0 < r))]) ht
      have d6 := d5.new (o := .tup [V.ref y.1, .bl (decide (0 < r))]) ht
      have d6' := d5'.new (o := .tup [V.ref y.1, .bl (decide (0 < r))]) ht
      have et : upd H5 t (.tup [V.ref y.1, .bl (decide (0 < r))]) t = some (.tup [V.ref y.1, .bl (decide (0 < r))]) := upd_same
      show ∃ acc, (upd H5 t (.tup [V.ref y.1, .bl (decide (0 < r))])) DL = some (.lst acc) ∧ _
      have e6 := S6 _ _ e5
      have tD : t ≠ DL := fun h => by rw [h, e5] at ht; cases ht
      generalize upd H5 t (.tup [V.ref y.1, .bl (decide (0 < r))]) = H6 at S6 d6 d6' et e6 ⊢
      refine ⟨_, e6, by rw [List.length_map, lts]; exact small1000 (by omega), rs ++ [decide (0 < r)], ts ++ [t], by rw [upd_same, List.map_append]; rfl, by rw [List.length_append, lts]; rfl, by rw [List.length_append, lrs]; rfl, fun j t' h => ?_, by rw [upd_ne lcD]; exact S6 _ _ el5, (d6.put hDL0 DLp).up (by omega), (d6'.put hDL DLp).up (by omega)⟩
      by_cases hj : j < ts.length
      · rw [List.getElem?_append_left hj] at h
        obtain ⟨q, b, h1, h2, h3⟩ := hts5 j t' h
        exact ⟨q, b, h1, by rw [List.getElem?_append_left (by omega)]; exact h2, by rw [upd_ne (fun h => by rw [h, e5] at h3; cases h3)]; exact S6 _ _ h3⟩
      · have hj2 : j = ts.length := by
          have := (List.getElem?_eq_some_iff.mp h).1
          rw [List.length_append] at this
          simp at this
          omega
        subst hj2
        rw [List.getElem?_append_right (Nat.le_refl _), Nat.sub_self] at h
        cases (show some t = some t' from h)
        exact ⟨y, _, by rw [lts]; exact hy, by rw [List.getElem?_append_right (by omega), lts, lrs, Nat.sub_self]; rfl, by rw [upd_ne tD]; exact et⟩
    · rintro H4 ⟨rs, ts, e4, lts, lrs, hts, el4, d4, d4'⟩
      rw [List.length_map] at lts lrs d4 d4'
      have DT4 : ∀ q ∈ T, Dat H4 q.v q.2 := fun q hq => by
        have m : q.2 ∈ (copD os).map cpD := dT ▸ List.mem_map_of_mem hq
        obtain ⟨cc, _, hcc⟩ := List.mem_map.mp m
        exact d4'.dat d3.s (by rw [← hcc]; exact keyable_cp cc) (DT q hq)
      obtain ⟨E, E1, E2, kE, nE, lE, gE⟩ := ent_of nd dT DT4 (atRow os rs)
      refine ⟨DL, ts, E, rfl, SqL.of e4, paired_of _ _ (by rw [lts, lE]) (fun j t e h1 h2 => ?_), kE, nE, fun d hd => ?_⟩
      · obtain ⟨q', b', g1, g2, g3⟩ := hts j t h1
        obtain ⟨g4, cc, g5, g6⟩ := gE j e h2
        rw [g1] at g4
        cases g4
        rw [g3, g6, at_row nd g5 g2]
      · have S7 := same_new (o := DnO w d E) hd
        exact q d _ _ ((d4.new hd).up (by omega)) (d4.free hd) ⟨E, .inl upd_same, kE.same S7, E1, E2⟩
end
end S1

set_option Elab.async false
set_option linter.all false
set_option maxRecDepth 100000
set_option maxHeartbeats 4000000
/-! lists of drawn clauses -/
namespace S1
open PySem PySem.W PySem.Spec PyProof.Rows L2
section
variable {X : Cx}
def rNeP : R2 := fun x y H Q => ∃ d e, Dat H x d ∧ Dat H y e ∧ d.plain = true ∧ e.plain = true ∧ d.depth ≤ 8 ∧ Q (.bl (!PyData.eqv d e)) H
theorem op_neP (hu : X.A.units + 64 < cLine) : OpR X (compareOp .NotEq) rNeP := by
  intro pins s σ H x y v u Q I rx ry h
  obtain ⟨d, e, D1, D2, p1, p2, dp, q⟩ := h
  obtain ⟨as, R1⟩ := reads_of_dat I.hok D1 rx
  obtain ⟨bs, R2⟩ := reads_of_dat I.hok D2 ry
  exact PySem.SeqAt.ne_plain R1 R2 p1 p2 (by have := Nat.min_le_left d.depth e.depth; omega) ⟨.bl _, H, I, rfl, q⟩
end
theorem plain_cl (cl : List Ltr) : (clD cl).plain = true := plains_map ltD (fun _ => rfl) cl
theorem erase_map {α β : Type} (f : α → β) : ∀ (l : List α) (j : Nat), (l.eraseIdx j).map f = (l.map f).eraseIdx j
  | [], _ => rfl
  | _ :: _, 0 => rfl
  | x :: l, j + 1 => by
    show f x :: (l.eraseIdx j).map f = f x :: (l.map f).eraseIdx j
    rw [erase_map f l j]
/-- a list of clauses of a kind -/
structure Cq (Pc : List Ltr → Prop) (D : Addr) (cls : List (List Ltr)) (G : Hp) : Prop where
  ex : ∃ T : List TRow, G D = some (.lst (T.map TRow.v)) ∧ T.map Prod.snd = cls.map clD ∧ ∀ q ∈ T, Dat G q.v q.2
  ok : ∀ cl ∈ cls, Pc cl
theorem keys_cl {T : List TRow} {cls : List (List Ltr)} (e : T.map Prod.snd = cls.map clD) : ∀ q ∈ T, keyable q.2 = true := fun q hq => by
  have m : q.2 ∈ cls.map clD := e ▸ List.mem_map_of_mem hq
  obtain ⟨x, _, hx⟩ := List.mem_map.mp m
  rw [← hx]
  exact keyable_cl x
section
variable {D p t : Addr} {cls : List (List Ltr)} {G G2 : Hp} {c c0 : Nat} {o : HO} {Pc : List Ltr → Prop}
theorem Cq.dr (h : Cq Pc D cls G) (d : Dr G p c G2) (hs : Src G p c0) (n : D ≠ p) : Cq Pc D cls G2 := by
  obtain ⟨T, e, e2, hT⟩ := h.ex
  exact ⟨⟨T, d.keep e n, e2, fun q hq => d.dat hs (keys_cl e2 q hq) (hT q hq)⟩, h.ok⟩
theorem Cq.same (h : Cq Pc D cls G) (S : Same G G2) : Cq Pc D cls G2 := by
  obtain ⟨T, e, e2, hT⟩ := h.ex
  exact ⟨⟨T, S _ _ e, e2, fun q hq => (hT q hq).same S⟩, h.ok⟩
theorem Cq.len (h : Cq Pc D cls G) : ∃ xs, G D = some (.lst xs) ∧ xs.length = cls.length := by
  obtain ⟨T, e, e2, _⟩ := h.ex
  exact ⟨_, e, by rw [List.length_map, ← List.length_map (f := Prod.snd), e2, List.length_map]⟩
theorem Cq.push {v : V} {cl : List Ltr} {xs : List V} (h : Cq Pc D cls G) (eD : G D = some (.lst xs)) (Dv : Dat G v (clD cl)) (ck : Pc cl) : Cq Pc D (cls ++ [cl]) (upd G D (.lst (xs ++ [v]))) := by
  obtain ⟨T, e, e2, hT⟩ := h.ex
  rw [e] at eD
  cases eD
  obtain ⟨t, rfl⟩ := tuple_ref (ds := cl.map ltD) Dv
  refine ⟨⟨T ++ [(t, clD cl)], by rw [upd_same, List.map_append]; rfl, by rw [List.map_append, List.map_append, e2]; rfl, fun q hq => ?_⟩, fun cl' h' => ?_⟩
  · rcases List.mem_append.mp hq with m | m
    · exact dat_upd e (keys_cl e2 q m) (hT q m)
    · cases List.mem_singleton.mp m
      exact dat_upd e (keyable_cl cl) Dv
  · rcases List.mem_append.mp h' with y | y
    · exact h.ok cl' y
    · cases List.mem_singleton.mp y
      exact ck
theorem Cq.erase {xs : List V} {j : Nat} (h : Cq Pc D cls G) (eD : G D = some (.lst xs)) : Cq Pc D (cls.eraseIdx j) (upd G D (.lst (xs.eraseIdx j))) := by
  obtain ⟨T, e, e2, hT⟩ := h.ex
  rw [e] at eD
  cases eD
  refine ⟨⟨T.eraseIdx j, by rw [upd_same, erase_map], by rw [erase_map, erase_map, e2], fun q hq => ?_⟩, fun cl' h' => h.ok cl' (List.mem_of_mem_eraseIdx h')⟩
  have m := List.mem_of_mem_eraseIdx hq
  exact dat_upd e (keys_cl e2 q m) (hT q m)
end
end S1

set_option Elab.async false
set_option linter.all false
set_option maxRecDepth 100000
set_option maxHeartbeats 4000000
/-! clauses that are so by hidden truths, drawn -/
namespace S1
open PySem PySem.W PySem.Spec PyProof.Rows L2
/-- a clause of a plain saying -/
def PlC (picks : List Str) (owns : List Own) (cl : List Ltr) : Prop := ClOk (picks ++ owns.map Prod.fst) cl ∧ ((cl.filter fun l => decide (l.1 ∈ owns.map Prod.fst)).filter fun l => l.2).length ≤ 1
/-- a saying of drawn parts -/
theorem say_of {a b m : Nat} {picks : List Str} {owns : List Own} {cls : List (List Ltr)} (ha : a ≤ 6) (hb : b ≤ 8) (hm : m ≤ 120) (ok : FrOk a b m picks owns) (hc : ∀ cl ∈ cls, PlC picks owns cl) (up : cls.Pairwise fun x y => dataLt (clD x) (clD y) = true) (len : cls.length ≤ 40) :
    SayOk 6 8 120 40 ⟨picks, owns, cls⟩ ∧ (cls.map (plainC ⟨picks, owns, cls⟩)).all id = true := by
  have h1 := ok.pl
  have h2 := ok.ol
  have h3 := ok.oc
  refine ⟨⟨ok.pu, ok.pn, by show picks.length ≤ 6; omega, ok.ou, ok.on, by show owns.length ≤ 8; omega, by show copies owns ≤ 120; omega, up, fun cl h => (hc cl h).1, len⟩, ?_⟩
  rw [List.all_map, List.all_eq_true]
  intro cl h
  have z := (hc cl h).2
  refine decide_eq_true ?_
  show (((cl.filter fun l => decide (l.1 ∈ owns.map Prod.fst)).filter fun l => l.2).length : Int) ≤ 1
  omega
theorem fr_ows {a b m : Nat} {picks : List Str} {owns : List Own} (ha : a ≤ 6) (hb : b ≤ 8) (hm : m ≤ 120) (ok : FrOk a b m picks owns) : OwsOk owns ∧ (owns.map Prod.fst).Nodup := by
  have z := (say_of (cls := []) ha hb hm ok (fun _ h => absurd h (by simp)) List.Pairwise.nil (by decide)).1
  exact ⟨ows_ok z (by decide) (by decide) (by decide), own_nd z⟩
/-- a clause that is so by truths of copies -/
def SoC (picks : List Str) (owns : List Own) (r : Cpy → Bool) (cl : List Ltr) : Prop := PlC picks owns cl ∧ MeetsM r (toldA ⟨picks, owns, [cl]⟩)
theorem told_one {picks : List Str} {owns : List Own} {cls : List (List Ltr)} {ms : List Mk} : ms ∈ toldA ⟨picks, owns, cls⟩ ↔ ∃ cl ∈ cls, ms ∈ toldA ⟨picks, owns, [cl]⟩ := by
  constructor
  · intro h
    obtain ⟨bs, h1, cl, h2, h3, h4⟩ := mem_toldM.mp h
    exact ⟨cl, h2, mem_toldM.mpr ⟨bs, h1, cl, List.mem_singleton.mpr rfl, h3, h4⟩⟩
  · rintro ⟨cl, h, h2⟩
    obtain ⟨bs, h1, cl', h5, h3, h4⟩ := mem_toldM.mp h2
    rw [List.mem_singleton.mp h5] at h3 h4
    exact mem_toldM.mpr ⟨bs, h1, cl, h, h3, h4⟩
theorem meets_all_cl {picks : List Str} {owns : List Own} {cls : List (List Ltr)} {r : Cpy → Bool} : MeetsM r (toldA ⟨picks, owns, cls⟩) ↔ ∀ cl ∈ cls, MeetsM r (toldA ⟨picks, owns, [cl]⟩) :=
  ⟨fun h cl hcl ms hms => h ms (told_one.mpr ⟨cl, hcl, hms⟩), fun h ms hms => let ⟨cl, hcl, h2⟩ := told_one.mp hms; h cl hcl ms h2⟩
theorem cut_takeV {xs : List V} {r : Nat} : cutV xs none (some (r : Int)) = xs.take r := by
  unfold cutV
  rw [HT.sIx_nat, HT.sIx_none, List.drop_zero, Nat.sub_zero, ← List.take_eq_take_min]
theorem VlX.dr {w : World} {H G : Hp} {D p : Addr} {c c0 : Nat} {cs : List Cpy} {r : Cpy → Bool} (h : VlX w H D cs r) (d : Dr H p c G) (hs : Src H p c0) (n : D ≠ p) : VlX w G D cs r := by
  obtain ⟨E, a, b, e1, e2⟩ := h
  refine ⟨E, ?_, fun e he => ⟨d.dat hs (b e he).2.1 (b e he).1, (b e he).2⟩, e1, e2⟩
  rcases a with a | ⟨a, z⟩
  · exact .inl (d.keep a n)
  · exact .inr ⟨d.keep a n, z⟩
end S1

set_option Elab.async false
set_option linter.all false
set_option maxRecDepth 100000
set_option maxHeartbeats 4000000
/-! plain clauses, drawn: the def of k52 -/
namespace S1
open PySem PySem.W PySem.Spec PyProof.Rows L2
def spPlains (w : World) : Sp := fun vs H Q _ => ∃ (p D : Addr) (c a b m : Nat) (v1 v2 : V) (picks : List Str) (owns : List Own) (r : Cpy → Bool), vs = [.ref p, v1, v2, .ref D] ∧ Src H p c ∧ c ≤ 30000 ∧ Dat H v1 (nmsD picks) ∧ Dat H v2 (.tuple (owns.map ownD)) ∧ FrOk a b m picks owns ∧ a ≤ 6 ∧ b ≤ 8 ∧ m ≤ 120 ∧ VlX w H D (copD owns) r ∧
  ∀ (v : V) (cls : List (List Ltr)) (H' : Hp), Dat H' v (.tuple (cls.map clD)) → (∀ cl ∈ cls, PlC picks owns cl) → (cls.Pairwise fun x y => dataLt (clD x) (clD y) = true) → cls.length ≤ 40 → Dr H p (c + 7000) H' → Q v H'
abbrev nPCs : List Str := ["tank", "picks", "owns", "values", "found", "is_kept", "turn", "clause"]
section
variable {P : Program} {w : World} {K : PySem.W.Frag} {mg : Str → Option Value} {base : Heap}
theorem scPlains : FnScope nPCs ["tank", "picks", "owns", "values"] (defScope sLPlains) := ⟨rfl, rfl, rfl, by decide +kernel, rfl, by decide +kernel, by decide +kernel⟩
theorem ok_plains {f fP fQ fC fT fI : Addr} {fd fdP fdQ fdC fdT fdI : FuncData} (F : Fun K "_law_plain_clauses" "_law_plain_clauses" sLPlains f fd) (B : Blt mg) (ny : mg "any" = none) (Pk : Has K mg "_law_drop" sDrop ["tank", "many"] fP fdP) (Pi : Has K mg "_law_pick" sLPick ["tank", "things"] fQ fdQ)
    (Cl : Has K mg "_law_plain_clause" sPlainCl ["tank", "picks", "owns"] fC fdC) (GC : FnOk P w K mg base CX0 3 fC fdC ["tank", "picks", "owns"] spCl) (To : Has K mg "_law_told" sLTold ["saying"] fT fdT) (GT : FnOk P w K mg base CX0 2 fT fdT ["saying"] (spLTold w)) (Is : Has K mg "_law_is_so" sLIsSo ["told", "values"] fI fdI) : FnOk P w K mg base CX0 4 f fd ["tank", "picks", "owns", "values"] (spPlains w) := by
  have GP : FnOk P w K mg base CX0 1 fP fdP ["tank", "many"] spPick := ok_pick Pk.F B
  have GQ : FnOk P w K mg base CX0 2 fQ fdQ ["tank", "things"] spLPick := ok_lPick Pi.F Pk B
  have GI : FnOk P w K mg base CX0 1 fI fdI ["told", "values"] (spIsSo w) := ok_isSo Is.F ny
  refine F.ok scPlains (fun vs H Q E h => ?_) (fun cdv A outer s H vs Q E hr h => ?_)
  · obtain ⟨p, D, c, a, b, m, v1, v2, picks, owns, r, rfl, _⟩ := h
    rfl
  · obtain ⟨p, D, c, a, b, m, v1, v2, picks, owns, r, rfl, hs, hc, D1, D2, ok, ha, hb, hm, VX, q⟩ := h
    have hu : (A.deeper (envOfC "_law_plain_clauses" (defScope sLPlains) s.heap.objs.size f cdv)).units + 64 < cLine := hr.units
    have hr1 := hr.mono (show 1 ≤ 3 by decide)
    have hr2 := hr.mono (show 2 ≤ 3 by decide)
    refine ⟨_, pss_cons (ps_par (i := 4) (j := 5) rfl scPlains.nd rfl rfl (by decide) rfl rfl (pa_cons (pe_lst pa_nil) (pa_cons (pe_cmpR op_gt (pe_call GP hr1 rfl Pk.g Pk.F.kp Pk.b .nil pass0 (pa_cons (pv 0) (pa_cons pe_int pa_nil))) pe_int (nomark _)) pa_nil)) (by with_unfolding_all rfl))
      (pss_cons (ps_for PassesOwn.never rfl (pi_range1 rfl B.range (pa_cons (pe_call GQ hr2 rfl Pi.g Pi.F.kp Pi.b .nil pass0 (pa_cons (pv 0) (pa_cons (pe_lst (pa_cons pe_int (pa_cons pe_int (pa_cons pe_int (pa_cons pe_int pa_nil))))) pa_nil))) pa_nil)) (pg_name (i := 6) scPlains.nd rfl (.inl rfl))
        (pss_cons (ps_set (i := 7) scPlains.nd rfl (.inl rfl) (pe_call GC hr rfl Cl.g Cl.F.kp Cl.b .nil pass0 (pa_cons (pv 0) (pa_cons (pv 1) (pa_cons (pv 2) pa_nil)))))
        (pss_one (ps_if (PW.pt (pw_or (pt_not (pt_val (pv 5))) (pw_or1 (pt_val (pe_call GI hr1 rfl Is.g Is.F.kp Is.b .nil pass0 (pa_cons (pe_call GT hr2 rfl To.g To.F.kp To.b .nil pass0 (pa_cons (pe_tup (pa_cons (pv 1) (pa_cons (pv 2) (pa_cons (pe_tup (pa_cons (pv 7) pa_nil)) pa_nil)))) pa_nil)) (pa_cons (pv 3) pa_nil)))))))
          (pss_one (ps_expr (pe_bm PySem.F.plainAttrs_list PySem.F.slot_list_append PySem.F.type_list_append mt_append (pv 4) (pa_cons (pv 7) pa_nil)))) pss_nil))))
      (pss_one (ps_ret (pe_tupleOf rfl B.tuple (pe_callB (cr_sortN rfl (by exact hu)) (by rfl) B.sorted (by decide +kernel) (pa_cons (pe_callTy (cr_setN rfl (by exact hu)) (by rfl) B.set (by decide +kernel) (pa_cons (pe_slice sl_list (pv 4) po_none (po_some pe_int)) pa_nil)) pa_nil)))))), ?_⟩
    have d0 := Dr.start hs
    have k1 : keyable (nmsD picks) = true := keyable_nms picks
    have k2 : keyable (.tuple (owns.map ownD)) = true := by
      show keyables (owns.map ownD) = true
      exact keyables_map ownD keyable_own owns
    have Dp : D ≠ p := fun z => by
      obtain ⟨xs, ex⟩ := hs.lst
      obtain ⟨E, e | ⟨e, _⟩, _⟩ := VX <;> rw [z, ex] at e <;> cases e
    obtain ⟨a2, rfl⟩ := tuple_ref D2
    refine ⟨(by show 0 ≤ sizeLine; decide), fun aF hF => ?_⟩
    have d2 := d0.new (o := .lst []) hF
    have Fp := d0.ne hF
    have C2 : Cq (PlC picks owns) aF [] (upd H aF (.lst [])) := ⟨⟨[], upd_same, rfl, fun q hq => absurd hq (by simp)⟩, fun cl h => absurd h (by simp)⟩
    refine ⟨_, rfl, p, _, 3, rfl, d2.s, by omega, by decide, by decide, fun r5 o0 _ _ hp0 => ⟨_, _, rfl, rfl, _, _, rfl, ?_⟩⟩
    have C2 := C2.dr ((Dr.start d2.s).src hp0) d2.s Fp
    have d2 := d2.src hp0
    refine ⟨_, rfl, (by show 4 ≤ sizeLine; decide), fun l5 hl5 => ?_⟩
    have d3 := d2.new (o := .lst [V.int 3, .int 12, .int 40, .int 60]) hl5
    have C3 := C2.same (same_new (o := .lst [V.int 3, .int 12, .int 40, .int 60]) hl5)
    refine ⟨p, l5, _, [3, 12, 40, 60], rfl, d3.s, by omega, upd_same, d2.ne hl5, by decide, by decide, fun i5 o5 hi5 hp4 => ?_⟩
    have d4 := d3.src hp4
    have C4 := C3.dr ((Dr.start d3.s).src hp4) d3.s Fp
    have b5 : 0 ≤ i5 ∧ i5 ≤ 60 := by
      simp only [List.mem_cons, List.not_mem_nil, or_false] at hi5
      rcases hi5 with h | h | h | h <;> subst h <;> decide
    refine ⟨i5, rfl, by omega, by omega, ?_⟩
    refine for_range (lo := 0) (n := i5.toNat) (fun i σ H' => ∃ (cls : List (List Ltr)) (o5 o6 : Option V), σ = [some (.ref p), some v1, some (.ref a2), some (.ref D), some (.ref aF), some (.bl (decide (0 < r5))), o5, o6] ∧
      Cq (PlC picks owns) aF cls H' ∧ cls.length ≤ i ∧ Dr H p (c + 2 + 100 * i) H') ⟨[], _, _, rfl, C4, Nat.le_refl _, d4⟩ ?_ ?_
    · rintro i σ H1 hi ⟨cls, o5', o6, rfl, C5, lc, d5⟩
      have i50 : i < 60 := by omega
      have D15 := d5.dat hs k1 D1
      have D25 := d5.dat hs k2 D2
      have pl := ok.pl
      have ol := ok.ol
      refine ⟨_, rfl, _, rfl, _, rfl, p, _, a, b, m, v1, .ref a2, picks, owns, rfl, d5.s, by omega, D15, D25, ok, by omega, fun v cl H6 Dv ck pl1 d6 => ?_⟩
      have C6 := C5.dr d6 d5.s Fp
      have D16 := d6.dat d5.s k1 D15
      have D26 := d6.dat d5.s k2 D25
      have V6 := (VX.dr d5 hs Dp).dr d6 d5.s Dp
      have dd6 := d5.trans d6
      have sok := (say_of (cls := [cl]) ha hb hm ok (fun x hx => by rw [List.mem_singleton.mp hx]; exact ⟨ck, pl1⟩) (List.pairwise_singleton _ _) (show 1 ≤ 40 by decide)).1
      have app : ∀ (G : Hp), Same H6 G → ∃ (l : Addr) (xs : List V) (y : V), V.ref aF = .ref l ∧ [v] = [y] ∧ G l = some (.lst xs) ∧ xs.length < sizeLine ∧ ∃ (cls : List (List Ltr)) (o5 o6 : Option V), ([some (.ref p), some v1, some (.ref a2), some (.ref D), some (.ref aF), some (.bl (decide (0 < r5))), some (.int (0 + (i : Int))), some v] : L2.St) = [some (.ref p), some v1, some (.ref a2), some (.ref D), some (.ref aF), some (.bl (decide (0 < r5))), o5, o6] ∧ Cq (PlC picks owns) aF cls (upd G l (.lst (xs ++ [y]))) ∧ cls.length ≤ i + 1 ∧ Dr H p (c + 2 + 100 * (i + 1)) (upd G l (.lst (xs ++ [y]))) := fun G S => by
        have C7 := C6.same S
        have d7 := dd6.same S
        obtain ⟨xs, ex, lx⟩ := C7.len
        exact ⟨aF, xs, v, rfl, rfl, ex, by rw [lx]; exact small1000 (by omega), cls ++ [cl], _, _, rfl, C7.push ex (Dv.same S) ⟨ck, pl1⟩, by rw [List.length_append]; exact Nat.succ_le_succ lc, (d7.put (d0.free hF) Fp).up (by omega)⟩
      refine ⟨_, rfl, _, rfl, ?_⟩
      show if (!decide (0 < r5)) = true then _ else _
      by_cases ik : (!decide (0 < r5)) = true
      · rw [if_pos ik]
        show if true = true then _ else _
        rw [if_pos rfl]
        obtain ⟨xs, ex, lx⟩ := C6.len
        exact ⟨_, rfl, .inl ⟨rfl, _, SqL.of ex⟩, _, rfl, app H6 (Same.refl _)⟩
      rw [if_neg ik]
      refine ⟨_, rfl, _, rfl, _, rfl, (by show 1 ≤ sizeLine; decide), fun t1 ht1 => ⟨(by show 3 ≤ sizeLine; decide), fun ts hts => ?_⟩⟩
      have S1 := same_new (o := .tup [v]) ht1
      have Dc1 : Dat (upd H6 t1 (.tup [v])) (.ref t1) (.tuple ([cl].map clD)) := .tup upd_same (.cons (Dv.same S1) .nil)
      generalize upd H6 t1 (.tup [v]) = H7 at S1 Dc1 hts ⊢
      have S2 := same_new (o := .tup [v1, .ref a2, .ref t1]) hts
      have DS : DatS (upd H7 ts (.tup [v1, .ref a2, .ref t1])) (.ref ts) ⟨picks, owns, [cl]⟩ := by
        obtain ⟨b', us, e', eb, Db⟩ := dat_tup D26
        exact ⟨ts, _, _, _, rfl, upd_same, (D16.same S1).same S2, ⟨b', us, e', S2 _ _ (S1 _ _ eb), DatAll.same (S1.trans S2) Db⟩, Dc1.same S2⟩
      have S12 := S1.trans S2
      generalize upd H7 ts (.tup [v1, .ref a2, .ref t1]) = H8 at S2 DS S12 ⊢
      refine ⟨.ref ts, _, rfl, DS, sok, fun lt H9 S S9 hlt Ms iff lS => ?_⟩
      have S19 := S12.trans S9
      refine ⟨_, rfl, lt, D, S, copD owns, r, rfl, Ms, (V6.same S19).vls, marks_ok sok iff, lS, fun HA SA => ⟨_, rfl, ?_⟩⟩
      have S1A := S19.trans SA
      have C7 := C6.same S1A
      have d7 := dd6.same S1A
      by_cases so : S.all (soM r) = true
      · show if S.all (soM r) = true then _ else _
        rw [if_pos so]
        obtain ⟨xs, ex, lx⟩ := C7.len
        exact ⟨_, rfl, .inl ⟨rfl, _, SqL.of ex⟩, _, rfl, app HA S1A⟩
      · show if S.all (soM r) = true then _ else _
        rw [if_neg so]
        exact ⟨cls, _, _, rfl, C7, by omega, d7.up (by omega)⟩
    · rintro σ H1 ⟨cls, o5', o6, rfl, C5, lc, d5⟩
      obtain ⟨T0, eT0, eTc0, hT0⟩ := C5.ex
      refine ⟨_, rfl, (40 : Nat), rfl, aF, _, rfl, SqL.of eT0, fun n2 hn2 => ?_⟩
      rw [cut_takeV, ← List.map_take] at *
      have d6 := d5.new (o := .lst ((T0.take 40).map TRow.v)) hn2
      have S6 := same_new (o := .lst ((T0.take 40).map TRow.v)) hn2
      have eT : upd H1 n2 (.lst ((T0.take 40).map TRow.v)) n2 = some (.lst ((T0.take 40).map TRow.v)) := upd_same
      have eTc : (T0.take 40).map Prod.snd = (cls.take 40).map clD := by rw [List.map_take, eTc0, List.map_take]
      have hT : ∀ q ∈ T0.take 40, Dat (upd H1 n2 (.lst ((T0.take 40).map TRow.v))) q.v q.2 := fun q hq => (hT0 q (List.mem_of_mem_take hq)).same S6
      have cok : ∀ cl ∈ cls.take 40, PlC picks owns cl := fun cl h => C5.ok cl (List.mem_of_mem_take h)
      have l39 : (T0.take 40).length ≤ 40 := List.length_take_le _ _
      generalize T0.take 40 = T at d6 S6 eT eTc hT l39 ⊢
      generalize cls.take 40 = cls at eTc cok
      have soC : Sorty T := sorty_of eTc alike_cl (fun x => ⟨_, rfl⟩) (fun x => by have := depth_cl x; omega)
      have kC := keys_cl eTc
      refine ⟨n2, T, rfl, SqL.of eT, hT, soC, kC, by omega, fun aS T2 hS sub2 all2 nd2 => ?_⟩
      have d8 := d6.new (o := SetNO w aS (T2.map TRow.n)) hS
      refine ⟨aS, T2, rfl, upd_same, fun q hq => (hT q (sub2 q hq)).same (same_new hS), soC.sub sub2, fun q hq => kC q (sub2 q hq), fun T3 b3 pm3 up3 hb3 => .inl ⟨b3, _, rfl, SqL.of upd_same, fun t3 ht3 => ?_⟩⟩
      have inC : ∀ d' ∈ T3.map Prod.snd, d' ∈ cls.map clD := fun d' h' => by
        obtain ⟨y, hy, rfl⟩ := List.mem_map.mp h'
        rw [← eTc]
        exact List.mem_map_of_mem (sub2 y (pm3.mem_iff.mp hy))
      obtain ⟨cls', ec, subc⟩ := sub_back (f := clD) (m := cls) (T3.map Prod.snd) inC
      have lenC : cls'.length ≤ 40 := by
        have y1 : T2.length ≤ T.length := by
          have y := nodup_le (m := T.map Prod.snd) nd2 fun x hx => by
            obtain ⟨q', hq', rfl⟩ := List.mem_map.mp hx
            exact List.mem_map_of_mem (sub2 q' hq')
          rwa [List.length_map, List.length_map] at y
        have y2 : cls'.length = T3.length := by rw [← List.length_map (f := clD), ← ec, List.length_map]
        rw [y2, pm3.length_eq]
        omega
      have upc : cls'.Pairwise fun x y => dataLt (clD x) (clD y) = true := by
        have y : (T3.map Prod.snd).Pairwise fun d e => dataLt d e = true := List.pairwise_map.mpr up3
        rw [ec] at y
        exact List.pairwise_map.mp y
      refine q _ cls' _ (.tup upd_same ?_) (fun cl h => cok cl (subc cl h)) upc lenC (((d8.new hb3).new ht3).up (by omega))
      rw [← ec]
      exact dats_rows fun q' hq' => dat_new ht3 (dat_new hb3 ((hT q' (sub2 q' (pm3.mem_iff.mp hq'))).same (same_new hS)))
end
end S1

set_option Elab.async false
set_option linter.all false
set_option maxRecDepth 100000
set_option maxHeartbeats 4000000
/-! zip of two tuples -/
namespace L2
open PySem PySem.Spec PyProof.Rows
def ItzT (K : PySem.W.Frag) (a b : Addr) : It :=
  ⟨fun i H => ∃ (xs ys : List V) (x y : V), SqT K H a xs ∧ SqT K H b ys ∧ xs[i]? = some x ∧ ys[i]? = some y,
    fun i H v H' => ∃ T x y, v = .ref T ∧ H T = none ∧ H' = upd H T (.tup [x, y]) ∧ (∀ xs, SqT K H a xs → xs[i]? = some x) ∧ ∀ ys, SqT K H b ys → ys[i]? = some y,
    fun i H => ∃ xs ys : List V, SqT K H a xs ∧ SqT K H b ys ∧ xs.length = i ∧ ys.length = i⟩
theorem turn_zipT {P : Program} {w : World} {K : PySem.W.Frag} {elts : List Expr} {kk : Nat} {tpos : Pos} {a b z TI TO i1 i2 : Addr} (D : ZipApart z TI TO i1 i2 a b) :
    Turn P w K (.Tuple elts kk tpos) (ItzT K a b) [z, TI, TO, i1, i2] z (fun i h => IsZip h z TI TO .none ∧ IsPair h TI (.ref i1) (.ref i2) ∧ (∃ x y, IsPair h TO x y) ∧ h.IsTupleIter i1 a i ∧ h.IsTupleIter i2 b i) where
  mem := by simp
  obj := fun i h st c hc => by
    obtain ⟨hz, hTI, ⟨x, y, hTO⟩, ⟨o1, e1, _, d1⟩, ⟨o2, e2, _, d2⟩⟩ := st
    have e' : c = z ∨ c = TI ∨ c = TO ∨ c = i1 ∨ c = i2 := by simpa using hc
    rcases e' with q | q | q | q | q
    · rw [q]; exact ⟨_, hz, fun v q => nomatch q⟩
    · rw [q]; exact ⟨_, hTI, fun v q => nomatch q⟩
    · rw [q]; exact ⟨_, hTO, fun v q => nomatch q⟩
    · rw [q]; exact ⟨o1, e1, fun v q => by rw [d1] at q; cases q⟩
    · rw [q]; exact ⟨o2, e2, fun v q => by rw [d2] at q; cases q⟩
  keep := fun i h h' st k => by
    obtain ⟨hz, hTI, ⟨x, y, hTO⟩, h1, h2⟩ := st
    exact ⟨k z (by simp) _ hz, k TI (by simp) _ hTI, ⟨x, y, k TO (by simp) _ hTO⟩, h1.at fun o q => k i1 (by simp) o q, h2.at fun o q => k i2 (by simp) o q⟩
  item := by
    intro X hP hw hK hc i pins s σ H E I hf st hg
    subst hP hw hK
    obtain ⟨hz, hTI, ⟨x0, y0, hTO⟩, h1, h2⟩ := st
    obtain ⟨xs, ys, x, y, hqx, hqy, hx, hy⟩ := hg
    obtain ⟨its, rv, p, _⟩ := I.tuple hqx
    obtain ⟨its2, rv2, p2, _⟩ := I.tuple hqy
    obtain ⟨u, hu, ru⟩ := rv.get hx
    obtain ⟨u2, hu2, ru2⟩ := rv2.get hy
    have hzl : z < s.heap.objs.size := Heap.lt_size hz
    have l1 : i < its.toArray.size := by
      have := (List.getElem?_eq_some_iff.mp hu).1
      simpa using this
    have l2 : i < its2.toArray.size := by
      have := (List.getElem?_eq_some_iff.mp hu2).1
      simpa using this
    have hh : X.A.in1.handled = none := I.ok.hd hc
    refine wpAny_pyNext_zipD2_item (sep_of D) (Draws.tuple hh i1 a D.l1i1 its.toArray) (Draws.tuple hh i2 b D.l2i2 its2.toArray) hz hTI hTO ⟨h1, p⟩ ⟨h2, p2⟩ l1 l2 fun u' u2' h' tk pu pu2 z' TO' h1' h2' hT hsz hk => ?_
    have eu : u' = u := by
      have pu' : its.toArray[i]? = some u' := pu
      rw [List.getElem?_toArray, hu] at pu'
      exact (Option.some.inj pu').symm
    have eu2 : u2' = u2 := by
      have pu' : its2.toArray[i]? = some u2' := pu2
      rw [List.getElem?_toArray, hu2] at pu'
      exact (Option.some.inj pu').symm
    subst eu
    subst eu2
    refine ⟨_, rfl, wpAny_letOwnedTupleGo_zip (s := { s with heap := h', toks := tk }) z' fun h'' z'' sb => ?_⟩
    have hT2 : h''.get? s.heap.objs.size = some { cls := .type "tuple", data := .seq #[u', u2'] } := (sb.2 _ (Nat.ne_of_gt hzl)).trans hT
    have new : ObjOk X.prog X.w (upd H s.heap.objs.size (.tup [x, y])) h'' s.heap.objs.size (.tup [x, y]) :=
      ⟨by show 2 ≤ sizeLine; decide, [u', u2'], .cons ru (.cons ru2 .nil), ⟨_, hT2, rfl, _, rfl⟩⟩
    have I1 : Inv X pins σ (upd H s.heap.objs.size (.tup [x, y])) { s with heap := h'', toks := tk } :=
      I.turnedNew (t' := tk) (ch := [z, TI, TO, i1, i2]) (fun c o hb q => (sb.2 c (fun q' => hb (by simp [q']))).trans (hk c o (fun q' => hb (by simp [q'])) (fun q' => hb (by simp [q'])) (fun q' => hb (by simp [q'])) (fun q' => hb (by simp [q'])) q)) hf (Nat.le_refl _) new
    refine ⟨.ref s.heap.objs.size, _, I1, rfl, ⟨_, x, y, rfl, I.hok.fresh (Nat.le_refl _), rfl, fun l hl => by rw [I.tuple_inj hl hqx]; exact hx, fun l hl => by rw [I.tuple_inj hl hqy]; exact hy⟩, ⟨z'', ?_, ⟨u', u2', ?_⟩, ?_, ?_⟩, fun c hcm => ?_⟩
    · exact (sb.2 _ D.TIz).trans (hk _ _ D.TIz D.TITO D.TIi1 D.TIi2 hTI)
    · exact (sb.2 _ D.TOz).trans TO'
    · exact h1'.1.at fun o q => (sb.2 _ D.i1z).trans q
    · exact h2'.1.at fun o q => (sb.2 _ D.i2z).trans q
    · have hlt : c < s.heap.objs.size := by
        have e' : c = z ∨ c = TI ∨ c = TO ∨ c = i1 ∨ c = i2 := by simpa using hcm
        rcases e' with q | q | q | q | q
        · rw [q]; exact hzl
        · rw [q]; exact Heap.lt_size hTI
        · rw [q]; exact Heap.lt_size hTO
        · rw [q]; obtain ⟨_, e1, _⟩ := h1; exact Heap.lt_size e1
        · rw [q]; obtain ⟨_, e2, _⟩ := h2; exact Heap.lt_size e2
      rw [upd_ne (Nat.ne_of_lt hlt)]
      exact (hf c hcm).1
  done := by
    intro X hP hw hK hc i pins s σ H E I hf st hg
    subst hP hw hK
    obtain ⟨hz, hTI, ⟨x0, y0, hTO⟩, h1, h2⟩ := st
    obtain ⟨xs, ys, hqx, hqy, e1, e2⟩ := hg
    obtain ⟨its, rv, p, _⟩ := I.tuple hqx
    obtain ⟨its2, rv2, p2, _⟩ := I.tuple hqy
    have l1 := rv.length
    have l2 := rv2.length
    have hh : X.A.in1.handled = none := I.ok.hd hc
    exact wpAny_pyNext_zipD2_end (sep_of D) (Draws.tuple hh i1 a D.l1i1 its.toArray) (Draws.tuple hh i2 b D.l2i2 its2.toArray) hz hTI hTO ⟨h1, p⟩ ⟨h2, p2⟩ (by simp; omega) (by simp; omega) (.inl (by simp; omega)) fun h' tk hk => ⟨rfl, I.turnedL (t' := tk) (ch := [z, TI, TO, i1, i2]) (fun c o hb q =>
      hk c o (fun q' => hb (by simp [q'])) (fun q' => hb (by simp [q'])) (fun q' => hb (by simp [q'])) (fun q' => hb (by simp [q'])) q) hf⟩
  self := fun A i s Q E st h => wpAny_pyIter_zip st.1 h
def iZipT (K : PySem.W.Frag) (ta : TA) : TI := fun σ H R => ta σ H fun vs H1 => ∃ a b xs ys, vs = [.ref a, .ref b] ∧ SqT K H1 a xs ∧ SqT K H1 b ys ∧ R (ItzT K a b) H1
theorem pi_zipT {X : Cx} {e e2 : Expr} {ta : TA} {p pos tpos : Pos} {elts : List Expr} {kk : Nat} (hg : Gl X "zip") (hm : X.mg "zip" = none) (ha : PA X [e, e2] ta)
    (hs : starEach [e, e2] X.env = (false, eval e X.env) :: starEach [e2] X.env := by rfl) (hpl : (backTo pos (starEach [e2] X.env)).any (·.1) = false := by rfl) :
    PI X (.Tuple elts kk tpos) (.Call (.Name "zip" p) [e, e2] [] pos) (iZipT X.K ta) := by
  refine ⟨fun pins s σ H R I h => ?_⟩
  refine Call_ (ld_blt I hg hm PyProof.Rows.boot_zip (PyProof.Rows.callWith_type1 (thn (ha.run pos pins s σ H _ I h) fun us s1 ⟨vs, H1, I1, r1, q1⟩ => ?_) hs hpl))
  obtain ⟨a, b, xs, ys, ex, hqx, hqy, q⟩ := q1
  subst ex
  cases r1 with
  | cons r rr =>
    cases rr with
    | cons r' rr =>
      cases rr
      cases r
      cases r'
      obtain ⟨its, rv, p1, _⟩ := I1.tuple hqx
      obtain ⟨its2, rv2, p2, _⟩ := I1.tuple hqy
      have la : a < s1.heap.objs.size := p1.lt
      have lb : b < s1.heap.objs.size := p2.lt
      refine zip_begins2 (begins_tuple a its.toArray) (begins_tuple b its2.toArray) p1 p2 fun h' hz hTI hTO h1 h2 hsz hk => wpAny_pyIter_zip hz ?_
      have I2 : Inv X pins σ H1 { s1 with heap := h' } := I1.kept (t' := s1.toks) hk
      refine ⟨s1.heap.objs.size + 4, [s1.heap.objs.size + 4, s1.heap.objs.size + 2, s1.heap.objs.size + 3, s1.heap.objs.size, s1.heap.objs.size + 1], _, _, H1, rfl, I2, turn_zipT (PySem.W.ktu_apart s1.heap.objs.size a b la lb), ⟨hz, hTI, ⟨_, _, hTO⟩, ⟨_, h1, rfl, rfl⟩, ⟨_, h2, rfl, rfl⟩⟩, fun c hcm => ?_, q⟩
      have e' : c = s1.heap.objs.size + 4 ∨ c = s1.heap.objs.size + 2 ∨ c = s1.heap.objs.size + 3 ∨ c = s1.heap.objs.size ∨ c = s1.heap.objs.size + 1 := by simpa using hcm
      have hle : s1.heap.objs.size ≤ c := by
        rcases e' with z | z | z | z | z
        · rw [z]; exact Nat.le_add_right _ _
        · rw [z]; exact Nat.le_add_right _ _
        · rw [z]; exact Nat.le_add_right _ _
        · rw [z]; exact Nat.le_refl _
        · rw [z]; exact Nat.le_add_right _ _
      exact I1.fpOk hle (I1.hok.fresh hle)
theorem walk_zipT {K : PySem.W.Frag} {a b : Addr} {xs ys : List V} {n : Nat} (h1 : xs.length = n) (h2 : ys.length = n) : Walk (ItzT K a b) n (fun H => SqT K H a xs ∧ SqT K H b ys) (YPair (fun i => xs[i]?) (fun i => ys[i]?)) := by
  refine ⟨fun i H hi q => ⟨xs, ys, _, _, q.1, q.2, List.getElem?_eq_getElem (by omega), List.getElem?_eq_getElem (by omega)⟩, fun H q => ⟨xs, ys, q.1, q.2, h1, h2⟩, fun i H x H' hi q y => ?_⟩
  obtain ⟨T, x, y, rfl, hT, rfl, f1, f2⟩ := y
  exact ⟨T, x, y, rfl, hT, rfl, f1 xs q.1, f2 ys q.2⟩
end L2

set_option Elab.async false
set_option linter.all false
set_option maxRecDepth 100000
set_option maxHeartbeats 4000000
/-! for k in d, d a dict keyed by tuples, locked -/
namespace L2
open PySem PySem.W PySem.Spec PyProof.Rows
def ItkN (w : World) (d : Addr) (o : Obj) (E : List DRow) : It :=
  ⟨fun i H => Fn w H d o E ∧ i < E.length, fun i H x H' => H' = H ∧ ∃ p, E[i]? = some p ∧ x = p.1.v, fun i H => Fn w H d o E ∧ E.length ≤ i⟩
section
variable {P : Program} {w : World} {K : PySem.W.Frag} {d : Addr} {o : Obj} {es : Array DictEntry} {ep : Nat} {E : List DRow}
theorem turn_keysN {x : Str} {tp : Pos} (it : Addr) (hod : o.data = .dict es ep) (dn : d ≠ it) (hn : es.size = E.length) :
    Turn P w K (.Name x tp) (ItkN w d o E) [it] it (fun i h => i ≤ es.size ∧ h.IsKeyIter it d i es.size ep) where
  mem := by simp
  obj := fun i h st b hb => (turn_keys (P := P) (w := w) (K := K) (tg := .Name x tp) (kvs := List.replicate es.size ((Sum.inl 0 : Key), V.non)) it hod).obj i h (by rw [List.length_replicate]; exact st.2) b hb
  keep := fun i h h' st k => by
    have z := (turn_keys (P := P) (w := w) (K := K) (tg := .Name x tp) (kvs := List.replicate es.size ((Sum.inl 0 : Key), V.non)) it hod).keep i h h' (by rw [List.length_replicate]; exact st.2) k
    rw [List.length_replicate] at z
    exact ⟨st.1, z⟩
  item := by
    intro X hP hw hK hc i pins s σ H E' I hf st hg
    subst hP hw hK
    obtain ⟨hd, hi⟩ := hg
    obtain ⟨hs, hgd, hx, es', ep', hdt, hsz, ent⟩ := I.frzN hd
    obtain ⟨rfl, rfl⟩ := dict_ep hod hdt
    obtain ⟨f0, f1, f2, f3, f4, f5⟩ := hf it (by simp)
    have hi2 : i < es'.size := by omega
    refine (Walks.rawKeys (I.ok.hd hc) it d dn es' ep').item i s _ _ hi2 ⟨st.2, ⟨o, hgd, hx, hdt⟩⟩ fun v h' tk ⟨hi', ev⟩ st' hk => ?_
    refine ⟨_, rfl, ?_⟩
    obtain ⟨p, hp⟩ : ∃ p, E[i]? = some p := ⟨E[i], List.getElem?_eq_getElem hi⟩
    obtain ⟨en, he, hk1, hv1⟩ := ent i p hp
    have hen : es'[i] = en := by
      rw [Array.getElem?_eq_getElem hi2] at he
      exact Option.some.inj he
    have I2 : Inv X pins σ H { s with heap := h', toks := tk } := I.turned (t' := tk) (fun b ob hb e => hk b ob (by simpa using hb) e) f0 f1 f3 f4 f5
    have fin : ∃ x H', Inv X pins σ H' { s with heap := h', toks := tk } ∧ RelV x v ∧ (ItkN X.w d o E).yld i H x H' ∧ (i + 1 ≤ es'.size ∧ h'.IsKeyIter it d (i + 1) es'.size ep') ∧ ∀ b ∈ [it], H' b = none := by
      refine ⟨p.1.v, H, I2, ?_, ⟨rfl, p, hp, rfl⟩, ⟨hi2, st'.1⟩, fun b hb => ?_⟩
      · rw [ev, hen, hk1]
        rfl
      · have e : b = it := by simpa using hb
        rw [e]
        exact f0
    exact wpAny_pure fin
  done := by
    intro X hP hw hK hc i pins s σ H E' I hf st hg
    subst hP hw hK
    obtain ⟨hd, hi⟩ := hg
    obtain ⟨f0, f1, f2, f3, f4, f5⟩ := hf it (by simp)
    obtain ⟨hs, hgd, hx, es', ep', hdt, hsz, ent⟩ := I.frzN hd
    obtain ⟨rfl, rfl⟩ := dict_ep hod hdt
    have e : i = es'.size := by have := st.1; omega
    subst e
    exact (Walks.rawKeys (I.ok.hd hc) it d dn es' ep').done s _ _ ⟨st.2, ⟨o, hgd, hx, hdt⟩⟩ fun h' tk hk => ⟨rfl, I.turned (t' := tk) (fun b ob hb e => hk b ob (by simpa using hb) e) f0 f1 f3 f4 f5⟩
  self := fun A i s Q E' st h => (turn_keys (P := P) (w := w) (K := K) (tg := .Name x tp) (kvs := List.replicate es.size ((Sum.inl 0 : Key), V.non)) it hod).self A i s Q E' (by rw [List.length_replicate]; exact st.2) h
def iKeysN (w : World) (td : TE) : TI := fun σ H R => td σ H fun x H1 => ∃ d o E, x = .ref d ∧ Fn w H1 d o E ∧ R (ItkN w d o E) H1
theorem walk_keysN {o : Obj} : L2.Walk (ItkN w d o E) E.length (fun H => Fn w H d o E) fun i H x H' => H' = H ∧ ∃ p, E[i]? = some p ∧ x = p.1.v :=
  ⟨fun i H hi q => ⟨q, hi⟩, fun H q => ⟨q, Nat.le_refl _⟩, fun i H x H' hi q y => y⟩
end
section
variable {X : Cx} {e : Expr} {td : TE}
theorem pi_keysN {x : Str} {tp : Pos} (he : PE X e td) : PI X (.Name x tp) e (iKeysN X.w td) := by
  refine ⟨fun pins s σ H R I h => ?_⟩
  refine thn (he.run pins s σ H _ I h) fun u s1 ⟨y, H1, I1, rx, d, o, E, ex, hd, q⟩ => ?_
  subst ex
  obtain rfl : u = Value.ref d := rx
  obtain ⟨hs, hgd, hx, es, ep, hdt, hsz, ent⟩ := I1.frzN hd
  refine iter_keys hs hgd hx hdt ?_
  refine pi_one (tk := s1.toks) I1 _ (turn_keysN _ hdt (Nat.ne_of_lt (Heap.lt_size hgd)) hsz) ⟨Nat.zero_le _, ?_⟩ q
  exact ⟨_, Heap.get?_push_size _ rfl, rfl, rfl⟩
end
end L2
namespace L2
open PySem PySem.W PySem.Spec PyProof.Rows
/-- d[y], there, d locked -/
def tNGetF (w : World) (td ty : TE) : TE := fun σ H Q => td σ H fun x H1 => ty σ H1 fun y H2 => ∃ a r D d v o, x = .ref a ∧ y = .ref r ∧ Fn w H2 a o D ∧ KeysAt H2 D ∧ Dat H2 (.ref r) d ∧ keyable d = true ∧ d.depth ≤ 8 ∧ lookN D d = some v ∧ Q v H2
theorem fn_dn {h : Heap} {P : Program} {w : World} {H : Hp} {a : Addr} {ob : Obj} {D : List DRow} (ok : HOk P w H h) (e : Fn w H a ob D) (ne : D ≠ []) (kk : KeysAt H D) : ∃ xs, KN D xs ∧ h.DictOfH (nestedKind P w) a xs := by
  rcases e with e | ⟨e, z⟩
  · obtain ⟨hd, z⟩ := ok a _ e
    obtain ⟨⟨xs, o', es, ep, r1, r2, r3, r4, r5, r6, r7, r8⟩, _⟩ := z
    exact ⟨xs, r1, ⟨o', es, ep, r2, r3, r4, r5, kn_keys ok r1 kk, r6⟩⟩
  · exact absurd z ne
theorem pe_ngetF {X : Cx} {o i : Expr} {td ty : TE} {pos : Pos} (hu : X.A.units + 16 < cLine) (ho : PE X o td) (hi : PE X i ty) (hs : NoSl i) : PE X (.Subscript o i pos) (tNGetF X.w td ty) := by
  refine ⟨fun pins s σ H Q I h => ?_⟩
  refine subD_of PySem.F.slot_dict_getitem.lookup hs (thn (ho.run pins s σ H _ I h) fun u s1 ⟨x, H1, I1, rx, q1⟩ => thn (hi.run pins s1 σ H1 _ I1 q1) fun iv s2 ⟨y, H2, I2, ry, a, r, D, d, v, ob, ex, ey, e, kk, Dr, kd, dp, l, q2⟩ => ?_)
  subst ex ey
  cases rx; cases ry
  have ne : D ≠ [] := fun z => by rw [z] at l; cases l
  obtain ⟨xs, rel, dd⟩ := fn_dn I2.hok e ne kk
  refine ⟨dd.typeIs, ?_⟩
  obtain ⟨w', hw, rw'⟩ := RelO.some_of (v := v) (o := (atKey xs (nkey d)).map (·.2)) (by rw [← l]; exact rel.val d)
  obtain ⟨p, hp, hp2⟩ := Option.map_eq_some_iff.mp hw
  refine wpAny_getItem_heap (show X.A.in1.units + 8 < cLine by rw [Around.in1_units]; omega) (key_at I2.hok Dr kd dp) dd hp ?_
  rw [hp2]
  exact ⟨v, H2, I2.tok _, rw', q2⟩
end L2

set_option Elab.async false
set_option linter.all false
set_option maxRecDepth 100000
set_option maxHeartbeats 4000000
/-! a saying whose names are called otherwise, pure -/
namespace S1
open PySem PySem.W PySem.Spec PyProof.Rows L2
abbrev renL (ρ : Str → Str) (cl : List Ltr) : List Ltr := cl.map fun l => (ρ l.1, l.2)
/-- s' is s, its names called otherwise -/
structure Ren (ρ : Str → Str) (s s' : Say) : Prop where
  inj : ∀ x ∈ s.names, ∀ y ∈ s.names, ρ x = ρ y → x = y
  pk : s'.picks.Perm (s.picks.map ρ)
  ow : ∀ o ∈ s.owns, ∃ o' ∈ s'.owns, o'.1 = ρ o.1 ∧ o'.2.Perm (o.2.map ρ)
  wo : ∀ o' ∈ s'.owns, ∃ o ∈ s.owns, o'.1 = ρ o.1 ∧ o'.2.Perm (o.2.map ρ)
  cl : ∀ cl ∈ s.cls, ∃ cl' ∈ s'.cls, cl'.Perm (renL ρ cl)
  lc : ∀ cl' ∈ s'.cls, ∃ cl ∈ s.cls, cl'.Perm (renL ρ cl)
def valAt (ps : List Str) (bs : List Bool) (x : Str) : Bool := (truOf ps bs x).getD false
theorem sees_map {ps si : List Str} {bs : List Bool} (up : ps.Pairwise tlt) (us : si.Pairwise tlt) (sub : ∀ x ∈ si, x ∈ ps) (hl : bs.length = ps.length) : seesD ps si bs = si.map (valAt ps bs) := by
  have z := sees_is ps si bs up us sub hl
  have e : (si.map fun x => truOf ps bs x).map (fun o => o.getD false) = ((seesD ps si bs).map some).map (fun o => o.getD false) := by rw [z]
  rw [List.map_map, List.map_map] at e
  have e2 : (seesD ps si bs).map ((fun o : Option Bool => o.getD false) ∘ some) = seesD ps si bs := by
    conv => rhs; rw [← List.map_id (seesD ps si bs)]
    rfl
  rw [e2] at e
  exact e.symm
/-- plays that go with one another -/
def Cor (ρ : Str → Str) (s s' : Say) (bs bs' : List Bool) : Prop := ∀ x ∈ s.picks, valAt s'.picks bs' (ρ x) = valAt s.picks bs x
theorem tru_val2 {ps : List Str} {bs : List Bool} (hl : bs.length = ps.length) {x : Str} (hx : x ∈ ps) : truOf ps bs x = some (valAt ps bs x) := by
  obtain ⟨b, hb⟩ := tru_some hl hx
  unfold valAt
  rw [hb]
  rfl
section
variable {ρ : Str → Str} {s s' : Say} {a b c d a' b' c' d' : Nat}
theorem Ren.pick (R : Ren ρ s s') {x : Str} (h : x ∈ s.picks) : ρ x ∈ s'.picks := R.pk.mem_iff.mpr (List.mem_map_of_mem h)
theorem Ren.kcip (R : Ren ρ s s') {y : Str} (h : y ∈ s'.picks) : ∃ x ∈ s.picks, ρ x = y := List.mem_map.mp (R.pk.mem_iff.mp h)
/-- each play has one that goes with it -/
theorem Ren.play (R : Ren ρ s s') {bs : List Bool} (hl : bs.length = s.picks.length) : ∃ bs' ∈ playsD s'.picks.length, Cor ρ s s' bs bs' := by
  have nm : ∀ x ∈ s.picks, x ∈ s.names := fun x h => List.mem_append_left _ h
  let g : Str → Bool := fun y => match s.picks.find? (fun x => decide (ρ x = y)) with | some x => valAt s.picks bs x | none => false
  have hg : ∀ x ∈ s.picks, g (ρ x) = valAt s.picks bs x := fun x hx => by
    show (match s.picks.find? (fun z => decide (ρ z = ρ x)) with | some x => valAt s.picks bs x | none => false) = _
    cases h : s.picks.find? (fun z => decide (ρ z = ρ x)) with
    | none => exact absurd (List.find?_eq_none.mp h x hx) (by simp)
    | some z =>
      have e1 : ρ z = ρ x := by simpa using List.find?_some h
      have e2 := R.inj z (nm z (List.mem_of_find?_eq_some h)) x (nm x hx) e1
      rw [e2]
  refine ⟨s'.picks.map g, ?_, fun x hx => ?_⟩
  · have key : ∀ (n : Nat) (p : List Bool), p.length = n → p ∈ playsD n := by
      intro n
      induction n with
      | zero =>
        intro p h
        rw [List.length_eq_zero_iff.mp h]
        exact List.mem_singleton.mpr rfl
      | succ n ih =>
        intro p h
        have np : p ≠ [] := fun e => by rw [e] at h; cases h
        have e := List.dropLast_concat_getLast np
        have m := ih p.dropLast (by rw [List.length_dropLast, h]; rfl)
        rw [← e]
        refine List.mem_flatMap.mpr ⟨_, m, ?_⟩
        cases p.getLast np <;> simp
    exact key _ _ (List.length_map ..)
  · have tm : ∀ (ps : List Str) (y : Str), y ∈ ps → truOf ps (ps.map g) y = some (g y) := by
      intro ps
      induction ps with
      | nil => intro y h; cases h
      | cons p ps ih =>
        intro y h
        by_cases e : p = y
        · subst e
          exact tru_pos
        · rw [List.map_cons, tru_neg e]
          exact ih y ((List.mem_cons.mp h).elim (fun z => absurd z.symm e) id)
    show (truOf s'.picks (s'.picks.map g) (ρ x)).getD false = _
    rw [tm _ _ (R.pick hx)]
    exact hg x hx
theorem Ren.yalp (R : Ren ρ s s') (bs' : List Bool) : ∃ bs : List Bool, bs.length = s.picks.length ∧ Cor ρ s s' bs bs' := by
  refine ⟨s.picks.map fun x => valAt s'.picks bs' (ρ x), List.length_map .., fun x hx => ?_⟩
  have tm : ∀ (g : Str → Bool) (ps : List Str) (y : Str), y ∈ ps → truOf ps (ps.map g) y = some (g y) := by
    intro g ps
    induction ps with
    | nil => intro y h; cases h
    | cons p ps ih =>
      intro y h
      by_cases e : p = y
      · subst e
        exact tru_pos
      · rw [List.map_cons, tru_neg e]
        exact ih y ((List.mem_cons.mp h).elim (fun z => absurd z.symm e) id)
  show _ = (truOf s.picks (s.picks.map fun x => valAt s'.picks bs' (ρ x)) x).getD false
  rw [tm _ _ _ hx]
  rfl
end
end S1

set_option Elab.async false
set_option linter.all false
set_option maxRecDepth 100000
set_option maxHeartbeats 4000000
/-! a clause that asks one copy -/
namespace S1
open PySem PySem.W PySem.Spec PyProof.Rows L2
theorem mem_plays : ∀ (n : Nat) (p : List Bool), p.length = n → p ∈ playsD n
  | 0, p, h => by
    rw [List.length_eq_zero_iff.mp h]
    exact List.mem_singleton.mpr rfl
  | n + 1, p, h => by
    have np : p ≠ [] := fun e => by rw [e] at h; cases h
    have e := List.dropLast_concat_getLast np
    have l : p.dropLast.length = n := by rw [List.length_dropLast, h]; rfl
    have m := mem_plays n _ l
    rw [← e]
    refine List.mem_flatMap.mpr ⟨_, m, ?_⟩
    cases p.getLast np <;> simp
/-- the letters of the clause that asks the copy c to be so -/
def askL (o : Own) (c : Cpy) (t : Bool) : List Ltr := (o.2.zip c.2).map (fun x => (x.1, !x.2)) ++ [(c.1, t)]
theorem tru_map (f : Str → Bool) : ∀ (ps : List Str) (x : Str), x ∈ ps → truOf ps (ps.map f) x = some (f x)
  | [], x, h => absurd h (by simp)
  | p :: ps, x, h => by
    by_cases e : p = x
    · subst e
      exact tru_pos
    · rw [List.map_cons, tru_neg e]
      exact tru_map f ps x ((List.mem_cons.mp h).elim (fun z => absurd z.symm e) id)
theorem own_find {os : List Own} (nd : (os.map Prod.fst).Nodup) {o : Own} (ho : o ∈ os) : os.find? (fun o' => decide (o'.1 = o.1)) = some o := by
  induction os with
  | nil => cases ho
  | cons a os ih =>
    have nd' := List.nodup_cons.mp (show (a.1 :: os.map Prod.fst).Nodup from nd)
    rcases List.mem_cons.mp ho with rfl | h
    · exact List.find?_cons_of_pos (by simp)
    · have ne : a.1 ≠ o.1 := fun e => nd'.1 (e ▸ List.mem_map_of_mem h)
      rw [show (a :: os).find? (fun o' => decide (o'.1 = o.1)) = os.find? (fun o' => decide (o'.1 = o.1)) from List.find?_cons_of_neg (by simpa using ne)]
      exact ih nd'.2 h
theorem find_zip {si : List Str} (nd : si.Nodup) : ∀ {ts : List Bool} {x : Str} {t : Bool}, (x, t) ∈ si.zip ts → (si.zip ts).find? (fun p => decide (p.1 = x)) = some (x, t) := by
  induction si with
  | nil => intro ts x t h; simp at h
  | cons a si ih =>
    intro ts x t h
    cases ts with
    | nil => simp at h
    | cons b ts =>
      have nd' := List.nodup_cons.mp nd
      rw [List.zip_cons_cons] at h ⊢
      rcases List.mem_cons.mp h with e | h
      · injection e with e1 e2
        subst e1 e2
        exact List.find?_cons_of_pos (by simp)
      · have mx : x ∈ si := (List.of_mem_zip h).1
        have ne : a ≠ x := fun e => nd'.1 (e ▸ mx)
        rw [List.find?_cons_of_neg (by simpa using ne)]
        exact ih nd'.2 h
section
variable {s : Say} {o : Own} {c : Cpy} {t : Bool} {cl : List Ltr}
theorem pick_no (ok : SayOk 6 8 120 40 s) {x : Str} (hx : x ∈ s.picks) : x ∉ s.owns.map Prod.fst := fun m => by
  obtain ⟨o', ho', e⟩ := List.mem_map.mp m
  exact (ok.on o' ho').2.1 (e ▸ hx)
theorem ask_sees (ok : SayOk 6 8 120 40 s) (ho : o ∈ s.owns) (e1 : c.1 = o.1) (e2 : c.2.length = o.2.length) (pm : cl.Perm (askL o c t)) {bs : List Bool} (hl : bs.length = s.picks.length) (nd : dead s bs cl = false) : seesD s.picks o.2 bs = c.2 := by
  have og := ok.on o ho
  have si := sees_is s.picks o.2 bs ok.pu og.2.2.1 og.2.2.2 hl
  have ls := sees_len ok hl ho
  refine List.ext_getElem? fun i => ?_
  by_cases hi : i < o.2.length
  · have hx : o.2[i]? = some o.2[i] := List.getElem?_eq_getElem hi
    have ht : c.2[i]? = some (c.2[i]'(by omega)) := List.getElem?_eq_getElem (by omega)
    generalize o.2[i] = x at hx
    generalize (c.2[i]'(by omega)) = b at ht
    have xp : x ∈ s.picks := og.2.2.2 x (List.mem_of_getElem? hx)
    have mz : (x, b) ∈ o.2.zip c.2 := List.mem_of_getElem? (List.getElem?_zip_eq_some.mpr ⟨hx, ht⟩ : (o.2.zip c.2)[i]? = some (x, b))
    have ml : ((x, !b) : Ltr) ∈ cl := pm.mem_iff.mpr (List.mem_append_left _ (List.mem_map.mpr ⟨(x, b), mz, rfl⟩))
    unfold dead at nd
    rw [List.any_eq_false] at nd
    have z := nd _ ml
    rw [here_none.mpr (pick_no ok xp)] at z
    obtain ⟨b', hb'⟩ := tru_some hl xp
    rw [hb'] at z
    have eb : b' = b := by
      cases b <;> cases b' <;> simp_all
    have z2 : (o.2.map fun x => truOf s.picks bs x)[i]? = ((seesD s.picks o.2 bs).map some)[i]? := by rw [si]
    rw [List.getElem?_map, hx, List.getElem?_map] at z2
    rw [ht]
    cases hs : (seesD s.picks o.2 bs)[i]? with
    | none =>
      rw [hs] at z2
      cases z2
    | some q =>
      rw [hs] at z2
      have z3 : truOf s.picks bs x = some q := Option.some.inj z2
      rw [hb', eb] at z3
      rw [← Option.some.inj z3]
  · rw [List.getElem?_eq_none_iff.mpr (by omega), List.getElem?_eq_none_iff.mpr (by omega)]
theorem ask_marks (ok : SayOk 6 8 120 40 s) (ho : o ∈ s.owns) (e1 : c.1 = o.1) (pm : cl.Perm (askL o c t)) (bs : List Bool) : marks s bs cl = [(c.1, seesD s.picks o.2 bs, t)] := by
  have og := ok.on o ho
  have z : marks s bs (askL o c t) = [(c.1, seesD s.picks o.2 bs, t)] := by
    unfold askL marks
    rw [List.filterMap_append]
    have h1 : ((o.2.zip c.2).map fun x => ((x.1, !x.2) : Ltr)).filterMap (fun l => (seesAt s bs l.1).map fun t => (l.1, t, l.2)) = [] := by
      rw [List.filterMap_eq_nil_iff]
      intro l hl
      obtain ⟨y, hy, rfl⟩ := List.mem_map.mp hl
      have my : y.1 ∈ o.2 := (List.of_mem_zip (show (y.1, y.2) ∈ o.2.zip c.2 from hy)).1
      have sn : seesAt s bs y.1 = none := sees_none.mpr (pick_no ok (og.2.2.2 _ my))
      show (seesAt s bs y.1).map _ = none
      rw [sn]
      rfl
    have h2 : seesAt s bs c.1 = some (seesD s.picks o.2 bs) := by
      unfold seesAt
      rw [e1, own_find (own_nd ok) ho]
      rfl
    rw [h1, List.nil_append]
    simp only [List.filterMap_cons, h2, Option.map_some, List.filterMap_nil]
  have p := pm.filterMap (fun l => (seesAt s bs l.1).map fun t => ((l.1, t, l.2) : Mk))
  have p2 : (marks s bs cl).Perm [(c.1, seesD s.picks o.2 bs, t)] := by
    rw [← z]
    exact p
  exact List.perm_singleton.mp p2
theorem ask_told (ok : SayOk 6 8 120 40 s) (ho : o ∈ s.owns) (e1 : c.1 = o.1) (e2 : c.2.length = o.2.length) (pm : cl.Perm (askL o c t)) (ms : List Mk) : ms ∈ toldA ⟨s.picks, s.owns, [cl]⟩ ↔ ms = [(c.1, c.2, t)] := by
  have og := ok.on o ho
  have sok : ∀ bs, dead ⟨s.picks, s.owns, [cl]⟩ bs cl = dead s bs cl := fun _ => rfl
  have mok : ∀ bs, marks ⟨s.picks, s.owns, [cl]⟩ bs cl = marks s bs cl := fun _ => rfl
  constructor
  · intro h
    obtain ⟨bs, h1, cl', h2, h3, h4⟩ := mem_toldM.mp h
    rw [List.mem_singleton.mp h2] at h3 h4
    rw [sok] at h3
    rw [mok, ask_marks ok ho e1 pm] at h4
    rw [h4, ask_sees ok ho e1 e2 pm (plays_bits _ _ h1) h3]
  · rintro rfl
    have hp : ∀ x, x ∈ s.picks → truOf s.picks (s.picks.map fun x => (((o.2.zip c.2).find? fun p => decide (p.1 = x)).map Prod.snd).getD false) x = some ((((o.2.zip c.2).find? fun p => decide (p.1 = x)).map Prod.snd).getD false) := fun x hx => tru_map (fun x => (((o.2.zip c.2).find? fun p => decide (p.1 = x)).map Prod.snd).getD false) _ _ hx
    have hl : (s.picks.map fun x => (((o.2.zip c.2).find? fun p => decide (p.1 = x)).map Prod.snd).getD false).length = s.picks.length := List.length_map ..
    generalize hbs : (s.picks.map fun x => (((o.2.zip c.2).find? fun p => decide (p.1 = x)).map Prod.snd).getD false) = bs at hp hl
    have hd : dead s bs cl = false := by
      unfold dead
      rw [List.any_eq_false]
      intro l hl2
      rcases List.mem_append.mp (pm.mem_iff.mp hl2) with m | m
      · obtain ⟨y, hy, rfl⟩ := List.mem_map.mp m
        have my : y.1 ∈ o.2 := (List.of_mem_zip (show (y.1, y.2) ∈ o.2.zip c.2 from hy)).1
        have z := hp y.1 (og.2.2.2 _ my)
        rw [find_zip (nodup_tlt og.2.2.1) (show (y.1, y.2) ∈ o.2.zip c.2 from hy)] at z
        show ¬ ((hereAt s bs y.1).isNone && decide (truOf s.picks bs y.1 = some (!y.2))) = true
        rw [z]
        show ¬ ((hereAt s bs y.1).isNone && decide (some y.2 = some (!y.2))) = true
        cases y.2 <;> simp
      · cases List.mem_singleton.mp m
        have hn : hereAt s bs c.1 ≠ none := fun z => (here_none.mp z) (e1 ▸ List.mem_map_of_mem ho)
        cases h : hereAt s bs c.1 with
        | none => exact absurd h hn
        | some n => simp [h]
    refine mem_toldM.mpr ⟨bs, mem_plays _ _ hl, cl, List.mem_singleton.mpr rfl, hd, ?_⟩
    rw [mok, ask_marks ok ho e1 pm, ask_sees ok ho e1 e2 pm hl hd]
end
end S1

set_option Elab.async false
set_option linter.all false
set_option maxRecDepth 100000
set_option maxHeartbeats 4000000
/-! rows carried over to a saying whose names are called otherwise -/
namespace S1
open PySem PySem.W PySem.Spec PyProof.Rows L2
def carT (ρ : Str → Str) (o o' : Own) (t : List Bool) : List Bool := o'.2.map fun y => ((((o.2.map ρ).zip t).find? fun p => decide (p.1 = y)).map Prod.snd).getD false
def carN (ρ : Str → Str) (s s' : Say) (c : Cpy) : Cpy := (ρ c.1, match s.owns.find? (fun o => decide (o.1 = c.1)), s'.owns.find? (fun o => decide (o.1 = ρ c.1)) with | some o, some o' => carT ρ o o' c.2 | _, _ => [])
def carM (ρ : Str → Str) (s s' : Say) (m : Mk) : Mk := ((carN ρ s s' (m.1, m.2.1)).1, (carN ρ s s' (m.1, m.2.1)).2, m.2.2)
section
variable {ρ : Str → Str} {s s' : Say}
theorem own_nm (o : Own) {os : List Own} (h : o ∈ os) : o.1 ∈ os.map Prod.fst := List.mem_map_of_mem h
theorem car_own (ok : SayOk 6 8 120 40 s) (ok' : SayOk 6 8 120 40 s') {o o' : Own} (ho : o ∈ s.owns) (ho' : o' ∈ s'.owns) (e : o'.1 = ρ o.1) (t : List Bool) : carN ρ s s' (o.1, t) = (ρ o.1, carT ρ o o' t) := by
  unfold carN
  have h1 := own_find (own_nd ok) ho
  have h2 := own_find (own_nd ok') ho'
  rw [e] at h2
  show (ρ o.1, _) = _
  rw [h1, h2]
theorem car_sees (R : Ren ρ s s') (ok : SayOk 6 8 120 40 s) (ok' : SayOk 6 8 120 40 s') {o o' : Own} (ho : o ∈ s.owns) (ho' : o' ∈ s'.owns) (pm : o'.2.Perm (o.2.map ρ)) {bs bs' : List Bool} (hl : bs.length = s.picks.length) (hl' : bs'.length = s'.picks.length) (C : Cor ρ s s' bs bs') : seesD s'.picks o'.2 bs' = carT ρ o o' (seesD s.picks o.2 bs) := by
  have og := ok.on o ho
  have og' := ok'.on o' ho'
  rw [sees_map ok'.pu og'.2.2.1 og'.2.2.2 hl', sees_map ok.pu og.2.2.1 og.2.2.2 hl]
  unfold carT
  refine List.map_congr_left fun y hy => ?_
  obtain ⟨x, hx, rfl⟩ := List.mem_map.mp (pm.mem_iff.mp hy)
  have nd : (o.2.map ρ).Nodup := pm.nodup_iff.mp (nodup_tlt og'.2.2.1)
  have m : (ρ x, valAt s.picks bs x) ∈ (o.2.map ρ).zip (o.2.map (valAt s.picks bs)) := by
    rw [List.zip_map', List.mem_map]
    exact ⟨x, hx, rfl⟩
  rw [find_zip nd m]
  exact C x (og.2.2.2 x hx)
/-- what an own of a name sees, there -/
theorem car_at (R : Ren ρ s s') (ok : SayOk 6 8 120 40 s) (ok' : SayOk 6 8 120 40 s') {bs bs' : List Bool} (hl : bs.length = s.picks.length) (hl' : bs'.length = s'.picks.length) (C : Cor ρ s s' bs bs') {x : Str} (hx : x ∈ s.names) : seesAt s' bs' (ρ x) = (seesAt s bs x).map fun t => (carN ρ s s' (x, t)).2 := by
  by_cases h : x ∈ s.owns.map Prod.fst
  · obtain ⟨o, ho, rfl⟩ := List.mem_map.mp h
    obtain ⟨o', ho', e1, pm⟩ := R.ow o ho
    have h1 := own_find (own_nd ok) ho
    have h2 := own_find (own_nd ok') ho'
    rw [e1] at h2
    unfold seesAt
    rw [h1, h2]
    show some (seesD s'.picks o'.2 bs') = some ((carN ρ s s' (o.1, seesD s.picks o.2 bs)).2)
    rw [car_own ok ok' ho ho' e1, car_sees R ok ok' ho ho' pm hl hl' C]
  · have hp : x ∈ s.picks := (List.mem_append.mp hx).elim id fun z => absurd z h
    rw [sees_none.mpr h, sees_none.mpr (pick_no ok' (R.pick hp))]
    rfl
theorem car_marks (R : Ren ρ s s') (ok : SayOk 6 8 120 40 s) (ok' : SayOk 6 8 120 40 s') {bs bs' : List Bool} (hl : bs.length = s.picks.length) (hl' : bs'.length = s'.picks.length) (C : Cor ρ s s' bs bs') : ∀ cl : List Ltr, (∀ l ∈ cl, l.1 ∈ s.names) → marks s' bs' (renL ρ cl) = (marks s bs cl).map (carM ρ s s')
  | [], _ => rfl
  | l :: cl, h => by
    have ih := car_marks R ok ok' hl hl' C cl fun x hx => h x (List.mem_cons_of_mem _ hx)
    have z := car_at R ok ok' hl hl' C (h l List.mem_cons_self)
    unfold marks at ih ⊢
    rw [show renL ρ (l :: cl) = (ρ l.1, l.2) :: renL ρ cl from rfl, List.filterMap_cons, List.filterMap_cons]
    dsimp only
    rw [z, ih]
    cases hs : seesAt s bs l.1 with
    | none => rfl
    | some t => rfl
theorem car_dead (R : Ren ρ s s') (ok : SayOk 6 8 120 40 s) (ok' : SayOk 6 8 120 40 s') {bs bs' : List Bool} (hl : bs.length = s.picks.length) (hl' : bs'.length = s'.picks.length) (C : Cor ρ s s' bs bs') {cl : List Ltr} (h : ∀ l ∈ cl, l.1 ∈ s.names) : dead s' bs' (renL ρ cl) = dead s bs cl := by
  unfold dead
  rw [List.any_map]
  have key : ∀ l ∈ cl, ((hereAt s' bs' (ρ l.1)).isNone && decide (truOf s'.picks bs' (ρ l.1) = some l.2)) = ((hereAt s bs l.1).isNone && decide (truOf s.picks bs l.1 = some l.2)) := fun l hl2 => by
    by_cases m : l.1 ∈ s.owns.map Prod.fst
    · obtain ⟨o, ho, e⟩ := List.mem_map.mp m
      obtain ⟨o', ho', e1, _⟩ := R.ow o ho
      have n1 : hereAt s bs l.1 ≠ none := fun z => here_none.mp z m
      have n2 : hereAt s' bs' (ρ l.1) ≠ none := fun z => here_none.mp z (by rw [← e, ← e1]; exact own_nm o' ho')
      cases q1 : hereAt s bs l.1 with
      | none => exact absurd q1 n1
      | some _ =>
        cases q2 : hereAt s' bs' (ρ l.1) with
        | none => exact absurd q2 n2
        | some _ => rfl
    · have hp : l.1 ∈ s.picks := (List.mem_append.mp (h l hl2)).elim id fun z => absurd z m
      rw [here_none.mpr m, here_none.mpr (pick_no ok' (R.pick hp)), tru_val2 hl hp, tru_val2 hl' (R.pick hp), C _ hp]
  rw [Bool.eq_iff_iff, List.any_eq_true, List.any_eq_true]
  constructor
  · rintro ⟨l, m, e⟩
    exact ⟨l, m, by rw [← key l m]; exact e⟩
  · rintro ⟨l, m, e⟩
    refine ⟨l, m, ?_⟩
    have z := key l m
    rw [e] at z
    exact z
end
end S1

set_option Elab.async false
set_option linter.all false
set_option maxRecDepth 100000
set_option maxHeartbeats 4000000
/-! what is least, carried over -/
namespace S1
open PySem PySem.W PySem.Spec PyProof.Rows L2
section
variable {ρ : Str → Str} {s s' : Say}
theorem dead_perm {s : Say} {bs : List Bool} {a b : List Ltr} (p : a.Perm b) : dead s bs a = dead s bs b := by
  unfold dead
  rw [Bool.eq_iff_iff, List.any_eq_true, List.any_eq_true]
  exact ⟨fun ⟨l, m, e⟩ => ⟨l, p.mem_iff.mp m, e⟩, fun ⟨l, m, e⟩ => ⟨l, p.mem_iff.mpr m, e⟩⟩
theorem so_perm {r : Cpy → Bool} {a b : List Mk} (p : a.Perm b) : soM r a = true ↔ soM r b = true := by
  rw [so_iff, so_iff]
  exact ⟨fun ⟨l, m, e⟩ => ⟨l, p.mem_iff.mp m, e⟩, fun ⟨l, m, e⟩ => ⟨l, p.mem_iff.mpr m, e⟩⟩
theorem so_car {r' : Cpy → Bool} {ms : List Mk} : soM r' (ms.map (carM ρ s s')) = true ↔ soM (fun c => r' (carN ρ s s' c)) ms = true := by
  rw [so_iff, so_iff]
  constructor
  · rintro ⟨m', h, e⟩
    obtain ⟨m, hm, rfl⟩ := List.mem_map.mp h
    exact ⟨m, hm, e⟩
  · rintro ⟨m, hm, e⟩
    exact ⟨_, List.mem_map_of_mem hm, e⟩
theorem meets_car (R : Ren ρ s s') (ok : SayOk 6 8 120 40 s) (ok' : SayOk 6 8 120 40 s') (r' : Cpy → Bool) : MeetsM r' (toldA s') ↔ MeetsM (fun c => r' (carN ρ s s' c)) (toldA s) := by
  constructor
  · intro M ms hms
    obtain ⟨bs, h1, cl, h2, h3, rfl⟩ := mem_toldM.mp hms
    have hl := plays_bits _ _ h1
    obtain ⟨bs', h1', C⟩ := R.play hl
    have hl' := plays_bits _ _ h1'
    obtain ⟨cl', h2', pm⟩ := R.cl cl h2
    have hd : dead s' bs' cl' = false := by rw [dead_perm pm, car_dead R ok ok' hl hl' C (ok.ck cl h2).mem]; exact h3
    have z := M _ (mem_toldM.mpr ⟨bs', h1', cl', h2', hd, rfl⟩)
    have p2 : (marks s' bs' cl').Perm (marks s' bs' (renL ρ cl)) := pm.filterMap _
    rw [so_perm p2, car_marks R ok ok' hl hl' C cl (ok.ck cl h2).mem, so_car] at z
    exact z
  · intro M ms hms
    obtain ⟨bs', h1', cl', h2', h3, rfl⟩ := mem_toldM.mp hms
    have hl' := plays_bits _ _ h1'
    obtain ⟨bs, hl, C⟩ := R.yalp bs'
    obtain ⟨cl, h2, pm⟩ := R.lc cl' h2'
    have p2 : (marks s' bs' cl').Perm (marks s' bs' (renL ρ cl)) := pm.filterMap _
    rw [so_perm p2, car_marks R ok ok' hl hl' C cl (ok.ck cl h2).mem, so_car]
    refine M _ (mem_toldM.mpr ⟨bs, mem_plays _ _ hl, cl, h2, ?_, rfl⟩)
    rw [← car_dead R ok ok' hl hl' C (ok.ck cl h2).mem, ← dead_perm pm]
    exact h3
theorem find_get {si : List Str} (nd : si.Nodup) {ts : List Bool} {i : Nat} {y : Str} {b : Bool} (h1 : si[i]? = some y) (h2 : ts[i]? = some b) : (((si.zip ts).find? fun p => decide (p.1 = y)).map Prod.snd).getD false = b := by
  rw [find_zip nd (List.mem_of_getElem? (List.getElem?_zip_eq_some.mpr ⟨h1, h2⟩ : (si.zip ts)[i]? = some (y, b)))]
  rfl
theorem car_inj (R : Ren ρ s s') (ok : SayOk 6 8 120 40 s) (ok' : SayOk 6 8 120 40 s') {c d : Cpy} (hc : c ∈ copD s.owns) (hd : d ∈ copD s.owns) (e : carN ρ s s' c = carN ρ s s' d) : c = d := by
  obtain ⟨o, ho, e1, hs⟩ := mem_cop.mp hc
  obtain ⟨o2, ho2, e2, hs2⟩ := mem_cop.mp hd
  have en : c.1 = d.1 := R.inj _ (List.mem_append_right _ (e1 ▸ List.mem_map_of_mem ho)) _ (List.mem_append_right _ (e2 ▸ List.mem_map_of_mem ho2)) (congrArg Prod.fst e)
  have eo : o2 = o := by
    have h1 := own_find (own_nd ok) ho
    have h2 := own_find (own_nd ok) ho2
    rw [← e2, ← en, e1, h1] at h2
    exact (Option.some.inj h2).symm
  subst eo
  obtain ⟨o', ho', f1, pm⟩ := R.ow o2 ho2
  have l1 := seen_bits _ _ hs
  have l2 := seen_bits _ _ hs2
  have ec : carN ρ s s' c = (ρ o2.1, carT ρ o2 o' c.2) := by
    have z := car_own ok ok' ho2 ho' f1 c.2
    rw [← e1] at z
    rw [← e1]
    exact z
  have ed : carN ρ s s' d = (ρ o2.1, carT ρ o2 o' d.2) := by
    have z := car_own ok ok' ho2 ho' f1 d.2
    rw [← e2] at z
    rw [← e2]
    exact z
  rw [ec, ed] at e
  have et : carT ρ o2 o' c.2 = carT ρ o2 o' d.2 := congrArg Prod.snd e
  have nd : (o2.2.map ρ).Nodup := pm.nodup_iff.mp (nodup_tlt (ok'.on o' ho').2.2.1)
  have e3 : c.2 = d.2 := by
    refine List.ext_getElem? fun i => ?_
    by_cases hi : i < o2.2.length
    · have hy : (o2.2.map ρ)[i]? = some (ρ o2.2[i]) := by rw [List.getElem?_map, List.getElem?_eq_getElem hi]; rfl
      have hb : c.2[i]? = some (c.2[i]'(by omega)) := List.getElem?_eq_getElem (by omega)
      have hb2 : d.2[i]? = some (d.2[i]'(by omega)) := List.getElem?_eq_getElem (by omega)
      have my : ρ o2.2[i] ∈ o'.2 := pm.mem_iff.mpr (List.mem_of_getElem? hy)
      have g1 := find_get nd hy hb
      have g2 := find_get nd hy hb2
      have g3 : ∀ y ∈ o'.2, ((((o2.2.map ρ).zip c.2).find? fun p => decide (p.1 = y)).map Prod.snd).getD false = ((((o2.2.map ρ).zip d.2).find? fun p => decide (p.1 = y)).map Prod.snd).getD false := List.map_inj_left.mp et
      rw [hb, hb2, ← g1, ← g2, g3 _ my]
    · rw [List.getElem?_eq_none_iff.mpr (by omega), List.getElem?_eq_none_iff.mpr (by omega)]
  exact Prod.ext en e3
theorem car_cop (R : Ren ρ s s') (ok : SayOk 6 8 120 40 s) (ok' : SayOk 6 8 120 40 s') {c : Cpy} (hc : c ∈ copD s.owns) : carN ρ s s' c ∈ copD s'.owns := by
  obtain ⟨o, ho, e1, hs⟩ := mem_cop.mp hc
  obtain ⟨o', ho', f1, pm⟩ := R.ow o ho
  have ec : carN ρ s s' c = (ρ o.1, carT ρ o o' c.2) := by
    have z := car_own ok ok' ho ho' f1 c.2
    rw [← e1] at z
    rw [← e1]
    exact z
  rw [ec]
  exact mem_cop.mpr ⟨o', ho', f1.symm, mem_seen _ _ (by unfold carT; rw [List.length_map])⟩
theorem car_onto (R : Ren ρ s s') (ok : SayOk 6 8 120 40 s) (ok' : SayOk 6 8 120 40 s') {c' : Cpy} (hc : c' ∈ copD s'.owns) : ∃ c ∈ copD s.owns, carN ρ s s' c = c' := by
  obtain ⟨o', ho', e1, hs⟩ := mem_cop.mp hc
  obtain ⟨o, ho, f1, pm⟩ := R.wo o' ho'
  have l1 := seen_bits _ _ hs
  have og' := ok'.on o' ho'
  have nd' := nodup_tlt og'.2.2.1
  refine ⟨(o.1, o.2.map fun x => (((o'.2.zip c'.2).find? fun p => decide (p.1 = ρ x)).map Prod.snd).getD false), mem_cop.mpr ⟨o, ho, rfl, mem_seen _ _ (by rw [List.length_map])⟩, ?_⟩
  rw [car_own ok ok' ho ho' f1]
  refine Prod.ext (by rw [e1, f1]) ?_
  show carT ρ o o' _ = c'.2
  unfold carT
  refine List.ext_getElem? fun i => ?_
  by_cases hi : i < o'.2.length
  · have hy : o'.2[i]? = some o'.2[i] := List.getElem?_eq_getElem hi
    have hb : c'.2[i]? = some (c'.2[i]'(by omega)) := List.getElem?_eq_getElem (by omega)
    generalize o'.2[i] = y at hy
    obtain ⟨x, hx, rfl⟩ := List.mem_map.mp (pm.mem_iff.mp (List.mem_of_getElem? hy))
    obtain ⟨j, hj⟩ := List.mem_iff_getElem?.mp hx
    rw [List.getElem?_map, hy]
    show some _ = c'.2[i]?
    have g1 := find_get nd' hy hb
    have g2 := find_get (ts := o.2.map fun x => (((o'.2.zip c'.2).find? fun p => decide (p.1 = ρ x)).map Prod.snd).getD false) (pm.nodup_iff.mp nd') (i := j) (y := ρ x) (b := c'.2[i]'(by omega)) (by rw [List.getElem?_map, hj]; rfl) (by rw [List.getElem?_map, hj]; exact congrArg some g1)
    rw [hb]
    exact congrArg some g2
  · rw [List.getElem?_eq_none_iff.mpr (by rw [List.length_map]; omega), List.getElem?_eq_none_iff.mpr (by omega)]
/-- truths of copies, there -/
def carR (ρ : Str → Str) (s s' : Say) (r : Cpy → Bool) (c' : Cpy) : Bool := match (copD s.owns).find? (fun c => decide (carN ρ s s' c = c')) with | some c => r c | none => false
theorem carR_at (R : Ren ρ s s') (ok : SayOk 6 8 120 40 s) (ok' : SayOk 6 8 120 40 s') (r : Cpy → Bool) {c : Cpy} (hc : c ∈ copD s.owns) : carR ρ s s' r (carN ρ s s' c) = r c := by
  unfold carR
  cases h : (copD s.owns).find? (fun d => decide (carN ρ s s' d = carN ρ s s' c)) with
  | none => exact absurd (List.find?_eq_none.mp h c hc) (by simp)
  | some d =>
    have e : carN ρ s s' d = carN ρ s s' c := by simpa using List.find?_some h
    rw [car_inj R ok ok' (List.mem_of_find?_eq_some h) hc e]
theorem lt_car (R : Ren ρ s s') (ok : SayOk 6 8 120 40 s) (ok' : SayOk 6 8 120 40 s') {d : PyData} (l : LTS s d) : (d = .none ∧ LTS s' .none) ∨ ∃ L, MeetsM L (toldA s) ∧ (∀ r, MeetsM r (toldA s) → ∀ c ∈ copD s.owns, L c = true → r c = true) ∧ d = ansT (tabs s.owns ((copD s.owns).map L)) ∧ LTS s' (ansT (tabs s'.owns ((copD s'.owns).map (carR ρ s s' L)))) := by
  have hS := marks_ok ok (S := toldA s) fun _ => Iff.rfl
  rcases l with ⟨rfl, n⟩ | ⟨L, M, low, rfl⟩
  · exact .inl ⟨rfl, .inl ⟨rfl, fun r' m => n _ ((meets_car R ok ok' r').mp m)⟩⟩
  · refine .inr ⟨L, M, low, rfl, .inr ⟨carR ρ s s' L, (meets_car R ok ok' _).mpr ((meets_agree hS fun c hc => carR_at R ok ok' L hc).mpr M), fun r' m c' hc' h => ?_, rfl⟩⟩
    obtain ⟨c, hc, rfl⟩ := car_onto R ok ok' hc'
    rw [carR_at R ok ok' L hc] at h
    exact low _ ((meets_car R ok ok' r').mp m) c hc h
end
end S1

set_option Elab.async false
set_option linter.all false
set_option maxRecDepth 100000
set_option maxHeartbeats 4000000
/-! a text times a small number -/
namespace L2
open PySem PySem.W PySem.Spec PyProof.Rows
def repS (x : Str) (n : Int) : Str := if n < 1 then Str.empty else if (n == 1 || x.length == 0) = true then x else ⟨(List.replicate n.toNat x.cps).foldl (· ++ ·) #[]⟩
theorem rep_size (a : Array Nat) : ∀ (k : Nat) (acc : Array Nat), ((List.replicate k a).foldl (· ++ ·) acc).size = acc.size + k * a.size
  | 0, acc => by simp
  | k + 1, acc => by
    rw [List.replicate_succ, List.foldl_cons, rep_size a k, Array.size_append, Nat.succ_mul]
    omega
def rMulS : R2 := fun x y H Q => ∃ i n, x = .str i ∧ y = .int n ∧ 0 ≤ n ∧ n ≤ 1000 ∧ i.length ≤ 1000 ∧ Q (.str (repS i n)) H
section
variable {X : Cx}
theorem op_mulS : OpR X (binaryOp .Mult) rMulS := by
  intro pins s σ H x y v u Q I rx ry h
  obtain ⟨i, n, rfl, rfl, h0, h1, hl, q⟩ := h
  obtain ⟨t, rfl⟩ := rx
  obtain ⟨t2, rfl⟩ := ry
  have len : i.length * n.toNat ≤ 1000 * 1000 := Nat.mul_le_mul hl (by omega)
  refine P.mul_str ?_ ?_ ?_ ?_
  · have e1 : decide (n < -2 ^ 63) = false := decide_eq_false (by omega)
    have e2 : decide (n ≥ 2 ^ 63) = false := decide_eq_false (by omega)
    rw [e1, e2]
    rfl
  · intro hn _ hgt
    have : (2 ^ 63 - 1) / n ≥ (2 ^ 63 - 1) / 1000 := by
      have hn' : 0 < n := by omega
      exact Int.le_ediv_of_mul_le hn' (by
        have : ((2 : Int) ^ 63 - 1) / 1000 * n ≤ (2 ^ 63 - 1) / 1000 * 1000 := Int.mul_le_mul_of_nonneg_left h1 (by decide)
        exact Int.le_trans this (by decide))
    have e : ((2 : Int) ^ 63 - 1) / 1000 = 9223372036854775 := by decide
    omega
  · intro _ _
    refine decide_eq_false ?_
    have : sizeLine = 16777216 := sizeLine_eq
    omega
  · unfold repS at q
    by_cases h2 : n < 1
    · rw [if_pos h2] at q ⊢
      exact ⟨(by decide), .str Str.empty, H, I.tok _, ⟨_, rfl⟩, q⟩
    · rw [if_neg h2] at q ⊢
      by_cases h3 : (n == 1 || i.length == 0) = true
      · rw [if_pos h3] at q ⊢
        exact ⟨.str i, H, I, ⟨_, rfl⟩, q⟩
      · rw [if_neg h3] at q ⊢
        refine ⟨?_, .str _, H, I.tok _, ⟨_, rfl⟩, q⟩
        show ((List.replicate n.toNat i.cps).foldl (· ++ ·) #[]).size ≤ sizeLine
        rw [rep_size]
        have : sizeLine = 16777216 := sizeLine_eq
        have e : n.toNat * i.cps.size = i.length * n.toNat := Nat.mul_comm _ _
        show 0 + n.toNat * i.cps.size ≤ sizeLine
        omega
end
end L2

set_option Elab.async false
set_option linter.all false
set_option maxRecDepth 100000
set_option maxHeartbeats 4000000
/-! new names; a saying renamed, pure -/
namespace S1
open PySem PySem.W PySem.Spec PyProof.Rows L2
def abc14 : Str := "abcdefghijklmn"
abbrev wdN (c : Nat) (r : Int) : Str := ("n" ++ (⟨#[c]⟩ : Str)) ++ repS "w" r
theorem wdN_ok : ∀ c ∈ abc14.cps.toList, ∀ r : Int, 0 ≤ r → r < 3 → Nm (wdN c r) ∧ (wdN c r).cps[1]? = some c := fun c hc r h0 h1 => by
  have z : (abc14.cps.toList.all fun c => [(0 : Int), 1, 2].all fun r => nmB (wdN c r) && decide ((wdN c r).cps[1]? = some c)) = true := by decide +kernel
  have hr : r ∈ [(0 : Int), 1, 2] := by
    have : r = 0 ∨ r = 1 ∨ r = 2 := by omega
    rcases this with h | h | h <;> subst h <;> simp
  have y := List.all_eq_true.mp (List.all_eq_true.mp z c hc) r hr
  rw [Bool.and_eq_true] at y
  exact ⟨nm_of y.1, of_decide_eq_true y.2⟩
theorem abc14_nd : abc14.cps.toList.Nodup := by decide +kernel
theorem abc14_len : abc14.cps.size = 14 := by decide +kernel
/-- new names: of each sign one -/
structure NwS (i : Nat) (W : List Str) : Prop where
  e : W.map (fun x => x.cps[1]?) = (abc14.cps.toList.take i).map some
  nm : ∀ x ∈ W, Nm x
theorem NwS.nil : NwS 0 [] := ⟨rfl, fun x h => absurd h (by simp)⟩
theorem NwS.snoc {i : Nat} {W : List Str} {c : Nat} {r : Int} (h : NwS i W) (hc : abc14.cps[i]? = some c) (h0 : 0 ≤ r) (h1 : r < 3) : NwS (i + 1) (W ++ [wdN c r]) := by
  have hc' : abc14.cps.toList[i]? = some c := by rw [Array.getElem?_toList]; exact hc
  obtain ⟨a, b⟩ := wdN_ok c (List.mem_of_getElem? hc') r h0 h1
  refine ⟨by rw [List.map_append, h.e, take_next hc', List.map_append, List.map_singleton, List.map_singleton, b], fun x hx => ?_⟩
  rcases List.mem_append.mp hx with m | m
  · exact h.nm x m
  · rw [List.mem_singleton.mp m]
    exact a
theorem NwS.all {W : List Str} (h : NwS 14 W) : W.Nodup ∧ W.length = 14 := by
  have e := h.e
  rw [List.take_of_length_le (by rw [Array.length_toList, abc14_len]; exact Nat.le_refl _)] at e
  refine ⟨?_, ?_⟩
  · refine nodup_of_map (f := fun x : Str => x.cps[1]?) ?_
    rw [e]
    exact List.pairwise_map.mpr (abc14_nd.imp fun {a b} ne z => ne (Option.some.inj z))
  · have l := congrArg List.length e
    rw [List.length_map, List.length_map] at l
    exact l.trans abc14_len
/-- the new name of an old one -/
def rhoOf (ns R : List Str) (x : Str) : Str := (((ns.zip R).find? fun p => decide (p.1 = x)).map Prod.snd).getD x
def renK (ns R : List Str) : List (Key × V) := (ns.map Sum.inr).zip (R.map V.str)
theorem ren_cons (n r : Str) (ns R : List Str) : renK (n :: ns) (r :: R) = (.inr n, .str r) :: renK ns R := rfl
theorem ren_val : ∀ {ns R : List Str} {x : Str}, ns.length = R.length → x ∈ ns → valV (renK ns R) (.inr x) = some (.str (rhoOf ns R x))
  | [], _, _, _, h => absurd h (by simp)
  | n :: ns, [], _, l, _ => by simp at l
  | n :: ns, r :: R, x, l, h => by
    rw [ren_cons]
    by_cases e : n = x
    · subst e
      rw [valV_pos rfl]
      unfold rhoOf
      rw [List.zip_cons_cons, List.find?_cons_of_pos (by simp)]
      rfl
    · rw [valV_neg (fun z => e (Sum.inr.inj z)), ren_val (by simpa using l) ((List.mem_cons.mp h).elim (fun z => absurd z.symm e) id)]
      unfold rhoOf
      rw [List.zip_cons_cons, List.find?_cons_of_neg (by simpa using e)]
theorem ren_none {ns R : List Str} {x : Str} (h : x ∉ ns) : valV (renK ns R) (.inr x) = none := valV_none fun q hq z => by
  have m : q.1 ∈ ns.map Sum.inr := (List.of_mem_zip (show (q.1, q.2) ∈ (ns.map Sum.inr).zip (R.map V.str) from hq)).1
  obtain ⟨y, hy, e⟩ := List.mem_map.mp m
  rw [← e] at z
  exact h (Sum.inr.inj z ▸ hy)
theorem ren_snoc {ns R : List Str} {x y : Str} (l : ns.length = R.length) : renK ns R ++ [(.inr x, .str y)] = renK (ns ++ [x]) (R ++ [y]) := by
  unfold renK
  rw [List.map_append, List.map_append, List.zip_append (by rw [List.length_map, List.length_map, l])]
  rfl
theorem ren_len (ns R : List Str) (l : ns.length = R.length) : (renK ns R).length = ns.length := by
  unfold renK
  rw [List.length_zip, List.length_map, List.length_map, l, Nat.min_self]
theorem rho_at : ∀ {ns R : List Str} {i : Nat} {x y : Str}, ns.Nodup → ns[i]? = some x → R[i]? = some y → rhoOf ns R x = y
  | [], _, i, _, _, _, h, _ => by simp at h
  | _ :: _, [], i, _, _, _, _, h => by simp at h
  | n :: ns, r :: R, 0, x, y, _, h1, h2 => by
    cases h1
    cases h2
    unfold rhoOf
    rw [List.zip_cons_cons, List.find?_cons_of_pos (by simp)]
    rfl
  | n :: ns, r :: R, i + 1, x, y, nd, h1, h2 => by
    have nd' := List.nodup_cons.mp nd
    have h1' : ns[i]? = some x := h1
    have ne : n ≠ x := fun e => nd'.1 (e ▸ List.mem_of_getElem? h1')
    have z := rho_at nd'.2 h1' (show R[i]? = some y from h2)
    unfold rhoOf at z ⊢
    rw [List.zip_cons_cons, List.find?_cons_of_neg (by simpa using ne)]
    exact z
theorem rho_mem {ns R : List Str} {x : Str} (nd : ns.Nodup) (l : ns.length = R.length) (hx : x ∈ ns) : rhoOf ns R x ∈ R := by
  obtain ⟨i, hi⟩ := List.mem_iff_getElem?.mp hx
  have il := (List.getElem?_eq_some_iff.mp hi).1
  have hy : R[i]? = some (R[i]'(by omega)) := List.getElem?_eq_getElem (by omega)
  rw [rho_at nd hi hy]
  exact List.mem_of_getElem? hy
theorem rho_inj {ns R : List Str} {x y : Str} (nd : ns.Nodup) (ndR : R.Nodup) (l : ns.length = R.length) (hx : x ∈ ns) (hy : y ∈ ns) (e : rhoOf ns R x = rhoOf ns R y) : x = y := by
  obtain ⟨i, hi⟩ := List.mem_iff_getElem?.mp hx
  obtain ⟨j, hj⟩ := List.mem_iff_getElem?.mp hy
  have il := (List.getElem?_eq_some_iff.mp hi).1
  have jl := (List.getElem?_eq_some_iff.mp hj).1
  have h1 : R[i]? = some (R[i]'(by omega)) := List.getElem?_eq_getElem (by omega)
  have h2 : R[j]? = some (R[j]'(by omega)) := List.getElem?_eq_getElem (by omega)
  rw [rho_at nd hi h1, rho_at nd hj h2] at e
  have ij := (List.getElem_inj ndR).mp e
  subst ij
  rw [hi] at hj
  exact Option.some.inj hj
/-- renaming that is one to one on the names of s, to names -/
structure RhoOk (s : Say) (ρ : Str → Str) : Prop where
  inj : ∀ x ∈ s.names, ∀ y ∈ s.names, ρ x = ρ y → x = y
  nm : ∀ x ∈ s.names, Nm (ρ x)
theorem nodup_on {α β : Type} {f : α → β} : ∀ {l : List α}, (∀ x ∈ l, ∀ y ∈ l, f x = f y → x = y) → l.Nodup → (l.map f).Nodup
  | [], _, _ => List.Pairwise.nil
  | x :: l, h, nd => by
    have nd' := List.nodup_cons.mp nd
    rw [List.map_cons]
    refine List.nodup_cons.mpr ⟨fun m => ?_, nodup_on (fun a ha b hb => h a (List.mem_cons_of_mem _ ha) b (List.mem_cons_of_mem _ hb)) nd'.2⟩
    obtain ⟨y, hy, e⟩ := List.mem_map.mp m
    rw [h y (List.mem_cons_of_mem _ hy) x List.mem_cons_self e] at hy
    exact nd'.1 hy
/-- an own renamed -/
def RenO (ρ : Str → Str) (o o' : Own) : Prop := o'.1 = ρ o.1 ∧ o'.2.Perm (o.2.map ρ) ∧ o'.2.Pairwise tlt
def RenC (ρ : Str → Str) (cl cl' : List Ltr) : Prop := cl'.Perm (renL ρ cl) ∧ cl'.Pairwise fun a b => tlt a.1 b.1
theorem copies_renO {ρ : Str → Str} : ∀ {os os' : List Own}, os'.length = os.length → (∀ (i : Nat) (o o' : Own), os[i]? = some o → os'[i]? = some o' → RenO ρ o o') → copies os' = copies os
  | [], [], _, _ => rfl
  | [], _ :: _, l, _ => by simp at l
  | _ :: _, [], l, _ => by simp at l
  | o :: os, o' :: os', l, h => by
    have z := h 0 o o' rfl rfl
    have ih := copies_renO (os := os) (os' := os') (by simpa using l) fun i a b h1 h2 => h (i + 1) a b h1 h2
    have e : o'.2.length = o.2.length := by rw [z.2.1.length_eq, List.length_map]
    unfold copies at ih ⊢
    rw [List.map_cons, List.map_cons, List.sum_cons, List.sum_cons, ih, e]
theorem at_both {α β : Type} {l : List α} {m : List β} (e : m.length = l.length) {x : α} (h : x ∈ l) : ∃ (i : Nat) (y : β), l[i]? = some x ∧ m[i]? = some y := by
  obtain ⟨i, hi⟩ := List.mem_iff_getElem?.mp h
  have il := (List.getElem?_eq_some_iff.mp hi).1
  exact ⟨i, m[i]'(by omega), hi, List.getElem?_eq_getElem (by omega)⟩
/-- what the def makes is the saying renamed -/
theorem ren_of {s : Say} {ρ : Str → Str} (ok : SayOk 6 8 120 40 s) (rh : RhoOk s ρ) {ps : List Str} {os os' : List Own} {cs cs' : List (List Ltr)} (p1 : ps.Perm (s.picks.map ρ)) (p2 : ps.Pairwise tlt)
    (o1 : os.length = s.owns.length) (o2 : ∀ (i : Nat) (o o' : Own), s.owns[i]? = some o → os[i]? = some o' → RenO ρ o o') (o3 : os'.Perm os) (o4 : os'.Pairwise fun x y => tlt x.1 y.1)
    (c1 : cs.length = s.cls.length) (c2 : ∀ (i : Nat) (c c' : List Ltr), s.cls[i]? = some c → cs[i]? = some c' → RenC ρ c c') (c3 : cs'.Perm cs) (c4 : cs'.Pairwise fun x y => dataLt (clD x) (clD y) = true) :
    Ren ρ s ⟨ps, os', cs'⟩ ∧ SayOk 6 8 120 40 ⟨ps, os', cs'⟩ := by
  have R : Ren ρ s ⟨ps, os', cs'⟩ := ⟨rh.inj, p1, fun o ho => by
    obtain ⟨i, o', h1, h2⟩ := at_both o1 ho
    have z := o2 i o o' h1 h2
    exact ⟨o', o3.mem_iff.mpr (List.mem_of_getElem? h2), z.1, z.2.1⟩, fun o' ho' => by
    obtain ⟨i, o, h2, h1⟩ := at_both (m := s.owns) o1.symm (o3.mem_iff.mp ho')
    have z := o2 i o o' h1 h2
    exact ⟨o, List.mem_of_getElem? h1, z.1, z.2.1⟩, fun c hc => by
    obtain ⟨i, c', h1, h2⟩ := at_both c1 hc
    exact ⟨c', c3.mem_iff.mpr (List.mem_of_getElem? h2), (c2 i c c' h1 h2).1⟩, fun c' hc' => by
    obtain ⟨i, c, h2, h1⟩ := at_both (m := s.cls) c1.symm (c3.mem_iff.mp hc')
    exact ⟨c, List.mem_of_getElem? h1, (c2 i c c' h1 h2).1⟩⟩
  have inP : ∀ x ∈ s.picks, x ∈ s.names := fun x h => List.mem_append_left _ h
  have inO : ∀ o ∈ s.owns, o.1 ∈ s.names := fun o h => List.mem_append_right _ (List.mem_map_of_mem h)
  have hpick : ∀ {x : Str}, x ∈ s.picks → ρ x ∈ ps := fun h => p1.mem_iff.mpr (List.mem_map_of_mem h)
  refine ⟨R, ⟨p2, fun y hy => ?_, ?_, o4, fun o' ho' => ?_, ?_, ?_, c4, fun c' hc' => ?_, ?_⟩⟩
  · obtain ⟨x, hx, rfl⟩ := List.mem_map.mp (p1.mem_iff.mp hy)
    exact rh.nm x (inP x hx)
  · show ps.length ≤ 6
    rw [p1.length_eq, List.length_map]
    exact ok.pl
  · obtain ⟨i, o, h2, h1⟩ := at_both (m := s.owns) o1.symm (o3.mem_iff.mp ho')
    have z := o2 i o o' h1 h2
    have ho := List.mem_of_getElem? h1
    have og := ok.on o ho
    refine ⟨by rw [z.1]; exact rh.nm _ (inO o ho), fun m => ?_, z.2.2, fun y hy => ?_⟩
    · obtain ⟨x, hx, e⟩ := List.mem_map.mp (p1.mem_iff.mp m)
      rw [z.1] at e
      exact og.2.1 (rh.inj x (inP x hx) o.1 (inO o ho) e ▸ hx)
    · obtain ⟨x, hx, rfl⟩ := List.mem_map.mp (z.2.1.mem_iff.mp hy)
      exact hpick (og.2.2.2 x hx)
  · show os'.length ≤ 8
    rw [o3.length_eq, o1]
    exact ok.ol
  · show copies os' ≤ 120
    rw [copies_perm o3, copies_renO o1 o2]
    exact ok.oc
  · obtain ⟨i, c, h2, h1⟩ := at_both (m := s.cls) c1.symm (c3.mem_iff.mp hc')
    have z := c2 i c c' h1 h2
    have ck := ok.ck c (List.mem_of_getElem? h1)
    refine ⟨z.2, fun l hl => ?_⟩
    obtain ⟨l0, hl0, rfl⟩ := List.mem_map.mp (z.1.mem_iff.mp hl)
    show ρ l0.1 ∈ _
    rcases List.mem_append.mp (ck.mem l0 hl0) with m | m
    · exact List.mem_append_left _ (hpick m)
    · obtain ⟨o, ho, e⟩ := List.mem_map.mp m
      obtain ⟨o', ho', e1, _⟩ := R.ow o ho
      rw [← e, ← e1]
      exact List.mem_append_right _ (List.mem_map_of_mem ho')
  · show cs'.length ≤ 40
    rw [c3.length_eq, c1]
    exact ok.cl
/-- unlike clauses stay unlike -/
theorem renC_nodup {s : Say} {ρ : Str → Str} (ok : SayOk 6 8 120 40 s) (rh : RhoOk s ρ) {cs : List (List Ltr)} (c1 : cs.length = s.cls.length) (c2 : ∀ (i : Nat) (c c' : List Ltr), s.cls[i]? = some c → cs[i]? = some c' → RenC ρ c c') : cs.Nodup := by
  refine List.pairwise_iff_getElem.mpr fun i j hi hj ij e => ?_
  have i1 : s.cls[i]? = some (s.cls[i]'(by omega)) := List.getElem?_eq_getElem (by omega)
  have j1 : s.cls[j]? = some (s.cls[j]'(by omega)) := List.getElem?_eq_getElem (by omega)
  have zi := (c2 i _ _ i1 (List.getElem?_eq_getElem hi)).1
  have zj := (c2 j _ _ j1 (List.getElem?_eq_getElem hj)).1
  rw [e] at zi
  have lt := List.pairwise_iff_getElem.mp ok.cu i j (by omega) (by omega) ij
  generalize s.cls[i] = a at *
  generalize s.cls[j] = b at *
  have ca := ok.ck a (List.mem_of_getElem? i1)
  have cb := ok.ck b (List.mem_of_getElem? j1)
  have pm := zi.symm.trans zj
  have sub : ∀ {a b : List Ltr}, ClOk s.names a → ClOk s.names b → (renL ρ a).Perm (renL ρ b) → ∀ l ∈ a, l ∈ b := fun {a b} ca cb pm l hl => by
    obtain ⟨m, hm, e⟩ := List.mem_map.mp (pm.mem_iff.mp (List.mem_map_of_mem (f := fun l : Ltr => (ρ l.1, l.2)) hl))
    injection e with e1 e2
    have := rh.inj _ (cb.mem m hm) _ (ca.mem l hl) e1
    rw [show l = m from Prod.ext this.symm e2.symm]
    exact hm
  have nda : a.Nodup := ca.up.imp fun {x y} h e => by rw [e] at h; exact tlt_irrefl _ h
  have ndb : b.Nodup := cb.up.imp fun {x y} h e => by rw [e] at h; exact tlt_irrefl _ h
  have pab : a.Perm b := (List.perm_ext_iff_of_nodup nda ndb).mpr fun l => ⟨sub ca cb pm l, sub cb ca pm.symm l⟩
  have eab : a = b := pab.eq_of_pairwise (le := fun x y : Ltr => tlt x.1 y.1) (fun x y _ _ h1 h2 => (tlt_asym h1 h2).elim) ca.up cb.up
  rw [eab, dataLt_irrefl] at lt
  cases lt
/-- a plain saying stays one -/
theorem ren_plain {s s' : Say} {ρ : Str → Str} (R : Ren ρ s s') (ok : SayOk 6 8 120 40 s) (ok' : SayOk 6 8 120 40 s') (pl : (s.cls.map (plainC s)).all id = true) : (s'.cls.map (plainC s')).all id = true := by
  rw [List.all_map, List.all_eq_true] at pl ⊢
  intro cl' hcl'
  obtain ⟨cl, hcl, pm⟩ := R.lc cl' hcl'
  have z := of_decide_eq_true (show decide _ = true from pl cl hcl)
  refine decide_eq_true ?_
  have ck := ok.ck cl hcl
  have key : ∀ l ∈ cl, (decide (ρ l.1 ∈ s'.owns.map Prod.fst)) = decide (l.1 ∈ s.owns.map Prod.fst) := fun l hl => by
    by_cases m : l.1 ∈ s.owns.map Prod.fst
    · obtain ⟨o, ho, e⟩ := List.mem_map.mp m
      obtain ⟨o', ho', e1, _⟩ := R.ow o ho
      rw [decide_eq_true m]
      exact decide_eq_true (by rw [← e, ← e1]; exact List.mem_map_of_mem ho')
    · have hp : l.1 ∈ s.picks := (List.mem_append.mp (ck.mem l hl)).elim id fun z => absurd z m
      rw [decide_eq_false m]
      exact decide_eq_false (pick_no ok' (R.pick hp))
  have e : ((renL ρ cl).filter fun l => decide (l.1 ∈ s'.owns.map Prod.fst)).filter (fun l => l.2) = renL ρ ((cl.filter fun l => decide (l.1 ∈ s.owns.map Prod.fst)).filter fun l => l.2) := by
    unfold renL
    rw [List.filter_map, List.filter_map]
    congr 1
    show (cl.filter ((fun l : Ltr => decide (l.1 ∈ s'.owns.map Prod.fst)) ∘ fun l => (ρ l.1, l.2))).filter ((fun l : Ltr => l.2) ∘ fun l => (ρ l.1, l.2)) = _
    have e2 : cl.filter ((fun l : Ltr => decide (l.1 ∈ s'.owns.map Prod.fst)) ∘ fun l => (ρ l.1, l.2)) = cl.filter fun l => decide (l.1 ∈ s.owns.map Prod.fst) := List.filter_congr fun l hl => key l hl
    rw [e2]
    rfl
  have l := (((pm.filter fun l => decide (l.1 ∈ s'.owns.map Prod.fst)).filter fun l => l.2)).length_eq
  rw [e] at l
  show ((((cl'.filter fun l => decide (l.1 ∈ s'.owns.map Prod.fst)).filter fun l => l.2).length : Nat) : Int) ≤ 1
  rw [l, List.length_map]
  exact z
end S1

set_option Elab.async false
set_option linter.all false
set_option maxRecDepth 100000
set_option maxHeartbeats 4000000
/-! _law_renamed -/
namespace S1
open PySem PySem.W PySem.Spec PyProof.Rows L2
def spRenamed : Sp := fun vs H Q _ => ∃ (p : Addr) (c : Nat) (v : V) (s : Say), vs = [.ref p, v] ∧ Src H p c ∧ c ≤ 60000 ∧ DatS H v s ∧ SayOk 6 8 120 40 s ∧
  ∀ (t D : Addr) (u : V) (s' : Say) (ρ : Str → Str) (kvs : List (Key × V)) (H' : Hp), Dr H p (c + 100) H' → H' t = some (.tup [u, .ref D]) → DatS H' u s' → SayOk 6 8 120 40 s' → Ren ρ s s' → H' D = some (.dK kvs) → (∀ x ∈ s.names, valV kvs (.inr x) = some (.str (ρ x))) → Q (.ref t) H'
abbrev nRn : List Str := ["tank", "saying", "names", "known", "name", "picks", "owns", "clauses", "sign", "sight", "pick", "truth", "clause"]
def asgE : Stmt → Expr
  | .Assign _ e _ => e
  | _ => .Constant .none 0 ⟨0, 0, 0, 0⟩
def arg1 : Expr → Expr
  | .Call _ [e] _ _ => e
  | _ => .Constant .none 0 ⟨0, 0, 0, 0⟩
theorem DatS.dr {H G : Hp} {p : Addr} {c c0 : Nat} {v : V} {s : Say} (h : DatS H v s) (d : Dr H p c G) (hs : Src H p c0) : DatS G v s := by
  obtain ⟨a, pk, ow, cv, rfl, ea, Dp, ⟨b, us, rfl, eb, Db⟩, Dc⟩ := say_row h
  obtain ⟨ys, ey⟩ := hs.lst
  have k2 : keyable (.tuple (s.owns.map ownD)) = true := by
    show keyables (s.owns.map ownD) = true
    exact keyables_map ownD keyable_own s.owns
  have k3 : keyable (.tuple (s.cls.map clD)) = true := by
    show keyables (s.cls.map clD) = true
    exact keyables_map clD keyable_cl s.cls
  have Do : Dat G (.ref b) (.tuple (s.owns.map ownD)) := d.dat hs k2 (.tup eb Db)
  obtain ⟨b', us', e', eb', Db'⟩ := dat_tup Do
  exact ⟨a, pk, .ref b, cv, rfl, d.keep ea (fun z => by rw [z, ey] at ea; cases ea), d.dat hs (keyable_nms s.picks) Dp, ⟨b', us', e', eb', Db'⟩, d.dat hs k3 Dc⟩
theorem say_nd {a b c d : Nat} {s : Say} (ok : SayOk a b c d s) : s.names.Nodup := by
  refine List.nodup_append.mpr ⟨nodup_tlt ok.pu, own_nd ok, fun x hx y hy e => ?_⟩
  obtain ⟨o, ho, rfl⟩ := List.mem_map.mp hy
  exact (ok.on o ho).2.1 (e ▸ hx)
theorem clD_inj' {x y : List Ltr} (h : clD x = clD y) : x = y := by
  unfold clD at h
  injection h with h
  refine map_inj (fun a b e => ?_) h
  unfold ltD at e
  injection e with e
  injection e with e1 e2
  injection e1 with e1
  injection e2 with e2
  injection e2 with e2
  exact Prod.ext e1 e2
theorem wd_len {c : Nat} (hc : c ∈ abc14.cps.toList) {r : Int} (h0 : 0 ≤ r) (h1 : r < 3) : ("n" ++ (⟨#[c]⟩ : Str)).length + (repS "w" r).length ≤ sizeLine := by
  have z := (wdN_ok c hc r h0 h1).1.hi
  have e : (wdN c r).length = ("n" ++ (⟨#[c]⟩ : Str)).length + (repS "w" r).length := by
    show (("n" ++ (⟨#[c]⟩ : Str)).cps ++ (repS "w" r).cps).size = _
    rw [Array.size_append]
    rfl
  rw [← e]
  exact Nat.le_trans z (by decide)
section
variable {P : Program} {w : World} {K : PySem.W.Frag} {mg : Str → Option Value} {base : Heap}
theorem scRn : FnScope nRn ["tank", "saying"] (defScope sLRenamed) := ⟨rfl, rfl, rfl, by decide +kernel, rfl, by decide +kernel, by decide +kernel⟩
abbrev scInO : Scope := relabel (lcScope (arg1 (arg1 (asgE ((defBody sLRenamed).getD 3 (.Pass ⟨0, 0, 0, 0⟩)))))) (envD sLRenamed)
abbrev scInC : Scope := relabel (lcScope (arg1 (asgE ((defBody sLRenamed).getD 4 (.Pass ⟨0, 0, 0, 0⟩))))) (envD sLRenamed)
-- theorem dat_src0 {H : Hp} {v : V} {s : Say} (D : DatS H v s) {G : Hp} {p : Addr} {c c0 : Nat} (d : Dr H p c G) (hs : Src H p c0) : DatS G v s := D.dr d hs
theorem ok_renamed {f fP : Addr} {fd fdP : FuncData} (F : Fun K "_law_renamed" "_law_renamed" sLRenamed f fd) (B : Blt mg) (Pk : Has K mg "_law_drop" sDrop ["tank", "many"] fP fdP) : FnOk P w K mg base CX0 2 f fd ["tank", "saying"] spRenamed := by
  have GP : FnOk P w K mg base CX0 1 fP fdP ["tank", "many"] spPick := ok_pick Pk.F B
  refine F.ok scRn (fun vs H Q E h => ?_) (fun cdv A outer s H vs Q E hr h => ?_)
  · obtain ⟨p, c, v, sy, rfl, _⟩ := h
    rfl
  · obtain ⟨p, c, v, sy, rfl, hs, hc, DS, ok, q⟩ := h
    have hu : (A.deeper (envOfC "_law_renamed" (defScope sLRenamed) s.heap.objs.size f cdv)).units + 64 < cLine := hr.units
    have hu1 : (A.deeper (envOfC "_law_renamed" (defScope sLRenamed) s.heap.objs.size f cdv)).units + 1 < cLine := by omega
    refine ⟨_, pss_cons (ps_asg (pe_tup (pa_cons (pe_lc (own := [("sign", 8)]) (g := gName 8) (tt := tYes) (te := tOp (fun x y H Q => ∃ i j, x = .str i ∧ y = .str j ∧ i.length + j.length ≤ sizeLine ∧ Q (.str (i ++ j)) H) (tOp (fun x y H Q => ∃ i j, x = .str i ∧ y = .str j ∧ i.length + j.length ≤ sizeLine ∧ Q (.str (i ++ j)) H) (tC (V.str "n")) (tVar 8)) (tOp rMulS (tC (V.str "w")) (tCall spPick [] E0 (tCons (tVar 0) (tCons (tC (V.int 3)) tNil))))) rfl scRn.nd (pi_str pe_str)
          (blkOk_by (N := nRn) (sc := defScope sLRenamed) (by decide +kernel)) (fun _ _ _ _ _ => pg_name (i := 8) scRn.nd rfl (Or.inl rfl)) (fun _ _ _ _ _ => pts_nil)
          (fun _ _ _ _ _ => by exact pe_op op_add_str (pe_op op_add_str pe_str (pv 8)) (pe_op op_mulS pe_str (pe_call GP (by exact hr) (by rfl) Pk.g Pk.F.kp Pk.b .nil pass0 (pa_cons (pv 0) (pa_cons pe_int pa_nil)))))) (pa_cons pe_dnewK pa_nil)))
          (pg_tup rfl (pgs_cons (pg_name (i := 2) scRn.nd rfl (.inl rfl)) (pgs_cons (pg_name (i := 3) scRn.nd rfl (.inr rfl)) pgs_nil))))
      (pss_cons (ps_for PassesOwn.never rfl (pi_list (pe_op op_cat (pe_callTy call_list_of (by rfl) B.list (by decide +kernel) (pa_cons (pe_ix ix_tup (pv 1) pe_int (fun _ _ => rfl)) pa_nil))
          (pe_lc (own := [("name", 4), ("sight", 9)]) (g := gTup K 2 (gCons (gName 4) (gCons (gName 9) gNil))) (tt := tYes) (te := tVar 4) rfl scRn.nd (pi_tup (pe_ix ix_tup (pv 1) pe_int (fun _ _ => rfl))) (blkOk_by (N := nRn) (sc := defScope sLRenamed) (by decide +kernel))
            (fun _ _ _ _ _ => by exact pg_tup rfl (pgs_cons (pg_name (i := 4) scRn.nd rfl (.inl rfl)) (pgs_cons (pg_name (i := 9) scRn.nd rfl (.inl rfl)) pgs_nil))) (fun _ _ _ _ _ => pts_nil) (fun _ _ _ _ _ => by exact pv 4)))) (pg_name (i := 4) scRn.nd rfl (.inl rfl))
        (pss_one (ps_dput hu1 (pv 3) (pv 4) (pe_bm PySem.F.plainAttrs_list PySem.F.slot_list_pop PySem.F.type_list_pop mt_popAt (pv 2) (pa_cons (pe_call GP hr rfl Pk.g Pk.F.kp Pk.b .nil pass0 (pa_cons (pv 0) (pa_cons (pe_callB call_len_seq (by rfl) B.len (by decide +kernel) (pa_cons (pv 2) pa_nil)) pa_nil))) pa_nil)) rfl)))
      (pss_cons (ps_set (i := 5) scRn.nd rfl (.inl rfl) (pe_tupleOf rfl B.tuple (pe_callB (cr_sortW (by exact hu)) (by rfl) B.sorted (by decide +kernel) (pa_cons
          (pe_lc (own := [("pick", 10)]) (g := gName 10) (tt := tYes) (te := tDGet (tVar 3) (tVar 10)) rfl scRn.nd (pi_tup (pe_ix ix_tup (pv 1) pe_int (fun _ _ => rfl))) (blkOk_by (N := nRn) (sc := defScope sLRenamed) (by decide +kernel))
            (fun _ _ _ _ _ => pg_name (i := 10) scRn.nd rfl (Or.inl rfl)) (fun _ _ _ _ _ => pts_nil) (fun _ _ _ _ _ => by exact pe_dget (by exact hu1) (pv 3) (pv 10) (fun _ _ => rfl))) pa_nil))))
      (pss_cons (ps_set (i := 6) scRn.nd rfl (.inl rfl) (pe_tupleOf rfl B.tuple (pe_callB (cr_sortL (by exact hu)) (by rfl) B.sorted (by decide +kernel) (pa_cons
          (pe_lc (own := [("name", 4), ("sight", 9)]) (g := gTup K 2 (gCons (gName 4) (gCons (gName 9) gNil))) (tt := tYes)
            (te := tTup (tCons (tDGet (tVar 3) (tVar 4)) (tCons (tThen (tCB (rSortW K) (tCons (tLc (iTup K (tVar 9)) (gName 10) tYes (tDGet (tVar 3) (tVar 10)) [10]) tNil)) (kTup K)) tNil))) rfl scRn.nd (pi_tup (pe_ix ix_tup (pv 1) pe_int (fun _ _ => rfl))) (blkOk_by (N := nRn) (sc := defScope sLRenamed) (by decide +kernel))
            (fun _ _ _ _ _ => by exact pg_tup rfl (pgs_cons (pg_name (i := 4) scRn.nd rfl (.inl rfl)) (pgs_cons (pg_name (i := 9) scRn.nd rfl (.inl rfl)) pgs_nil))) (fun _ _ _ _ _ => pts_nil)
            (fun _ _ _ _ _ => by exact pe_tup (pa_cons (pe_dget (by exact hu1) (pv 3) (pv 4) (fun _ _ => rfl)) (pa_cons (pe_tupleOf rfl B.tuple (pe_callB (cr_sortW (by exact hu)) (by rfl) B.sorted (by decide +kernel) (pa_cons
              (pe_lc (own := [("pick", 10)]) (g := gName 10) (tt := tYes) (te := tDGet (tVar 3) (tVar 10)) rfl scRn.nd (pi_tup (pv 9)) (by show BlkOk nRn scInO _ _; exact blkOk_by (by decide +kernel))
                (fun _ _ _ _ _ => pg_name (i := 10) scRn.nd rfl (Or.inl rfl)) (fun _ _ _ _ _ => pts_nil) (fun _ _ _ _ _ => by exact pe_dget (by exact hu1) (pv 3) (pv 10) (fun _ _ => rfl))) pa_nil))) pa_nil)))) pa_nil))))
      (pss_cons (ps_set (i := 7) scRn.nd rfl (.inl rfl) (pe_callB (cr_sortL (by exact hu)) (by rfl) B.sorted (by decide +kernel) (pa_cons
          (pe_lc (own := [("clause", 12)]) (g := gName 12) (tt := tYes)
            (te := tThen (tCB (rSortL K) (tCons (tLc (iTup K (tVar 12)) (gTup K 2 (gCons (gName 4) (gCons (gName 11) gNil))) tYes (tTup (tCons (tDGet (tVar 3) (tVar 4)) (tCons (tVar 11) tNil))) [4, 11]) tNil)) (kTup K)) rfl scRn.nd (pi_tup (pe_ix ix_tup (pv 1) pe_int (fun _ _ => rfl))) (blkOk_by (N := nRn) (sc := defScope sLRenamed) (by decide +kernel))
            (fun _ _ _ _ _ => pg_name (i := 12) scRn.nd rfl (Or.inl rfl)) (fun _ _ _ _ _ => pts_nil)
            (fun _ _ _ _ _ => by exact pe_tupleOf rfl B.tuple (pe_callB (cr_sortL (by exact hu)) (by rfl) B.sorted (by decide +kernel) (pa_cons
              (pe_lc (own := [("name", 4), ("truth", 11)]) (g := gTup K 2 (gCons (gName 4) (gCons (gName 11) gNil))) (tt := tYes) (te := tTup (tCons (tDGet (tVar 3) (tVar 4)) (tCons (tVar 11) tNil))) rfl scRn.nd (pi_tup (pv 12)) (by show BlkOk nRn scInC _ _; exact blkOk_by (by decide +kernel))
                (fun _ _ _ _ _ => by exact pg_tup rfl (pgs_cons (pg_name (i := 4) scRn.nd rfl (.inl rfl)) (pgs_cons (pg_name (i := 11) scRn.nd rfl (.inl rfl)) pgs_nil))) (fun _ _ _ _ _ => pts_nil)
                (fun _ _ _ _ _ => by exact pe_tup (pa_cons (pe_dget (by exact hu1) (pv 3) (pv 4) (fun _ _ => rfl)) (pa_cons (pv 11) pa_nil)))) pa_nil)))) pa_nil)))
      (pss_one (ps_ret (pe_tup (pa_cons (pe_tup (pa_cons (pv 5) (pa_cons (pv 6) (pa_cons (pe_tupleOf rfl B.tuple (pv 7)) pa_nil)))) (pa_cons (pv 3) pa_nil))))))))), ?_⟩
    obtain ⟨a, pk, ow, cv, rfl, ea, Dp, ⟨b, us, rfl, eb, Db⟩, Dc⟩ := say_row DS
    obtain ⟨pa, ps, rfl, epa, Dps⟩ := dat_tup (ds := sy.picks.map PyData.str) Dp
    cases dats_strs_eq Dps
    have ol := ok.ol
    have pl := ok.pl
    have d0 := Dr.start hs
    have nok := ok.nlen
    have ndn := say_nd ok
    refine ⟨abc14, rfl, fun D1 hD1 => ?_⟩
    have D1p := d0.ne hD1
    refine lc_it (walk_str (z := abc14)) (fun i H4 => ∃ W, H4 D1 = some (.lst (W.map V.str)) ∧ NwS i W ∧ Dr H p (c + i) H4) ⟨[], upd_same, NwS.nil, d0.new hD1⟩ (fun _ _ _ _ => trivial) ?_ ?_
    · rintro i x H4 H4' hi ⟨W, eD, nw, d4⟩ ⟨rfl, ch, hch, rfl⟩
      have i14 : i < 14 := by rw [← abc14_len]; exact hi
      have hc' : ch ∈ abc14.cps.toList := List.mem_of_getElem? (by rw [Array.getElem?_toList]; exact hch)
      refine ⟨rfl, yes_of ?_⟩
      refine ⟨_, rfl, "n", ⟨#[ch]⟩, rfl, rfl, (by show 2 ≤ sizeLine; decide), _, rfl, p, _, 3, rfl, d4.s, by omega, by decide, by decide, fun r o r0 r1 hp1 => ⟨"w", r, rfl, rfl, r0, by omega, by decide, _, _, rfl, rfl, wd_len hc' r0 r1, ?_⟩⟩
      have d5 := d4.src hp1
      have eW := nw.e
      have lW : W.length ≤ 14 := by
        have z := congrArg List.length eW
        rw [List.length_map, List.length_map, List.length_take] at z
        omega
      refine ⟨_, by rw [upd_ne D1p]; exact eD, by rw [List.length_map]; exact small1000 (by omega), W ++ [wdN ch r], by rw [upd_same, List.map_append]; rfl, nw.snoc hch r0 r1, (d5.put hD1 D1p).up (by omega)⟩
    rintro H4 ⟨W, eD, nw, d4⟩
    rw [abc14_len] at nw d4
    obtain ⟨ndW, lW⟩ := nw.all
    have nmW := nw.nm
    clear nw
    refine fun d hd => ⟨(by show 2 ≤ sizeLine; decide), fun t ht => ⟨t, _, rfl, SqT.of upd_same, rfl, _, _, rfl, _, _, rfl, rfl, ?_⟩⟩
    have dp := d4.ne hd
    have hd0 := d4.free hd
    have nDd : D1 ≠ d := ne_of_none eD hd
    have d5 := (d4.new (o := .dK []) hd).new (o := .tup [V.ref D1, .ref d]) ht
    have eD5 : upd (upd H4 d (.dK [])) t (.tup [V.ref D1, .ref d]) D1 = some (.lst (W.map V.str)) := (same_new ht) _ _ (by rw [upd_ne nDd]; exact eD)
    have ed5 : upd (upd H4 d (.dK [])) t (.tup [V.ref D1, .ref d]) d = some (.dK []) := (same_new ht) _ _ upd_same
    generalize upd (upd H4 d (.dK [])) t (.tup [V.ref D1, .ref d]) = H5 at d5 eD5 ed5 ⊢
    have nap : a ≠ p := fun z => by obtain ⟨ys, ey⟩ := hs.lst; rw [z, ey] at ea; cases ea
    have nbp : b ≠ p := fun z => by obtain ⟨ys, ey⟩ := hs.lst; unfold FT at eb; rw [z, ey] at eb; cases eb
    have npp : pa ≠ p := fun z => by obtain ⟨ys, ey⟩ := hs.lst; rw [z, ey] at epa; cases epa
    have ea5 := d5.keep ea nap
    have epa5 := d5.keep epa npp
    have k2 : keyables (sy.owns.map ownD) = true := keyables_map ownD keyable_own sy.owns
    have Db5 : Dat H5 (.ref b) (.tuple (sy.owns.map ownD)) := d5.dat hs k2 (.tup eb Db)
    obtain ⟨b', us', e', eb5, Db5⟩ := dat_tup Db5
    cases e'
    refine ⟨_, rfl, a, _, 0, _, rfl, rfl, SqT.of ea5, rfl, pa, _, rfl, .inr (SqT.of epa5), fun l1 hl1 => ?_⟩
    have S6 := same_new (o := .lst (sy.picks.map V.str)) hl1
    have d6 := d5.same S6
    have el1 : upd H5 l1 (.lst (sy.picks.map V.str)) l1 = some (.lst (sy.picks.map V.str)) := upd_same
    have eD6 := S6 _ _ eD5
    have ed6 := S6 _ _ ed5
    have ea6 := S6 _ _ ea5
    have eb6 := S6 _ _ eb5
    have Db6 := DatAll.same S6 Db5
    generalize upd H5 l1 (.lst (sy.picks.map V.str)) = H6 at S6 d6 el1 eD6 ed6 ea6 eb6 Db6 ⊢
    refine ⟨_, rfl, a, _, 1, _, rfl, rfl, SqT.of ea6, rfl, b, rfl, ⟨_, SqT.of eb6⟩, fun D2 hD2 => lc_names (K := K) eb6 Db6 hD2 (by omega) (fun _ _ => rfl) (fun _ _ => rfl) fun H7 eL7 S7 => ?_⟩
    refine ⟨_, _, _, _, rfl, rfl, S7 _ _ el1, eL7, ?_, fun l hl => ?_⟩
    · rw [List.length_map, List.length_map, List.length_map]
      exact Nat.le_of_lt (small1000 (by omega))
    have S8 := same_new (o := .lst (sy.picks.map V.str ++ (sy.owns.map Prod.fst).map V.str)) hl
    have S68 := S7.trans S8
    have el : upd H7 l (.lst (sy.picks.map V.str ++ (sy.owns.map Prod.fst).map V.str)) l = some (.lst (sy.names.map V.str)) := by
      rw [upd_same]
      unfold Say.names
      rw [List.map_append]
    have d8 := d6.same S68
    have eD8 := S68 _ _ eD6
    have ed8 := S68 _ _ ed6
    have lD : l ≠ D1 := fun z => by rw [z, S7 _ _ eD6] at hl; cases hl
    have ld : l ≠ d := fun z => by rw [z, S7 _ _ ed6] at hl; cases hl
    have lp : l ≠ p := (d6.same S7).ne hl
    have el' : upd H7 l (.lst (sy.picks.map V.str ++ (sy.owns.map Prod.fst).map V.str)) l = some (.lst (sy.picks.map V.str ++ (sy.owns.map Prod.fst).map V.str)) := upd_same
    refine ⟨l, rfl, ⟨_, SqL.of el'⟩, ?_⟩
    generalize upd H7 l (.lst (sy.picks.map V.str ++ (sy.owns.map Prod.fst).map V.str)) = H8 at d8 eD8 ed8 el ⊢
    refine for_list (K := K) (a := l) (xs := sy.names.map V.str) (fun i σ G => ∃ (R L : List Str) (o4 o5 o6 o7 o8 o9 o10 o11 o12 : Option V), σ = [some (.ref p), some (.ref a), some (.ref D1), some (.ref d), o4, o5, o6, o7, o8, o9, o10, o11, o12] ∧
      G D1 = some (.lst (L.map V.str)) ∧ G d = some (.dK (renK (sy.names.take i) R)) ∧ R.length = i ∧ (R ++ L).Perm W ∧ Dr H p (c + 14 + i) G ∧ G l = some (.lst (sy.names.map V.str)))
      ⟨[], W, _, _, _, _, _, _, _, _, _, rfl, eD8, ed8, rfl, List.Perm.refl _, d8, el⟩ (fun i σ G _ ⟨_, _, _, _, _, _, _, _, _, _, _, _, _, _, _, _, _, e⟩ => SqL.of e) ?_ ?_
    · rintro i x σ G hx ⟨R, L, o4, o5, o6, o7, o8, o9, o10, o11, o12, rfl, eDG, edG, lR, pm, dG, elG⟩
      rw [List.getElem?_map] at hx
      obtain ⟨nm, hnm, rfl⟩ := Option.map_eq_some_iff.mp hx
      have il : i < sy.names.length := (List.getElem?_eq_some_iff.mp hnm).1
      have len : R.length + L.length = 14 := by rw [← List.length_append, pm.length_eq, lW]
      refine ⟨_, rfl, .inl ⟨rfl, _, SqL.of eDG⟩, _, rfl, _, rfl, _, _, rfl, .inl (SqL.of eDG), p, _, _, rfl, dG.s, by omega, by rw [List.length_map]; omega, by rw [List.length_map]; omega, fun k o k0 k1 hp5 => ?_⟩
      rw [List.length_map] at k1
      have kl : k.toNat < L.length := by omega
      have pp := pop_perm L k.toNat kl
      have d9 := dG.src hp5
      have eD9 : upd G p o D1 = some (.lst (L.map V.str)) := by rw [upd_ne D1p]; exact eDG
      have ed9 : upd G p o d = some (.dK (renK (sy.names.take i) R)) := by rw [upd_ne dp]; exact edG
      have el9 : upd G p o l = some (.lst (sy.names.map V.str)) := by rw [upd_ne lp]; exact elG
      have lt : (sy.names.take i).length = R.length := by rw [List.length_take, lR]; omega
      refine ⟨D1, _, k, k.toNat, .str L[k.toNat], rfl, rfl, eD9, by omega, by omega, by rw [List.length_map]; exact seq_nat k0 k1, by rw [List.getElem?_map, List.getElem?_eq_getElem kl]; rfl, ?_⟩
      rw [map_erase]
      refine ⟨_, rfl, _, rfl, d, _, rfl, DPut.k (k := .inr nm) (by rw [upd_ne nDd.symm]; exact ed9) (by rw [ren_len _ _ lt, List.length_take]; exact small1000 (by omega)), ?_⟩
      have tk : sy.names.take (i + 1) = sy.names.take i ++ [nm] := take_next hnm
      have nin : nm ∉ sy.names.take i := fun m => by
        have z : (sy.names.take (i + 1)).Nodup := ndn.sublist (List.take_sublist _ _)
        rw [tk] at z
        exact (List.nodup_append.mp z).2.2 nm m nm (List.mem_singleton.mpr rfl) rfl
      refine ⟨R ++ [L[k.toNat]], L.eraseIdx k.toNat, _, _, _, _, _, _, _, _, _, rfl, by rw [upd_ne nDd, upd_same], ?_, by rw [List.length_append, lR]; rfl, ?_, ((d9.put hD1 D1p).put hd0 dp).up (by omega), by rw [upd_ne ld, upd_ne lD]; exact el9⟩
      · rw [upd_same, putK_new _ (ren_none nin), ren_snoc lt, ← tk]
      · rw [List.append_assoc]
        exact ((List.Perm.refl R).append pp.symm).trans pm
    rintro σ G ⟨R, L, o4, o5, o6, o7, o8, o9, o10, o11, o12, rfl, eDG, edG, lR, pm, dG, elG⟩
    rw [List.length_map] at lR dG edG
    rw [List.take_length] at edG
    have ndR : R.Nodup := (List.nodup_append.mp (pm.nodup_iff.mpr ndW)).1
    have rh : RhoOk sy (rhoOf sy.names R) := ⟨fun x hx y hy e => rho_inj ndn ndR lR.symm hx hy e, fun x hx => nmW _ (pm.mem_iff.mp (List.mem_append_left _ (rho_mem ndn lR.symm hx)))⟩
    have vals : ∀ x ∈ sy.names, valV (renK sy.names R) (.inr x) = some (.str (rhoOf sy.names R x)) := fun x hx => ren_val lR.symm hx
    have dG2 := dG.up (show c + 14 + sy.names.length ≤ c + 100 by omega)
    generalize rhoOf sy.names R = ρ at rh vals
    generalize renK sy.names R = kvs at edG vals
    clear eDG elG pm dG
    have eaG := dG2.keep ea nap
    have epaG := dG2.keep epa npp
    have DbG : Dat G (.ref b) (.tuple (sy.owns.map ownD)) := dG2.dat hs k2 (.tup eb Db)
    have k3 : keyable (.tuple (sy.cls.map clD)) = true := by
      show keyables (sy.cls.map clD) = true
      exact keyables_map clD keyable_cl sy.cls
    have DcG := dG2.dat hs k3 Dc
    clear Db eb
    obtain ⟨b', us, e'', ebG, DbG⟩ := dat_tup DbG
    cases e''
    have getK : ∀ {x : Str} {G' : Hp}, x ∈ sy.names → Same G G' → DGet G' d (.str x) (some (.str (ρ x))) := fun {x G'} hx S => by
      have z := DGet.k (k := .inr x) (S _ _ edG)
      rw [vals x hx] at z
      exact z
    have inP : ∀ x ∈ sy.picks, x ∈ sy.names := fun x h => List.mem_append_left _ h
    have inO : ∀ o ∈ sy.owns, o.1 ∈ sy.names := fun o h => List.mem_append_right _ (List.mem_map_of_mem h)
    have lus : us.length = sy.owns.length := by rw [DbG.len, List.length_map]
    -- the picks
    refine ⟨_, rfl, a, _, 0, _, rfl, rfl, SqT.of eaG, rfl, pa, rfl, ⟨_, SqT.of epaG⟩, fun D3 hD3 => lc_mapT (K := K) (ys := (sy.picks.map ρ).map V.str) (SqT.of epaG) hD3 (by rw [List.length_map, List.length_map, List.length_map]) (by rw [List.length_map]; omega) (fun i x y H4 Qe hx hy S4 k => ?_) gName_mono (fun H5 e5 S5 => ?_)⟩
    · rw [List.getElem?_map] at hx
      obtain ⟨z, hz, rfl⟩ := Option.map_eq_some_iff.mp hx
      rw [List.getElem?_map, List.getElem?_map, hz] at hy
      cases hy
      exact ⟨rfl, _, rfl, _, rfl, d, _, rfl, getK (inP z (List.mem_of_getElem? hz)) S4, k H4 (Same.refl _)⟩
    refine ⟨D3, _, rfl, SqL.of e5, fun ps1 bp pmP upP hbp => .inl ⟨bp, _, rfl, SqL.of upd_same, fun tp htp => ?_⟩⟩
    have ndP : (sy.picks.map ρ).Nodup := nodup_on (fun x hx y hy e => rh.inj x (inP x hx) y (inP y hy) e) (nodup_tlt ok.pu)
    have S6 := same_new (o := .lst (ps1.map V.str)) hbp
    have S7 := same_new (o := .tup (ps1.map V.str)) htp
    have SG1 := S5.trans (S6.trans S7)
    have DP : Dat (upd (upd H5 bp (.lst (ps1.map V.str))) tp (.tup (ps1.map V.str))) (.ref tp) (nmsD ps1) := .tup upd_same (dats_strs ps1)
    generalize upd (upd H5 bp (.lst (ps1.map V.str))) tp (.tup (ps1.map V.str)) = G1 at SG1 DP ⊢
    clear S6 S7 htp hbp e5 S5 hD3 H5
    -- the owns
    have ebG1 := SG1 _ _ ebG
    have DbG1 := DatAll.same SG1 DbG
    refine ⟨_, rfl, a, _, 1, _, rfl, rfl, SqT.of (SG1 _ _ eaG), rfl, b, rfl, ⟨_, SqT.of ebG1⟩, fun D4 hD4 => ?_⟩
    refine lc_tup (K := K) (a := b) (xs := us) (fun i H4 => ∃ (T : List TRow) (os : List Own), H4 D4 = some (.lst (T.map TRow.v)) ∧ T.map Prod.snd = os.map ownD ∧ os.length = i ∧ (∀ (j : Nat) (o o' : Own), sy.owns[j]? = some o → os[j]? = some o' → RenO ρ o o') ∧ (∀ q ∈ T, Dat H4 q.v q.2) ∧ Same G1 H4)
      ⟨[], [], upd_same, rfl, rfl, fun j o o' _ h => by simp at h, fun q hq => absurd hq (by simp), same_new hD4⟩ (fun i H4 _ ⟨_, _, _, _, _, _, _, S⟩ => SqT.of (S _ _ ebG1)) ?_ ?_
    · rintro i x H4 hx ⟨T, os, e4, dT, los, ros, DT, S4⟩
      obtain ⟨dd, hdd, Dx⟩ := dats_get' DbG1 i x hx
      obtain ⟨o, ho, rfl⟩ := get_map hdd
      obtain ⟨t, rfl⟩ := tuple_ref (ds := [.str o.1, nmsD o.2]) Dx
      obtain ⟨t', g1, g2⟩ := own_row (q := (t, ownD o)) rfl Dx
      have il : i < us.length := (List.getElem?_eq_some_iff.mp hx).1
      have om := List.mem_of_getElem? ho
      have og := ok.on o om
      have SG4 := SG1.trans S4
      have lT : T.length = i := by rw [← List.length_map (f := Prod.snd), dT, List.length_map, los]
      refine ⟨t, _, rfl, SqT.of (S4 _ _ g1), rfl, _, _, rfl, _, _, rfl, rfl, rfl, yes_of ?_⟩
      refine ⟨_, rfl, _, rfl, d, _, rfl, getK (inO o om) SG4, _, rfl, t', rfl, ⟨_, SqT.of (S4 _ _ g2)⟩, fun D5 hD5 => lc_mapT (K := K) (ys := (o.2.map ρ).map V.str) (SqT.of (S4 _ _ g2)) hD5 (by rw [List.length_map, List.length_map, List.length_map]) (by rw [List.length_map]; have := (ok.own om).le; omega) (fun j x y H6 Qe hx hy S6 k => ?_) gName_mono (fun H7 e7 S7 => ?_)⟩
      · rw [List.getElem?_map] at hx
        obtain ⟨z, hz, rfl⟩ := Option.map_eq_some_iff.mp hx
        rw [List.getElem?_map, List.getElem?_map, hz] at hy
        cases hy
        exact ⟨rfl, _, rfl, _, rfl, d, _, rfl, getK (inP z (og.2.2.2 z (List.mem_of_getElem? hz))) (SG4.trans S6), k H6 (Same.refl _)⟩
      refine ⟨D5, _, rfl, SqL.of e7, fun ws bw pmW upW hbw => .inl ⟨bw, _, rfl, SqL.of upd_same, fun tw htw => ⟨(by show 2 ≤ sizeLine; decide), fun tq htq => ?_⟩⟩⟩
      have ndW2 : (o.2.map ρ).Nodup := nodup_on (fun x hx y hy e => rh.inj x (inP x (og.2.2.2 x hx)) y (inP y (og.2.2.2 y hy)) e) (nodup_tlt og.2.2.1)
      have S8 := S7.trans ((same_new (o := .lst (ws.map V.str)) hbw).trans (same_new (o := .tup (ws.map V.str)) htw))
      have etw : upd (upd H7 bw (.lst (ws.map V.str))) tw (.tup (ws.map V.str)) tw = some (.tup (ws.map V.str)) := upd_same
      generalize upd (upd H7 bw (.lst (ws.map V.str))) tw (.tup (ws.map V.str)) = H8 at S8 etw htq ⊢
      have S9 := S8.trans (same_new (o := .tup [.str (ρ o.1), .ref tw]) htq)
      have Dq : Dat (upd H8 tq (.tup [.str (ρ o.1), .ref tw])) (.ref tq) (ownD (ρ o.1, ws)) := .tup upd_same (.cons (.str _) (.cons (.tup ((same_new htq) _ _ etw) (dats_strs ws)) .nil))
      generalize upd H8 tq (.tup [.str (ρ o.1), .ref tw]) = H9 at S9 Dq ⊢
      refine ⟨_, S9 _ _ e4, by rw [List.length_map, lT]; exact small1000 (by omega), T ++ [(tq, ownD (ρ o.1, ws))], os ++ [(ρ o.1, ws)], by rw [upd_same, List.map_append]; rfl, by rw [List.map_append, List.map_append, dT]; rfl, by rw [List.length_append, los]; rfl, fun j o1 o2 h1 h2 => ?_, fun q hq => ?_, same_upd (S4.trans S9) hD4⟩
      · by_cases hj : j < os.length
        · rw [List.getElem?_append_left hj] at h2
          exact ros j o1 o2 h1 h2
        · have hj2 : j = os.length := by
            have := (List.getElem?_eq_some_iff.mp h2).1
            rw [List.length_append] at this
            simp at this
            omega
          rw [hj2, List.getElem?_append_right (Nat.le_refl _), Nat.sub_self] at h2
          rw [hj2, los, ho] at h1
          cases h1
          cases (show some (ρ o.1, ws) = some o2 from h2)
          exact ⟨rfl, pmW, upW ndW2⟩
      · rcases List.mem_append.mp hq with m | m
        · have mq : q.2 ∈ os.map ownD := dT ▸ List.mem_map_of_mem m
          obtain ⟨z, _, hz⟩ := List.mem_map.mp mq
          exact dat_upd (S9 _ _ e4) (by rw [← hz]; exact keyable_own z) ((DT q m).same S9)
        · cases List.mem_singleton.mp m
          exact dat_upd (S9 _ _ e4) (keyable_own _) Dq
    rintro H4 ⟨T, os, e4, dT, los, ros, DT, S4⟩
    rw [lus] at los
    have soO : Sorty T := sorty_of dT alike_own (fun x => ⟨_, rfl⟩) (fun x => Nat.le_trans (depth_own x) (by decide))
    refine ⟨D4, T, rfl, SqL.of e4, DT, soO, fun T' bo pmT _ upT hbo => .inl ⟨bo, _, rfl, SqL.of upd_same, fun to hto => ?_⟩⟩
    have ndOs : (os.map Prod.fst).Nodup := by
      have e : os.map Prod.fst = (sy.owns.map Prod.fst).map ρ := by
        refine List.ext_getElem? fun j => ?_
        rw [List.getElem?_map, List.map_map, List.getElem?_map]
        by_cases hj : j < os.length
        · have h2 : os[j]? = some os[j] := List.getElem?_eq_getElem hj
          have h1 : sy.owns[j]? = some (sy.owns[j]'(by omega)) := List.getElem?_eq_getElem (by omega)
          rw [h1, h2]
          exact congrArg some (ros j _ _ h1 h2).1
        · rw [List.getElem?_eq_none_iff.mpr (by omega), List.getElem?_eq_none_iff.mpr (by omega)]
          rfl
      rw [e]
      refine nodup_on (fun x hx y hy e => ?_) (own_nd ok)
      obtain ⟨o, ho, rfl⟩ := List.mem_map.mp hx
      obtain ⟨o2, ho2, rfl⟩ := List.mem_map.mp hy
      exact rh.inj _ (inO o ho) _ (inO o2 ho2) e
    obtain ⟨os', pmO, eO, upO⟩ := rows_back own_name (fun x y => lt_owns) pmT dT ndOs upT
    have SG5 := SG1.trans (S4.trans ((same_new (o := .lst (T'.map TRow.v)) hbo).trans (same_new (o := .tup (T'.map TRow.v)) hto)))
    have S5 := S4.trans ((same_new (o := .lst (T'.map TRow.v)) hbo).trans (same_new (o := .tup (T'.map TRow.v)) hto))
    have DO : Dat (upd (upd H4 bo (.lst (T'.map TRow.v))) to (.tup (T'.map TRow.v))) (.ref to) (.tuple (os'.map ownD)) := by
      refine .tup upd_same ?_
      rw [← eO]
      exact dats_rows fun r hr => dat_new hto (dat_new hbo (DT r (pmT.mem_iff.mp hr)))
    have DP5 := DP.same S5
    generalize upd (upd H4 bo (.lst (T'.map TRow.v))) to (.tup (T'.map TRow.v)) = G2 at SG5 DO DP5 ⊢
    clear S5 DT e4 hto hbo upT pmT soO dT S4
    -- the clauses
    obtain ⟨pc, us3, rfl, ec, DcA⟩ := dat_tup (ds := sy.cls.map clD) DcG
    have lu3 : us3.length = sy.cls.length := by rw [DcA.len, List.length_map]
    have lcl := ok.cl
    have ecG := SG5 _ _ ec
    have DcA2 := DatAll.same SG5 DcA
    refine ⟨_, rfl, a, _, 2, _, rfl, rfl, SqT.of (SG5 _ _ eaG), rfl, pc, rfl, ⟨_, SqT.of ecG⟩, fun D6 hD6 => ?_⟩
    refine lc_tup (K := K) (a := pc) (xs := us3) (fun i H4 => ∃ (T : List TRow) (cs : List (List Ltr)), H4 D6 = some (.lst (T.map TRow.v)) ∧ T.map Prod.snd = cs.map clD ∧ cs.length = i ∧ (∀ (j : Nat) (c c' : List Ltr), sy.cls[j]? = some c → cs[j]? = some c' → RenC ρ c c') ∧ (∀ q ∈ T, Dat H4 q.v q.2) ∧ Same G2 H4)
      ⟨[], [], upd_same, rfl, rfl, fun j o o' _ h => by simp at h, fun q hq => absurd hq (by simp), same_new hD6⟩ (fun i H4 _ ⟨_, _, _, _, _, _, _, S⟩ => SqT.of (S _ _ ecG)) ?_ ?_
    · rintro i x H4 hx ⟨T, cs, e4, dT, lcs, rcs, DT, S4⟩
      obtain ⟨dd, hdd, Dx⟩ := dats_get' DcA2 i x hx
      obtain ⟨cl, hcl, rfl⟩ := get_map hdd
      obtain ⟨tc, us4, rfl, etc, Dls⟩ := dat_tup (ds := cl.map ltD) Dx
      have ck := ok.ck cl (List.mem_of_getElem? hcl)
      have il : i < us3.length := (List.getElem?_eq_some_iff.mp hx).1
      have SG4 := SG5.trans S4
      have lT : T.length = i := by rw [← List.length_map (f := Prod.snd), dT, List.length_map, lcs]
      have l4 : us4.length = cl.length := by rw [Dls.len, List.length_map]
      have l14 : cl.length ≤ 14 := by
        have nd : (cl.map Prod.fst).Nodup := nodup_tlt (List.pairwise_map.mpr ck.up)
        have z := nodup_le nd (m := sy.names) fun x hx => by
          obtain ⟨l, hl, rfl⟩ := List.mem_map.mp hx
          exact ck.mem l hl
        rw [List.length_map] at z
        omega
      refine ⟨rfl, yes_of ?_⟩
      refine ⟨_, rfl, tc, rfl, ⟨_, SqT.of (S4 _ _ etc)⟩, fun D7 hD7 => ?_⟩
      refine lc_tup (K := K) (a := tc) (xs := us4) (fun j H6 => ∃ (T7 : List TRow), H6 D7 = some (.lst (T7.map TRow.v)) ∧ T7.map Prod.snd = (renL ρ (cl.take j)).map ltD ∧ (∀ q ∈ T7, Dat H6 q.v q.2) ∧ Same H4 H6)
        ⟨[], upd_same, rfl, fun q hq => absurd hq (by simp), same_new hD7⟩ (fun j H6 _ ⟨_, _, _, _, S⟩ => SqT.of (S _ _ (S4 _ _ etc))) ?_ ?_
      · rintro j x H6 hx ⟨T7, e6, dT7, DT7, S6⟩
        obtain ⟨dd, hdd, Dx⟩ := dats_get' Dls j x hx
        obtain ⟨lt, hlt, rfl⟩ := get_map hdd
        obtain ⟨tl, rfl, etl⟩ := ltr_row Dx
        have jl : j < us4.length := (List.getElem?_eq_some_iff.mp hx).1
        have lT7 : T7.length ≤ 14 := by
          rw [← List.length_map (f := Prod.snd), dT7, List.length_map, List.length_map, List.length_take]
          omega
        refine ⟨tl, _, rfl, SqT.of (S6 _ _ (S4 _ _ etl)), rfl, _, _, rfl, _, _, rfl, rfl, rfl, yes_of ?_⟩
        refine ⟨_, rfl, _, rfl, d, _, rfl, getK (ck.mem lt (List.mem_of_getElem? hlt)) (SG4.trans S6), _, rfl, (by show 2 ≤ sizeLine; decide), fun tq htq => ?_⟩
        have S9 := same_new (o := .tup [.str (ρ lt.1), .bl lt.2]) htq
        have Dq : Dat (upd H6 tq (.tup [.str (ρ lt.1), .bl lt.2])) (.ref tq) (ltD (ρ lt.1, lt.2)) := .tup upd_same (.cons (.str _) (.cons (.bl _) .nil))
        generalize upd H6 tq (.tup [.str (ρ lt.1), .bl lt.2]) = H9 at S9 Dq ⊢
        refine ⟨_, S9 _ _ e6, by rw [List.length_map]; exact small1000 (by omega), T7 ++ [(tq, ltD (ρ lt.1, lt.2))], by rw [upd_same, List.map_append]; rfl, by rw [List.map_append, dT7, take_next hlt]; unfold renL; rw [List.map_append, List.map_append]; rfl, fun q hq => ?_, same_upd (S6.trans S9) hD7⟩
        rcases List.mem_append.mp hq with m | m
        · have mq : q.2 ∈ (renL ρ (cl.take j)).map ltD := dT7 ▸ List.mem_map_of_mem m
          obtain ⟨z, _, hz⟩ := List.mem_map.mp mq
          exact dat_upd (S9 _ _ e6) (by rw [← hz]; exact keyable_lt z) ((DT7 q m).same S9)
        · cases List.mem_singleton.mp m
          exact dat_upd (S9 _ _ e6) (keyable_lt _) Dq
      rintro H6 ⟨T7, e6, dT7, DT7, S6⟩
      rw [l4, List.take_length] at dT7
      have soL : Sorty T7 := sorty_of dT7 alike_lt (fun x => ⟨_, rfl⟩) (fun x => by have := depth_lt x; omega)
      refine ⟨D7, T7, rfl, SqL.of e6, DT7, soL, fun T8 bl pmL _ upL hbl => .inl ⟨bl, _, rfl, SqL.of upd_same, fun tq htq => ?_⟩⟩
      have ndL : ((renL ρ cl).map Prod.fst).Nodup := by
        unfold renL
        rw [List.map_map]
        have e : (Prod.fst ∘ fun l : Ltr => ((ρ l.1, l.2) : Ltr)) = ρ ∘ Prod.fst := rfl
        rw [e, ← List.map_map]
        refine nodup_on (fun x hx y hy e => ?_) (nodup_tlt (List.pairwise_map.mpr ck.up))
        obtain ⟨l, hl, rfl⟩ := List.mem_map.mp hx
        obtain ⟨l2, hl2, rfl⟩ := List.mem_map.mp hy
        exact rh.inj _ (ck.mem l hl) _ (ck.mem l2 hl2) e
      obtain ⟨cl', pmC, eC, upC⟩ := letters_back pmL dT7 ndL upL
      have S9 := (same_new (o := .lst (T8.map TRow.v)) hbl).trans (same_new (o := .tup (T8.map TRow.v)) htq)
      have Dq : Dat (upd (upd H6 bl (.lst (T8.map TRow.v))) tq (.tup (T8.map TRow.v))) (.ref tq) (clD cl') := by
        refine .tup upd_same ?_
        rw [← eC]
        exact dats_rows fun r hr => dat_new htq (dat_new hbl (DT7 r (pmL.mem_iff.mp hr)))
      generalize upd (upd H6 bl (.lst (T8.map TRow.v))) tq (.tup (T8.map TRow.v)) = H9 at S9 Dq ⊢
      have S49 := S6.trans S9
      refine ⟨_, S49 _ _ e4, by rw [List.length_map, lT]; exact small1000 (by omega), T ++ [(tq, clD cl')], cs ++ [cl'], by rw [upd_same, List.map_append]; rfl, by rw [List.map_append, List.map_append, dT]; rfl, by rw [List.length_append, lcs]; rfl, fun j o1 o2 h1 h2 => ?_, fun q hq => ?_, same_upd (S4.trans S49) hD6⟩
      · by_cases hj : j < cs.length
        · rw [List.getElem?_append_left hj] at h2
          exact rcs j o1 o2 h1 h2
        · have hj2 : j = cs.length := by
            have := (List.getElem?_eq_some_iff.mp h2).1
            rw [List.length_append] at this
            simp at this
            omega
          rw [hj2, List.getElem?_append_right (Nat.le_refl _), Nat.sub_self] at h2
          rw [hj2, lcs, hcl] at h1
          cases h1
          cases (show some cl' = some o2 from h2)
          exact ⟨pmC, upC⟩
      · rcases List.mem_append.mp hq with m | m
        · have mq : q.2 ∈ cs.map clD := dT ▸ List.mem_map_of_mem m
          obtain ⟨z, _, hz⟩ := List.mem_map.mp mq
          exact dat_upd (S49 _ _ e4) (by rw [← hz]; exact keyable_cl z) ((DT q m).same S49)
        · cases List.mem_singleton.mp m
          exact dat_upd (S49 _ _ e4) (keyable_cl _) Dq
    rintro H4 ⟨T, cs, e4, dT, lcs, rcs, DT, S4⟩
    rw [lu3] at lcs
    have soC : Sorty T := sorty_of dT alike_cl (fun x => ⟨_, rfl⟩) (fun x => Nat.le_trans (depth_cl x) (by decide))
    refine ⟨D6, T, rfl, SqL.of e4, DT, soC, fun T' bo pmT _ upT hbo => ?_⟩
    have ndC := renC_nodup ok rh lcs rcs
    obtain ⟨cs', pmC, eC⟩ := perm_back (f := clD) ((pmT.map Prod.snd).trans (.of_eq dT)) cs rfl
    have nT : (T.map Prod.snd).Nodup := by
      rw [dT]
      exact nodup_on (fun x _ y _ e => clD_inj' e) ndC
    have upC : cs'.Pairwise fun x y => dataLt (clD x) (clD y) = true := by
      have z : (T'.map Prod.snd).Pairwise fun d e => dataLt d e = true := List.pairwise_map.mpr (upT nT)
      rw [eC] at z
      exact List.pairwise_map.mp z
    obtain ⟨R9, ok9⟩ := ren_of ok rh pmP (upP ndP) los ros pmO upO lcs rcs pmC upC
    have S5 := S4.trans (same_new (o := .lst (T'.map TRow.v)) hbo)
    have e5 : upd H4 bo (.lst (T'.map TRow.v)) bo = some (.lst (T'.map TRow.v)) := upd_same
    refine ⟨_, rfl, _, rfl, _, rfl, .inl ⟨bo, _, rfl, SqL.of e5, fun tc htc => ⟨(by show 3 ≤ sizeLine; decide), fun ts hts => ⟨_, rfl, (by show 2 ≤ sizeLine; decide), fun tt htt => ?_⟩⟩⟩⟩
    have S6 := same_new (o := .tup (T'.map TRow.v)) htc
    have DC : Dat (upd (upd H4 bo (.lst (T'.map TRow.v))) tc (.tup (T'.map TRow.v))) (.ref tc) (.tuple (cs'.map clD)) := by
      refine .tup upd_same ?_
      rw [← eC]
      exact dats_rows fun r hr => dat_new htc (dat_new hbo (DT r (pmT.mem_iff.mp hr)))
    have S56 := S5.trans S6
    generalize upd (upd H4 bo (.lst (T'.map TRow.v))) tc (.tup (T'.map TRow.v)) = G3 at S56 DC hts htt ⊢
    have S7 := same_new (o := .tup [V.ref tp, .ref to, .ref tc]) hts
    obtain ⟨b9, us9, e9, eb9, Db9⟩ := dat_tup DO
    cases e9
    have DSS : DatS (upd G3 ts (.tup [V.ref tp, .ref to, .ref tc])) (.ref ts) ⟨ps1, os', cs'⟩ := ⟨ts, _, _, _, rfl, upd_same, DP5.same (S56.trans S7), ⟨to, us9, rfl, (S56.trans S7) _ _ eb9, DatAll.same (S56.trans S7) Db9⟩, DC.same S7⟩
    have S57 := S56.trans S7
    generalize upd G3 ts (.tup [V.ref tp, .ref to, .ref tc]) = G4 at S57 DSS htt ⊢
    have S8 := same_new (o := .tup [V.ref ts, .ref d]) htt
    have SA := SG5.trans (S57.trans S8)
    exact q tt d _ _ ρ kvs _ (dG2.same SA) upd_same (DSS.same S8) ok9 R9 (SA _ _ edG) vals
end
end S1

set_option Elab.async false
set_option linter.all false
set_option maxRecDepth 100000
set_option maxHeartbeats 4000000
/-! _law_carried -/
namespace S1
open PySem PySem.W PySem.Spec PyProof.Rows L2
theorem look_put (E : List DRow) (r : Addr) (d : PyData) (v : V) (x : PyData) : lookN (putN E (r, d) v) x = if nkey d = nkey x then some v else lookN E x := by
  cases h : lookN E d with
  | none =>
    rw [putN_new (r := (r, d)) h]
    have key : ∀ E : List DRow, lookN E d = none → lookN (E ++ [((r, d), v)]) x = if nkey d = nkey x then some v else lookN E x := by
      intro E
      induction E with
      | nil =>
        intro _
        rw [List.nil_append, lookN_cons]
      | cons p E ih =>
        intro h
        rw [lookN_cons] at h
        by_cases z : nkey p.1.2 = nkey d
        · rw [if_pos z] at h
          cases h
        · rw [if_neg z] at h
          rw [List.cons_append, lookN_cons, lookN_cons, ih h]
          by_cases y : nkey d = nkey x
          · rw [if_pos y, if_neg (fun q => z (q.trans y.symm)), if_pos y]
          · rw [if_neg y, if_neg y]
    exact key E h
  | some u =>
    rw [putN_old (r := (r, d)) h]
    have key : ∀ E : List DRow, lookN (E.map fun p => if nkey p.1.2 = nkey d then (p.1, v) else p) x = if nkey d = nkey x then (lookN E d).map fun _ => v else lookN E x := by
      intro E
      induction E with
      | nil =>
        show none = _
        split <;> rfl
      | cons p E ih =>
        rw [List.map_cons, lookN_cons, lookN_cons, lookN_cons, ih]
        by_cases z : nkey p.1.2 = nkey d
        · rw [if_pos z, if_pos z]
          by_cases y : nkey d = nkey x
          · rw [if_pos (z.trans y), if_pos y]
            rfl
          · rw [if_neg y, if_neg y]
            show (if nkey p.1.2 = nkey x then _ else _) = _
            rw [if_neg (fun q => y (z.symm.trans q)), if_neg (fun q => y (z.symm.trans q))]
        · rw [if_neg z, if_neg z]
          by_cases y : nkey d = nkey x
          · rw [if_pos y, if_pos y, if_neg (fun q => z (q.trans y.symm))]
          · rw [if_neg y, if_neg y]
    rw [key, h]
    rfl
def spCarried (w : World) : Sp := fun vs H Q _ => ∃ (v v' : V) (D VD : Addr) (s s' : Say) (ρ : Str → Str) (kvs : List (Key × V)) (r : Cpy → Bool), vs = [v, v', .ref D, .ref VD] ∧ DatS H v s ∧ SayOk 6 8 120 40 s ∧ DatS H v' s' ∧ SayOk 6 8 120 40 s' ∧ Ren ρ s s' ∧ H D = some (.dK kvs) ∧ (∀ x ∈ s.names, valV kvs (.inr x) = some (.str (ρ x))) ∧ Vls w H VD (copD s.owns) r ∧
  ∀ (u : V) (H' : Hp), Same H H' → Dat H' u (ansT (tabs s'.owns ((copD s'.owns).map (carR ρ s s' r)))) → Q u H'
abbrev nCd : List Str := ["saying", "other", "known", "values", "there", "name", "sight", "order", "copy", "seen", "pick", "truth"]
theorem cop_one (o : Own) : copD [o] = (seenD o.2.length).map fun t => (o.1, t) := by
  have z := cop_snoc [] o
  rw [List.nil_append] at z
  rw [z]
  rfl
section
variable {P : Program} {w : World} {K : PySem.W.Frag} {mg : Str → Option Value} {base : Heap}
theorem scCd : FnScope nCd ["saying", "other", "known", "values"] (defScope sLCarried) := ⟨rfl, rfl, rfl, by decide +kernel, rfl, by decide +kernel, by decide +kernel⟩
theorem ok_carried {f fC fT : Addr} {fd fdC fdT : FuncData} (F : Fun K "_law_carried" "_law_carried" sLCarried f fd) (B : Blt mg) (Co : Has K mg "_law_copies" sLCopies ["owns"] fC fdC) (To : Has K mg "_law_tables" sLTables ["owns", "row"] fT fdT) : FnOk P w K mg base CX0 2 f fd ["saying", "other", "known", "values"] (spCarried w) := by
  have GC : FnOk P w K mg base CX0 1 fC fdC ["owns"] spLCopies := ok_lCopies Co.F B
  have GT : FnOk P w K mg base CX0 1 fT fdT ["owns", "row"] spLTables := ok_lTables To.F B
  refine F.ok scCd (fun vs H Q E h => ?_) (fun cdv A outer s H vs Q E hr h => ?_)
  · obtain ⟨v, v', D, VD, sy, s', ρ, kvs, r, rfl, _⟩ := h
    rfl
  · obtain ⟨v, v', d, VD, sy, s', ρ, kvs, r, rfl, DS, ok, DS', ok', R, ed, vals, Vd, q⟩ := h
    have h64 : (A.deeper (envOfC "_law_carried" (defScope sLCarried) s.heap.objs.size f cdv)).units + 64 < cLine := hr.units
    have hu : (A.deeper (envOfC "_law_carried" (defScope sLCarried) s.heap.objs.size f cdv)).units + 16 < cLine := by omega
    have hu1 : (A.deeper (envOfC "_law_carried" (defScope sLCarried) s.heap.objs.size f cdv)).units + 1 < cLine := by omega
    refine ⟨_, pss_cons (ps_set (i := 4) scCd.nd rfl (.inr rfl) pe_dnewK)
      (pss_cons (ps_for PassesOwn.never rfl (pi_tup (pe_ix ix_tup (pv 0) pe_int (fun _ _ => rfl))) (pg_tup rfl (pgs_cons (pg_name (i := 5) scCd.nd rfl (.inl rfl)) (pgs_cons (pg_name (i := 6) scCd.nd rfl (.inl rfl)) pgs_nil)))
        (pss_cons (ps_set (i := 7) scCd.nd rfl (.inl rfl) (pe_callB (cr_sortW (by exact h64)) (by rfl) B.sorted (by decide +kernel) (pa_cons
          (pe_lc (own := [("pick", 10)]) (g := gName 10) (tt := tYes) (te := tDGet (tVar 2) (tVar 10)) rfl scCd.nd (pi_tup (pv 6)) (blkOk_by (N := nCd) (sc := defScope sLCarried) (by decide +kernel))
            (fun _ _ _ _ _ => pg_name (i := 10) scCd.nd rfl (Or.inl rfl)) (fun _ _ _ _ _ => pts_nil) (fun _ _ _ _ _ => by exact pe_dget (by exact hu1) (pv 2) (pv 10) (fun _ _ => rfl))) pa_nil)))
        (pss_one (ps_for PassesOwn.never rfl (pi_list (pe_call GC (by exact hr) (by rfl) Co.g Co.F.kp Co.b .nil pass0 (pa_cons (pe_tup (pa_cons (pe_tup (pa_cons (pv 5) (pa_cons (pv 6) pa_nil))) pa_nil)) pa_nil))) (pg_name (i := 8) scCd.nd rfl (.inl rfl))
          (pss_cons (ps_set (i := 9) scCd.nd rfl (.inr rfl) (pe_callTy (call_dictP rfl) (by rfl) B.dict (by decide +kernel) (pa_cons
            (pe_lc (own := [("pick", 10), ("truth", 11)]) (g := gTup K 2 (gCons (gName 10) (gCons (gName 11) gNil))) (tt := tYes) (te := tTup (tCons (tDGet (tVar 2) (tVar 10)) (tCons (tVar 11) tNil))) rfl scCd.nd (pi_zipT (by rfl) B.zip (pa_cons (pv 6) (pa_cons (pe_ix ix_tup (pv 8) pe_int (fun _ _ => rfl)) pa_nil))) (blkOk_by (N := nCd) (sc := defScope sLCarried) (by decide +kernel))
              (fun _ _ _ _ _ => by exact pg_tup rfl (pgs_cons (pg_name (i := 10) scCd.nd rfl (.inl rfl)) (pgs_cons (pg_name (i := 11) scCd.nd rfl (.inl rfl)) pgs_nil))) (fun _ _ _ _ _ => pts_nil)
              (fun _ _ _ _ _ => by exact pe_tup (pa_cons (pe_dget (by exact hu1) (pv 2) (pv 10) (fun _ _ => rfl)) (pa_cons (pv 11) pa_nil)))) pa_nil)))
          (pss_one (ps_nput (by exact hu) (pv 4) (pe_tup (pa_cons (pe_dget (by exact hu1) (pv 2) (pv 5) (fun _ _ => rfl)) (pa_cons (pe_tupleOf rfl B.tuple
            (pe_lc (own := [("pick", 10)]) (g := gName 10) (tt := tYes) (te := tDGet (tVar 9) (tVar 10)) rfl scCd.nd (pi_list (pv 7)) (blkOk_by (N := nCd) (sc := defScope sLCarried) (by decide +kernel))
              (fun _ _ _ _ _ => pg_name (i := 10) scCd.nd rfl (Or.inl rfl)) (fun _ _ _ _ _ => pts_nil) (fun _ _ _ _ _ => by exact pe_dget (by exact hu1) (pv 9) (pv 10) (fun _ _ => rfl)))) pa_nil))) (pe_nget (by exact hu) (pv 3) (pv 8) (fun _ _ => rfl)) (by rfl))))))))
      (pss_one (ps_ret (pe_call GT (by exact hr) (by rfl) To.g To.F.kp To.b .nil pass0 (pa_cons (pe_ix ix_tup (pv 1) pe_int (fun _ _ => rfl)) (pa_cons
        (pe_lc (own := [("copy", 8)]) (g := gName 8) (tt := tYes) (te := tNGet w (tVar 4) (tVar 8)) rfl scCd.nd (pi_list (pe_call GC (by exact hr) (by rfl) Co.g Co.F.kp Co.b .nil pass0 (pa_cons (pe_ix ix_tup (pv 1) pe_int (fun _ _ => rfl)) pa_nil))) (blkOk_by (N := nCd) (sc := defScope sLCarried) (by decide +kernel))
          (fun _ _ _ _ _ => pg_name (i := 8) scCd.nd rfl (Or.inl rfl)) (fun _ _ _ _ _ => pts_nil) (fun _ _ _ _ _ => by exact pe_nget (by exact hu) (pv 4) (pv 8) (fun _ _ => rfl))) pa_nil)))))), ?_⟩
    obtain ⟨a, pk, ow, cv, rfl, ea, Dp, ⟨b, us, rfl, eb, Db⟩, Dc⟩ := say_row DS
    have lus : us.length = sy.owns.length := by rw [Db.len, List.length_map]
    have ol := ok.ol
    have oc := ok.oc
    have inP : ∀ x ∈ sy.picks, x ∈ sy.names := fun x h => List.mem_append_left _ h
    have inO : ∀ o ∈ sy.owns, o.1 ∈ sy.names := fun o h => List.mem_append_right _ (List.mem_map_of_mem h)
    have getK : ∀ {x : Str} {G' : Hp}, x ∈ sy.names → Same H G' → DGet G' d (.str x) (some (.str (ρ x))) := fun {x G'} hx S => by
      have z := DGet.k (k := .inr x) (S _ _ ed)
      rw [vals x hx] at z
      exact z
    refine fun D1 hD1 => ?_
    have S1 := same_new (o := .dK []) hD1
    have hD : upd H D1 (.dK []) D1 = some (.dK []) := upd_same
    refine ⟨_, rfl, a, _, 1, _, rfl, rfl, SqT.of (S1 _ _ ea), rfl, b, rfl, ⟨_, FT.sq (FT.same eb S1)⟩, ?_⟩
    -- what stands between two turns: Z the copies that are done
    let Inv : List Cpy → Hp → Prop := fun Z G => ∃ E : List DRow, DnAt w G D1 E ∧ KeysAt G E ∧ E.length ≤ Z.length ∧ (∀ c ∈ Z, lookN E (cpD (carN ρ sy s' c)) = some (V.bl (r c))) ∧ (∀ c ∈ Z, c ∈ copD sy.owns)
    have inv_same : ∀ {Z : List Cpy} {G G' : Hp}, Inv Z G → Same G G' → Inv Z G' := fun {Z G G'} ⟨E, a, b, c, d, e⟩ S => ⟨E, a.same S, b.same S, c, d, e⟩
    refine for_tup (K := K) (a := b) (xs := us) (fun i σ G => ∃ (o5 o6 o7 o8 o9 o10 o11 : Option V), σ = [some (.ref a), some v', some (.ref d), some (.ref VD), some (.ref D1), o5, o6, o7, o8, o9, o10, o11] ∧ Same H G ∧ Inv (copD (sy.owns.take i)) G)
      ⟨_, _, _, _, _, _, _, rfl, S1, [], .inr ⟨hD, rfl⟩, fun p hp => absurd hp (by simp), Nat.zero_le _, fun c hc => absurd hc (by simp [copD]), fun c hc => absurd hc (by simp [copD])⟩
      (fun i σ G _ ⟨_, _, _, _, _, _, _, _, S, _⟩ => FT.sq (FT.same eb S)) ?_ ?_
    · rintro i x σ G hx ⟨o5, o6, o7, o8, o9, o10, o11, rfl, SG, IG⟩
      obtain ⟨dd, hdd, Dx⟩ := dats_get' Db i x hx
      obtain ⟨o, ho, rfl⟩ := get_map hdd
      obtain ⟨t, rfl⟩ := tuple_ref (ds := [.str o.1, nmsD o.2]) Dx
      obtain ⟨t', g1, g2⟩ := own_row (q := (t, ownD o)) rfl Dx
      have il : i < sy.owns.length := (List.getElem?_eq_some_iff.mp ho).1
      have om := List.mem_of_getElem? ho
      have og := ok.on o om
      have ole := (ok.own om).le
      have pl := ok.pl
      obtain ⟨o', ho', eo', pm'⟩ := R.ow o om
      have og' := ok'.on o' ho'
      have ndR : (o.2.map ρ).Nodup := pm'.nodup_iff.mp (nodup_tlt og'.2.2.1)
      refine ⟨t, _, rfl, SqT.of (SG _ _ g1), rfl, _, _, rfl, _, _, rfl, rfl, ?_⟩
      refine ⟨_, rfl, t', rfl, ⟨_, SqT.of (SG _ _ g2)⟩, fun D5 hD5 => lc_mapT (K := K) (ys := (o.2.map ρ).map V.str) (SqT.of (SG _ _ g2)) hD5 (by rw [List.length_map, List.length_map, List.length_map]) (by rw [List.length_map]; omega) (fun j x y H6 Qe hx hy S6 k => ?_) gName_mono (fun H7 e7 S7 => ?_)⟩
      · rw [List.getElem?_map] at hx
        obtain ⟨z, hz, rfl⟩ := Option.map_eq_some_iff.mp hx
        rw [List.getElem?_map, List.getElem?_map, hz] at hy
        cases hy
        exact ⟨rfl, _, rfl, _, rfl, d, _, rfl, getK (inP z (og.2.2.2 z (List.mem_of_getElem? hz))) (SG.trans S6), k H6 (Same.refl _)⟩
      refine ⟨D5, _, rfl, SqL.of e7, fun ws bw pmW upW hbw => ?_⟩
      have ews : ws = o'.2 := (pmW.trans pm'.symm).eq_of_pairwise (le := tlt) (fun x y _ _ h1 h2 => (tlt_asym h1 h2).elim) (upW ndR) og'.2.2.1
      subst ews
      have S8 := S7.trans (same_new (o := .lst (o'.2.map V.str)) hbw)
      have ebw : upd H7 bw (.lst (o'.2.map V.str)) bw = some (.lst (o'.2.map V.str)) := upd_same
      generalize upd H7 bw (.lst (o'.2.map V.str)) = H8 at S8 ebw ⊢
      have SH8 := SG.trans S8
      refine ⟨_, rfl, _, rfl, (by show 2 ≤ sizeLine; decide), fun tq htq => ⟨(by show 1 ≤ sizeLine; decide), fun tr htr => ?_⟩⟩
      have Sq := same_new (o := .tup [.str o.1, .ref t']) htq
      have Sr := same_new (o := .tup [V.ref tq]) htr
      have DOq : DatO (upd (upd H8 tq (.tup [.str o.1, .ref t'])) tr (.tup [V.ref tq])) (.ref tr) [o] := ⟨tr, _, rfl, upd_same, .cons (.tup (Sr _ _ upd_same) (.cons (.str _) (.cons (.tup ((Sq.trans Sr) _ _ (SH8 _ _ g2)) (dats_strs o.2)) .nil))) .nil⟩
      have S9 := S8.trans (Sq.trans Sr)
      have ebw9 := (Sq.trans Sr) _ _ ebw
      generalize upd (upd H8 tq (.tup [.str o.1, .ref t'])) tr (.tup [V.ref tq]) = H9 at S9 DOq ebw9 ⊢
      have p64 : 2 ^ o.2.length ≤ 2 ^ 6 := Nat.pow_le_pow_right (by decide) (by omega)
      refine ⟨_, _, rfl, DOq, ⟨by show 1 ≤ 8; decide, by show 2 ^ o.2.length + 0 ≤ 120; omega, fun o2 h2 => by rw [List.mem_singleton.mp h2]; omega⟩, fun lc HA RA => ?_⟩
      have SA := S9.trans RA.S
      have SHA := SG.trans SA
      obtain ⟨T, eT, dT, DT⟩ := RA.ex
      rw [cop_one] at dT
      have lT : T.length = (seenD o.2.length).length := by rw [← List.length_map (f := Prod.snd), dT, List.length_map, List.length_map]
      have ebwA := RA.S _ _ ebw9
      have IA := inv_same IG SA
      have n1 : D1 ≠ lc := fun z => by
        obtain ⟨E, dE, _⟩ := inv_same IG S9
        rcases dE with e | ⟨e, _⟩ <;> rw [z, RA.new] at e <;> cases e
      have n2 : bw ≠ D1 := fun z => by
        obtain ⟨E, dE, _⟩ := IA
        rcases dE with e | ⟨e, _⟩ <;> rw [← z, ebwA] at e <;> cases e
      refine ⟨lc, rfl, ⟨_, SqL.of eT⟩, ?_⟩
      refine for_list (K := K) (a := lc) (xs := T.map TRow.v) (fun j σ G4 => ∃ (o8 o9 o10 o11 : Option V), σ = [some (.ref a), some v', some (.ref d), some (.ref VD), some (.ref D1), some (.str o.1), some (.ref t'), some (.ref bw), o8, o9, o10, o11] ∧ Sb [D1] HA G4 ∧ Same H G4 ∧ Inv (copD (sy.owns.take i) ++ ((seenD o.2.length).take j).map fun t => (o.1, t)) G4 ∧ ∀ q ∈ T, Dat G4 q.v q.2)
        ⟨_, _, _, _, rfl, Sb.refl, SHA, by rw [List.take_zero, List.map_nil, List.append_nil]; exact IA, DT⟩ (fun j σ G4 _ ⟨_, _, _, _, _, B, _⟩ => SqL.of (B _ _ (by simpa using n1.symm) eT)) ?_ ?_
      · rintro j x σ G4 hx ⟨o8, o9, o10, o11, rfl, B4, SH4, I4, DT4⟩
        rw [List.getElem?_map] at hx
        obtain ⟨y, hy, rfl⟩ := Option.map_eq_some_iff.mp hx
        have ey : (((seenD o.2.length).map fun t => ((o.1, t) : Cpy)).map cpD)[j]? = some y.2 := by rw [← dT, List.getElem?_map, hy]; rfl
        obtain ⟨c, hc, ec⟩ := get_map ey
        rw [List.getElem?_map] at hc
        obtain ⟨st, hst, rfl⟩ := Option.map_eq_some_iff.mp hc
        have lst := seen_bits _ _ (List.mem_of_getElem? hst)
        have Dy := DT4 y (List.mem_of_getElem? hy)
        rw [ec] at Dy
        obtain ⟨yt, ys0, eyt, eyt2, Dy2⟩ := dat_tup (ds := [.str o.1, blsD st]) Dy
        injection eyt with eyt
        subst eyt
        obtain ⟨ts, rfl, ets⟩ : ∃ ts, ys0 = [.str o.1, .ref ts] ∧ G4 ts = some (.tup (st.map V.bl)) := by
          cases Dy2 with
          | cons a1 b1 =>
            cases b1 with
            | cons a2 b2 =>
              cases b2
              cases a1
              obtain ⟨ts, rfl, e⟩ := bls_row a2
              exact ⟨ts, rfl, e⟩
        have ebw4 := B4 _ _ (by simpa using n2) ebwA
        have jl : j < (seenD o.2.length).length := (List.getElem?_eq_some_iff.mp hst).1
        have g24 := SH4 _ _ g2
        refine ⟨_, rfl, _, rfl, y.1, _, 1, _, rfl, rfl, SqT.of eyt2, rfl, t', ts, _, _, rfl, SqT.of g24, SqT.of ets, fun DL hDL => ?_⟩
        refine lc_it (walk_zipT (K := K) (a := t') (b := ts) (xs := o.2.map V.str) (ys := st.map V.bl) (n := o.2.length) (List.length_map ..) (by rw [List.length_map, lst])) (fun k H6 => Prs H6 DL (truK ((o.2.map ρ).take k) (st.take k)) ∧ Same G4 H6) ⟨Prs.nil upd_same, same_new hDL⟩ (fun k H6 _ h => ⟨SqT.of (h.2 _ _ g24), SqT.of (h.2 _ _ ets)⟩) ?_ ?_
        · rintro k x H6 H6' hk ⟨L6, S6⟩ ⟨tp, x1, x2, rfl, htp, rfl, hx1, hx2⟩
          replace hx1 : (o.2.map V.str)[k]? = some x1 := hx1
          replace hx2 : (st.map V.bl)[k]? = some x2 := hx2
          rw [List.getElem?_map] at hx1 hx2
          obtain ⟨y1, hy1, rfl⟩ := Option.map_eq_some_iff.mp hx1
          obtain ⟨y2, hy2, rfl⟩ := Option.map_eq_some_iff.mp hx2
          have S5 := same_new (o := .tup [V.str y1, .bl y2]) htp
          have etp : upd H6 tp (.tup [V.str y1, .bl y2]) tp = some (.tup [V.str y1, .bl y2]) := upd_same
          have L7 := L6.same S5
          have S46 := S6.trans S5
          generalize upd H6 tp (.tup [V.str y1, .bl y2]) = H7 at etp L7 S46 ⊢
          refine ⟨tp, _, rfl, SqT.of etp, rfl, _, _, rfl, _, _, rfl, rfl, rfl, yes_of ⟨_, rfl, _, rfl, d, _, rfl, getK (inP y1 (og.2.2.2 y1 (List.mem_of_getElem? hy1))) (SH4.trans S46), _, rfl, (by show 2 ≤ sizeLine; decide), fun tw htw => ?_⟩⟩
          have S8 := same_new (o := .tup [V.str (ρ y1), .bl y2]) htw
          have L8 := L7.same S8
          obtain ⟨xs, ex, lx⟩ := L8.len
          have lb : (st.take k).length = ((o.2.map ρ).take k).length := by rw [List.length_take, List.length_take, List.length_map, lst]
          have hρ : (o.2.map ρ)[k]? = some (ρ y1) := by rw [List.getElem?_map, hy1]; rfl
          refine ⟨xs, ex, ?_, ?_, same_upd (S46.trans S8) hDL⟩
          · rw [lx, tru_len _ _ lb, List.length_take, List.length_map]
            exact small1000 (by omega)
          · rw [take_next hρ, take_next hy2, tru_snoc _ _ _ _ lb]
            exact L8.push ex upd_same
        · rintro H6 ⟨L6, S6⟩
          have lR : (o.2.map ρ).length = o.2.length := List.length_map ..
          rw [List.take_of_length_le (by omega), List.take_of_length_le (by omega)] at L6
          obtain ⟨qs, e1, e2, e3⟩ := L6
          have lb : st.length = (o.2.map ρ).length := by rw [lR, lst]
          refine ⟨DL, qs, _, rfl, SqL.of e1, paired_of _ _ e2 fun i q kv h1 h2 => SqT.of (e3 i q kv h1 h2), fun p hp => ?_⟩
          rw [tru_merge st ndR]
          have S7 := S6.trans (same_new (o := .dK (truK (o.2.map ρ) st)) hp)
          have ep : upd H6 p (.dK (truK (o.2.map ρ) st)) p = some (.dK (truK (o.2.map ρ) st)) := upd_same
          generalize upd H6 p (.dK (truK (o.2.map ρ) st)) = H7 at S7 ep ⊢
          have SH7 := SH4.trans S7
          obtain ⟨EV, dV, kV, lV⟩ := Vd.same SH7
          have cm : ((o.1, st) : Cpy) ∈ copD sy.owns := mem_cop.mpr ⟨o, om, rfl, List.mem_of_getElem? hst⟩
          refine ⟨_, rfl, _, rfl, VD, y.1, EV, cpD (o.1, st), _, rfl, rfl, dV, kV, Dy.same S7, keyable_cp _, enc_cp.d _, lV _ cm, ?_⟩
          refine ⟨_, rfl, _, rfl, _, rfl, d, _, rfl, getK (inO o om) SH7, _, rfl, bw, rfl, ⟨_, SqL.of (S7 _ _ ebw4)⟩, fun DR hDR => ?_⟩
          have tval : ∀ y ∈ o'.2, ∃ b, truOf (o.2.map ρ) st y = some b ∧ b = ((((o.2.map ρ).zip st).find? fun p => decide (p.1 = y)).map Prod.snd).getD false := fun y hy => by
            obtain ⟨b, hb⟩ := tru_some lb (pm'.mem_iff.mp hy)
            refine ⟨b, hb, ?_⟩
            unfold truOf at hb
            rw [hb]
            rfl
          refine lc_list (K := K) (a := bw) (xs := o'.2.map V.str) (fun k H8 => H8 DR = some (.lst (((carT ρ o o' st).take k).map V.bl)) ∧ Same H7 H8) ⟨upd_same, same_new hDR⟩ (fun k H8 _ h => SqL.of (h.2 _ _ (S7 _ _ ebw4))) ?_ ?_
          · rintro k x H8 hx ⟨e8, S8⟩
            rw [List.getElem?_map] at hx
            obtain ⟨y1, hy1, rfl⟩ := Option.map_eq_some_iff.mp hx
            obtain ⟨b1, hb1, eb1⟩ := tval y1 (List.mem_of_getElem? hy1)
            have hv : valV (truK (o.2.map ρ) st) (.inr y1) = some (.bl b1) := by rw [tru_val, hb1]; rfl
            have hg : DGet H8 p (.str y1) (some (.bl b1)) := by
              have z := DGet.k (k := .inr y1) (S8 _ _ ep)
              rw [hv] at z
              exact z
            have kl : k < o'.2.length := (List.getElem?_eq_some_iff.mp hy1).1
            have l6 : o'.2.length = o.2.length := by rw [pm'.length_eq, List.length_map]
            refine ⟨rfl, yes_of ⟨_, rfl, _, rfl, p, _, rfl, hg, _, e8, ?_, ?_, same_upd S8 hDR⟩⟩
            · rw [List.length_map, List.length_take]
              exact small1000 (by omega)
            · have hb : (carT ρ o o' st)[k]? = some b1 := by
                unfold carT
                rw [List.getElem?_map, hy1, eb1]
                rfl
              rw [upd_same, take_next hb, List.map_append]
              rfl
          · rintro H8 ⟨e8, S8⟩
            have l6 : (carT ρ o o' st).length = o'.2.length := by unfold carT; rw [List.length_map]
            rw [List.length_map, ← l6, List.take_length] at e8
            refine .inl ⟨DR, _, rfl, SqL.of e8, fun tw htw => ⟨(by show 2 ≤ sizeLine; decide), fun tz htz => ?_⟩⟩
            have Sw := same_new (o := .tup ((carT ρ o o' st).map V.bl)) htw
            have Sz := same_new (o := .tup [.str (ρ o.1), .ref tw]) htz
            have SA' := S7.trans (S8.trans (Sw.trans Sz))
            have Dk : Dat (upd (upd H8 tw (.tup ((carT ρ o o' st).map V.bl))) tz (.tup [.str (ρ o.1), .ref tw])) (.ref tz) (cpD (carN ρ sy s' (o.1, st))) := by
              rw [car_own ok ok' om ho' eo']
              exact .tup upd_same (.cons (.str _) (.cons (.tup (Sz _ _ upd_same) (dats_bls _)) .nil))
            generalize upd (upd H8 tw (.tup ((carT ρ o o' st).map V.bl))) tz (.tup [.str (ρ o.1), .ref tw]) = HB at SA' Dk ⊢
            obtain ⟨E, dE, kE, lE, look, inS⟩ := inv_same I4 SA'
            have lE2 : E.length ≤ 240 := by
              refine Nat.le_trans lE ?_
              rw [List.length_append, cop_len, List.length_map, List.length_take]
              have := copies_take sy.owns i
              rw [seen_len]
              omega
            refine ⟨D1, tz, E, _, rfl, rfl, dE, kE, Dk, keyable_cp _, enc_cp.d _, small16 (by omega), ?_⟩
            have nD1 : ∀ {x : Addr} {o : HO}, H x = some o → x ≠ D1 := fun {x o} e z => by rw [z, hD1] at e; cases e
            have TU : Tups HB (upd HB D1 (DnO w D1 (putN E (tz, cpD (carN ρ sy s' (o.1, st))) (V.bl (r (o.1, st)))))) := Tups.upd (dn_noTup dE)
            refine ⟨_, _, _, _, rfl, (B4.same SA').put (by simp), same_upd (SH4.trans SA') hD1, ⟨putN E (tz, cpD (carN ρ sy s' (o.1, st))) (V.bl (r (o.1, st))), .inl upd_same, keys_tups (keys_put kE Dk (keyable_cp _) (enc_cp.d _)) TU, ?_, fun c hc => ?_, fun c hc => ?_⟩, fun q hq => ?_⟩
            · refine Nat.le_trans (putN_len _ _ _) ?_
              rw [take_next hst, List.map_append, ← List.append_assoc, List.length_append]
              exact Nat.succ_le_succ lE
            · rw [take_next hst, List.map_append, ← List.append_assoc] at hc
              rw [look_put]
              have cin : c ∈ copD sy.owns := (List.mem_append.mp hc).elim (fun z => inS c z) fun z => by rw [List.mem_singleton.mp z]; exact cm
              by_cases z : c = (o.1, st)
              · rw [z, if_pos rfl]
              · rw [if_neg (fun y => z (car_inj R ok ok' cm cin (nkey_cpD.mp y)).symm)]
                exact look c ((List.mem_append.mp hc).elim id fun y => absurd (List.mem_singleton.mp y) z)
            · rw [take_next hst, List.map_append, ← List.append_assoc] at hc
              exact (List.mem_append.mp hc).elim (fun z => inS c z) fun z => by rw [List.mem_singleton.mp z]; exact cm
            · have kq : keyable q.2 = true := by
                have m : q.2 ∈ ((seenD o.2.length).map fun t => ((o.1, t) : Cpy)).map cpD := dT ▸ List.mem_map_of_mem hq
                obtain ⟨z, _, hz⟩ := List.mem_map.mp m
                rw [← hz]
                exact keyable_cp z
              exact TU.dat kq ((DT4 q hq).same SA')
      · rintro σ G4 ⟨o8, o9, o10, o11, rfl, B4, SH4, I4, DT4⟩
        refine ⟨_, _, _, _, _, _, _, rfl, SH4, ?_⟩
        rw [List.length_map, lT, List.take_length] at I4
        rw [take_next ho, cop_snoc]
        exact I4
    · rintro σ G ⟨o5, o6, o7, o8, o9, o10, o11, rfl, SG, IG⟩
      rw [lus, List.take_length] at IG
      obtain ⟨a', pk', ow', cv', rfl, ea', Dp', Do', Dc'⟩ := say_row DS'
      have oo' := ows_ok ok' (by decide) (by decide) (by decide)
      have oc' := ok'.oc
      refine ⟨_, rfl, a', _, 1, _, rfl, rfl, SqT.of (SG _ _ ea'), rfl, _, rfl, a', _, 1, _, rfl, rfl, SqT.of (SG _ _ ea'), rfl, ow', s'.owns, rfl, Do'.same SG, oo', fun lc HA RA => ?_⟩
      obtain ⟨T, eT, dT, DT⟩ := RA.ex
      have lT : T.length = copies s'.owns := by rw [← List.length_map (f := Prod.snd), dT, List.length_map, cop_len]
      obtain ⟨E, dE, kE, lE, look, inS⟩ := inv_same IG RA.S
      refine ⟨lc, rfl, ⟨_, SqL.of eT⟩, fun DR hDR => ?_⟩
      refine lc_list (K := K) (a := lc) (xs := T.map TRow.v) (fun i H4 => H4 DR = some (.lst ((((copD s'.owns).take i).map (carR ρ sy s' r)).map V.bl)) ∧ Same HA H4) ⟨upd_same, same_new hDR⟩ (fun i H4 _ h => SqL.of (h.2 _ _ eT)) ?_ ?_
      · rintro i x H4 hx ⟨e4, S4⟩
        rw [List.getElem?_map] at hx
        obtain ⟨y, hy, rfl⟩ := Option.map_eq_some_iff.mp hx
        have ey : ((copD s'.owns).map cpD)[i]? = some y.2 := by rw [← dT, List.getElem?_map, hy]; rfl
        obtain ⟨c', hc', ec⟩ := get_map ey
        have Dy := (DT y (List.mem_of_getElem? hy)).same S4
        rw [ec] at Dy
        have il : i < copies s'.owns := by rw [← lT]; exact (List.getElem?_eq_some_iff.mp hy).1
        obtain ⟨c, hc, rfl⟩ := car_onto R ok ok' (List.mem_of_getElem? hc')
        have lk := look c hc
        rw [← carR_at R ok ok' r hc] at lk
        refine ⟨rfl, yes_of ⟨_, rfl, _, rfl, D1, y.1, E, _, _, rfl, rfl, dE.same S4, kE.same S4, Dy, keyable_cp _, enc_cp.d _, lk, _, e4, ?_, ?_, same_upd S4 hDR⟩⟩
        · rw [List.length_map, List.length_map, List.length_take]
          exact small1000 (by omega)
        · rw [upd_same, take_next hc', List.map_append, List.map_append]
          rfl
      · rintro H4 ⟨e4, S4⟩
        rw [List.length_map, lT, ← cop_len, List.take_length] at e4
        have S14 := SG.trans (RA.S.trans S4)
        obtain ⟨ao, fl⟩ := tabs_ok s'.owns ((copD s'.owns).map (carR ρ sy s' r)) (by rw [List.length_map, cop_len])
        exact ⟨ow', DR, s'.owns, _, rfl, Do'.same S14, oo', ao, by rw [fl]; exact e4, fun u H5 S5 Du => q u H5 (S14.trans S5) Du⟩
end
end S1

set_option Elab.async false
set_option linter.all false
set_option maxRecDepth 100000
set_option maxHeartbeats 4000000
/-! _law_right -/
namespace S1
open PySem PySem.W PySem.Spec PyProof.Rows L2
theorem ife_join {c : Prop} [Decidable c] {t u : TE} {σ : L2.St} {H : Hp} {K : V → Hp → Prop} (R : V → Hp → Prop) (k : ∀ v H', R v H' → K v H') (h1 : c → (∀ v H', R v H' → K v H') → t σ H K) (h2 : ¬ c → (∀ v H', R v H' → K v H') → u σ H K) : if c then t σ H K else u σ H K := by
  by_cases h : c
  · rw [if_pos h]; exact h1 h k
  · rw [if_neg h]; exact h2 h k
/-- what is forced of a saying -/
structure FoOk (s : Say) (F : List Cpy) : Prop where
  M : MeetsM (fun c => decide (c ∈ F)) (toldA s)
  low : ∀ r, MeetsM r (toldA s) → ∀ c ∈ F, r c = true
theorem FoOk.cop {s : Say} {F : List Cpy} (h : FoOk s F) (ok : SayOk 6 8 120 40 s) : ∀ c ∈ F, c ∈ copD s.owns := fun c hc => by
  have hS := marks_ok ok (S := toldA s) fun _ => Iff.rfl
  have z := h.low (fun c => decide (c ∈ F) && decide (c ∈ copD s.owns)) ((meets_agree hS fun c hc => by rw [decide_eq_true hc, Bool.and_true]).mpr h.M) c hc
  rw [Bool.and_eq_true] at z
  exact of_decide_eq_true z.2
theorem lt_carF {ρ : Str → Str} {s s' : Say} (R : Ren ρ s s') (ok : SayOk 6 8 120 40 s) (ok' : SayOk 6 8 120 40 s') {F : List Cpy} (h : FoOk s F) : LTS s' (ansT (tabs s'.owns ((copD s'.owns).map (carR ρ s s' fun c => decide (c ∈ F))))) := by
  have hS := marks_ok ok (S := toldA s) fun _ => Iff.rfl
  refine .inr ⟨carR ρ s s' fun c => decide (c ∈ F), (meets_car R ok ok' _).mpr ((meets_agree hS fun c hc => carR_at R ok ok' (fun c => decide (c ∈ F)) hc).mpr h.M), fun r' m c' hc' h' => ?_, rfl⟩
  obtain ⟨c, hc, rfl⟩ := car_onto R ok ok' hc'
  rw [carR_at R ok ok' _ hc] at h'
  exact h.low _ ((meets_car R ok ok' r').mp m) c (of_decide_eq_true h')
theorem Mks.dr {H G : Hp} {l p : Addr} {S : List (List Mk)} {c c0 : Nat} (h : Mks H l S) (d : Dr H p c G) (hs : Src H p c0) (n : l ≠ p) : Mks G l S := by
  obtain ⟨T, e, dT, DT⟩ := h
  refine ⟨T, d.keep e n, dT, fun q hq => d.dat hs ?_ (DT q hq)⟩
  have m : q.2 ∈ S.map mksD := dT ▸ List.mem_map_of_mem hq
  obtain ⟨z, _, hz⟩ := List.mem_map.mp m
  rw [← hz]
  exact enc_mks.k z
theorem lt_none {s : Say} (l : LTS s .none) : ∀ r, ¬ MeetsM r (toldA s) := by
  rcases l with ⟨_, n⟩ | ⟨L, M, low, e⟩
  · exact n
  · cases e
def spRight (w : World) : Sp := fun vs H Q _ => ∃ (p : Addr) (c : Nat) (v : V) (VD : Addr) (nb : Bool) (s : Say) (r : Cpy → Bool), vs = [.ref p, v, .ref VD, .bl nb] ∧ Src H p c ∧ c ≤ 60000 ∧ DatS H v s ∧ SayOk 6 8 120 40 s ∧ (s.cls.map (plainC s)).all id = true ∧ VD ≠ p ∧ VlX w H VD (copD s.owns) r ∧
  ∀ (H' : Hp), Dr H p (c + 100) H' → Q (.bl true) H'
abbrev nRt : List Str := ["tank", "saying", "values", "named", "told", "other", "known", "due", "turn", "answers", "forced", "carried", "copy"]
section
variable {P : Program} {w : World} {K : PySem.W.Frag} {mg : Str → Option Value} {base : Heap}
theorem scRt : FnScope nRt ["tank", "saying", "values", "named"] (defScope sLRight) := ⟨rfl, rfl, rfl, by decide +kernel, rfl, by decide +kernel, by decide +kernel⟩
theorem ok_right {f fT fR fD fL fO fI fC : Addr} {fd fdT fdR fdD fdL fdO fdI fdC : FuncData} (F : Fun K "_law_right" "_law_right" sLRight f fd) (B : Blt mg) (zr : mg "repr" = none) (ny : mg "any" = none) (To : Has K mg "_law_told" sLTold ["saying"] fT fdT) (GT : FnOk P w K mg base CX0 2 fT fdT ["saying"] (spLTold w)) (Re : Has K mg "_law_renamed" sLRenamed ["tank", "saying"] fR fdR) (GR : FnOk P w K mg base CX0 2 fR fdR ["tank", "saying"] spRenamed)
    (Du : Has K mg "_law_least" sLLeast ["owns", "told"] fD fdD) (GD : FnOk P w K mg base CX0 2 fD fdD ["owns", "told"] spLLeast) (Le : Has K mg "least_true" sLeastTrue ["saying"] fL fdL) (GL : FnOk P w K mg base CX0 8 fL fdL ["saying"] spLeastTrue) (Fo : Has K mg "_law_forced" sLForced ["told"] fO fdO) (Is : Has K mg "_law_is_so" sLIsSo ["told", "values"] fI fdI)
    (Ca : Has K mg "_law_carried" sLCarried ["saying", "other", "known", "values"] fC fdC) (GC : FnOk P w K mg base CX0 2 fC fdC ["saying", "other", "known", "values"] (spCarried w)) : FnOkG P w K mg base 9 f fd ["tank", "saying", "values", "named"] (spRight w) := by
  have GO : FnOk P w K mg base CX0 1 fO fdO ["told"] (spForced w) := ok_forced Fo.F B
  have GI : FnOk P w K mg base CX0 1 fI fdI ["told", "values"] (spIsSo w) := ok_isSo Is.F ny
  refine F.okG scRt (fun vs H Q E h => ?_) (fun cdv A outer s H vs Q E hG0 hr h => ?_)
  · obtain ⟨p, c, v, VD, nb, sy, r, rfl, _⟩ := h
    rfl
  · obtain ⟨p, c, v, VD, nb, sy, r, rfl, hs, hc, DS, ok, pl, nVp, VX, q⟩ := h
    have hr1 := hr.mono (show 1 ≤ 8 by decide)
    have hr2 := hr.mono (show 2 ≤ 8 by decide)
    have hG : (A.deeper (envOfC "_law_right" (defScope sLRight) s.heap.objs.size f cdv)).guards = some [] := hG0
    have h64 : (A.deeper (envOfC "_law_right" (defScope sLRight) s.heap.objs.size f cdv)).units + 64 < cLine := hr1.units
    have hu : (A.deeper (envOfC "_law_right" (defScope sLRight) s.heap.objs.size f cdv)).units + 16 < cLine := by omega
    refine ⟨_, pss_cons (ps_asg (pe_tup (pa_cons (pe_call GT hr2 rfl To.g To.F.kp To.b .nil pass0 (pa_cons (pv 1) pa_nil)) (pa_cons (pe_call GR hr2 rfl Re.g Re.F.kp Re.b .nil pass0 (pa_cons (pv 0) (pa_cons (pv 1) pa_nil))) pa_nil)))
        (pg_tup rfl (pgs_cons (pg_name (i := 4) scRt.nd rfl (.inl rfl)) (pgs_cons (pg_tup rfl (pgs_cons (pg_name (i := 5) scRt.nd rfl (.inl rfl)) (pgs_cons (pg_name (i := 6) scRt.nd rfl (.inl rfl)) pgs_nil))) pgs_nil))))
      (pss_cons (ps_set (i := 7) scRt.nd rfl (.inl rfl) (pe_call GD hr2 rfl Du.g Du.F.kp Du.b .nil pass0 (pa_cons (pe_ix ix_tup (pv 1) pe_int (fun _ _ => rfl)) (pa_cons (pv 4) pa_nil))))
      (pss_cons (ps_for PassesOwn.never rfl (pi_range1 rfl B.range (pa_cons pe_int pa_nil)) (pg_name (i := 8) scRt.nd rfl (.inl rfl))
        (pss_cons (ps_set (i := 9) scRt.nd rfl (.inl rfl) (pe_ifExp (pt_val (pv 3)) (pe_callK0 GL hr rfl Le.g Le.F.kp (kb_least Le.F) pass0 (pk_cons (pv 1) pk_nil)) (pe_call GL hr rfl Le.g Le.F.kp Le.b .nil pass0 (pa_cons (pv 1) pa_nil))))
        (pss_one (ps_if (pt_cmpR op_ne (pe_callB (call_reprD hG (by exact h64)) (by rfl) zr (by decide +kernel) (pa_cons (pv 9) pa_nil)) (pe_callB (call_reprD hG (by exact h64)) (by rfl) zr (by decide +kernel) (pa_cons (pv 7) pa_nil)) (nomark _)) (pss_one (ps_ret pe_bl)) pss_nil))))
      (pss_cons (ps_if (pt_cmpR op_isN (pv 7) pe_non (nomark _)) (pss_one (ps_ret (pe_ifExp (pt_val (pv 3)) (pe_cmpR op_isN (pe_callK0 GL hr rfl Le.g Le.F.kp (kb_least Le.F) pass0 (pk_cons (pv 5) pk_nil)) pe_non (nomark _)) (pe_cmpR op_isN (pe_call GL hr rfl Le.g Le.F.kp Le.b .nil pass0 (pa_cons (pv 5) pa_nil)) pe_non (nomark _))))) pss_nil)
      (pss_cons (ps_set (i := 10) scRt.nd rfl (.inr rfl) (pe_call GO hr1 rfl Fo.g Fo.F.kp Fo.b .nil pass0 (pa_cons (pv 4) pa_nil)))
      (pss_cons (ps_if (PW.pt (pw_and (pt_val (pe_call GI hr1 rfl Is.g Is.F.kp Is.b .nil pass0 (pa_cons (pv 4) (pa_cons (pv 2) pa_nil)))) (pw_and1 (pt_not (pt_val (pe_callB (cr_all rfl) (by rfl) B.all (by decide +kernel) (pa_cons
          (pe_lock (pe_lc (own := [("copy", 12)]) (g := gName 12) (tt := tYes) (te := tNGet w (tVar 2) (tVar 12)) rfl scRt.nd (pi_keysN (pv 10)) (blkOk_by (N := nRt) (sc := defScope sLRight) (by decide +kernel))
            (fun _ _ _ _ _ => pg_name (i := 12) scRt.nd rfl (Or.inl rfl)) (fun _ _ _ _ _ => pts_nil) (fun _ _ _ _ _ => by exact pe_nget (by exact hu) (pv 2) (pv 12) (fun _ _ => rfl)))) pa_nil))))))) (pss_one (ps_ret pe_bl)) pss_nil)
      (pss_cons (ps_set (i := 11) scRt.nd rfl (.inl rfl) (pe_call GC hr2 rfl Ca.g Ca.F.kp Ca.b .nil pass0 (pa_cons (pv 1) (pa_cons (pv 5) (pa_cons (pv 6) (pa_cons (pe_callTy (call_dictN rfl (by exact hu)) (by rfl) B.dict (by decide +kernel) (pa_cons
          (pe_lock (pe_lc (own := [("copy", 12)]) (g := gName 12) (tt := tYes) (te := tTup (tCons (tVar 12) (tCons (tOp (rInN id w) (tVar 12) (tVar 10)) tNil))) rfl scRt.nd (pi_keysN (pv 2)) (blkOk_by (N := nRt) (sc := defScope sLRight) (by decide +kernel))
            (fun _ _ _ _ _ => pg_name (i := 12) scRt.nd rfl (Or.inl rfl)) (fun _ _ _ _ _ => pts_nil) (fun _ _ _ _ _ => by exact pe_tup (pa_cons (pv 12) (pa_cons (pe_cmpR (op_inN (by exact hu)) (pv 12) (pv 10) (by with_unfolding_all rfl)) pa_nil))))) pa_nil)) pa_nil))))))
      (pss_one (ps_ret (pe_cmpR op_eq (pe_callB (call_reprD hG (by exact h64)) (by rfl) zr (by decide +kernel) (pa_cons (pe_call GL hr rfl Le.g Le.F.kp Le.b .nil pass0 (pa_cons (pv 5) pa_nil)) pa_nil)) (pe_callB (call_reprD hG (by exact h64)) (by rfl) zr (by decide +kernel) (pa_cons (pv 11) pa_nil)) (nomark _)))))))))), ?_⟩
    have oo := ows_ok ok (by decide) (by decide) (by decide)
    refine ⟨_, rfl, v, sy, rfl, DS, ok, fun lt H1 S S1 hlt Ms iff lS => ?_⟩
    have hs1 : Src H1 p c := ((Dr.start hs).same S1).s
    have nlp : lt ≠ p := (Dr.start hs).ne hlt
    refine ⟨_, rfl, _, rfl, p, _, v, sy, rfl, hs1, hc, DS.same S1, ok, fun tr D u' s' ρ kvs H2 d2 etr DS' ok' R ed vals => ⟨(by show 2 ≤ sizeLine; decide), fun tq htq => ?_⟩⟩
    have pl' := ren_plain R ok ok' pl
    have oo' := ows_ok ok' (by decide) (by decide) (by decide)
    have Ms2 := Ms.dr d2 hs1 nlp
    have VX2 := (VX.same S1).dr d2 hs1 nVp
    have DS2 := (DS.same S1).dr d2 hs1
    have dH2 := ((Dr.start hs).same S1).trans d2
    have S3 := same_new (o := .tup [V.ref lt, .ref tr]) htq
    have etq : upd H2 tq (.tup [V.ref lt, .ref tr]) tq = some (.tup [V.ref lt, .ref tr]) := upd_same
    have Ms3 := Ms2.same S3
    have VX3 := VX2.same S3
    have DS3 := DS2.same S3
    have DS3' := DS'.same S3
    have ed3 := S3 _ _ ed
    have etr3 := S3 _ _ etr
    have d3 := dH2.same S3
    generalize upd H2 tq (.tup [V.ref lt, .ref tr]) = H3 at etq Ms3 VX3 DS3 DS3' ed3 etr3 d3 ⊢
    clear Ms2 VX2 DS2 DS' ed etr S3 htq
    refine ⟨tq, _, rfl, SqT.of etq, rfl, _, _, rfl, _, _, rfl, tr, _, rfl, SqT.of etr3, rfl, _, _, rfl, _, _, rfl, rfl, rfl, ?_⟩
    obtain ⟨a, pk, ow, cv, rfl, ea, Dp, Do, Dc⟩ := say_row DS3
    refine ⟨_, rfl, a, _, 1, _, rfl, rfl, SqT.of ea, rfl, _, rfl, ow, sy.owns, lt, S, rfl, Do, oo, Ms3, easy_marks ok pl iff, lS, fun u4 H4 dd S4 l4 Du4 => ?_⟩
    have ltd : LTS sy dd := l4.congr iff
    have st := shw_ltm oo ltd
    have conv : ∀ {s1 : Say} {d1 : PyData} {u3 : V} {H3 : Hp}, SayOk 6 8 120 40 s1 → LTS s1 d1 → (u3 = .non ∧ (∀ r, ¬ Meets r (toldS s1 s1.cls)) ∨ ∃ t : Nat, Meets (fun i => t.testBit i) (toldS s1 s1.cls) ∧ (∀ r, Meets r (toldS s1 s1.cls) → ∀ i, t.testBit i = true → r i = true) ∧ Dat H3 u3 (ansT (tabs s1.owns (rowOf (copies s1.owns) t)))) → Dat H3 u3 d1 := by
      intro s1 d1 u3 H3 ok1 l1 h
      obtain ⟨d3, lt3, D3⟩ := lt_prog ok1 h
      rw [l1.uniq lt3]
      exact D3
    have DS4 := DS3.same S4
    refine ⟨2, rfl, by decide, by decide, ?_⟩
    refine for_range (lo := 0) (n := 2) (fun i σ G => ∃ (o8 o9 o10 o11 o12 : Option V), σ = [some (.ref p), some (.ref a), some (.ref VD), some (.bl nb), some (.ref lt), some u', some (.ref D), some u4, o8, o9, o10, o11, o12] ∧ Same H4 G) ⟨_, _, _, _, _, rfl, Same.refl _⟩ ?_ ?_
    · rintro i σ G hi ⟨o8, o9, o10, o11, o12, rfl, SG⟩
      refine ⟨_, rfl, nb, rfl, ?_⟩
      refine ife_join (fun u3 G3 => Same G G3 ∧ Dat G3 u3 dd) (fun u3 G3 ⟨S5, D5⟩ => ?_) (fun _ k => ?_) (fun _ k => ?_)
      · refine ⟨_, rfl, u3, dd, rfl, D5, st.s, Nat.le_trans st.d (by decide), Nat.le_trans st.z (by decide), _, rfl, u4, dd, rfl, Du4.same (SG.trans S5), st.s, Nat.le_trans st.d (by decide), Nat.le_trans st.z (by decide), rfl, _, rfl, ?_⟩
        have eT : (!decide ((V.str dd.shown) = V.str dd.shown)) = false := by simp
        show if (!decide ((V.str dd.shown) = V.str dd.shown)) = true then _ else _
        rw [eT, if_neg (by decide)]
        exact ⟨_, _, _, _, _, rfl, SG.trans S5⟩
      · exact ⟨_, rfl, rfl, .ref a, sy, rfl, DS4.same SG, ok, pl, fun u3 G3 S3 h => k u3 G3 ⟨S3, conv ok ltd h⟩⟩
      · exact ⟨_, rfl, .ref a, sy, rfl, DS4.same SG, ok, pl, fun u3 G3 S3 h => k u3 G3 ⟨S3, conv ok ltd h⟩⟩
    rintro σ G ⟨o8, o9, o10, o11, o12, rfl, SG⟩
    have S3G := S4.trans SG
    have dG := d3.same S3G
    rcases lt_car R ok ok' ltd with ⟨rfl, ltN⟩ | ⟨L, _, _, rfl, _⟩
    · cases Du4
      refine ⟨_, rfl, rfl, _, rfl, ?_⟩
      show if true = true then _ else _
      rw [if_pos rfl]
      refine ⟨_, rfl, nb, rfl, ?_⟩
      have nonD : ∀ {u3 : V} {G3 : Hp}, Dat G3 u3 .none → u3 = .non := fun D => by cases D; rfl
      cases nb with
      | true =>
        show if true = true then _ else _
        rw [if_pos rfl]
        refine ⟨_, rfl, rfl, u', s', rfl, DS3'.same S3G, ok', pl', fun u3 G3 S3 h => ?_⟩
        cases nonD (conv ok' ltN h)
        exact ⟨rfl, q _ (dG.same S3)⟩
      | false =>
        show if false = true then _ else _
        rw [if_neg (by decide)]
        refine ⟨_, rfl, u', s', rfl, DS3'.same S3G, ok', pl', fun u3 G3 S3 h => ?_⟩
        cases nonD (conv ok' ltN h)
        exact ⟨rfl, q _ (dG.same S3)⟩
    · obtain ⟨tv, rfl⟩ := tuple_ref (ds := (tabs sy.owns ((copD sy.owns).map L)).map blsD) Du4
      refine ⟨_, rfl, rfl, _, rfl, ?_⟩
      show if false = true then _ else _
      rw [if_neg (by decide)]
      refine ⟨_, rfl, lt, S, rfl, Ms3.same S3G, easy_marks ok pl iff, lS, fun G6 S6 => ⟨fun no => ?_, fun FD E' F' M low hFD dE kE KE lF => ?_⟩⟩
      · rcases ltd with ⟨e, _⟩ | ⟨L', M', _, _⟩
        · cases e
        · exact absurd ((meetsm_congr iff).mpr M') (no L')
      have fo : FoOk sy F' := ⟨(meetsm_congr iff).mp M, fun r h => low r ((meetsm_congr iff).mpr h)⟩
      have S36 := S3G.trans S6
      have VX6 := VX3.same S36
      have nVF : VD ≠ FD := fun z => by
        obtain ⟨E, dV, _⟩ := VX3.same S3G
        rcases dV with e | ⟨e, _⟩ <;> rw [z, hFD] at e <;> cases e
      have d6 := dG.same S6
      have DS6 := DS3.same S36
      have DS6' := DS3'.same S36
      have Ms6 := Ms3.same S36
      have ed6 := S36 _ _ ed3
      have mok := marks_ok ok iff
      clear Ms3 VX3 DS3 DS3' ed3 etq etr3 d3 ea Dp Do Dc Du4 DS4 dG
      -- the first test
      refine ⟨_, rfl, _, rfl, lt, VD, S, copD sy.owns, r, rfl, Ms6, VX6.vls, mok, lS, fun G7 S7 => ⟨_, rfl, ?_⟩⟩
      refine and_split (R := fun G => Same G7 G) (fun G8 S8 => ?_) (fun hso k => ?_) (fun _ k => k _ (Same.refl _))
      · show if false = true then _ else _
        rw [if_neg (by decide)]
        have S68 := S7.trans S8
        have dE8 := dE.same S68
        have kE8 := kE.same S68
        obtain ⟨EV, dV, kV, V1, V2⟩ := VX6.same S68
        have lk := look_x EV _ r V1 V2
        refine ⟨_, rfl, _, rfl, _, rfl, ?_⟩
        obtain ⟨uD, hu1, mu, hu2⟩ := dV.ob
        refine ⟨VD, uD, hu1, mu, fun od => ?_⟩
        have TU : Tups G8 (upd G8 VD (.frz od uD)) := Tups.upd (dn_noTup dV)
        have dE9 := dn_off (o := .frz od uD) dE8 nVF.symm
        have kE9 := keys_tups kE8 TU
        have kV9 := keys_tups kV TU
        have eF : upd G8 VD (.frz od uD) VD = some (.frz od uD) := upd_same
        have SL : ∀ {H'}, Same (upd G8 VD (.frz od uD)) H' → Same G8 (upd H' VD uD) := fun S => lockS hu1 S
        generalize upd G8 VD (.frz od uD) = G9 at dE9 kE9 kV9 eF SL ⊢
        have lEV : EV.length = copies sy.owns := by rw [← List.length_map (f := fun p : DRow => p.1.2), V1, List.length_map, cop_len]
        have oc := ok.oc
        refine ⟨_, rfl, VD, od, EV, rfl, Fn.at_ eF hu2, fun DL hDL => ?_⟩
        have nDL : DL ≠ VD := fun z => by rw [z, eF] at hDL; cases hDL
        refine lc_it (walk_keysN (w := w) (d := VD) (E := EV) (o := od)) (fun i H7 => ∃ ts : List Addr, H7 DL = some (.lst (ts.map V.ref)) ∧ ts.length = i ∧ (∀ (j : Nat) (t : Addr), ts[j]? = some t → ∃ (p : DRow) (c : Cpy), EV[j]? = some p ∧ (copD sy.owns)[j]? = some c ∧ H7 t = some (.tup [.ref p.1.1, .bl (decide (c ∈ F'))])) ∧ Same G9 H7)
          ⟨[], upd_same, rfl, fun j t h => by simp at h, same_new hDL⟩ (fun i H7 _ ⟨_, _, _, _, S⟩ => Fn.at_ (S _ _ eF) hu2) ?_ ?_
        · rintro i x HA HB hi ⟨ts, eA, lts, hts, SA⟩ ⟨rfl, p', hp', rfl⟩
          have pm := List.mem_of_getElem? hp'
          have ci : ((copD sy.owns).map cpD)[i]? = some p'.1.2 := by rw [← V1, List.getElem?_map, hp']; rfl
          obtain ⟨c', hc', ec'⟩ := get_map ci
          have Dp7 := (kV9 p' pm).1.same SA
          rw [ec'] at Dp7
          refine ⟨rfl, yes_of ⟨_, rfl, _, rfl, _, rfl, p'.1.1, FD, E', cpD c', rfl, rfl, dE9.same SA, kE9.same SA, Dp7, keyable_cp _, enc_cp.d _, (by show 2 ≤ sizeLine; decide), fun t ht => ?_⟩⟩
          have SB := same_new (o := .tup [V.ref p'.1.1, .bl (id (lookN E' (cpD c')).isSome)]) ht
          have et : upd HB t (.tup [V.ref p'.1.1, .bl (id (lookN E' (cpD c')).isSome)]) t = some (.tup [V.ref p'.1.1, .bl (id (lookN E' (cpD c')).isSome)]) := upd_same
          have eb : (id (lookN E' (cpD c')).isSome) = decide (c' ∈ F') := Bool.eq_iff_iff.mpr ((KE.some_iff enc_cp c').trans ⟨fun h => decide_eq_true h, fun h => of_decide_eq_true h⟩)
          show ∃ acc, (upd HB t (.tup [V.ref p'.1.1, .bl (id (lookN E' (cpD c')).isSome)])) DL = some (.lst acc) ∧ _
          rw [eb] at SB et ⊢
          have tD : t ≠ DL := fun h => by rw [h, eA] at ht; cases ht
          generalize upd HB t (.tup [V.ref p'.1.1, .bl (decide (c' ∈ F'))]) = HC at SB et ⊢
          refine ⟨_, SB _ _ eA, by rw [List.length_map, lts]; exact small1000 (by omega), ts ++ [t], by rw [upd_same, List.map_append]; rfl, by rw [List.length_append, lts]; rfl, fun j t' h => ?_, same_upd (SA.trans SB) hDL⟩
          by_cases hj : j < ts.length
          · rw [List.getElem?_append_left hj] at h
            obtain ⟨p2, c2, h1, h2, h3⟩ := hts j t' h
            exact ⟨p2, c2, h1, h2, by rw [upd_ne (fun h => by rw [h, eA] at h3; cases h3)]; exact SB _ _ h3⟩
          · have hj2 : j = ts.length := by
              have := (List.getElem?_eq_some_iff.mp h).1
              rw [List.length_append] at this
              simp at this
              omega
            subst hj2
            rw [List.getElem?_append_right (Nat.le_refl _), Nat.sub_self] at h
            cases (show some t = some t' from h)
            exact ⟨p', c', by rw [lts]; exact hp', by rw [lts]; exact hc', by rw [upd_ne tD]; exact et⟩
        · rintro HA ⟨ts, eA, lts, hts, SA⟩
          have SU := SL SA
          refine ⟨SA _ _ eF, ?_⟩
          have offT : ∀ {t : Addr} {xs : List V}, HA t = some (.tup xs) → upd HA VD uD t = some (.tup xs) := fun {t xs} e => by
            rw [upd_ne (fun z => by rw [z, SA _ _ eF] at e; cases e)]
            exact e
          have kV8 : ∀ q ∈ EV.map Prod.fst, Dat (upd HA VD uD) q.v q.2 := fun q hq => by
            obtain ⟨e, he, rfl⟩ := List.mem_map.mp hq
            exact ((kV e he).1).same SU
          obtain ⟨E9, E1, E2, k9, n9, l9, g9⟩ := ent_of (os := sy.owns) (T := EV.map Prod.fst) (own_nd ok) (by rw [List.map_map]; exact V1) kV8 (fun c => decide (c ∈ F'))
          rw [List.length_map] at l9
          refine ⟨DL, ts, E9, rfl, SqL.of (by rw [upd_ne nDL]; exact eA), paired_of _ _ (by rw [lts, l9]) (fun j t e h1 h2 => ?_), k9, n9, fun d hd => ?_⟩
          · obtain ⟨p2, c2, g1, g2, g3⟩ := hts j t h1
            obtain ⟨g4, cc, g5, g6⟩ := g9 j e h2
            rw [List.getElem?_map, g1] at g4
            have g4 : p2.1 = e.1 := Option.some.inj g4
            rw [g2] at g5
            cases g5
            rw [g6, ← g4]
            exact offT g3
          · have S10 := same_new (o := DnO w d E9) hd
            have V10 : Vls w (upd (upd HA VD uD) d (DnO w d E9)) d (copD sy.owns) (fun c => decide (c ∈ F')) := VlX.vls ⟨E9, .inl upd_same, k9.same S10, E1, E2⟩
            have SX := (S7.trans S8).trans (SU.trans S10)
            refine ⟨.ref a, u', D, d, sy, s', ρ, kvs, _, rfl, DS6.same SX, ok, DS6'.same SX, ok', R, SX _ _ ed6, vals, V10, fun u9 HY SY Du9 => ?_⟩
            have ltF := lt_carF R ok ok' fo
            have st' := shw_ltm oo' ltF
            have SXY := SX.trans SY
            refine ⟨_, rfl, u', s', rfl, DS6'.same SXY, ok', pl', fun u3 G3 S3 h => ?_⟩
            refine ⟨u3, _, rfl, conv ok' ltF h, st'.s, Nat.le_trans st'.d (by decide), Nat.le_trans st'.z (by decide), _, rfl, u9, _, rfl, Du9.same S3, st'.s, Nat.le_trans st'.d (by decide), Nat.le_trans st'.z (by decide), rfl, ?_⟩
            have eT : ∀ d : PyData, decide ((V.str d.shown) = V.str d.shown) = true := fun d => decide_eq_true rfl
            rw [eT]
            exact q _ (d6.same (SXY.trans S3))
      · have mr : MeetsM r (toldA sy) := (meetsm_congr iff).mp (meets_all.mp hso)
        have dE7 := dE.same S7
        have kE7 := kE.same S7
        obtain ⟨EV, dV, kV, V1, V2⟩ := VX6.same S7
        have lk := look_x EV _ r V1 V2
        obtain ⟨uD, hu1, mu, hu2⟩ := dE7.ob
        refine ⟨FD, uD, hu1, mu, fun od => ?_⟩
        have TU : Tups G7 (upd G7 FD (.frz od uD)) := Tups.upd (dn_noTup dE7)
        have dV9 := dn_off (o := .frz od uD) dV nVF
        have kE9 := keys_tups kE7 TU
        have kV9 := keys_tups kV TU
        have eF : upd G7 FD (.frz od uD) FD = some (.frz od uD) := upd_same
        have SL : ∀ {H'}, Same (upd G7 FD (.frz od uD)) H' → Same G7 (upd H' FD uD) := fun S => lockS hu1 S
        generalize upd G7 FD (.frz od uD) = G9 at dV9 kE9 kV9 eF SL ⊢
        refine ⟨_, rfl, FD, od, E', rfl, Fn.at_ eF hu2, fun DL hDL => ?_⟩
        have nDL : DL ≠ FD := fun z => by rw [z, eF] at hDL; cases hDL
        refine lc_it (walk_keysN (w := w) (d := FD) (E := E') (o := od)) (fun i H7 => H7 DL = some (.lst ((List.replicate i true).map V.bl)) ∧ Same G9 H7) ⟨upd_same, same_new hDL⟩ (fun i H7 _ h => Fn.at_ (h.2 _ _ eF) hu2) ?_ ?_
        · rintro i x H7 H8 hi ⟨e7, S7⟩ ⟨rfl, p, hp, rfl⟩
          have pm := List.mem_of_getElem? hp
          obtain ⟨c', hc', ec'⟩ := KE.to p pm
          have Dp7 := (kE9 p pm).1.same S7
          rw [ec'] at Dp7
          have lk' := lk c' (fo.cop ok c' hc')
          rw [fo.low r mr c' hc'] at lk'
          have kl := KE.len
          refine ⟨rfl, yes_of ⟨_, rfl, _, rfl, VD, p.1.1, EV, cpD c', _, rfl, rfl, dV9.same S7, kV9.same S7, Dp7, keyable_cp _, enc_cp.d _, lk', _, e7, ?_, ?_, same_upd S7 hDL⟩⟩
          · rw [List.length_map, List.length_replicate]
            exact small16 (by omega)
          · rw [upd_same, List.replicate_succ', List.map_append]
            rfl
        · rintro H7 ⟨e7, S7⟩
          refine ⟨S7 _ _ eF, DL, List.replicate E'.length true, rfl, SqL.of (by rw [upd_ne nDL]; exact e7), ?_⟩
          have al : (List.replicate E'.length true).all id = true := by
            rw [List.all_eq_true]
            intro b hb
            rw [List.eq_of_mem_replicate hb]
            rfl
          rw [al]
          exact ⟨true, rfl, k _ (SL S7)⟩
end
end S1

set_option Elab.async false
set_option linter.all false
set_option maxRecDepth 100000
set_option maxHeartbeats 4000000
/-! the law -/
namespace S1
open PySem PySem.W PySem.Spec PyProof.Rows L2
def spLaw (K : PySem.W.Frag) : Sp := fun vs H Q _ => ∃ (a : Addr) (ns : List Int), vs = [.ref a] ∧ SqL K H a (ns.map V.int) ∧ ns.length ≤ 63 ∧ ∀ H', Q (.bl true) H'
theorem same_of_del {H G G' : Hp} {p : Addr} (hn : H p = none) (S : Same H G) (S2 : Same (del G p) (del G' p)) : Same H G' := fun b u e => by
  have bp : b ≠ p := ne_of_none e hn
  have z := S2 b u (by rw [del_ne bp]; exact S _ _ e)
  rwa [del_ne bp] at z
abbrev nLaw : List Str := ["script", "k", "tank", "picks", "owns", "values", "saying"]
section
variable {P : Program} {w : World} {K : PySem.W.Frag} {mg : Str → Option Value} {base : Heap}
theorem scLaw : FnScope nLaw ["script"] (defScope sLaw) := ⟨rfl, rfl, rfl, by decide +kernel, rfl, by decide +kernel, by decide +kernel⟩
theorem ok_law {f fS fP fF fH fC fR : Addr} {fd fdS fdP fdF fdH fdC fdR : FuncData} (F : Fun K "law" "law" sLaw f fd) (B : Blt mg) (So : Has K mg "_law_tank" sTank ["script", "k"] fS fdS) (Pk : Has K mg "_law_drop" sDrop ["tank", "many"] fP fdP)
    (Fr : Has K mg "_law_frame" sFrame ["tank", "most_picks", "most_owns", "most_copies"] fF fdF) (Hi : Has K mg "_law_hidden" sLHidden ["tank", "owns"] fH fdH) (Cl : Has K mg "_law_plain_clauses" sLPlains ["tank", "picks", "owns", "values"] fC fdC) (Ri : Has K mg "_law_right" sLRight ["tank", "saying", "values", "named"] fR fdR)
    (GF : FnOk P w K mg base CX0 3 fF fdF ["tank", "most_picks", "most_owns", "most_copies"] spFrame) (GH : FnOk P w K mg base CX0 3 fH fdH ["tank", "owns"] (spHidden w)) (GC : FnOk P w K mg base CX0 4 fC fdC ["tank", "picks", "owns", "values"] (spPlains w)) (GR : FnOkG P w K mg base 9 fR fdR ["tank", "saying", "values", "named"] (spRight w)) : FnOkG P w K mg base 10 f fd ["script"] (spLaw K) := by
  have GS : FnOk P w K mg base CX0 1 fS fdS ["script", "k"] (spTank K) := ok_tank So.F B
  have GP : FnOk P w K mg base CX0 1 fP fdP ["tank", "many"] spPick := ok_pick Pk.F B
  refine F.okG scLaw (fun vs H Q E h => ?_) (fun cdv A outer s H vs Q E hG0 hr h => ?_)
  · obtain ⟨a, ns, rfl, _⟩ := h
    rfl
  · obtain ⟨a, ns, rfl, hS, hlen, q⟩ := h
    have hr1 := hr.mono (show 1 ≤ 9 by decide)
    have hr3 := hr.mono (show 3 ≤ 9 by decide)
    have hr4 := hr.mono (show 4 ≤ 9 by decide)
    have hG : (A.deeper (envOfC "law" (defScope sLaw) s.heap.objs.size f cdv)).guards = some [] := hG0
    refine ⟨_, pss_cons (ps_for PassesOwn.never rfl (pi_range1 rfl B.range (pa_cons (pe_callB (call_max2 rfl) (by rfl) B.max (by decide +kernel) (pa_cons pe_int (pa_cons (pe_callB (call_min2 rfl) (by rfl) B.min (by decide +kernel) (pa_cons pe_int (pa_cons (pe_callB call_len_seq (by rfl) B.len (by decide +kernel) (pa_cons (pv 0) pa_nil)) pa_nil))) pa_nil))) pa_nil)) (pg_name (i := 1) scLaw.nd rfl (Or.inl rfl))
        (pss_cons (ps_set (i := 2) scLaw.nd rfl (.inl rfl) (pe_call GS hr1 rfl So.g So.F.kp So.b .nil pass0 (pa_cons (pv 0) (pa_cons (pv 1) pa_nil))))
        (pss_cons (ps_asg (pe_call GF hr3 rfl Fr.g Fr.F.kp Fr.b .nil pass0 (pa_cons (pv 2) (pa_cons pe_int (pa_cons pe_int (pa_cons pe_int pa_nil))))) (pg_tup rfl (pgs_cons (pg_name (i := 3) scLaw.nd rfl (.inl rfl)) (pgs_cons (pg_name (i := 4) scLaw.nd rfl (.inl rfl)) pgs_nil))))
        (pss_cons (ps_set (i := 5) scLaw.nd rfl (.inl rfl) (pe_call GH hr3 rfl Hi.g Hi.F.kp Hi.b .nil pass0 (pa_cons (pv 2) (pa_cons (pv 4) pa_nil))))
        (pss_cons (ps_set (i := 6) scLaw.nd rfl (.inl rfl) (pe_tup (pa_cons (pv 3) (pa_cons (pv 4) (pa_cons (pe_call GC hr4 rfl Cl.g Cl.F.kp Cl.b .nil pass0 (pa_cons (pv 2) (pa_cons (pv 3) (pa_cons (pv 4) (pa_cons (pv 5) pa_nil))))) pa_nil)))))
        (pss_one (ps_if (pt_not (pt_val (pe_callG hG GR hr rfl Ri.g Ri.F.kp Ri.b (pa_cons (pv 2) (pa_cons (pv 6) (pa_cons (pv 5) (pa_cons (pe_cmpR op_eq (pe_call GP hr1 rfl Pk.g Pk.F.kp Pk.b .nil pass0 (pa_cons (pv 2) (pa_cons pe_int pa_nil))) pe_int (nomark _)) pa_nil))))))) (pss_one (ps_ret pe_bl)) pss_nil)))))))
      (pss_one (ps_ret pe_bl)), ?_⟩
    refine ⟨_, rfl, a, _, rfl, .inl hS, _, _, rfl, _, _, rfl, _, rfl, ?_, ?_, ?_⟩
    · repeat' split <;> omega
    · repeat' split <;> omega
    refine for_range (lo := 0) (fun i σ H' => ∃ v1 v2 v3 v4 v5 v6 : Option V, σ = [some (.ref a), v1, v2, v3, v4, v5, v6] ∧ Same H H') ⟨_, _, _, _, _, _, rfl, Same.refl _⟩ ?_ ?_
    · rintro i σ H1 hi ⟨v1, v2, v3, v4, v5, v6, rfl, s1⟩
      have hi2 : (i : Int) < 1000 := by
        have : (i : Nat) < 1000 := Nat.lt_of_lt_of_le hi (by repeat' split <;> omega)
        omega
      refine ⟨_, rfl, _, rfl, a, ns, _, rfl, s1.seq hS, hlen, by omega, by omega, fun p H2 hp s2 P2 => ?_⟩
      have S02 := s1.trans s2
      have hp0 : H p = none := s1.free hp
      refine ⟨_, rfl, p, _, 6, 8, 120, rfl, P2, by omega, by decide, by decide, by decide, fun t v1' v2' picks owns G1 ht et Dp Do ok d1 => ?_⟩
      refine ⟨t, _, rfl, SqT.of et, rfl, _, _, rfl, _, _, rfl, rfl, ?_⟩
      obtain ⟨oo, nd⟩ := fr_ows (by decide) (by decide) (by decide) ok
      have k1 : keyable (nmsD picks) = true := keyable_nms picks
      have k2 : keyable (.tuple (owns.map ownD)) = true := by
        show keyables (owns.map ownD) = true
        exact keyables_map ownD keyable_own owns
      refine ⟨_, rfl, _, rfl, p, _, v2', owns, rfl, d1.s, by omega, Do, oo, nd, fun VD r G2 d2 hVD VX => ?_⟩
      have nVp : VD ≠ p := d1.ne hVD
      have Dp2 := d2.dat d1.s k1 Dp
      have Do2 := d2.dat d1.s k2 Do
      refine ⟨_, rfl, _, rfl, _, rfl, _, rfl, _, rfl, _, rfl, p, VD, _, 6, 8, 120, v1', v2', picks, owns, r, rfl, d2.s, by omega, Dp2, Do2, ok, by decide, by decide, by decide, VX, fun v3' cls G3 Dc soC up l40 d3 => ⟨(by show 3 ≤ sizeLine; decide), fun ts hts => ?_⟩⟩
      have Dp3 := d3.dat d2.s k1 Dp2
      have Do3 := d3.dat d2.s k2 Do2
      have VX3 := VX.dr d3 d2.s nVp
      have dd3 := (d1.trans d2).trans d3
      obtain ⟨sok, pl⟩ := say_of (cls := cls) (by decide) (by decide) (by decide) ok soC up l40
      have S4 := same_new (o := .tup [v1', v2', v3']) hts
      have DS4 : DatS (upd G3 ts (.tup [v1', v2', v3'])) (.ref ts) ⟨picks, owns, cls⟩ := by
        obtain ⟨b, us, e', eb, Db⟩ := dat_tup Do3
        exact ⟨ts, _, _, _, rfl, upd_same, Dp3.same S4, ⟨b, us, e', S4 _ _ eb, DatAll.same S4 Db⟩, Dc.same S4⟩
      have d4 := dd3.new (o := .tup [v1', v2', v3']) hts
      have VX4 := VX3.same S4
      generalize upd G3 ts (.tup [v1', v2', v3']) = G4 at DS4 d4 VX4 ⊢
      refine ⟨_, rfl, _, rfl, _, rfl, _, rfl, p, _, 2, rfl, d4.s, by omega, by decide, by decide, fun r8 o8 _ _ hp8 => ⟨rfl, ?_⟩⟩
      have d8 := (Dr.start d4.s).src hp8
      refine ⟨p, _, .ref ts, VD, _, ⟨picks, owns, cls⟩, r, rfl, d8.s, by omega, DS4.dr d8 d4.s, sok, pl, nVp, VX4.dr d8 d4.s nVp, fun G9 d9 => ⟨true, rfl, ?_⟩⟩
      show if (!true) = true then _ else _
      rw [if_neg (by decide)]
      exact ⟨_, _, _, _, _, _, rfl, same_of_del hp0 S02 ((d4.trans d8).trans d9).m⟩
    · rintro σ H1 ⟨v1, v2, v3, v4, v5, v6, rfl, s1⟩
      exact q H1
end
end S1

set_option Elab.async false
set_option linter.all false
set_option maxRecDepth 100000
set_option maxHeartbeats 4000000
/-! all that the text has written -/
namespace S1
open PySem PySem.Spec PyProof.Rows L2
/-- a def of the text stands under its name at f -/
def HasE (K : PySem.W.Frag) (x : Str) (st : Stmt) (f : Addr) : Prop :=
  PySem.W.nsIn K mainGlobals x = some (some (.ref f)) ∧ (∃ (oc : Value) (od : Option Addr) (kV doc pm : Value) (an : Option Addr) (cdv ct : Value) (osl : Array (Option Value)), K.lookup f = some ⟨oc, od, .func (PySem.W.fnOf x x (defArgs st) (defBody st) (defScope st) .none kV doc pm an cdv ct), osl⟩ ∧ PySem.W.codeIn K cdv x = true) ∧ PySem.W.keepIn K (.ref f) = true
theorem has_of {K : PySem.W.Frag} {h : Heap} {mg : Str → Option Value} {x : Str} {st : Stmt} {f : Addr} {ps : List Str} (X : K.In h) (G : h.Ns mainGlobals mg) (e : HasE K x st f)
    (hb : ∀ (kV doc pm : Value) (an : Option Addr) (cdv ct : Value) (us : List Value), us.length = ps.length → bindArgs (PySem.W.fnOf x x (defArgs st) (defBody st) (defScope st) .none kV doc pm an cdv ct) ⟨us, []⟩ = pure (ps.zip us)) : ∃ fd, Has K mg x st ps f fd := by
  obtain ⟨e1, ⟨oc, od, kV, doc, pm, an, cdv, ct, osl, e2, e3⟩, e4⟩ := e
  have F := fun_mk (st := st) e2 e3 e4
  exact ⟨_, F, PySem.W.mg_of X G e1, F.binds hb⟩
theorem all_mk {l : PySem.W.OpenLaw} {w : World} {K : PySem.W.Frag} {h : Heap} {mg : Str → Option Value} {fa fL f_y_isTruth f_y_isTuple f_y_isPair f_y_isRising f_y_isName f_y_isLetter f_y_isAnyClause f_y_areNames f_y_isSight f_y_isOwn f_y_areOwns f_y_isClauseOver f_y_areClauses f_y_namesOf f_y_fitsSaying f_w_saying f_o_Ta f_o_Dp f_o_Lt f_o_Nm f_o_Fr f_o_Le f_o_So f_o_Pc f_o_Lo f_o_Fp f_o_Lr f_o_Ap f_o_As f_o_Cs f_o_Ts f_o_Sb f_o_To f_o_Pl f_o_Ca f_o_Li f_o_Gr f_o_Su f_o_Lu f_o_Pi f_o_Gm f_o_Tl f_o_Lc f_o_Is f_o_Lb f_o_Fo f_o_Ll f_o_Hi f_o_Ps f_o_Rn f_o_Cd f_o_Rt : Addr} {t0 t1 t2 t3 t4 t5 : Tok} (X : K.In h) (G : h.Ns mainGlobals mg) (hfa : mg "law" = some (.ref fa))
    (h_y_isTruth : HasE K "is_truth" sIsTruth f_y_isTruth)
    (h_y_isTuple : HasE K "is_tuple" sIsTuple f_y_isTuple)
    (h_y_isPair : HasE K "is_pair" sIsPair f_y_isPair)
    (h_y_isRising : HasE K "is_rising" sIsRising f_y_isRising)
    (h_y_isName : HasE K "is_name" sIsName f_y_isName)
    (h_y_isLetter : HasE K "is_letter" sIsLetter f_y_isLetter)
    (h_y_isAnyClause : HasE K "is_any_clause" sIsAnyClause f_y_isAnyClause)
    (h_y_areNames : HasE K "are_names" sAreNames f_y_areNames)
    (h_y_isSight : HasE K "is_sight" sIsSight f_y_isSight)
    (h_y_isOwn : HasE K "is_own" sIsOwn f_y_isOwn)
    (h_y_areOwns : HasE K "are_owns" sAreOwns f_y_areOwns)
    (h_y_isClauseOver : HasE K "is_clause_over" sIsClauseOver f_y_isClauseOver)
    (h_y_areClauses : HasE K "are_clauses" sAreClauses f_y_areClauses)
    (h_y_namesOf : HasE K "names_of" sNamesOf f_y_namesOf)
    (h_y_fitsSaying : HasE K "fits_saying" sFitsSaying f_y_fitsSaying)
    (h_w_saying : HasE K "want_saying" sWantSaying f_w_saying)
    (h_o_Ta : HasE K "_law_tank" sTank f_o_Ta)
    (h_o_Dp : HasE K "_law_drop" sDrop f_o_Dp)
    (h_o_Lt : HasE K "_law_lot" sLot f_o_Lt)
    (h_o_Nm : HasE K "_law_names" sNames f_o_Nm)
    (h_o_Fr : HasE K "_law_frame" sFrame f_o_Fr)
    (h_o_Le : HasE K "_law_letters" sLetters f_o_Le)
    (h_o_So : HasE K "_law_some" sLSome f_o_So)
    (h_o_Pc : HasE K "_law_plain_clause" sPlainCl f_o_Pc)
    (h_o_Lo : HasE K "letters_of_owns" sLettersOf f_o_Lo)
    (h_o_Fp : HasE K "fits_plain" sFitsPlain f_o_Fp)
    (h_o_Lr : HasE K "least_row" sLeastRow f_o_Lr)
    (h_o_Ap : HasE K "all_plays" sAllPlays f_o_Ap)
    (h_o_As : HasE K "all_seen" sAllSeen f_o_As)
    (h_o_Cs : HasE K "all_copies" sAllCopies f_o_Cs)
    (h_o_Ts : HasE K "truths_at" sTruthsAt f_o_Ts)
    (h_o_Sb : HasE K "seen_by" sSeenBy f_o_Sb)
    (h_o_To : HasE K "tables_of" sTablesOf f_o_To)
    (h_o_Pl : HasE K "places_of" sPlacesOf f_o_Pl)
    (h_o_Ca : HasE K "copies_at" sCopiesAt f_o_Ca)
    (h_o_Li : HasE K "letters_of" sLettersIn f_o_Li)
    (h_o_Gr : HasE K "grounds_of" sGroundsOf f_o_Gr)
    (h_o_Su : HasE K "sources_of" sSourcesOf f_o_Su)
    (h_o_Lu : HasE K "least_true" sLeastTrue f_o_Lu)
    (h_o_Pi : HasE K "_law_pick" sLPick f_o_Pi)
    (h_o_Gm : HasE K "_law_plays" sLPlays f_o_Gm)
    (h_o_Tl : HasE K "_law_told" sLTold f_o_Tl)
    (h_o_Lc : HasE K "_law_copies" sLCopies f_o_Lc)
    (h_o_Is : HasE K "_law_is_so" sLIsSo f_o_Is)
    (h_o_Lb : HasE K "_law_tables" sLTables f_o_Lb)
    (h_o_Fo : HasE K "_law_forced" sLForced f_o_Fo)
    (h_o_Ll : HasE K "_law_least" sLLeast f_o_Ll)
    (h_o_Hi : HasE K "_law_hidden" sLHidden f_o_Hi)
    (h_o_Ps : HasE K "_law_plain_clauses" sLPlains f_o_Ps)
    (h_o_Rn : HasE K "_law_renamed" sLRenamed f_o_Rn)
    (h_o_Cd : HasE K "_law_carried" sLCarried f_o_Cd)
    (h_o_Rt : HasE K "_law_right" sLRight f_o_Rt)
    (hL : HasE K "law" sLaw fL)
    (c0 : PySem.W.nsIn K mainGlobals "SMALL" = some (some (.str "abcdefghijklmnopqrstuvwxyz" t0)))
    (c1 : PySem.W.nsIn K mainGlobals "MOST_SIGNS" = some (some (.int 8 t1)))
    (c2 : PySem.W.nsIn K mainGlobals "MOST_PICKS" = some (some (.int 6 t2)))
    (c3 : PySem.W.nsIn K mainGlobals "MOST_OWNS" = some (some (.int 8 t3)))
    (c4 : PySem.W.nsIn K mainGlobals "MOST_CLAUSES" = some (some (.int 40 t4)))
    (c5 : PySem.W.nsIn K mainGlobals "MOST_COPIES" = some (some (.int 120 t5)))
    (zlen : PySem.W.nsIn K mainGlobals "len" = some none)
    (zsum : PySem.W.nsIn K mainGlobals "sum" = some none)
    (zint : PySem.W.nsIn K mainGlobals "int" = some none)
    (zmax : PySem.W.nsIn K mainGlobals "max" = some none)
    (zmin : PySem.W.nsIn K mainGlobals "min" = some none)
    (zabs : PySem.W.nsIn K mainGlobals "abs" = some none)
    (zstr : PySem.W.nsIn K mainGlobals "str" = some none)
    (zbool : PySem.W.nsIn K mainGlobals "bool" = some none)
    (zdict : PySem.W.nsIn K mainGlobals "dict" = some none)
    (zlist : PySem.W.nsIn K mainGlobals "list" = some none)
    (zset : PySem.W.nsIn K mainGlobals "set" = some none)
    (ztuple : PySem.W.nsIn K mainGlobals "tuple" = some none)
    (zsorted : PySem.W.nsIn K mainGlobals "sorted" = some none)
    (zzip : PySem.W.nsIn K mainGlobals "zip" = some none)
    (zall : PySem.W.nsIn K mainGlobals "all" = some none)
    (zrange : PySem.W.nsIn K mainGlobals "range" = some none)
    (zisinstance : PySem.W.nsIn K mainGlobals "isinstance" = some none)
    (zenumerate : PySem.W.nsIn K mainGlobals "enumerate" = some none)
    (zany : PySem.W.nsIn K mainGlobals "any" = some none)
    (zrepr : PySem.W.nsIn K mainGlobals "repr" = some none)
    : ∃ fd : FuncData, (∀ (s : Shared) (u : Value), BindsTo s fd ⟨[u], []⟩ [("script", u)]) ∧ ∀ base : Heap, K.In base → base.Ns mainGlobals mg → FnOkG l.prog w K mg base 10 fa fd ["script"] (spLaw K) := by
  obtain ⟨e1, ⟨oc, od, kV, doc, pm, an, cdv, ct, osl, e2, e3⟩, e4⟩ := hL
  have e := hfa.symm.trans (PySem.W.mg_of X G e1)
  cases e
  have FL := fun_mk (st := sLaw) e2 e3 e4
  obtain ⟨fd_y_isTruth, y_isTruth⟩ := has_of (ps := ["value"]) X G h_y_isTruth fun _ _ _ _ _ _ us hl => match us, hl with | [_], _ => rfl
  obtain ⟨fd_y_isTuple, y_isTuple⟩ := has_of (ps := ["value", "most"]) X G h_y_isTuple fun _ _ _ _ _ _ us hl => match us, hl with | [_, _], _ => rfl
  obtain ⟨fd_y_isPair, y_isPair⟩ := has_of (ps := ["value"]) X G h_y_isPair fun _ _ _ _ _ _ us hl => match us, hl with | [_], _ => rfl
  obtain ⟨fd_y_isRising, y_isRising⟩ := has_of (ps := ["parts"]) X G h_y_isRising fun _ _ _ _ _ _ us hl => match us, hl with | [_], _ => rfl
  obtain ⟨fd_y_isName, y_isName⟩ := has_of (ps := ["value"]) X G h_y_isName fun _ _ _ _ _ _ us hl => match us, hl with | [_], _ => rfl
  obtain ⟨fd_y_isLetter, y_isLetter⟩ := has_of (ps := ["value"]) X G h_y_isLetter fun _ _ _ _ _ _ us hl => match us, hl with | [_], _ => rfl
  obtain ⟨fd_y_isAnyClause, y_isAnyClause⟩ := has_of (ps := ["value"]) X G h_y_isAnyClause fun _ _ _ _ _ _ us hl => match us, hl with | [_], _ => rfl
  obtain ⟨fd_y_areNames, y_areNames⟩ := has_of (ps := ["value", "most"]) X G h_y_areNames fun _ _ _ _ _ _ us hl => match us, hl with | [_, _], _ => rfl
  obtain ⟨fd_y_isSight, y_isSight⟩ := has_of (ps := ["value", "picks"]) X G h_y_isSight fun _ _ _ _ _ _ us hl => match us, hl with | [_, _], _ => rfl
  obtain ⟨fd_y_isOwn, y_isOwn⟩ := has_of (ps := ["value", "picks"]) X G h_y_isOwn fun _ _ _ _ _ _ us hl => match us, hl with | [_, _], _ => rfl
  obtain ⟨fd_y_areOwns, y_areOwns⟩ := has_of (ps := ["value", "picks"]) X G h_y_areOwns fun _ _ _ _ _ _ us hl => match us, hl with | [_, _], _ => rfl
  obtain ⟨fd_y_isClauseOver, y_isClauseOver⟩ := has_of (ps := ["value", "names"]) X G h_y_isClauseOver fun _ _ _ _ _ _ us hl => match us, hl with | [_, _], _ => rfl
  obtain ⟨fd_y_areClauses, y_areClauses⟩ := has_of (ps := ["value", "names"]) X G h_y_areClauses fun _ _ _ _ _ _ us hl => match us, hl with | [_, _], _ => rfl
  obtain ⟨fd_y_namesOf, y_namesOf⟩ := has_of (ps := ["picks", "owns"]) X G h_y_namesOf fun _ _ _ _ _ _ us hl => match us, hl with | [_, _], _ => rfl
  obtain ⟨fd_y_fitsSaying, y_fitsSaying⟩ := has_of (ps := ["value"]) X G h_y_fitsSaying fun _ _ _ _ _ _ us hl => match us, hl with | [_], _ => rfl
  obtain ⟨fd_w_saying, w_saying⟩ := has_of (ps := ["saying"]) X G h_w_saying fun _ _ _ _ _ _ us hl => match us, hl with | [_], _ => rfl
  obtain ⟨fd_o_Ta, o_Ta⟩ := has_of (ps := ["script", "k"]) X G h_o_Ta fun _ _ _ _ _ _ us hl => match us, hl with | [_, _], _ => rfl
  obtain ⟨fd_o_Dp, o_Dp⟩ := has_of (ps := ["tank", "many"]) X G h_o_Dp fun _ _ _ _ _ _ us hl => match us, hl with | [_, _], _ => rfl
  obtain ⟨fd_o_Lt, o_Lt⟩ := has_of (ps := ["tank", "things"]) X G h_o_Lt fun _ _ _ _ _ _ us hl => match us, hl with | [_, _], _ => rfl
  obtain ⟨fd_o_Nm, o_Nm⟩ := has_of (ps := ["tank", "many"]) X G h_o_Nm fun _ _ _ _ _ _ us hl => match us, hl with | [_, _], _ => rfl
  obtain ⟨fd_o_Fr, o_Fr⟩ := has_of (ps := ["tank", "most_picks", "most_owns", "most_copies"]) X G h_o_Fr fun _ _ _ _ _ _ us hl => match us, hl with | [_, _, _, _], _ => rfl
  obtain ⟨fd_o_Le, o_Le⟩ := has_of (ps := ["tank", "names"]) X G h_o_Le fun _ _ _ _ _ _ us hl => match us, hl with | [_, _], _ => rfl
  obtain ⟨fd_o_So, o_So⟩ := has_of (ps := ["tank", "names", "most"]) X G h_o_So fun _ _ _ _ _ _ us hl => match us, hl with | [_, _, _], _ => rfl
  obtain ⟨fd_o_Pc, o_Pc⟩ := has_of (ps := ["tank", "picks", "owns"]) X G h_o_Pc fun _ _ _ _ _ _ us hl => match us, hl with | [_, _, _], _ => rfl
  obtain ⟨fd_o_Lo, o_Lo⟩ := has_of (ps := ["saying", "clause"]) X G h_o_Lo fun _ _ _ _ _ _ us hl => match us, hl with | [_, _], _ => rfl
  obtain ⟨fd_o_Fp, o_Fp⟩ := has_of (ps := ["saying"]) X G h_o_Fp fun _ _ _ _ _ _ us hl => match us, hl with | [_], _ => rfl
  obtain ⟨fd_o_Lr, o_Lr⟩ := has_of (ps := ["told", "size"]) X G h_o_Lr fun _ _ _ _ _ _ us hl => match us, hl with | [_, _], _ => rfl
  obtain ⟨fd_o_Ap, o_Ap⟩ := has_of (ps := ["saying"]) X G h_o_Ap fun _ _ _ _ _ _ us hl => match us, hl with | [_], _ => rfl
  obtain ⟨fd_o_As, o_As⟩ := has_of (ps := ["sight"]) X G h_o_As fun _ _ _ _ _ _ us hl => match us, hl with | [_], _ => rfl
  obtain ⟨fd_o_Cs, o_Cs⟩ := has_of (ps := ["saying"]) X G h_o_Cs fun _ _ _ _ _ _ us hl => match us, hl with | [_], _ => rfl
  obtain ⟨fd_o_Ts, o_Ts⟩ := has_of (ps := ["saying", "play"]) X G h_o_Ts fun _ _ _ _ _ _ us hl => match us, hl with | [_, _], _ => rfl
  obtain ⟨fd_o_Sb, o_Sb⟩ := has_of (ps := ["sight", "truths"]) X G h_o_Sb fun _ _ _ _ _ _ us hl => match us, hl with | [_, _], _ => rfl
  obtain ⟨fd_o_To, o_To⟩ := has_of (ps := ["saying", "row"]) X G h_o_To fun _ _ _ _ _ _ us hl => match us, hl with | [_, _], _ => rfl
  obtain ⟨fd_o_Pl, o_Pl⟩ := has_of (ps := ["saying"]) X G h_o_Pl fun _ _ _ _ _ _ us hl => match us, hl with | [_], _ => rfl
  obtain ⟨fd_o_Ca, o_Ca⟩ := has_of (ps := ["saying", "places", "play"]) X G h_o_Ca fun _ _ _ _ _ _ us hl => match us, hl with | [_, _, _], _ => rfl
  obtain ⟨fd_o_Li, o_Li⟩ := has_of (ps := ["clause", "truths", "places"]) X G h_o_Li fun _ _ _ _ _ _ us hl => match us, hl with | [_, _, _], _ => rfl
  obtain ⟨fd_o_Gr, o_Gr⟩ := has_of (ps := ["saying"]) X G h_o_Gr fun _ _ _ _ _ _ us hl => match us, hl with | [_], _ => rfl
  obtain ⟨fd_o_Su, o_Su⟩ := has_of (ps := ["saying"]) X G h_o_Su fun _ _ _ _ _ _ us hl => match us, hl with | [_], _ => rfl
  obtain ⟨fd_o_Lu, o_Lu⟩ := has_of (ps := ["saying"]) X G h_o_Lu fun _ _ _ _ _ _ us hl => match us, hl with | [_], _ => rfl
  obtain ⟨fd_o_Pi, o_Pi⟩ := has_of (ps := ["tank", "things"]) X G h_o_Pi fun _ _ _ _ _ _ us hl => match us, hl with | [_, _], _ => rfl
  obtain ⟨fd_o_Gm, o_Gm⟩ := has_of (ps := ["picks"]) X G h_o_Gm fun _ _ _ _ _ _ us hl => match us, hl with | [_], _ => rfl
  obtain ⟨fd_o_Tl, o_Tl⟩ := has_of (ps := ["saying"]) X G h_o_Tl fun _ _ _ _ _ _ us hl => match us, hl with | [_], _ => rfl
  obtain ⟨fd_o_Lc, o_Lc⟩ := has_of (ps := ["owns"]) X G h_o_Lc fun _ _ _ _ _ _ us hl => match us, hl with | [_], _ => rfl
  obtain ⟨fd_o_Is, o_Is⟩ := has_of (ps := ["told", "values"]) X G h_o_Is fun _ _ _ _ _ _ us hl => match us, hl with | [_, _], _ => rfl
  obtain ⟨fd_o_Lb, o_Lb⟩ := has_of (ps := ["owns", "row"]) X G h_o_Lb fun _ _ _ _ _ _ us hl => match us, hl with | [_, _], _ => rfl
  obtain ⟨fd_o_Fo, o_Fo⟩ := has_of (ps := ["told"]) X G h_o_Fo fun _ _ _ _ _ _ us hl => match us, hl with | [_], _ => rfl
  obtain ⟨fd_o_Ll, o_Ll⟩ := has_of (ps := ["owns", "told"]) X G h_o_Ll fun _ _ _ _ _ _ us hl => match us, hl with | [_, _], _ => rfl
  obtain ⟨fd_o_Hi, o_Hi⟩ := has_of (ps := ["tank", "owns"]) X G h_o_Hi fun _ _ _ _ _ _ us hl => match us, hl with | [_, _], _ => rfl
  obtain ⟨fd_o_Ps, o_Ps⟩ := has_of (ps := ["tank", "picks", "owns", "values"]) X G h_o_Ps fun _ _ _ _ _ _ us hl => match us, hl with | [_, _, _, _], _ => rfl
  obtain ⟨fd_o_Rn, o_Rn⟩ := has_of (ps := ["tank", "saying"]) X G h_o_Rn fun _ _ _ _ _ _ us hl => match us, hl with | [_, _], _ => rfl
  obtain ⟨fd_o_Cd, o_Cd⟩ := has_of (ps := ["saying", "other", "known", "values"]) X G h_o_Cd fun _ _ _ _ _ _ us hl => match us, hl with | [_, _, _, _], _ => rfl
  obtain ⟨fd_o_Rt, o_Rt⟩ := has_of (ps := ["tank", "saying", "values", "named"]) X G h_o_Rt fun _ _ _ _ _ _ us hl => match us, hl with | [_, _, _, _], _ => rfl
  have B : Blt mg := {len := PySem.W.mg_none_of X G zlen, sum := PySem.W.mg_none_of X G zsum, int := PySem.W.mg_none_of X G zint, max := PySem.W.mg_none_of X G zmax, min := PySem.W.mg_none_of X G zmin, abs := PySem.W.mg_none_of X G zabs, str := PySem.W.mg_none_of X G zstr, bool := PySem.W.mg_none_of X G zbool, dict := PySem.W.mg_none_of X G zdict, list := PySem.W.mg_none_of X G zlist, set := PySem.W.mg_none_of X G zset, tuple := PySem.W.mg_none_of X G ztuple, sorted := PySem.W.mg_none_of X G zsorted, zip := PySem.W.mg_none_of X G zzip, all := PySem.W.mg_none_of X G zall, range := PySem.W.mg_none_of X G zrange, isi := PySem.W.mg_none_of X G zisinstance}
  have nenumerate := PySem.W.mg_none_of X G zenumerate
  have nany := PySem.W.mg_none_of X G zany
  have nrepr := PySem.W.mg_none_of X G zrepr
  have C : Cst mg := {small := ⟨_, PySem.W.mg_of X G c0⟩, signs := ⟨_, PySem.W.mg_of X G c1⟩, picks := ⟨_, PySem.W.mg_of X G c2⟩, owns := ⟨_, PySem.W.mg_of X G c3⟩, clauses := ⟨_, PySem.W.mg_of X G c4⟩, copies := ⟨_, PySem.W.mg_of X G c5⟩}
  have Y : Shp K mg := {isTruth := ⟨_, _, y_isTruth⟩, isTuple := ⟨_, _, y_isTuple⟩, isPair := ⟨_, _, y_isPair⟩, isRising := ⟨_, _, y_isRising⟩, isName := ⟨_, _, y_isName⟩, isLetter := ⟨_, _, y_isLetter⟩, isAnyClause := ⟨_, _, y_isAnyClause⟩, areNames := ⟨_, _, y_areNames⟩, isSight := ⟨_, _, y_isSight⟩, isOwn := ⟨_, _, y_isOwn⟩, areOwns := ⟨_, _, y_areOwns⟩, isClauseOver := ⟨_, _, y_isClauseOver⟩, areClauses := ⟨_, _, y_areClauses⟩, namesOf := ⟨_, _, y_namesOf⟩, fitsSaying := ⟨_, _, y_fitsSaying⟩}
  have Wn : Wnt K mg := {saying := ⟨_, _, w_saying⟩}
  have ev : Env1 K mg := ⟨B, C, Y⟩
  refine ⟨PySem.W.fnOf "law" "law" (defArgs sLaw) (defBody sLaw) (defScope sLaw) .none kV doc pm an cdv ct, fun s v => .of_eq rfl, fun base _ _ => ?_⟩
  have GFr : FnOk l.prog w K mg base CX0 3 _ _ ["tank", "most_picks", "most_owns", "most_copies"] spFrame := ok_frame o_Fr.F o_Dp o_Nm o_Lt B nenumerate
  have GN : FnOk l.prog w K mg base CX0 3 _ _ ["tank", "picks", "owns"] spCl := ok_plainCl o_Pc.F o_Dp o_Le o_So B
  have GFp : FnOk l.prog w K mg base CX0 2 _ _ ["saying"] (spFits plainC) := ok_fitsPlain o_Fp.F o_Lo B
  have GCs : FnOk l.prog w K mg base CX0 2 _ _ ["saying"] spAllCopies := ok_allCopies o_Cs.F o_As
  have GAp : FnOk l.prog w K mg base CX0 1 _ _ ["saying"] spAllPlays := ok_allPlays o_Ap.F
  have GTs : FnOk l.prog w K mg base CX0 1 _ _ ["saying", "play"] spTruthsAt := ok_truthsAt o_Ts.F B
  have GCa : FnOk l.prog w K mg base CX0 2 _ _ ["saying", "places", "play"] (spCopiesAt w) := ok_copiesAt o_Ca.F o_Ts o_Sb B
  have GLi : FnOk l.prog w K mg base CX0 1 _ _ ["clause", "truths", "places"] spLettersIn := ok_lettersIn o_Li.F B
  have GPo : FnOk l.prog w K mg base CX0 3 _ _ ["saying"] (spPlacesOf w) := ok_placesOf o_Pl.F o_Cs o_As nenumerate
  have GGr : FnOk l.prog w K mg base CX0 4 _ _ ["saying"] (spGrounds w) := ok_grounds o_Gr.F o_Pl GPo o_Ap GAp o_Ts GTs o_Ca GCa o_Li GLi B.zip
  have GSu : FnOk l.prog w K mg base CX0 5 _ _ ["saying"] (spSources w) := ok_sources o_Su.F o_Gr GGr nenumerate
  have GLr : FnOk l.prog w K mg base CX0 1 _ _ ["told", "size"] spLeastRow := ok_leastRow o_Lr.F B
  have GTo : FnOk l.prog w K mg base CX0 1 _ _ ["saying", "row"] spTablesOf := ok_tablesOf o_To.F B
  have GLu : FnOk l.prog w K mg base CX0 8 _ _ ["saying"] spLeastTrue := ok_leastTrue o_Lu.F ev Wn o_Fp GFp o_Lr GLr o_Su GSu o_Cs GCs o_To GTo
  have GTl : FnOk l.prog w K mg base CX0 2 _ _ ["saying"] (spLTold w) := ok_lTold o_Tl.F B nany o_Gm
  have GLl : FnOk l.prog w K mg base CX0 2 _ _ ["owns", "told"] spLLeast := ok_lLeast o_Ll.F B o_Fo o_Lc o_Lb
  have GHi : FnOk l.prog w K mg base CX0 3 _ _ ["tank", "owns"] (spHidden w) := ok_hidden o_Hi.F B o_Dp o_Pi o_Lc
  have GPs : FnOk l.prog w K mg base CX0 4 _ _ ["tank", "picks", "owns", "values"] (spPlains w) := ok_plains o_Ps.F B nany o_Dp o_Pi o_Pc GN o_Tl GTl o_Is
  have GRn : FnOk l.prog w K mg base CX0 2 _ _ ["tank", "saying"] spRenamed := ok_renamed o_Rn.F B o_Dp
  have GCd : FnOk l.prog w K mg base CX0 2 _ _ ["saying", "other", "known", "values"] (spCarried w) := ok_carried o_Cd.F B o_Lc o_Lb
  have GRt : FnOkG l.prog w K mg base 9 _ _ ["tank", "saying", "values", "named"] (spRight w) := ok_right o_Rt.F B nrepr nany o_Tl GTl o_Rn GRn o_Ll GLl o_Lu GLu o_Fo o_Is o_Cd GCd
  exact ok_law FL B o_Ta o_Dp o_Fr o_Hi o_Ps o_Rt GFr GHi GPs GRt
theorem walk {l : PySem.W.OpenLaw} {q : Program} {loose : List Str} {XP : (Str → Option Value) → Heap → Prop} {YP : World → Heap → Prop} {d : DefRec} {K : Params → PySem.W.Frag} (hn : l.most = some 63) (hdf : d.params.defaults = []) (hY : ∀ (w : World) (h : Heap), YP w h → (K w.params).In h)
    (F : ∀ (w : World) (mg : Str → Option Value) (fa : Addr) (h : Heap), (K w.params).In h → h.Ns mainGlobals mg → mg d.name = some (.ref fa) →
      ∃ fd : FuncData, (∀ (s : Shared) (u : Value), BindsTo s fd ⟨[u], []⟩ [("script", u)]) ∧ ∀ base : Heap, (K w.params).In base → base.Ns mainGlobals mg → FnOkG l.prog w (K w.params) mg base 10 fa fd ["script"] (spLaw (K w.params))) :
    PySem.W.WalkO q loose XP YP l.row.toRowW d [] (fun f vs => PySem.call f vs) :=
  walk_ofG (n := 63) (k := 10) (sp := spLaw) hn (by decide) hdf ⟨rfl, by decide, by decide⟩ hY F fun _ _ a ns hl _ hS => ⟨a, ns, rfl, hS, hl, fun _ => rfl⟩
end S1

open PySem PySem.W PyProof.Rows
set_option maxRecDepth 100000 in
set_option maxHeartbeats 0 in
theorem PySem.Challenge.cw_onlyseen_k52_whole_least_true_round_by_r_holds : PySem.Challenge.rw_onlyseen_k52_whole_least_true_round_by_r.Holds := by
  w_on; o_law; k_head; (case hw => w_witness2)
  k_fill
  refine S1.walk (l := PySem.Challenge.rw_onlyseen_k52_whole_least_true_round_by_r) rfl rfl (fun w h Y => PySem.W.kIn_of Y) ?F
  case F =>
    intro w mg fa h KX G hmg
    refine' S1.all_mk KX G hmg ?h_y_isTruth ?h_y_isTuple ?h_y_isPair ?h_y_isRising ?h_y_isName ?h_y_isLetter ?h_y_isAnyClause ?h_y_areNames ?h_y_isSight ?h_y_isOwn ?h_y_areOwns ?h_y_isClauseOver ?h_y_areClauses ?h_y_namesOf ?h_y_fitsSaying ?h_w_saying ?h_o_Ta ?h_o_Dp ?h_o_Lt ?h_o_Nm ?h_o_Fr ?h_o_Le ?h_o_So ?h_o_Pc ?h_o_Lo ?h_o_Fp ?h_o_Lr ?h_o_Ap ?h_o_As ?h_o_Cs ?h_o_Ts ?h_o_Sb ?h_o_To ?h_o_Pl ?h_o_Ca ?h_o_Li ?h_o_Gr ?h_o_Su ?h_o_Lu ?h_o_Pi ?h_o_Gm ?h_o_Tl ?h_o_Lc ?h_o_Is ?h_o_Lb ?h_o_Fo ?h_o_Ll ?h_o_Hi ?h_o_Ps ?h_o_Rn ?h_o_Cd ?h_o_Rt ?hL ?c0 ?c1 ?c2 ?c3 ?c4 ?c5 ?zlen ?zsum ?zint ?zmax ?zmin ?zabs ?zstr ?zbool ?zdict ?zlist ?zset ?ztuple ?zsorted ?zzip ?zall ?zrange ?zisinstance ?zenumerate ?zany ?zrepr
    (case h_y_isTruth => exact ⟨by k_is, ⟨_, _, _, _, _, _, _, _, _, by k_is, by k_is⟩, by k_is⟩)
    (case h_y_isTuple => exact ⟨by k_is, ⟨_, _, _, _, _, _, _, _, _, by k_is, by k_is⟩, by k_is⟩)
    (case h_y_isPair => exact ⟨by k_is, ⟨_, _, _, _, _, _, _, _, _, by k_is, by k_is⟩, by k_is⟩)
    (case h_y_isRising => exact ⟨by k_is, ⟨_, _, _, _, _, _, _, _, _, by k_is, by k_is⟩, by k_is⟩)
    (case h_y_isName => exact ⟨by k_is, ⟨_, _, _, _, _, _, _, _, _, by k_is, by k_is⟩, by k_is⟩)
    (case h_y_isLetter => exact ⟨by k_is, ⟨_, _, _, _, _, _, _, _, _, by k_is, by k_is⟩, by k_is⟩)
    (case h_y_isAnyClause => exact ⟨by k_is, ⟨_, _, _, _, _, _, _, _, _, by k_is, by k_is⟩, by k_is⟩)
    (case h_y_areNames => exact ⟨by k_is, ⟨_, _, _, _, _, _, _, _, _, by k_is, by k_is⟩, by k_is⟩)
    (case h_y_isSight => exact ⟨by k_is, ⟨_, _, _, _, _, _, _, _, _, by k_is, by k_is⟩, by k_is⟩)
    (case h_y_isOwn => exact ⟨by k_is, ⟨_, _, _, _, _, _, _, _, _, by k_is, by k_is⟩, by k_is⟩)
    (case h_y_areOwns => exact ⟨by k_is, ⟨_, _, _, _, _, _, _, _, _, by k_is, by k_is⟩, by k_is⟩)
    (case h_y_isClauseOver => exact ⟨by k_is, ⟨_, _, _, _, _, _, _, _, _, by k_is, by k_is⟩, by k_is⟩)
    (case h_y_areClauses => exact ⟨by k_is, ⟨_, _, _, _, _, _, _, _, _, by k_is, by k_is⟩, by k_is⟩)
    (case h_y_namesOf => exact ⟨by k_is, ⟨_, _, _, _, _, _, _, _, _, by k_is, by k_is⟩, by k_is⟩)
    (case h_y_fitsSaying => exact ⟨by k_is, ⟨_, _, _, _, _, _, _, _, _, by k_is, by k_is⟩, by k_is⟩)
    (case h_w_saying => exact ⟨by k_is, ⟨_, _, _, _, _, _, _, _, _, by k_is, by k_is⟩, by k_is⟩)
    (case h_o_Ta => exact ⟨by k_is, ⟨_, _, _, _, _, _, _, _, _, by k_is, by k_is⟩, by k_is⟩)
    (case h_o_Dp => exact ⟨by k_is, ⟨_, _, _, _, _, _, _, _, _, by k_is, by k_is⟩, by k_is⟩)
    (case h_o_Lt => exact ⟨by k_is, ⟨_, _, _, _, _, _, _, _, _, by k_is, by k_is⟩, by k_is⟩)
    (case h_o_Nm => exact ⟨by k_is, ⟨_, _, _, _, _, _, _, _, _, by k_is, by k_is⟩, by k_is⟩)
    (case h_o_Fr => exact ⟨by k_is, ⟨_, _, _, _, _, _, _, _, _, by k_is, by k_is⟩, by k_is⟩)
    (case h_o_Le => exact ⟨by k_is, ⟨_, _, _, _, _, _, _, _, _, by k_is, by k_is⟩, by k_is⟩)
    (case h_o_So => exact ⟨by k_is, ⟨_, _, _, _, _, _, _, _, _, by k_is, by k_is⟩, by k_is⟩)
    (case h_o_Pc => exact ⟨by k_is, ⟨_, _, _, _, _, _, _, _, _, by k_is, by k_is⟩, by k_is⟩)
    (case h_o_Lo => exact ⟨by k_is, ⟨_, _, _, _, _, _, _, _, _, by k_is, by k_is⟩, by k_is⟩)
    (case h_o_Fp => exact ⟨by k_is, ⟨_, _, _, _, _, _, _, _, _, by k_is, by k_is⟩, by k_is⟩)
    (case h_o_Lr => exact ⟨by k_is, ⟨_, _, _, _, _, _, _, _, _, by k_is, by k_is⟩, by k_is⟩)
    (case h_o_Ap => exact ⟨by k_is, ⟨_, _, _, _, _, _, _, _, _, by k_is, by k_is⟩, by k_is⟩)
    (case h_o_As => exact ⟨by k_is, ⟨_, _, _, _, _, _, _, _, _, by k_is, by k_is⟩, by k_is⟩)
    (case h_o_Cs => exact ⟨by k_is, ⟨_, _, _, _, _, _, _, _, _, by k_is, by k_is⟩, by k_is⟩)
    (case h_o_Ts => exact ⟨by k_is, ⟨_, _, _, _, _, _, _, _, _, by k_is, by k_is⟩, by k_is⟩)
    (case h_o_Sb => exact ⟨by k_is, ⟨_, _, _, _, _, _, _, _, _, by k_is, by k_is⟩, by k_is⟩)
    (case h_o_To => exact ⟨by k_is, ⟨_, _, _, _, _, _, _, _, _, by k_is, by k_is⟩, by k_is⟩)
    (case h_o_Pl => exact ⟨by k_is, ⟨_, _, _, _, _, _, _, _, _, by k_is, by k_is⟩, by k_is⟩)
    (case h_o_Ca => exact ⟨by k_is, ⟨_, _, _, _, _, _, _, _, _, by k_is, by k_is⟩, by k_is⟩)
    (case h_o_Li => exact ⟨by k_is, ⟨_, _, _, _, _, _, _, _, _, by k_is, by k_is⟩, by k_is⟩)
    (case h_o_Gr => exact ⟨by k_is, ⟨_, _, _, _, _, _, _, _, _, by k_is, by k_is⟩, by k_is⟩)
    (case h_o_Su => exact ⟨by k_is, ⟨_, _, _, _, _, _, _, _, _, by k_is, by k_is⟩, by k_is⟩)
    (case h_o_Lu => exact ⟨by k_is, ⟨_, _, _, _, _, _, _, _, _, by k_is, by k_is⟩, by k_is⟩)
    (case h_o_Pi => exact ⟨by k_is, ⟨_, _, _, _, _, _, _, _, _, by k_is, by k_is⟩, by k_is⟩)
    (case h_o_Gm => exact ⟨by k_is, ⟨_, _, _, _, _, _, _, _, _, by k_is, by k_is⟩, by k_is⟩)
    (case h_o_Tl => exact ⟨by k_is, ⟨_, _, _, _, _, _, _, _, _, by k_is, by k_is⟩, by k_is⟩)
    (case h_o_Lc => exact ⟨by k_is, ⟨_, _, _, _, _, _, _, _, _, by k_is, by k_is⟩, by k_is⟩)
    (case h_o_Is => exact ⟨by k_is, ⟨_, _, _, _, _, _, _, _, _, by k_is, by k_is⟩, by k_is⟩)
    (case h_o_Lb => exact ⟨by k_is, ⟨_, _, _, _, _, _, _, _, _, by k_is, by k_is⟩, by k_is⟩)
    (case h_o_Fo => exact ⟨by k_is, ⟨_, _, _, _, _, _, _, _, _, by k_is, by k_is⟩, by k_is⟩)
    (case h_o_Ll => exact ⟨by k_is, ⟨_, _, _, _, _, _, _, _, _, by k_is, by k_is⟩, by k_is⟩)
    (case h_o_Hi => exact ⟨by k_is, ⟨_, _, _, _, _, _, _, _, _, by k_is, by k_is⟩, by k_is⟩)
    (case h_o_Ps => exact ⟨by k_is, ⟨_, _, _, _, _, _, _, _, _, by k_is, by k_is⟩, by k_is⟩)
    (case h_o_Rn => exact ⟨by k_is, ⟨_, _, _, _, _, _, _, _, _, by k_is, by k_is⟩, by k_is⟩)
    (case h_o_Cd => exact ⟨by k_is, ⟨_, _, _, _, _, _, _, _, _, by k_is, by k_is⟩, by k_is⟩)
    (case h_o_Rt => exact ⟨by k_is, ⟨_, _, _, _, _, _, _, _, _, by k_is, by k_is⟩, by k_is⟩)
    (case hL => exact ⟨by k_is, ⟨_, _, _, _, _, _, _, _, _, by k_is, by k_is⟩, by k_is⟩)
    (case c0 => k_is)
    (case c1 => k_is)
    (case c2 => k_is)
    (case c3 => k_is)
    (case c4 => k_is)
    (case c5 => k_is)
    (case zlen => k_is)
    (case zsum => k_is)
    (case zint => k_is)
    (case zmax => k_is)
    (case zmin => k_is)
    (case zabs => k_is)
    (case zstr => k_is)
    (case zbool => k_is)
    (case zdict => k_is)
    (case zlist => k_is)
    (case zset => k_is)
    (case ztuple => k_is)
    (case zsorted => k_is)
    (case zzip => k_is)
    (case zall => k_is)
    (case zrange => k_is)
    (case zisinstance => k_is)
    (case zenumerate => k_is)
    (case zany => k_is)
    (case zrepr => k_is)
