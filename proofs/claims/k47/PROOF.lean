import PyProof.Rows.All
import Wide.All
import OpenK.AllK
import Wide.FinOn
import HandS.ForMost
import HandS.ExcInit
import PyProof.ReprReads
import PyProof.ReprRoads
import HandS.Conv
import KE.KExcIs
import HandS.Defaults
import HandS.Wide
import KE.SortData
import KE.KeyNested
import HandS.TupSets
import HandS.Words
import KE.IntBitsLaws
import HandS.Iter
import HandS.Style
import PyProof.ListStr
import PyProof.Rows.CountFlat
import HandS.IsInst
import HandS.TupLe
import HandS.Dict
import HandS.TupLen
import PyProof.Rows.TupTab
import KE.DataEq
import HandS.Walk
import KE.KDictSum
import KE.KDictCopyH
import KE.KDictKeyed
import HandS.Zip
import KE.GoesZip
import KE.GoesMore
import HandS.TupAny
import HandS.ExcValue
import HandS.ExcField
import HandS.ExcOwn
import HandS.CallSlots
import HandS.WordsExc
import KE.KDictPairs
import PySem.Challenge.RW_onlyseen_k47_whole_idle_sights_taken
set_option Elab.async false
set_option linter.all false
set_option maxRecDepth 100000
set_option maxHeartbeats 4000000
namespace PySem
namespace KwX
open Builtin Builtin.ObjectAttr PySem.HandSPX
section
variable {M : Model} {A : Around} {E : Value → Shared → Prop} {h : Heap} {g : Array GenState} {d : Drawn} {t : Nat} {os : OsState}
variable {nm q : Str} {C N : Addr} {bs bm bmB : List Value} {hdct : Bool} {sn : List Str} {sub : List Value} {ab : Bool} {col : Option Bool} {dd : Option Addr} {k0 k1 k2 k3 k5 : Option Value} {B newId initId : String}
theorem check_new_kw (F : ExcBaseFacts B newId initId bmB) (hT : ∀ X : String, bm.contains (.type X) = bmB.contains (.type X)) {kx : Str} {kv : Value} {Q : Unit → Shared → Prop}
    (hC : h.get? C = some (excClassObj nm q C N bs bm hdct sn sub ab col dd k0 k1 k2 k3 k5 newId)) (hq : Q () ⟨h, g, d, t, os⟩) : wpAny M A (checkBuiltinCall newId ⟨[.ref C], [(kx, kv)]⟩) Q E ⟨h, g, d, t, os⟩ := by
  have hcont : (Value.ref C :: bm).contains (.type B) = true := by rw [List.contains_cons, hT, F.hasB, Bool.or_true]
  have hstar := F.noStar
  simp only [checkBuiltinCall, F.newKind, F.newSplit, F.newRow]
  repeat (first | refine wpAny_loadPart_at hC ?_ | (refine wpAny_isSubtype_exc hC ?_; rw [hcont]) | refine wpAny_staticBase_exc hC ?_ | refine wpAny_madeBy_exc hC ?_ | simp only [bne_self_eq_false, Bool.false_eq_true, if_false] | wp_step)
  exact hq
end
section
variable {prog : Program} {w : World} {A : Around} {E : Value → Shared → Prop} {R : Result → Shared → Prop} {h : Heap} {g : Array GenState} {d : Drawn} {t : Nat} {os : OsState}
variable {nm q : Str} {C N : Addr} {bs bm bmB : List Value} {hdct : Bool} {sn : List Str} {sub : List Value} {ab : Bool} {col : Option Bool} {dd : Option Addr} {k0 k1 k2 k3 k5 : Option Value} {B newId initId : String}
theorem new_kw (F : ExcBaseFacts B newId initId bmB) (hT : ∀ X : String, bm.contains (.type X) = bmB.contains (.type X)) {kx : Str} {kv : Value}
    (hC : h.get? C = some (excClassObj nm q C N bs bm hdct sn sub ab col dd k0 k1 k2 k3 k5 newId))
    (hq : R (.ok (.ret (.ref (h.objs.size + 1)))) ⟨(h.push { cls := .type "tuple", data := .seq #[] }).push
      { cls := .ref C, data := .fields #[.ref h.objs.size, .none, .none, .none, .bool false, .none] }, g, d, t, os⟩) :
    codeAny (model prog w) A (.builtin newId ⟨[.ref C], [(kx, kv)]⟩) R ⟨h, g, d, t, os⟩ := by
  have hends := F.ends
  have hrest : ([] : List Value).length ≤ sizeLine := Nat.zero_le _
  have hcB : (Value.ref C :: bm).contains (.type B) = true := by rw [List.contains_cons, hT, F.hasB, Bool.or_true]
  have hcA : (Value.ref C :: bm).contains (.type "AttributeError") = false := by rw [List.contains_cons, hT, F.noAttr]; rfl
  have hcN : (Value.ref C :: bm).contains (.type "NameError") = false := by rw [List.contains_cons, hT, F.noName]; rfl
  refine codeAny_builtinAt F.entry ?_
  unfold Builtin.«BaseException.__new__»
  refine wpAt_bind ?_
  show wpAt _ _ _ (stack >>= _) _ _ _
  refine wpAt_bind (wpAt_stack fun p below => wpAt_of_wpAny ?_)
  wp_walk
  refine wpAt_of_wpAny ?_
  rw [F.owner]
  repeat (first | with_reducible refine wpAny_madeHere_exc F.canon hC ?_ | with_reducible refine wpAny_loadPart_at hC ?_ | (with_reducible refine wpAny_isSubtype_exc hC ?_; first | rw [hcB] | rw [hcA] | rw [hcN]) | wp_step)
  show R _ _
  rw [Heap.size_push]
  exact hq
theorem type_call_kw (F : ExcBaseFacts B newId initId bmB) (hT : ∀ X : String, bm.contains (.type X) = bmB.contains (.type X)) {kx : Str} {kv : Value} {fI : Addr} {Q : Fin → Shared → Prop}
    (hC : h.get? C = some (excClassObj nm q C N bs bm hdct sn sub ab col dd k0 k1 k2 k3 k5 newId))
    (hi : W.Looks (model prog w) h (typeLookup (.ref C) "__init__") (some (.ref fI))) (hb : ∀ self, W.Looks (model prog w) h (bindSpecial (.ref fI) self) (.ref fI, [self]))
    (hq : codeAny (model prog w) A (.call (.ref fI) ⟨[.ref (h.objs.size + 1)], [(kx, kv)]⟩)
      (fun r s' => match r with | .ok (.ret v) => v = .none ∧ Q (.done (.ret (.ref (h.objs.size + 1)))) s' | .ok _ => False | .error e => E e s')
      ⟨(h.push (W.kdv_tup [])).push (excO C h.objs.size), g, d, t, os⟩) :
    wpAny (model prog w) A (Builtin.«type.__call__» ⟨[.ref C], [(kx, kv)]⟩) Q E ⟨h, g, d, t, os⟩ := by
  repeat (first | with_reducible refine wpAny_loadPart_at hC ?_ | with_reducible refine wpAny_madeBy_exc hC ?_ | wp_step)
  refine codeAny_call_builtin_code (Code.quiet_builtin _ F.quiet) (check_new_kw F hT hC ?_)
  refine new_kw F hT hC ?_
  show wpAny _ _ _ _ _ _
  have k : ∀ b o, h.get? b = some o → ((h.push (W.kdv_tup [])).push (excO C h.objs.size)).get? b = some o := fun b o e => Heap.get?_push_of_some _ (Heap.get?_push_of_some _ e)
  have hC₁ := k _ _ hC
  have hget : ((h.push (W.kdv_tup [])).push (excO C h.objs.size)).get? (h.objs.size + 1) = some (excO C h.objs.size) := by heap_get
  have hcC : (Value.ref C :: bm).contains (.ref C) = true := by simp
  have i1 := hi.keeps k
  have b1 := (hb (.ref (h.objs.size + 1))).keeps k
  unfold isInstance
  repeat (first | with_reducible refine wpAny_loadPart_at hget ?_ | (with_reducible refine wpAny_isSubtype_exc hC₁ ?_; rw [hcC]) | wp_step)
  show wpAny _ _ (typeLookup (.ref C) _) _ _ _
  refine i1.at ?_
  refine wpAny_holding (wpAny_bind (b1.at ?_))
  refine wpAny_bind (wpAny_call (codeAny_mono hq fun r s' z => ?_))
  rcases r with e | (v | _ | _ | _) <;> first | exact z | exact z.elim | skip
  obtain ⟨rfl, z⟩ := z
  first
    | exact wpAny_pure (wpAny_pure z)
    | (wp_walk; exact z)
theorem call_kw (F : ExcBaseFacts B newId initId bmB) (hT : ∀ X : String, bm.contains (.type X) = bmB.contains (.type X)) {kx : Str} {kv : Value} {fI : Addr}
    (hC : h.get? C = some (excClassObj nm q C N bs bm hdct sn sub ab col dd k0 k1 k2 k3 k5 newId))
    (hi : W.Looks (model prog w) h (typeLookup (.ref C) "__init__") (some (.ref fI))) (hb : ∀ self, W.Looks (model prog w) h (bindSpecial (.ref fI) self) (.ref fI, [self]))
    (hq : codeAny (model prog w) (A.under (.builtin "type.__call__" ⟨[.ref C], [(kx, kv)]⟩)) (.call (.ref fI) ⟨[.ref (h.objs.size + 1)], [(kx, kv)]⟩) (W.InitBack (h.objs.size + 1) R)
      ⟨(h.push (W.kdv_tup [])).push (excO C h.objs.size), g, d, t, os⟩) :
    codeAny (model prog w) A (.call (.ref C) ⟨[], [(kx, kv)]⟩) R ⟨h, g, d, t, os⟩ := by
  have f1 := tc_lookup
  have f2 := tc_bind (.ref C)
  have hTy : (⟨h, g, d, t, os⟩ : Shared).TypeIs (.ref C) "type" := ⟨_, hC, rfl⟩
  refine codeAny_of_tree ?_
  show wpAny _ _ (callAny (.ref C) _) _ _ _
  repeat (any_goals (first | assumption | with_reducible refine wpAny_loadPart_at hC ?_ | wp_step))
  refine ⟨rfl, ?_⟩
  refine codeAny_call_builtin_at (Code.quiet_builtin _ (by decide +kernel)) entry_typeCall (wpAny_check_type_call_sub hC (type_call_kw F hT hC hi hb ?_))
  refine codeAny_mono hq fun r s' z => ?_
  rcases r with e | (v | _ | _ | _) <;> exact z
end
end KwX
end PySem

set_option Elab.async false
set_option linter.all false
set_option maxRecDepth 100000
set_option maxHeartbeats 4000000
namespace L2
open PySem PySem.Spec PyProof.Rows
def keyD : Key → PyData
  | .inl i => .int i
  | .inr x => .str x
mutual
inductive Dat (H : Hp) : V → PyData → Prop
  | non : Dat H .non .none
  | bl (b : Bool) : Dat H (.bl b) (.bool b)
  | int (i : Int) : Dat H (.int i) (.int i)
  | str (x : Str) : Dat H (.str x) (.str x)
  | lst {a : Addr} {xs : List V} {ds : List PyData} : H a = some (.lst xs) → DatAll H xs ds → Dat H (.ref a) (.list ds)
  | tup {a : Addr} {xs : List V} {ds : List PyData} : H a = some (.tup xs) → DatAll H xs ds → Dat H (.ref a) (.tuple ds)
  | dct {a : Addr} {kvs : List (Key × V)} {ds : List (PyData × PyData)} : H a = some (.dK kvs) → DatKv H kvs ds → Dat H (.ref a) (.dict ds)
inductive DatAll (H : Hp) : List V → List PyData → Prop
  | nil : DatAll H [] []
  | cons {v : V} {d : PyData} {vs : List V} {ds : List PyData} : Dat H v d → DatAll H vs ds → DatAll H (v :: vs) (d :: ds)
inductive DatKv (H : Hp) : List (Key × V) → List (PyData × PyData) → Prop
  | nil : DatKv H [] []
  | cons {k : Key} {v : V} {d : PyData} {kvs : List (Key × V)} {ds : List (PyData × PyData)} : Dat H v d → DatKv H kvs ds → DatKv H ((k, v) :: kvs) ((keyD k, d) :: ds)
end
mutual
theorem Dat.same {H H' : Hp} (S : Same H H') : ∀ {v : V} {d : PyData}, Dat H v d → Dat H' v d
  | _, _, .non => .non
  | _, _, .bl b => .bl b
  | _, _, .int i => .int i
  | _, _, .str x => .str x
  | _, _, .lst e h => .lst (S _ _ e) (DatAll.same S h)
  | _, _, .tup e h => .tup (S _ _ e) (DatAll.same S h)
  | _, _, .dct e h => .dct (S _ _ e) (DatKv.same S h)
theorem DatAll.same {H H' : Hp} (S : Same H H') : ∀ {vs : List V} {ds : List PyData}, DatAll H vs ds → DatAll H' vs ds
  | _, _, .nil => .nil
  | _, _, .cons h t => .cons (Dat.same S h) (DatAll.same S t)
theorem DatKv.same {H H' : Hp} (S : Same H H') : ∀ {kvs : List (Key × V)} {ds : List (PyData × PyData)}, DatKv H kvs ds → DatKv H' kvs ds
  | _, _, .nil => .nil
  | _, _, .cons h t => .cons (Dat.same S h) (DatKv.same S t)
end
theorem DatAll.snoc {H : Hp} : ∀ {vs : List V} {ds : List PyData} {v : V} {d : PyData}, DatAll H vs ds → Dat H v d → DatAll H (vs ++ [v]) (ds ++ [d])
  | _, _, _, _, .nil, h => .cons h .nil
  | _, _, _, _, .cons a t, h => .cons a (DatAll.snoc t h)
theorem DatAll.len {H : Hp} : ∀ {vs : List V} {ds : List PyData}, DatAll H vs ds → vs.length = ds.length
  | _, _, .nil => rfl
  | _, _, .cons _ t => by rw [List.length_cons, List.length_cons, DatAll.len t]
section
variable {P : Program} {w : World} {H : Hp} {h : Heap}
mutual
theorem reads_of_dat (ok : HOk P w H h) : ∀ {v : V} {d : PyData} {u : Value}, Dat H v d → RelV v u → ∃ as, Reads h u d as
  | _, _, _, .non, r => by cases (show _ = Value.none from r); exact ⟨_, .none⟩
  | _, _, _, .bl b, r => by cases (show _ = Value.bool b from r); exact ⟨_, .bool b⟩
  | _, _, _, .int i, r => by obtain ⟨t, rfl⟩ := r; exact ⟨_, .int i t⟩
  | _, _, _, .str x, r => by obtain ⟨t, rfl⟩ := r; exact ⟨_, .str x t⟩
  | _, _, _, .lst (a := a) e hh, r => by
    cases (show _ = Value.ref a from r)
    obtain ⟨_, its, n, rv, e1⟩ := (show ObjOk P w H h a (.lst _) from ok a _ e)
    obtain ⟨as, R⟩ := readsAll_of_dat ok hh rv
    exact ⟨_, .list e1 rfl rfl R⟩
  | _, _, _, .tup (a := a) e hh, r => by
    cases (show _ = Value.ref a from r)
    obtain ⟨_, its, rv, o, e1, e2, n, e3⟩ := (show ObjOk P w H h a (.tup _) from ok a _ e)
    obtain ⟨as, R⟩ := readsAll_of_dat ok hh rv
    exact ⟨_, .tuple e1 e2 e3 R⟩
  | _, _, _, .dct (a := a) e hh, r => by
    cases (show _ = Value.ref a from r)
    obtain ⟨_, _, vs, rv, o, es, ep, e1, e2, e3, e4, e5, e6⟩ := (show ObjOk P w H h a (.dK _) from ok a _ e)
    obtain ⟨⟨as, A⟩, ⟨bs, B⟩⟩ := readsKv_of_dat ok hh rv e5
    exact ⟨_, .dict e1 e2.1 e3 A B⟩
theorem readsAll_of_dat (ok : HOk P w H h) : ∀ {vs : List V} {ds : List PyData} {us : List Value}, DatAll H vs ds → Vals vs us → ∃ as, ReadsAll h us ds as
  | _, _, _, .nil, .nil => ⟨_, .nil⟩
  | _, _, _, .cons a t, .cons r q => by
    obtain ⟨as, A⟩ := reads_of_dat ok a r
    obtain ⟨bs, B⟩ := readsAll_of_dat ok t q
    exact ⟨_, .cons A B⟩
theorem readsKv_of_dat (ok : HOk P w H h) : ∀ {kvs : List (Key × V)} {ds : List (PyData × PyData)} {vs : List (Key × Value)} {es : List DictEntry}, DatKv H kvs ds → KV kvs vs → Pairs (mixKind P w) es vs →
    (∃ as, ReadsAll h (es.map (·.key)) (ds.map (·.1)) as) ∧ ∃ bs, ReadsAll h (es.map (·.val)) (ds.map (·.2)) bs
  | _, _, _, _, .nil, .nil, .nil => ⟨⟨_, .nil⟩, ⟨_, .nil⟩⟩
  | _, _, _, _, .cons (k := k) hd hq, .cons r q, .cons k1 e1 p => by
    obtain ⟨rk, rv⟩ := r
    obtain ⟨⟨as, A⟩, ⟨bs, B⟩⟩ := readsKv_of_dat ok hq q p
    obtain ⟨cs, C⟩ := reads_of_dat ok hd rv
    refine ⟨?_, ⟨_, .cons (by show Reads h (DictEntry.val _) _ _; rw [e1]; exact C) B⟩⟩
    dsimp only at rk
    subst rk
    rcases keyIs_shape k1 with ⟨i, t, ek, e⟩ | ⟨x, t, ek, e⟩
    · rw [ek]; exact ⟨_, .cons (by show Reads h (DictEntry.key _) (PyData.int i) _; rw [e]; exact .int i t) A⟩
    · rw [ek]; exact ⟨_, .cons (by show Reads h (DictEntry.key _) (PyData.str x) _; rw [e]; exact .str x t) A⟩
end
theorem reprKeys_of {as : List Addr} {d : Nat} : ∀ {kvs : List (Key × V)} {ds : List (PyData × PyData)} {vs : List (Key × Value)} {es : List DictEntry}, DatKv H kvs ds → KV kvs vs → Pairs (mixKind P w) es vs → PyData.showableAll (ds.map (·.1)) = true →
    (∀ t ∈ PyData.shownAll (ds.map (·.1)), t.length ≤ sizeLine) → ReprAllK P w as h d (es.map (·.key)) (PyData.shownAll (ds.map (·.1)))
  | _, _, _, _, .nil, .nil, .nil, _, _ => by simp only [List.map_nil, PyData.shownAll]; exact .nil
  | _, _, _, _, .cons (k := k) hd hq, .cons r q, .cons k1 e1 p, hs, hz => by
    obtain ⟨rk, rv⟩ := r
    dsimp only at rk
    subst rk
    simp only [List.map_cons, PyData.showableAll, Bool.and_eq_true] at hs
    simp only [List.map_cons, PyData.shownAll] at hz ⊢
    refine .cons ?_ (reprKeys_of hq q p hs.2 fun t ht => hz t (List.mem_cons_of_mem _ ht))
    rcases keyIs_shape k1 with ⟨i, t, ek, e⟩ | ⟨x, t, ek, e⟩
    · rw [ek] at hs ⊢
      rw [e]
      simp only [keyD, PyData.shown]
      exact .of_is (ReprIs.int t (by simpa [keyD, PyData.showable] using hs.1)) _ _ _
    · rw [ek] at hz ⊢
      rw [e]
      simp only [keyD, PyData.shown]
      exact .of_is (ReprIs.str x t (by have := hz _ (List.mem_cons_self ..); simpa only [keyD, PyData.shown] using this)) _ _ _
mutual
theorem reprK_of_dat (ok : HOk P w H h) : ∀ {v : V} {d : PyData} {u : Value}, Dat H v d → RelV v u → d.showable = true → d.shown.length ≤ sizeLine → ∃ bs, ReadAtMost h d.depth bs ∧ ReprK P w bs h d.depth u d.shown
  | _, _, _, .non, r, _, _ => by cases (show _ = Value.none from r); exact ⟨[], (fun _ h => nomatch h), by simp only [PyData.shown]; exact .of_is ReprIs.none _ _ _⟩
  | _, _, _, .bl b, r, _, _ => by cases (show _ = Value.bool b from r); exact ⟨[], (fun _ h => nomatch h), by simp only [PyData.shown]; exact .of_is (ReprIs.bool b) _ _ _⟩
  | _, _, _, .int i, r, hs, _ => by obtain ⟨t, rfl⟩ := r; exact ⟨[], (fun _ h => nomatch h), by simp only [PyData.shown]; exact .of_is (ReprIs.int t (by simpa [PyData.showable] using hs)) _ _ _⟩
  | _, _, _, .str x, r, _, hz => by obtain ⟨t, rfl⟩ := r; exact ⟨[], (fun _ h => nomatch h), by simp only [PyData.shown]; exact .of_is (ReprIs.str x t (by simpa only [PyData.shown] using hz)) _ _ _⟩
  | _, _, _, .lst (a := a) (xs := xs) (ds := ds) e hh, r, hs, hz => by
    obtain ⟨as, R0⟩ := reads_of_dat ok (Dat.lst e hh) r
    cases (show _ = Value.ref a from r)
    obtain ⟨_, its, n, rv, e1⟩ := (show ObjOk P w H h a (.lst _) from ok a _ e)
    have hz' : (listText (PyData.shownAll ds)).length ≤ sizeLine := by simpa only [PyData.shown] using hz
    obtain ⟨bs, hb, hk⟩ := reprAllK_of_dat ok hh rv (by simpa [PyData.showable] using hs) (fun t ht => Nat.le_trans (listText_mem_le ht) hz')
    have hna : a ∉ bs := not_mem_of_deeper R0 (by simp only [PyData.depth]; omega) hb
    refine ⟨a :: bs, ReadAtMost.cons R0 (by simp only [PyData.depth]; omega) hb, ?_⟩
    simp only [PyData.depth, PyData.shown]
    cases its with
    | nil =>
      cases rv
      cases hh
      simp only [PyData.shownAll, listText_nil]
      exact ReprK.listEmpty e1 rfl rfl
    | cons x l => exact ReprK.list e1 rfl rfl hna (by simpa using hk.length_eq) (fun i y e => hk.item i y (by simpa using e))
  | _, _, _, .tup (a := a) (xs := xs) (ds := ds) e hh, r, hs, hz => by
    obtain ⟨as, R0⟩ := reads_of_dat ok (Dat.tup e hh) r
    cases (show _ = Value.ref a from r)
    obtain ⟨_, its, rv, o, e1, e2, n, e3⟩ := (show ObjOk P w H h a (.tup _) from ok a _ e)
    have hz' : (tupleText (PyData.shownAll ds)).length ≤ sizeLine := by simpa only [PyData.shown] using hz
    obtain ⟨bs, hb, hk⟩ := reprAllK_of_dat ok hh rv (by simpa [PyData.showable] using hs) (fun t ht => Nat.le_trans (tupleText_mem_le ht) hz')
    have hna : a ∉ bs := not_mem_of_deeper R0 (by simp only [PyData.depth]; omega) hb
    refine ⟨a :: bs, ReadAtMost.cons R0 (by simp only [PyData.depth]; omega) hb, ?_⟩
    simp only [PyData.depth, PyData.shown]
    exact ReprK.tuple e1 e2 e3 hna (by simpa using hk)
  | _, _, _, .dct (a := a) (kvs := kvs) (ds := ds) e hh, r, hs, hz => by
    obtain ⟨as, R0⟩ := reads_of_dat ok (Dat.dct e hh) r
    cases (show _ = Value.ref a from r)
    obtain ⟨_, hsys, vs, rv, o, es, ep, e1, e2, e3, e4, e5, e6⟩ := (show ObjOk P w H h a (.dK _) from ok a _ e)
    have hz' : (dictText (PyData.shownKv ds)).length ≤ sizeLine := by simpa only [PyData.shown] using hz
    obtain ⟨hs1, hs2⟩ := PyData.showableKv_split ds (by simpa [PyData.showable] using hs)
    have k1 : ReprAllK P w [] h (PyData.depthKv ds) (es.toList.map (·.key)) (PyData.shownAll (ds.map (·.1))) := reprKeys_of hh rv e5 hs1 (fun t ht => let ⟨p, hp, hl⟩ := PyData.shownKv_key_le ds t ht; Nat.le_trans hl (Nat.le_trans (dictText_mem_le hp) hz'))
    obtain ⟨b2, hb2, k2⟩ := reprVals_of_dat ok hh rv e5 hs2 (fun t ht => let ⟨p, hp, hl⟩ := PyData.shownKv_val_le ds t ht; Nat.le_trans hl (Nat.le_trans (dictText_mem_le hp) hz'))
    have hb : ReadAtMost h (PyData.depthKv ds) b2 := hb2.mono (PyData.depthAll_vals_le ds)
    have hna : a ∉ b2 := not_mem_of_deeper R0 (by simp only [PyData.depth]; omega) hb
    refine ⟨a :: b2, ReadAtMost.cons R0 (by simp only [PyData.depth]; omega) hb, ?_⟩
    simp only [PyData.depth, PyData.shown, PyData.shownKv_eq]
    exact ReprK.dict e1 e2.1 e3 hsys hna (ReprEntriesK.of_two es.toList _ _
      (k1.more_le (fun b hb => absurd hb (by simp)) (Nat.le_refl _)) (k2.more_le (fun b hb => hb) (PyData.depthAll_vals_le ds)))
theorem reprAllK_of_dat (ok : HOk P w H h) : ∀ {vs : List V} {ds : List PyData} {us : List Value}, DatAll H vs ds → Vals vs us → PyData.showableAll ds = true → (∀ t ∈ PyData.shownAll ds, t.length ≤ sizeLine) →
    ∃ bs, ReadAtMost h (PyData.depthAll ds) bs ∧ ReprAllK P w bs h (PyData.depthAll ds) us (PyData.shownAll ds)
  | _, _, _, .nil, .nil, _, _ => ⟨[], (fun _ h => nomatch h), by simp only [PyData.shownAll]; exact .nil⟩
  | _, _, _, .cons (d := d) (ds := ds) a t, .cons r q, hs, hz => by
    have hs' : d.showable = true ∧ PyData.showableAll ds = true := by simpa [PyData.showableAll] using hs
    obtain ⟨b1, hb1, k1⟩ := reprK_of_dat ok a r hs'.1 (hz _ (by simp only [PyData.shownAll]; exact List.mem_cons_self ..))
    obtain ⟨b2, hb2, k2⟩ := reprAllK_of_dat ok t q hs'.2 (fun t ht => hz t (by simp only [PyData.shownAll]; exact List.mem_cons_of_mem _ ht))
    refine ⟨b1 ++ b2, ?_, ?_⟩
    · simp only [PyData.depthAll]
      exact (hb1.mono (Nat.le_max_left _ _)).append (hb2.mono (Nat.le_max_right _ _))
    · simp only [PyData.depthAll, PyData.shownAll]
      exact .cons ((k1.more fun b hb => List.mem_append_left _ hb).level_le (Nat.le_max_left _ _)) (k2.more_le (fun b hb => List.mem_append_right _ hb) (Nat.le_max_right _ _))
theorem reprVals_of_dat (ok : HOk P w H h) : ∀ {kvs : List (Key × V)} {ds : List (PyData × PyData)} {vs : List (Key × Value)} {es : List DictEntry}, DatKv H kvs ds → KV kvs vs → Pairs (mixKind P w) es vs → PyData.showableAll (ds.map (·.2)) = true → (∀ t ∈ PyData.shownAll (ds.map (·.2)), t.length ≤ sizeLine) →
    ∃ bs, ReadAtMost h (PyData.depthAll (ds.map (·.2))) bs ∧ ReprAllK P w bs h (PyData.depthAll (ds.map (·.2))) (es.map (·.val)) (PyData.shownAll (ds.map (·.2)))
  | _, _, _, _, .nil, .nil, .nil, _, _ => ⟨[], (fun _ h => nomatch h), by simp only [List.map_nil, PyData.shownAll]; exact .nil⟩
  | _, _, _, _, .cons (d := d) (ds := ds) a t, .cons r q, .cons k1 e1 p, hs, hz => by
    obtain ⟨rk, rv⟩ := r
    have hs' : d.showable = true ∧ PyData.showableAll (ds.map (·.2)) = true := by simpa [PyData.showableAll] using hs
    obtain ⟨b1, hb1, k1⟩ := reprK_of_dat ok a rv hs'.1 (hz _ (by simp only [List.map_cons, PyData.shownAll]; exact List.mem_cons_self ..))
    obtain ⟨b2, hb2, k2⟩ := reprVals_of_dat ok t q p hs'.2 (fun t ht => hz t (by simp only [List.map_cons, PyData.shownAll]; exact List.mem_cons_of_mem _ ht))
    refine ⟨b1 ++ b2, ?_, ?_⟩
    · simp only [List.map_cons, PyData.depthAll]
      exact (hb1.mono (Nat.le_max_left _ _)).append (hb2.mono (Nat.le_max_right _ _))
    · simp only [List.map_cons, PyData.depthAll, PyData.shownAll]
      rw [e1]
      exact .cons ((k1.more fun b hb => List.mem_append_left _ hb).level_le (Nat.le_max_left _ _)) (k2.more_le (fun b hb => List.mem_append_right _ hb) (Nat.le_max_right _ _))
end
end
section
variable {X : Cx}
def rRepr : List V → Hp → VK → Prop := fun xs H Q => ∃ v d, xs = [v] ∧ Dat H v d ∧ d.showable = true ∧ d.depth ≤ 50 ∧ d.shown.length ≤ sizeLine ∧ Q (.str d.shown) H
theorem call_reprD (hg : X.A.guards = some []) (hu : X.A.units + 64 < cLine) : CallR X (.builtin "repr") rRepr := by
  intro pins s σ H xs us Q I r h
  obtain ⟨v, d, rfl, D, hs, hd, hz, q⟩ := h
  obtain ⟨u, rfl, ru⟩ := vals1 r
  have fin : ∀ (h' : Heap) (tk tk' : Tok), (∀ b o, s.heap.get? b = some o → h'.get? b = some o) → EP X pins σ Q (.str d.shown tk') { s with heap := h', toks := tk } := fun h' tk tk' k => ⟨.str d.shown, H, I.kept (t' := tk) k, ⟨_, rfl⟩, q⟩
  have nl : ∀ {b : Addr}, Clear ([] : List Code) b := fun {b} => Clear.nil b
  cases D with
  | non =>
    cases (show _ = Value.none from ru)
    simp only [PyData.shown] at fin
    exact PySem.P.repr_of_none (fin s.heap _ _ fun _ _ e => e)
  | bl b =>
    cases (show _ = Value.bool b from ru)
    simp only [PyData.shown] at fin
    exact PySem.P.repr_of_bool (fin s.heap _ _ fun _ _ e => e)
  | int i =>
    obtain ⟨t, rfl⟩ := ru
    simp only [PyData.shown] at fin
    exact PySem.P.repr_of_int (by simpa [PyData.showable] using hs) (fin s.heap _ _ fun _ _ e => e)
  | str x =>
    obtain ⟨t, rfl⟩ := ru
    simp only [PyData.shown] at fin
    exact PySem.P.repr_of_str (fin s.heap _ _ fun _ _ e => e) (by simpa only [PyData.shown] using hz)
  | @lst a xs ds e hh =>
    obtain ⟨as, R0⟩ := reads_of_dat I.hok (Dat.lst e hh) ru
    cases (show _ = Value.ref a from ru)
    obtain ⟨_, its, n, rv, e1⟩ := (show ObjOk X.prog X.w H s.heap a (.lst _) from I.hok a _ e)
    have hz' : (listText (PyData.shownAll ds)).length ≤ sizeLine := by simpa only [PyData.shown] using hz
    obtain ⟨bs, hb, hk⟩ := reprAllK_of_dat I.hok hh rv (by simpa [PyData.showable] using hs) (fun t ht => Nat.le_trans (listText_mem_le ht) hz')
    have hna : a ∉ bs := not_mem_of_deeper R0 (by simp only [PyData.depth]; omega) hb
    simp only [PyData.shown] at fin
    simp only [PyData.depth] at hd
    refine call_repr_slot (by omega) ⟨_, e1, rfl⟩ F.slot_list_repr.toG ?_
    cases its with
    | nil =>
      cases rv
      cases hh
      simp only [PyData.shownAll, listText_nil] at fin
      exact call_list_repr_empty ⟨_, e1, rfl⟩ e1 rfl ⟨_, _, rfl, fin s.heap _ _ fun _ _ e => e⟩
    | cons x l =>
      exact call_list_reprK (h₀ := s.heap) e1 rfl rfl hna (by simpa using hk.length_eq) (fun i y e => hk.item i y (by simpa using e)) hg (fun b _ => Clear.nil b) (by show X.A.units + 1 + _ < cLine; omega) (fun _ _ e => e) (fun h' u tk k => ⟨_, _, rfl, fin h' tk u k⟩) hz'
  | @tup a xs ds e hh =>
    obtain ⟨as, R0⟩ := reads_of_dat I.hok (Dat.tup e hh) ru
    cases (show _ = Value.ref a from ru)
    obtain ⟨_, its, rv, o, e1, e2, n, e3⟩ := (show ObjOk X.prog X.w H s.heap a (.tup _) from I.hok a _ e)
    have hz' : (tupleText (PyData.shownAll ds)).length ≤ sizeLine := by simpa only [PyData.shown] using hz
    obtain ⟨bs, hb, hk⟩ := reprAllK_of_dat I.hok hh rv (by simpa [PyData.showable] using hs) (fun t ht => Nat.le_trans (tupleText_mem_le ht) hz')
    have hna : a ∉ bs := not_mem_of_deeper R0 (by simp only [PyData.depth]; omega) hb
    simp only [PyData.shown] at fin
    simp only [PyData.depth] at hd
    refine call_repr_slot (by omega) ⟨_, e1, e2⟩ F.slot_tuple_repr ?_
    exact call_tuple_reprK (h₀ := s.heap) e1 e2 e3 hna (by simpa using hk) hg (fun b _ => Clear.nil b) (by show X.A.units + 1 + _ < cLine; omega) (fun _ _ e => e) (fun h' u tk k => ⟨_, _, rfl, fin h' tk u k⟩) hz'
  | @dct a kvs ds e hh =>
    obtain ⟨as, R0⟩ := reads_of_dat I.hok (Dat.dct e hh) ru
    cases (show _ = Value.ref a from ru)
    obtain ⟨_, hsys, vs, rv, o, es, ep, e1, e2, e3, e4, e5, e6⟩ := (show ObjOk X.prog X.w H s.heap a (.dK _) from I.hok a _ e)
    have hz' : (dictText (PyData.shownKv ds)).length ≤ sizeLine := by simpa only [PyData.shown] using hz
    obtain ⟨hs1, hs2⟩ := PyData.showableKv_split ds (by simpa [PyData.showable] using hs)
    have k1 : ReprAllK X.prog X.w [] s.heap (PyData.depthKv ds) (es.toList.map (·.key)) (PyData.shownAll (ds.map (·.1))) := reprKeys_of hh rv e5 hs1 (fun t ht => let ⟨p, hp, hl⟩ := PyData.shownKv_key_le ds t ht; Nat.le_trans hl (Nat.le_trans (dictText_mem_le hp) hz'))
    obtain ⟨b2, hb2, k2⟩ := reprVals_of_dat I.hok hh rv e5 hs2 (fun t ht => let ⟨p, hp, hl⟩ := PyData.shownKv_val_le ds t ht; Nat.le_trans hl (Nat.le_trans (dictText_mem_le hp) hz'))
    have hb : ReadAtMost s.heap (PyData.depthKv ds) b2 := hb2.mono (PyData.depthAll_vals_le ds)
    have hna : a ∉ b2 := not_mem_of_deeper R0 (by simp only [PyData.depth]; omega) hb
    simp only [PyData.shown, PyData.shownKv_eq] at fin
    simp only [PyData.depth] at hd
    refine call_repr_slot (by omega) ⟨_, e1, e2.1⟩ F.slot_dict_repr ?_
    exact call_dict_reprK (h₀ := s.heap) e1 e2.1 e3 hsys hna (ReprEntriesK.of_two es.toList _ _ (k1.more_le (fun b hb => absurd hb (by simp)) (Nat.le_refl _)) (k2.more_le (fun b hb => hb) (PyData.depthAll_vals_le ds)))
      hg (fun b _ => Clear.nil b) (by show X.A.units + 1 + _ < cLine; omega) (fun _ _ e => e) (fun h' u tk k => ⟨_, _, rfl, fin h' tk u k⟩) (by rw [← PyData.shownKv_eq]; exact hz')
end
end L2

set_option Elab.async false
set_option linter.all false
set_option maxRecDepth 100000
set_option maxHeartbeats 4000000
namespace L2
open PySem PySem.Spec PyProof.Rows
/-- what isinstance and the field's reading ask of an error class -/
def errB (K : PySem.W.Frag) (fI C : Addr) : Bool :=
  decide (PySem.W.findIn K (.ref C) "__setattr__" = some (some (.builtin "object.__setattr__"))) && (decide (PySem.W.findIn K (.ref C) "__getattribute__" = some (some (.builtin "BaseException.__getattribute__"))) &&
  (decide (PySem.W.findIn K (.ref C) "__getattr__" = some none) && (decide (PySem.W.findIn K (.ref C) "value" = some none) && (decide (PySem.W.findIn K (.ref C) "__init__" = some (some (.ref fI))) &&
  (decide (PySem.W.subIn K (.ref C) (.type "BaseException") = some true) && (decide (PySem.W.typeIn K (.ref C) = some (.type "type")) && (PySem.W.keepIn K (.ref C) && (PySem.W.hasDictIn K C &&
  (decide (PySem.W.findIn K (.ref C) "__class__" = some (some (.builtin "object.__class__"))) && decide (PySem.W.mroIn K C (.type "object") = some true))))))))))
structure ErrC (K : PySem.W.Frag) (fI C : Addr) : Prop where
  o : OexC K C
  ga : PySem.W.findIn K (.ref C) "__getattribute__" = some (some (.builtin "BaseException.__getattribute__"))
  gg : PySem.W.findIn K (.ref C) "__getattr__" = some none
  no : PySem.W.findIn K (.ref C) "value" = some none
  iC : PySem.W.findIn K (.ref C) "__init__" = some (some (.ref fI))
  hd : PySem.W.hasDictIn K C = true
  cl : PySem.W.findIn K (.ref C) "__class__" = some (some (.builtin "object.__class__"))
  mo : PySem.W.mroIn K C (.type "object") = some true
theorem errB_ok {K : PySem.W.Frag} {fI C : Addr} (h : errB K fI C = true) (cls : ∃ nm q N bs bm sn sub ab col dd k0 k1 k2 k3 k5, K.lookup C = some (excClassObj nm q C N bs bm true sn sub ab col dd k0 k1 k2 k3 k5 "ValueError.__new__") ∧ PySem.HandSPX.refsVE bm = true) : ErrC K fI C := by
  obtain ⟨h1, h⟩ := Bool.and_eq_true_iff.mp h
  obtain ⟨h2, h⟩ := Bool.and_eq_true_iff.mp h
  obtain ⟨h3, h⟩ := Bool.and_eq_true_iff.mp h
  obtain ⟨h4, h⟩ := Bool.and_eq_true_iff.mp h
  obtain ⟨h5, h⟩ := Bool.and_eq_true_iff.mp h
  obtain ⟨h6, h⟩ := Bool.and_eq_true_iff.mp h
  obtain ⟨h7, h⟩ := Bool.and_eq_true_iff.mp h
  obtain ⟨h8, h⟩ := Bool.and_eq_true_iff.mp h
  obtain ⟨h9, h⟩ := Bool.and_eq_true_iff.mp h
  obtain ⟨h10, h11⟩ := Bool.and_eq_true_iff.mp h
  exact ⟨⟨cls, of_decide_eq_true h1, of_decide_eq_true h6, of_decide_eq_true h7, h8⟩, of_decide_eq_true h2, of_decide_eq_true h3, of_decide_eq_true h4, of_decide_eq_true h5, h9, of_decide_eq_true h10, of_decide_eq_true h11⟩
/-- an error of the class at C that keeps v stands at e, its own dict at d -/
def Err (H : Hp) (e d C : Addr) (v : V) : Prop := H e = some (exo e C (some d)) ∧ H d = some (exd d [(("value" : Str), v)])
theorem Err.same {H H' : Hp} {e d C : Addr} {v : V} (h : Err H e d C v) (S : Same H H') : Err H' e d C v := ⟨S _ _ h.1, S _ _ h.2⟩
/-- the promise of SightError.__init__ -/
def spInit (K : PySem.W.Frag) : Sp := fun vs H Q _ => ∃ (a C : Addr) (v : V), vs = [.ref a, v] ∧ OexC K C ∧ PySem.W.findIn K (.ref C) "value" = some none ∧ H a = some (exo a C none) ∧
  ∀ d, H d = none → d ≠ a → Q .non (upd (upd H d (exd d [(("value" : Str), v)])) a (exo a C (some d)))
/-- C(e), C(value=e): a new error -/
def tMkE (C : Addr) (te : TE) : TE := fun σ H Q => te σ H fun v H1 => ∀ (a d : Addr) (H2 : Hp), H1 a = none → H1 d = none → d ≠ a → Err H2 a d C v → Same H1 H2 → Q (.ref a) H2
theorem err_made {H1 : Hp} {a d C : Addr} {v : V} (na : H1 a = none) (hd : upd H1 a (exo a C none) d = none) (ne : d ≠ a) : H1 d = none ∧ Err (upd (upd (upd H1 a (exo a C none)) d (exd d [(("value" : Str), v)])) a (exo a C (some d))) a d C v ∧ Same H1 (upd (upd (upd H1 a (exo a C none)) d (exd d [(("value" : Str), v)])) a (exo a C (some d))) := by
  rw [upd_ne ne] at hd
  refine ⟨hd, ⟨upd_same, by rw [upd_ne ne, upd_same]⟩, fun b o e => ?_⟩
  rw [upd_ne (ne_of_none e na), upd_ne (ne_of_none e hd), upd_ne (ne_of_none e na)]
  exact e
section
variable {X : Cx} {fI C : Addr} {k : Nat} {fd : FuncData} {x : Str} {e : Expr} {te : TE} {p pos kp : Pos}
theorem run_err {pins : List (Addr × Obj)} {σ : St} {H1 : Hp} {Q : VK} {hp : Heap} {g : Array GenState} {d : Drawn} {t : Nat} {os : OsState} {v : V} {u : Value} {args : Args} {us : List Value} {kw : List (Str × Value)} (T : ErrC X.K fI C)
    (F1 : FnOk X.prog X.w X.K X.mg X.base CX0 k fI fd ["self", "value"] (spInit X.K)) (hr : Room (k + 1) X.A) (I1 : Inv X pins σ H1 ⟨hp, g, d, t, os⟩) (rv : RelV v u) {tp : Obj}
    (hb : ∀ s : Shared, BindsTo s fd ⟨.ref (hp.objs.size + 1) :: us, kw⟩ ((["self", "value"] : List Str).zip [Value.ref (hp.objs.size + 1), u]))
    (q : ∀ (a d : Addr) (H2 : Hp), H1 a = none → H1 d = none → d ≠ a → Err H2 a d C v → Same H1 H2 → Q (.ref a) H2) :
    codeAny (model X.prog X.w) (X.A.under (.builtin "type.__call__" ⟨.ref C :: us, kw⟩)) (.call (.ref fI) ⟨.ref (hp.objs.size + 1) :: us, kw⟩) (PySem.W.InitBack (hp.objs.size + 1) fun r s' => ∃ u, r = .ok (.ret u) ∧ EP X pins σ Q u s')
      ⟨(hp.push tp).push (PySem.HandSPX.excO C hp.objs.size), g, d, t, os⟩ := by
  have hsz : hp.objs.size ≤ hp.objs.size + 1 := Nat.le_succ _
  have hn : H1 (hp.objs.size + 1) = none := I1.hok.fresh hsz
  have kk : ∀ b o, hp.get? b = some o → ((hp.push tp).push (PySem.HandSPX.excO C hp.objs.size)).get? b = some o := fun b o e => Heap.get?_push_of_some _ (Heap.get?_push_of_some _ e)
  have hget : ((hp.push tp).push (PySem.HandSPX.excO C hp.objs.size)).get? (hp.objs.size + 1) = some (PySem.HandSPX.excO C hp.objs.size) := by heap_get
  have I2 : Inv X pins σ (upd H1 (hp.objs.size + 1) (exo (hp.objs.size + 1) C none)) ⟨(hp.push tp).push (PySem.HandSPX.excO C hp.objs.size), g, d, t, os⟩ :=
    I1.laid (t' := t) (a := hp.objs.size + 1) (o := exo (hp.objs.size + 1) C none) (h' := (hp.push tp).push (PySem.HandSPX.excO C hp.objs.size)) kk hsz (exo_ok hget)
  have r2 : Vals [V.ref (hp.objs.size + 1), v] [Value.ref (hp.objs.size + 1), u] := .cons rfl (.cons rv .nil)
  have hq : spInit X.K [V.ref (hp.objs.size + 1), v] (upd H1 (hp.objs.size + 1) (exo (hp.objs.size + 1) C none)) (fun y H2 => y = .non ∧ Q (.ref (hp.objs.size + 1)) H2) E0 :=
    ⟨_, C, v, rfl, T.o, T.no, upd_same, fun d hd ne => ⟨rfl, let ⟨z1, z2, z3⟩ := err_made hn hd ne; q _ d _ hn z1 ne z2 z3⟩⟩
  refine codeAny_mono (F1.run _ X.stack _ _ _ [Value.ref (hp.objs.size + 1), u] _ _ E0 (hr.make C us kw) (I2.env0.make C us kw) (hb _) r2 hq) fun r s' hq' => ?_
  cases r with
  | error er => exact False.elim hq'
  | ok fl =>
    cases fl with
    | ret y =>
      obtain ⟨w, H', I3, rw', ew, q3⟩ := I2.after hq'
      subst ew
      exact ⟨rw', _, rfl, V.ref (hp.objs.size + 1), H', I3, rfl, q3⟩
    | next => exact False.elim hq'
    | brk => exact False.elim hq'
    | cont => exact False.elim hq'
theorem pe_err (T : ErrC X.K fI C) (tI : PySem.W.typeIn X.K (.ref fI) = some (.type "function")) (F1 : FnOk X.prog X.w X.K X.mg X.base CX0 k fI fd ["self", "value"] (spInit X.K)) (hr : Room (k + 1) X.A)
    (hb : ∀ (s : Shared) (a u : Value), BindsTo s fd ⟨[a, u], []⟩ ((["self", "value"] : List Str).zip [a, u])) (hg : Gl X x) (hm : X.mg x = some (.ref C)) (he : PE X e te)
    (hdb : (x == ("__debug__" : Str)) = false := by decide) (hs : starEach [e] X.env = (false, eval e X.env) :: starEach [] X.env := by rfl) : PE X (.Call (.Name x p) [e] [] pos) (tMkE C te) := by
  refine ⟨fun pins s σ H Q I h => ?_⟩
  obtain ⟨nm, q, N, bs, bm, sn, sub, ab, col, dd, k0, k1, k2, k3, k5, hC, hbm⟩ := T.o.cls
  refine wpAny_Call_Name_kw (ld_glob I hg hm ?_ hdb)
  refine PySem.W.callWith_K (h₀ := X.base) I.ok.mod.kin T.o.kC ?_ hs (by rfl)
  rw [hs]
  show wpAny _ _ (spliced ((false, eval e X.env) :: backTo pos (starEach [] X.env))) _ _ s
  refine Calls.spliced_cons (thn (he.run pins s σ H _ I h) fun u s1 ⟨v, H1, I1, r1, q1⟩ => ?_)
  refine Calls.spliced_nil ⟨I1.kIn, ?_⟩
  show wpAny _ _ (call (.ref C) [u]) _ _ _
  obtain ⟨hp, g, dr, tk, os⟩ := s1
  refine wpAny_call (codeAny_mono (PySem.HandSPX.call_own F.excBase_ValueError (fun Y => PySem.HandSPX.refsVE_contains Y bm hbm) (I1.kIn _ _ hC) (PySem.W.looks_findIn I1.kIn T.iC) (fun self => PySem.W.bind_fn I1.kIn self tI) (by show 1 ≤ sizeLine; rw [sizeLine_eq]; omega)
    (run_err (kw := []) (us := [u]) (args := ⟨[], []⟩) T F1 hr I1 r1 (fun s => hb s _ u) q1)) fun r s' hq => ?_)
  obtain ⟨y, rfl, ep⟩ := hq
  exact ep
theorem pe_errK (T : ErrC X.K fI C) (tI : PySem.W.typeIn X.K (.ref fI) = some (.type "function")) (F1 : FnOk X.prog X.w X.K X.mg X.base CX0 k fI fd ["self", "value"] (spInit X.K)) (hr : Room (k + 1) X.A)
    (hb : ∀ (s : Shared) (a u : Value), BindsTo s fd ⟨[a], [("value", u)]⟩ ((["self", "value"] : List Str).zip [a, u])) (hg : Gl X x) (hm : X.mg x = some (.ref C)) (he : PE X e te)
    (hdb : (x == ("__debug__" : Str)) = false := by decide) (hall : (backToKw pos (keywordEach [⟨some "value", e, kp⟩] X.env)).all (·.1.isSome) = true := by rfl) (hks : (backToKw pos (keywordEach [⟨some "value", e, kp⟩] X.env)).filterMap (·.1) = [("value" : Str)] := by rfl)
    (hpl : ((backTo pos (starEach [] X.env)).any (·.1) || (backToKw pos (keywordEach [⟨some "value", e, kp⟩] X.env)).any (·.1.isNone)) = false := by rfl) : PE X (.Call (.Name x p) [] [⟨some "value", e, kp⟩] pos) (tMkE C te) := by
  refine ⟨fun pins s σ H Q I h => ?_⟩
  obtain ⟨nm, q, N, bs, bm, sn, sub, ab, col, dd, k0, k1, k2, k3, k5, hC, hbm⟩ := T.o.cls
  refine wpAny_Call_Name_kw (ld_glob I hg hm ?_ hdb)
  refine PySem.W.callWith_KW0 (h₀ := X.base) I.ok.mod.kin T.o.kC hall ?_ hpl
  refine thn ((pk_cons he pk_nil).run pos pins s σ H (fun vs H1 => ∃ v, vs = [v] ∧ ∀ (a d : Addr) (H2 : Hp), H1 a = none → H1 d = none → d ≠ a → Err H2 a d C v → Same H1 H2 → Q (.ref a) H2) I ?_) fun ws s2 ⟨zs, H2, I2, rz, q2⟩ => ?_
  · refine (?_ : te σ H _)
    have h' : te σ H (fun v H1 => ∀ (a d : Addr) (H2 : Hp), H1 a = none → H1 d = none → d ≠ a → Err H2 a d C v → Same H1 H2 → Q (.ref a) H2) := h
    have e : (fun (v : V) (H1 : Hp) => ∀ (a d : Addr) (H2 : Hp), H1 a = none → H1 d = none → d ≠ a → Err H2 a d C v → Same H1 H2 → Q (.ref a) H2) = (fun x H1 => tNil σ H1 fun xs H2 => ∃ v, x :: xs = [v] ∧ ∀ (a d : Addr) (H3 : Hp), H2 a = none → H2 d = none → d ≠ a → Err H3 a d C v → Same H2 H3 → Q (.ref a) H3) := by
      funext v H1
      refine propext ⟨fun z => ⟨v, rfl, z⟩, fun ⟨w, e, z⟩ => ?_⟩
      cases e
      exact z
    rw [e] at h'
    exact h'
  · obtain ⟨v, rfl, q1⟩ := q2
    obtain ⟨u, rfl, r1⟩ := vals1 rz
    refine ⟨I2.kIn, ?_⟩
    rw [hks]
    show wpAny _ _ (call (.ref C) [] [(("value" : Str), u)]) _ _ _
    obtain ⟨hp, g, dr, tk, os⟩ := s2
    refine wpAny_call (codeAny_mono (PySem.KwX.call_kw F.excBase_ValueError (fun Y => PySem.HandSPX.refsVE_contains Y bm hbm) (I2.kIn _ _ hC) (PySem.W.looks_findIn I2.kIn T.iC) (fun self => PySem.W.bind_fn I2.kIn self tI)
      (run_err (kw := [(("value" : Str), u)]) (us := []) (args := ⟨[], []⟩) T F1 hr I2 r1 (fun s => hb s _ u) q1)) fun r s' hq => ?_)
    obtain ⟨y, rfl, ep⟩ := hq
    exact ep
/-- e.value -/
def tErrV (K : PySem.W.Frag) (fI : Addr) (te : TE) : TE := fun σ H Q => te σ H fun x H1 => ∃ (a d C : Addr) (v : V), x = .ref a ∧ ErrC K fI C ∧ Err H1 a d C v ∧ Q v H1
theorem pe_errV (he : PE X e te) (hb : attributeBase e "value" X.env (eval e X.env) = eval e X.env := by rfl) : PE X (.Attribute e "value" pos) (tErrV X.K fI te) := by
  refine ⟨fun pins s σ H Q I h => ?_⟩
  refine attr_of hb (thn (he.run pins s σ H _ I h) fun u s1 hh => ?_)
  obtain ⟨x, H1, I1, rx, a, d, C, v, rfl, T, ⟨e1, e2⟩, q⟩ := hh
  obtain rfl : u = Value.ref a := rx
  obtain ⟨t1, ho⟩ := exo_at I1.hok e1
  obtain ⟨mA, hns, hr⟩ := exd_at I1.hok e2
  obtain ⟨od, hod, hl⟩ := lookIn_ns hns
  obtain ⟨w, hu, ru⟩ := RelO.some_of (v := v) (o := mA "value") (by have z := hr "value"; rw [lookup_put, if_pos rfl] at z; exact z)
  have J : PySem.W.InstAt s1.heap a { cls := .ref C, dict := some d, data := .fields #[.ref t1, .none, .none, .none, .bool false, .none] } C (some od) := ⟨ho, rfl, rfl, hod⟩
  exact HandSPX.exc_get I1.kIn J T.ga T.gg T.o.exC (PySem.W.findObj_own T.hd T.no rfl (by rw [hl, hu])) (handed_of ru) ⟨v, H1, I1.tok _, ru, q⟩
/-- isinstance(e, c) -/
def rIsErr (K : PySem.W.Frag) (fI : Addr) : List V → Hp → VK → Prop := fun xs H Q => ∃ (a d C : Addr) (v c : V) (cv : Value) (b : Bool), xs = [.ref a, c] ∧ ErrC K fI C ∧ Err H a d C v ∧ (∀ u, RelV c u → u = cv) ∧ PySem.W.kitOne K (.ref C) cv = some b ∧ Q (.bl b) H
theorem call_isErr (hn : PySem.W.specialIn X.K (.builtin "object.__class__") "__get__" = some (some (.builtin "getset_descriptor.__get__"))) (htk : PySem.W.takesIn X.K (.builtin "object.__class__") = some true) : CallR X (.builtin "isinstance") (rIsErr X.K fI) := by
  intro pins s σ H xs us Q I r h
  obtain ⟨a, d, C, v, c, cv, b, rfl, T, ⟨e1, e2⟩, hcv, e, q⟩ := h
  obtain ⟨u1, u2, rfl, r1, r2⟩ := vals2 r
  have ec := hcv _ r2
  subst ec
  cases (show u1 = Value.ref a from r1)
  obtain ⟨t1, ho⟩ := exo_at I.hok e1
  obtain ⟨mA, hns, hr⟩ := exd_at I.hok e2
  obtain ⟨od, hod, hl⟩ := lookIn_ns hns
  have J : PySem.W.InstAt s.heap a { cls := .ref C, dict := some d, data := .fields #[.ref t1, .none, .none, .none, .bool false, .none] } C (some od) := ⟨ho, rfl, rfl, hod⟩
  exact PySem.W.kia_one (PySem.W.kitx_exc (by obtain ⟨cd, hc, _⟩ := PySem.W.any_some T.hd; rw [hc]; rfl) T.ga T.gg T.o.exC T.cl hn htk T.mo) I.kIn J e (fun z => nomatch z) fun tk => ⟨.bl b, H, I.kept (t' := tk) fun _ _ z => z, rfl, q⟩
end
/-! ### defs that need to know the guards around (repr) -/
structure FnOkG (P : Program) (w : World) (K : PySem.W.Frag) (mg : Str → Option Value) (base : Heap) (k : Nat) (f : Addr) (fd : FuncData) (ps : List Str) (sp : Sp) : Prop where
  len : ∀ vs H Q E, sp vs H Q E → vs.length = ps.length
  run : ∀ (A : Around) (outer : List Env) (s : Shared) (H : Hp) (args : Args) (us : List Value) (vs : List V) (Q : VK) (E : XK), A.guards = some [] → Room k A → Env0 P w K mg base A outer s H → BindsTo s fd args (ps.zip us) → Vals vs us → sp vs H Q E →
    codeAny (model P w) A (.call (.ref f) args) (CR CX0 outer P w H s Q E) s
section
variable {P : Program} {w : World} {K : PySem.W.Frag} {mg : Str → Option Value} {base : Heap}
/-- one call of a def of the text, at one place: from its body's reading there -/
theorem run_once {x qual : Str} {st : Stmt} {f : Addr} {fd : FuncData} {N ps : List Str} (F : Fun K x qual st f fd) (S : FnScope N ps (defScope st)) {A : Around} {outer : List Env} {s : Shared} {H : Hp} {args : Args} {us : List Value} {vs : List V} {Q : VK} {E : XK}
    (hd : A.handled = none) (dp : A.depth < recursionLimit) (e0 : Env0 P w K mg base A outer s H) (hb : BindsTo s fd args (ps.zip us)) (r : Vals vs us) (hl : vs.length = ps.length)
    (body : ∀ cdv : Value, ∃ t, PSs (cxOf CX0 P w K mg base N qual (defScope st) f cdv A outer s H E).nox (defBody st) t ∧ t { nx := fun _ H' => Q .non H', rt := Q } (start N vs) H) :
    codeAny (model P w) A (.call (.ref f) args) (CR CX0 outer P w H s Q E) s := by
  obtain ⟨oc, od, kV, doc, pm, an, cdv, ct, osl, rfl, lk, hcd⟩ := F.ex
  have keep : ∀ b o, base.get? b = some o → s.heap.get? b = some o := fun b o e => (e0.bs b o e).1
  have KX : K.In s.heap := e0.mod.kin.keeps keep
  refine codeAny_call_function dp (KX _ _ lk) rfl S.co S.gen rfl (PySem.W.codeRec_of KX hcd) (hb _ _ _ _ ?_)
  refine wpAny_newFunctionEnv_cells S.kind (fun y hy => ?_) fun env he s1 z => ?_
  · rcases S.par y.1 (List.of_mem_zip hy).1 with q | q
    · exact .inl q
    · exact .inr ⟨q, PySem.W.cellsFrom_some _ _ _ (.inl q)⟩
  · subst he
    refine ⟨(e0.mod.nolimit.keeps keep).keeps z.toInCall.keep, codeAny_func ?_⟩
    obtain ⟨t, ht, hq⟩ := body cdv
    have I : Inv (cxOf CX0 P w K mg base N qual (defScope st) f cdv A outer s H E) [] (start N vs) H s1 := inv_start S hd e0 hl r z
    refine wpAny_mono (ht.nox.run [] s1 (start N vs) H _ I hq) (fun fl s' hs => ?_) fun e s' hs => hs
    cases fl with
    | ret u =>
      obtain ⟨v, _, H', J, rv, q⟩ := hs
      exact ⟨v, H', J.os, J.bare, J.base, J.hok, rv, q⟩
    | next =>
      obtain ⟨_, H', J, q⟩ := hs
      exact ⟨V.non, H', J.os, J.bare, J.base, J.hok, rfl, q⟩
    | brk => exact (hs.choose_spec.choose_spec.2 : False).elim
    | cont => exact (hs.choose_spec.choose_spec.2 : False).elim
theorem Fun.okG {x qual : Str} {st : Stmt} {f : Addr} {fd : FuncData} {N ps : List Str} {k : Nat} {sp : Sp} (F : Fun K x qual st f fd) (S : FnScope N ps (defScope st)) (len : ∀ vs H Q E, sp vs H Q E → vs.length = ps.length)
    (hbody : ∀ (cdv : Value) (A : Around) (outer : List Env) (s : Shared) (H : Hp) (vs : List V) (Q : VK) (E : XK), A.guards = some [] → Room k (A.deeper (envOfC qual (defScope st) s.heap.objs.size f cdv)) → sp vs H Q E →
      ∃ t, PSs (cxOf CX0 P w K mg base N qual (defScope st) f cdv A outer s H E).nox (defBody st) t ∧ t { nx := fun _ H' => Q .non H', rt := Q } (start N vs) H) : FnOkG P w K mg base (k + 1) f fd ps sp :=
  ⟨len, fun A outer s H args us vs Q E hg hr e0 hb r hsp => run_once F S hr.hd hr.depth e0 hb r (len _ _ _ _ hsp) fun cdv => hbody cdv A outer s H vs Q E hg (hr.deeper _) hsp⟩
end
section
variable {X : Cx} {k : Nat} {f : Addr} {fd : FuncData} {ps : List Str} {sp : Sp} {x : Str} {p pos : Pos} {e : Expr} {es : List Expr} {t : TA}
/-- f(e, ..), f a def that wants the guards known -/
theorem pe_callG (hG : X.A.guards = some []) (F : FnOkG X.prog X.w X.K X.mg X.base k f fd ps sp) (hr : Room k X.A) (hg : Gl X x) (hm : X.mg x = some (.ref f)) (hk : PySem.W.keepIn X.K (.ref f) = true) (hb : Binds X.K fd ps [])
    (ha : PA X (e :: es) t) (hdb : (x == ("__debug__" : Str)) = false := by decide) (he : starEach (e :: es) X.env = (false, eval e X.env) :: starEach es X.env := by rfl) (hpl : (backTo pos (starEach es X.env)).any (·.1) = false := by rfl) :
    PE X (.Call (.Name x p) (e :: es) [] pos) (tCall sp [] E0 t) := by
  refine ⟨fun pins s σ H Q I h => ?_⟩
  refine wpAny_Call_Name_kw (ld_glob I hg hm ?_ hdb)
  refine PySem.W.callWith_K (h₀ := X.base) I.ok.mod.kin hk (thn (ha.run pos pins s σ H _ I h) fun us s1 ⟨vs, H1, I1, r, q⟩ => ⟨I1.kIn, ?_⟩) he hpl
  have hl : (us ++ []).length = ps.length := by rw [List.append_nil, ← r.length, ← F.len _ _ _ _ q, List.append_nil]
  show wpAny _ _ (call (.ref f) us) _ _ _
  refine wpAny_call (codeAny_mono (F.run X.A X.stack s1 H1 ⟨us, []⟩ (us ++ []) (vs ++ []) Q E0 hG hr I1.env0 (hb s1 us I1.kIn hl) (r.append .nil) q) fun res s' hq => ?_)
  cases res with
  | error er => exact False.elim hq
  | ok fl =>
    cases fl with
    | ret u => exact I1.after hq
    | next => exact False.elim hq
    | brk => exact False.elim hq
    | cont => exact False.elim hq
end
/-! ### the end of a law row for such a def -/
theorem enter_law {P : Program} {w : World} {K : PySem.W.Frag} {mg mb : Str → Option Value} {k : Nat} {fa a : Addr} {fd : FuncData} {x : Str} {sp : Sp} {s1 : Shared} {us : List Value} {H : Hp}
    (F : ∀ base : Heap, K.In base → base.Ns mainGlobals mg → FnOkG P w K mg base k fa fd [x] sp) (hr : Room k callerA) (hbind : ∀ (s : Shared) (u : Value), BindsTo s fd ⟨[u], []⟩ [(x, u)])
    (KX : K.In s1.heap) (hns : s1.heap.Ns mainGlobals mg) (hb : s1.heap.Ns builtinsNs mb) (hbb : ∀ x : Str, x ≠ "__name__" → mb x = bootBuiltins x) (hlim : s1.heap.NoLimit) (hg : s1.gens = #[])
    (ha : s1.heap.get? a = some { cls := .type "list", data := .seq us.toArray }) (ok : HOk P w H s1.heap) (only : ∀ b o, H b = some o → b = a ∧ K.lookup a = none ∧ ∃ xs, o = .frz { cls := .type "list", data := .seq us.toArray } (.lst xs))
    (hsp : sp [.ref a] H (fun v _ => v = .bl true) E0) :
    codeAny (model P w) callerA (.call (.ref fa) ⟨[.ref a], []⟩) (fun r s' => r = .ok (.ret (.bool true)) ∧ OldK s1.heap s'.heap ∧ s'.os = s1.os ∧ AllBare s'.gens) s1 := by
  have free : ∀ {b : Addr} {o : Obj}, s1.heap.get? b = some o → (∀ z : Array Value, ∀ n, o.data ≠ .seq z n) → H b = none := fun {b o} e d => by
    cases q : H b with
    | none => rfl
    | some u =>
      obtain ⟨rfl, _⟩ := only b u q
      rw [ha] at e
      cases e
      exact (d _ _ rfl).elim
  have ns2 : ∀ {b : Addr} {m : Str → Option Value}, s1.heap.Ns b m → (hidT s1.heap H).Ns b m := fun {b m} n => by
    obtain ⟨o, es, ep, e, d, r⟩ := n
    exact ⟨o, es, ep, hidT_get e (free e (fun z n y => by rw [d] at y; cases y)), d, r⟩
  have kin : K.In (hidT s1.heap H) := fun b o e => hidT_get (KX b o e) (by
    cases q : H b with
    | none => rfl
    | some u =>
      obtain ⟨rfl, z, _⟩ := only b u q
      rw [z] at e
      cases e)
  have M : Mod K mg (hidT s1.heap H) := ⟨kin, ns2 hns, ⟨mb, ns2 hb, hbb⟩, by obtain ⟨mc, z1, z2⟩ := hlim; exact ⟨mc, ns2 z1, z2⟩⟩
  have e0 : Env0 P w K mg (hidT s1.heap H) callerA [] s1 H := ⟨rfl, M, fun b o e => of_hidT e, Nat.le_of_eq (hidT_size _ _), trivial, (fun b z => absurd (show b ∈ ([] : List Addr) from z) (by simp)), ok, .of_eq hg⟩
  refine codeAny_mono ((F _ kin (ns2 hns)).run callerA [] s1 H _ [.ref a] [.ref a] _ _ rfl hr e0 (hbind s1 (.ref a)) (.cons rfl .nil) hsp) fun r s' h => ?_
  cases r with
  | error e => exact False.elim h
  | ok fl =>
    cases fl with
    | next => exact False.elim h
    | brk => exact False.elim h
    | cont => exact False.elim h
    | ret u =>
      obtain ⟨v, H', os, bare, un, ok', rv, q⟩ := h
      subst q
      obtain rfl : u = Value.bool true := rv
      refine ⟨rfl, OldK.of_keep fun b o e => ?_, os, bare⟩
      cases q : H b with
      | none => exact un.keep b o e q (fun z => absurd (show b ∈ ([] : List Addr) from z) (by simp)) (by simp)
      | some y =>
        obtain ⟨rfl, _, xs, rfl⟩ := only b y q
        obtain ⟨e1, _⟩ := ok' b _ (un.frzs b _ _ q)
        rw [ha] at e
        cases e
        exact e1
theorem walk_ofG {l : PySem.W.OpenLaw} {n k : Nat} {q : Program} {loose : List Str} {XP : (Str → Option Value) → Heap → Prop} {YP : World → Heap → Prop} {d : DefRec} {K : Params → PySem.W.Frag} {sp : PySem.W.Frag → Sp} {x : Str}
    (hn : l.most = some n) (hn2 : n ≤ sizeLine) (hdf : d.params.defaults = []) (hr : Room k callerA) (hY : ∀ (w : World) (h : Heap), YP w h → (K w.params).In h)
    (F : ∀ (w : World) (mg : Str → Option Value) (fa : Addr) (h : Heap), (K w.params).In h → h.Ns mainGlobals mg → mg d.name = some (.ref fa) →
      ∃ fd : FuncData, (∀ (s : Shared) (u : Value), BindsTo s fd ⟨[u], []⟩ [(x, u)]) ∧ ∀ base : Heap, (K w.params).In base → base.Ns mainGlobals mg → FnOkG l.prog w (K w.params) mg base k fa fd [x] (sp (K w.params)))
    (hsp : ∀ (K : PySem.W.Frag) (H : Hp) (a : Addr) (ns : List Int), ns.length ≤ n → Only H → SqL K H a (ns.map V.int) → sp K [.ref a] H (fun v _ => v = .bl true) E0) :
    PySem.W.WalkO q loose XP YP l.row.toRowW d [] (fun f vs => PySem.call f vs) := by
  refine Att.attach_call hn hdf fun w s0 s1 mg mb fa o pm cd doc a us ns G Y ho hd hcd hmg hobj hints hlen hg => ?_
  have KX := hY w _ Y
  obtain ⟨fd, hb, hF⟩ := F w mg fa _ KX G.T.g hmg
  have rv := vals_ints hints
  have hz : (ns.map V.int).length ≤ sizeLine := by rw [List.length_map]; omega
  cases hk : (K w.params).lookup a with
  | some ob =>
    have e := KX a ob hk
    rw [hobj] at e
    cases e
    have S : SqL (K w.params) (fun _ => none) a (ns.map V.int) := .inr ⟨_, us.toArray, _, hk, rfl, rfl, rfl, by rw [List.size_toArray, ← rv.length]; exact hz, by simpa using rv⟩
    exact enter_law (H := fun _ => none) hF hr hb KX G.T.g G.T.b G.T.builtins G.T.nolimit hg hobj (fun b u z => by cases (show (none : Option HO) = some u from z)) (fun b u z => by cases (show (none : Option HO) = some u from z))
      (hsp _ _ a ns hlen (fun b => .inl rfl) S)
  | none =>
    refine enter_law (H := upd (fun _ => none) a (.frz { cls := .type "list", data := .seq us.toArray } (.lst (ns.map V.int)))) hF hr hb KX G.T.g G.T.b G.T.builtins G.T.nolimit hg hobj (fun b u z => ?_) (fun b u z => ?_)
      (hsp _ _ a ns hlen (fun b => ?_) (.inl (.inr ⟨_, upd_same⟩)))
    · by_cases e : b = a
      · subst e
        rw [upd_same] at z
        cases z
        exact ⟨hobj, hz, us, _, rv, hobj⟩
      · rw [upd_ne e] at z
        cases z
    · by_cases e : b = a
      · subst e
        rw [upd_same] at z
        cases z
        exact ⟨rfl, hk, _, rfl⟩
      · rw [upd_ne e] at z
        cases z
    · by_cases e : b = a
      · subst e
        exact .inr ⟨_, _, upd_same⟩
      · exact .inl (upd_ne e)
end L2

set_option Elab.async false
set_option linter.all false
set_option maxRecDepth 100000
set_option maxHeartbeats 4000000
/-! sorting tuples of any lengths, the empty one too -/
namespace L2
open PySem PySem.W PySem.SeqAt PySem.Spec PyProof.Rows
section
variable {prog : Program} {w : World} {A : Around} {E : Value → Shared → Prop} {s : Shared}
theorem tupLt_call {Q : Value → Shared → Prop} {x y : Addr} {us vs : Array Value} {eqs lts : Nat → Bool} (hx : s.heap.IsTuple x us) (hy : s.heap.IsTuple y vs)
    (h1 : ∀ j (a : j < us.size) (b : j < vs.size), EqAt A.in1 s us[j] vs[j] (eqs j))
    (h2 : ∀ j (a : j < us.size) (b : j < vs.size), eqs j = false → RcLt A.in1 s us[j] vs[j] (lts j))
    (hq : Q (.bool (firstLt eqs lts (decide (us.size < vs.size)) (List.range (min us.size vs.size)))) s) :
    wpAny (model prog w) A (call (.builtin "tuple.__lt__") [.ref x, .ref y]) Q E s := by
  obtain ⟨⟨kx, dx, tx, sx⟩, gx, rfl, nx, rfl⟩ := hx
  obtain ⟨⟨ky, dy, ty, sy⟩, gy, rfl, ny, rfl⟩ := hy
  exact call_meets F.slot_tuple_lt ⟨_, gx, rfl⟩ F.entry_tuple_lt (F.args_tuple_lt_2 _ _) (tuple_ltAt x y us vs nx ny dx dy sx sy eqs lts) ⟨gx, gy, h1, h2, hq⟩
theorem oneLt_tups {f : Bool} {xs ys : List PyData} {u v : Value} {as bs : List Addr} {Q : Bool → Shared → Prop} (ra : Reads s.heap u (.tuple xs) as) (rb : Reads s.heap v (.tuple ys) bs) (hal : alikeAll xs ys = true)
    (hu : A.units + min (PyData.tuple xs).depth (PyData.tuple ys).depth < cLine) (hq : Q (dataLt (.tuple xs) (.tuple ys)) s) : wpAny (model prog w) A (oneLt' f u v) Q E s := by
  cases f with
  | false => exact oneLt_alike (fun z => nomatch z) ra rb (by simpa [alike] using hal) (fun z => nomatch z) hu hq
  | true =>
    cases ra with
    | @tuple x ox us nx _ cs g1 g2 g3 g4 =>
      cases rb with
      | @tuple y oy vs ny _ ds k1 k2 k3 k4 =>
        have l1 : us.size = xs.length := by simpa using SeqAt.ReadsAll.length _ _ _ g4
        have l2 : vs.size = ys.length := by simpa using SeqAt.ReadsAll.length _ _ _ k4
        rw [dataLt_tuple, ← firstLt_toks xs ys hal, ← l1, ← l2] at hq
        rw [oneLt'_eq, if_pos rfl]
        have hroom := room_in hu
        refine wpAny_bind (wpAny_cRoomFor (room_here hu) ?_)
        refine wpAny_bind (wpAny_callSpecialIfBound?_slot (T := "tuple") ⟨_, g1, g2⟩ F.slot_tuple_lt ?_)
        refine tupLt_call (eqs := pairEq xs ys) (lts := fun j => dataLt (xs.getD j .none) (ys.getD j .none)) ⟨_, g1, g2, _, g3⟩ ⟨_, k1, k2, _, k3⟩ (fun j a b => ?_) (fun j a b hj => ?_) ?_
        · have z := eqAt_alikeAll xs ys A.in1 s us.toList vs.toList _ _ g4 k4 hal hroom j (by simpa using a) (by simpa using b)
          rwa [Array.getElem_toList, Array.getElem_toList] at z
        · have z := rcLt_alikeAll xs ys A.in1 s us.toList vs.toList _ _ g4 k4 hal hroom j (by simpa using a) (by simpa using b) hj
          rwa [Array.getElem_toList, Array.getElem_toList] at z
        · exact wpAny_truthy_bool hq
end
/-- the first item of a tuple of the heap -/
def headAt (h : Heap) : Value → Option Value
  | .ref a => match h.get? a with
    | some o => match o.data with
      | .seq us _ => us[0]?
      | _ => none
    | none => none
  | _ => none
def IsTup (h : Heap) (v : Value) : Prop := ∃ a us, v = .ref a ∧ h.IsTuple a us
section
variable {M : Model} {A : Around} {E : Value → Shared → Prop} {s : Shared}
theorem heads_run : ∀ (vs : List Value) {Q : List (Option Value) → Shared → Prop}, (∀ v ∈ vs, IsTup s.heap v) → Q (vs.map (headAt s.heap)) s → wpAny M A (vs.mapM firstOfTuple') Q E s
  | [], _, _, q => by rw [List.mapM_nil]; exact wpAny_pure q
  | v :: vs, Q, hv, q => by
    obtain ⟨a, us, rfl, o, g1, g2, n, g3⟩ := hv v List.mem_cons_self
    rw [List.mapM_cons, kas_first_eq]
    refine wpAny_bind (wpAny_bind (Looks.here ((Looks.ld g1).andThen .now) ?_))
    rw [g2, if_neg (by decide)]
    refine wpAny_bind (listItems_at g1 g3 (wpAny_pure ?_))
    have e : headAt s.heap (.ref a) = us[0]? := by
      show (match s.heap.get? a with | some o => _ | none => none) = _
      rw [g1]
      show (match o.data with | .seq us _ => us[0]? | _ => none) = _
      rw [g3]
    rw [← e]
    exact wpAny_bind (heads_run vs (fun u hu => hv u (List.mem_cons_of_mem _ hu)) (wpAny_pure q))
theorem kind_mixed {vs : List Value} (h2 : 2 ≤ vs.length) (hv : ∀ v ∈ vs, IsTup s.heap v) (hm : ∃ v ∈ vs, headAt s.heap v = none) :
    ∃ f : Bool, ∀ (E : Value → Shared → Prop) {Q : SortKind → Shared → Prop}, Q (if f = true then oneType' else general') s → wpAny M A (keyKind' vs.toArray) Q E s := by
  obtain ⟨v, l, rfl⟩ : ∃ v l, vs = v :: l := by
    cases vs with
    | nil => exact absurd h2 (by simp)
    | cons v l => exact ⟨v, l, rfl⟩
  refine ⟨(headAt s.heap v).isNone, fun E Q q => ?_⟩
  rw [keyKind'_eq, List.mapM_toArray, map_eq_pure_bind]
  refine wpAny_bind (wpAny_bind (heads_run _ hv (wpAny_pure ?_)))
  have no : ¬ (((v :: l).map (headAt s.heap)).toArray.all fun z => z.isSome) = true := by
    obtain ⟨u, hu, e⟩ := hm
    intro z
    simp only [List.all_toArray, List.all_map, List.all_eq_true] at z
    have := z u hu
    simp [e] at this
  rw [if_neg no]
  have e0 : ((v :: l).map (headAt s.heap)).toArray[0]? = some (headAt s.heap v) := by simp
  rw [e0]
  cases hh : headAt s.heap v with
  | some f =>
    rw [hh] at q
    exact wpAny_pure q
  | none =>
    rw [hh] at q
    show wpAny M A (oneTypeOnly' _ >>= fun z => pure (if z.isSome = true then oneType' else general')) Q E s
    rw [oneTypeOnly'_eq, List.mapM_toArray, map_eq_pure_bind]
    refine wpAny_bind (wpAny_bind (wpAny_bind (kas_mapM (r := Value.type "tuple") _ (fun u hu Q' hq => ?_) (wpAny_pure ?_))))
    · obtain ⟨a, us, rfl, o, g1, g2, _⟩ := hv u hu
      exact Looks.here (show Looks M s.heap (typeOf (.ref a)) (.type "tuple") from g2 ▸ (Looks.ld g1).andThen .now) hq
    · have e1 : (List.map (fun _ => Value.type "tuple") (v :: l)).toArray[0]? = some (Value.type "tuple") := by simp
      rw [e1]
      have e2 : ((List.map (fun _ => Value.type "tuple") (v :: l)).toArray.all fun z => z == Value.type "tuple") = true := by
        simp only [List.all_toArray, List.all_map, List.all_eq_true]
        exact fun _ _ => beq_self_eq_true _
      simp only [e2, if_true]
      exact wpAny_pure (wpAny_pure q)
end
section
variable {prog : Program} {w : World} {A : Around} {s : Shared}
theorem each_isTup {h : Heap} {vs : List Value} {ds : List PyData} (e : EachIs (fun v d => ∃ as, Reads h v d as) vs ds) (ht : ∀ d ∈ ds, ∃ xs, d = .tuple xs) : ∀ v ∈ vs, IsTup h v := fun v hv => by
  obtain ⟨d, hd, as, r⟩ := e.left v hv
  obtain ⟨xs, rfl⟩ := ht d hd
  cases r with
  | tuple g1 g2 g3 _ => exact ⟨_, _, rfl, _, g1, g2, _, g3⟩
theorem each_back {R : Value → PyData → Prop} : ∀ {vs : List Value} {ds : List PyData}, EachIs R vs ds → ∀ d ∈ ds, ∃ v ∈ vs, R v d
  | _, _, .nil, d, hd => absurd hd (by simp)
  | _, _, .cons (a := a) r t, d, hd => by
    rcases List.mem_cons.mp hd with rfl | hd
    · exact ⟨a, List.mem_cons_self, r⟩
    · obtain ⟨v, hv, q⟩ := each_back t d hd
      exact ⟨v, List.mem_cons_of_mem _ hv, q⟩
/-- tuples of any lengths can be sorted -/
theorem sortsAt_tups {vs : List Value} {ds : List PyData} (e : EachIs (fun v d => ∃ as, Reads s.heap v d as) vs ds) (hal : AllAlike ds) (ht : ∀ d ∈ ds, ∃ xs, d = .tuple xs) (hu : ∀ d, d ∈ ds → A.units + d.depth < cLine) :
    SortsAt prog w A s (dataKind s.heap ds) vs := by
  rcases Classical.em (∀ d ∈ ds, ∃ x r, d = PyData.tuple (x :: r)) with c | c
  · exact SortsAt.data e hal (.inl c) hu
  · have key : ∀ v ∈ vs, ∃ a, (dataKind s.heap ds).keyOf v = some a := fun v hv => by
      obtain ⟨d, hd, as, r⟩ := e.left v hv
      exact ⟨_, dataKind_some hal hd r⟩
    refine ⟨key, ?_⟩
    rcases Nat.lt_or_ge vs.length 2 with z | z
    · refine ⟨general', ?_, fun h2 => absurd h2 (by omega)⟩
      intro E u v a b Q ha hb hq
      obtain ⟨d, as, hd, ra, rfl⟩ := dataKind_inv ha
      obtain ⟨d', bs, hd', rb, rfl⟩ := dataKind_inv hb
      obtain ⟨xs, rfl⟩ := ht d hd
      obtain ⟨ys, rfl⟩ := ht d' hd'
      exact oneLt_tups (f := false) ra rb (by simpa [alike] using hal _ hd _ hd') (Nat.lt_of_le_of_lt (Nat.add_le_add_left (Nat.min_le_left _ _) _) (hu _ hd)) hq
    · have hm : ∃ v ∈ vs, headAt s.heap v = none := by
        obtain ⟨d, c⟩ := Classical.not_forall.mp c
        obtain ⟨hd, c⟩ := Classical.not_imp.mp c
        obtain ⟨xs, rfl⟩ := ht d hd
        cases xs with
        | cons x r => exact absurd ⟨x, r, rfl⟩ c
        | nil =>
          obtain ⟨v, hv, as, r⟩ := each_back e _ hd
          refine ⟨v, hv, ?_⟩
          cases r with
          | @tuple a o us n _ _ g1 g2 g3 g4 =>
            have l : us.size = 0 := by simpa using SeqAt.ReadsAll.length _ _ _ g4
            have e0 : us[0]? = none := by simp [l]
            show (match s.heap.get? a with | some o => _ | none => none) = _
            rw [g1]
            show (match o.data with | .seq us _ => us[0]? | _ => none) = _
            rw [g3]
            exact e0
      obtain ⟨f, hf⟩ := kind_mixed (M := model prog w) (A := A) z (each_isTup e ht) hm
      refine ⟨if f = true then oneType' else general', ?_, fun _ E Q q => hf E q⟩
      intro E u v a b Q ha hb hq
      obtain ⟨d, as, hd, ra, rfl⟩ := dataKind_inv ha
      obtain ⟨d', bs, hd', rb, rfl⟩ := dataKind_inv hb
      obtain ⟨xs, rfl⟩ := ht d hd
      obtain ⟨ys, rfl⟩ := ht d' hd'
      have g := fun f => oneLt_tups (prog := prog) (w := w) (E := E) (f := f) ra rb (by simpa [alike] using hal _ hd _ hd') (Nat.lt_of_le_of_lt (Nat.add_le_add_left (Nat.min_le_left _ _) _) (hu _ hd)) hq
      cases f with
      | true => exact g true
      | false => exact g false
end
end L2

set_option Elab.async false
set_option linter.all false
set_option maxRecDepth 100000
set_option maxHeartbeats 4000000
/-! sets of nested tuples: the small questions -/
namespace L2
open PySem PySem.SeqAt PySem.Spec PyProof.Rows
section
variable {P : Program} {w : World}
/-- no class statement of the program made anything of it -/
def NoClass (P : Program) (w : World) (n : Nat) (s : Shared) (v : Value) : Prop := ∀ (A : Around) (E : Value → Shared → Prop) (Q : Bool → Shared → Prop), Q false s → wpAny (model P w) A (ofAClassStatement n v) Q E s
theorem NoClass.leaf {n : Nat} {s : Shared} {v : Value} (h : ofAClassStatement n v = pure false) : NoClass P w n s v := fun A E Q q => by
  rw [h]
  exact wpAny_pure q
theorem NoClass.tup {n : Nat} {s : Shared} {a : Addr} {o : Obj} {us : Array Value} {m : Nat} (g1 : s.heap.get? a = some o) (g2 : o.cls = .type "tuple") (g3 : o.data = .seq us m) (hu : ∀ u ∈ us.toList, NoClass P w n s u) : NoClass P w (n + 1) s (.ref a) := fun A E Q q => by
  unfold ofAClassStatement
  refine wpAny_bind (wpAny_typeOf ⟨o, g1, g2⟩ ?_)
  dsimp only
  have e : (("tuple" : String) == "tuple") = true := by decide
  rw [if_pos e]
  refine wpAny_bind (wpAny_pure ?_)
  rw [if_neg (by decide)]
  refine wpAny_bind (wpAny_seqItems g1 g3 ?_)
  dsimp only
  refine wpAny_bind ?_
  rw [← Array.forIn_toList]
  refine wpAny_forIn_list _ (fun left acc s' => acc.1 = none ∧ s' = s ∧ ∀ u ∈ left, NoClass P w n s u) _ ?_ ?_ _ _ ⟨rfl, rfl, hu⟩
  · rintro u left acc s' ⟨ha, rfl, hl⟩
    refine wpAny_bind (hl u List.mem_cons_self _ _ _ ?_)
    rw [if_neg (by decide)]
    exact wpAny_pure ⟨rfl, rfl, fun x hx => hl x (List.mem_cons_of_mem _ hx)⟩
  · rintro ⟨acc1, acc2⟩ s' ⟨ha, rfl, _⟩
    cases (show acc1 = none from ha)
    exact wpAny_pure q
mutual
theorem noClass_key : ∀ (k : NestedKey) (v : Value) (n : Nat) (s : Shared), NestedIs s.heap k v → k.depth ≤ n → NoClass P w n s v
  | .none, _, n, s, x, _ => by cases x; exact .leaf (by cases n <;> rfl)
  | .num i, _, n, s, x, _ => by cases x <;> exact .leaf (by cases n <;> rfl)
  | .text y, _, n, s, x, _ => by cases x; exact .leaf (by cases n <;> rfl)
  | .tup ks, _, n, s, x, hn => by
    cases x with
    | tup g1 g2 g3 g4 =>
      simp only [NestedKey.depth] at hn
      cases n with
      | zero => omega
      | succ n => exact .tup g1 g2 g3 (noClass_keys ks _ n s g4 (by omega))
theorem noClass_keys : ∀ (ks : List NestedKey) (vs : List Value) (n : Nat) (s : Shared), NestedAll s.heap ks vs → NestedKey.depthAll ks ≤ n → ∀ v ∈ vs, NoClass P w n s v
  | [], _, n, s, x, _, v, hv => by cases x; cases hv
  | k :: ks, _, n, s, x, hn, v, hv => by
    cases x with
    | cons x1 x2 =>
      simp only [NestedKey.depthAll] at hn
      rcases List.mem_cons.mp hv with rfl | hv
      · exact noClass_key k _ n s x1 (by omega)
      · exact noClass_keys ks _ n s x2 (by omega) v hv
end
/-- whether its hash is by value: some answer, and nothing else -/
def SomeHash (P : Program) (w : World) (n : Nat) (s : Shared) (v : Value) : Prop := ∀ (A : Around) (E : Value → Shared → Prop) (Q : Bool → Shared → Prop), (∀ b, Q b s) → wpAny (model P w) A (hashByValue n v) Q E s
theorem SomeHash.leaf {n : Nat} {s : Shared} {v : Value} (b : Bool) (h : hashByValue n v = pure b) : SomeHash P w n s v := fun A E Q q => by
  rw [h]
  exact wpAny_pure (q b)
theorem SomeHash.tup {n : Nat} {s : Shared} {a : Addr} {o : Obj} {us : Array Value} {m : Nat} (g1 : s.heap.get? a = some o) (g2 : o.cls = .type "tuple") (g3 : o.data = .seq us m) (hu : ∀ u ∈ us.toList, SomeHash P w n s u) : SomeHash P w (n + 1) s (.ref a) := fun A E Q q => by
  unfold hashByValue
  refine wpAny_bind (wpAny_specialOf ⟨o, g1, g2⟩ F.slot_tuple_hash.lookup ?_)
  show wpAny _ _ (seqItems? (.ref a) >>= _) _ _ s
  refine wpAny_bind (wpAny_seqItems g1 g3 ?_)
  refine wpAny_bind ?_
  show wpAny _ _ (forIn us _ _) _ _ s
  rw [← Array.forIn_toList]
  refine wpAny_forIn_list _ (fun left acc s' => acc.1 = none ∧ s' = s ∧ ∀ u ∈ left, SomeHash P w n s u) _ ?_ ?_ _ _ ⟨rfl, rfl, hu⟩
  · rintro u left acc s' ⟨ha, rfl, hl⟩
    refine wpAny_bind (hl u List.mem_cons_self _ _ _ fun b => ?_)
    cases b with
    | true =>
      rw [if_neg (by decide)]
      exact wpAny_pure ⟨rfl, rfl, fun x hx => hl x (List.mem_cons_of_mem _ hx)⟩
    | false =>
      rw [if_pos (by decide)]
      exact wpAny_pure (wpAny_pure (q _))
  · rintro ⟨acc1, acc2⟩ s' ⟨ha, rfl, _⟩
    cases (show acc1 = none from ha)
    exact wpAny_pure (q _)
mutual
theorem someHash_key : ∀ (k : NestedKey) (v : Value) (n : Nat) (s : Shared), NestedIs s.heap k v → k.depth ≤ n → SomeHash P w n s v
  | .none, _, n, s, x, _ => by cases x; exact .leaf true (by cases n <;> rfl)
  | .num i, _, n, s, x, _ => by cases x <;> exact .leaf true (by cases n <;> rfl)
  | .text y, _, n, s, x, _ => by cases x; exact .leaf false (by cases n <;> rfl)
  | .tup ks, _, n, s, x, hn => by
    cases x with
    | tup g1 g2 g3 g4 =>
      simp only [NestedKey.depth] at hn
      cases n with
      | zero => omega
      | succ n => exact .tup g1 g2 g3 (someHash_keys ks _ n s g4 (by omega))
theorem someHash_keys : ∀ (ks : List NestedKey) (vs : List Value) (n : Nat) (s : Shared), NestedAll s.heap ks vs → NestedKey.depthAll ks ≤ n → ∀ v ∈ vs, SomeHash P w n s v
  | [], _, n, s, x, _, v, hv => by cases x; cases hv
  | k :: ks, _, n, s, x, hn, v, hv => by
    cases x with
    | cons x1 x2 =>
      simp only [NestedKey.depthAll] at hn
      rcases List.mem_cons.mp hv with rfl | hv
      · exact someHash_key k _ n s x1 (by omega)
      · exact someHash_keys ks _ n s x2 (by omega) v hv
end
/-- a key of the heap that sets take: a nested tuple, not too deep -/
structure TupKey (h : Heap) (k : NestedKey) (a : Addr) : Prop where
  is : NestedIs h k (.ref a)
  deep : k.depth ≤ 8
theorem TupKey.cls {h : Heap} {k : NestedKey} {a : Addr} (x : TupKey h k a) : ∃ o us n, h.get? a = some o ∧ o.cls = .type "tuple" ∧ o.data = .seq us n := by
  cases x.is with
  | tup g1 g2 g3 _ => exact ⟨_, _, _, g1, g2, g3⟩
theorem TupKey.keep {h h' : Heap} {k : NestedKey} {a : Addr} (x : TupKey h k a) (ext : ∀ b o, h.get? b = some o → h'.get? b = some o) : TupKey h' k a := ⟨x.is.at (fun b o _ _ g _ => ext b o g) _ _, x.deep⟩
/-- no set's own object is read of a key -/
theorem TupKey.but {h h' : Heap} {k : NestedKey} {a b : Addr} {o : Obj} {es : Array (Int × Value)} {ep : Nat} {t : SetTable} (x : TupKey h k a) (g : h.get? b = some o) (d : o.data = .set es ep t) (sb : Heap.SameBut b h h') : TupKey h' k a :=
  ⟨NestedIs.at (fun c p us n gc dc => by
    refine (sb.2 c fun e => ?_).trans gc
    subst e
    cases (g.symm.trans gc)
    exact nomatch d.symm.trans dc) _ _ x.is, x.deep⟩
theorem TupKey.unseen {A : Around} {E : Value → Shared → Prop} {s : Shared} {Q : Bool → Shared → Prop} {k : NestedKey} {a : Addr} (x : TupKey s.heap k a) {ys : List Value} (hy : ∀ y ∈ ys, ∃ j b, y = Value.ref b ∧ TupKey s.heap j b) (q : Q false s) :
    wpAny (model P w) A (searchCouldBeSeen (.ref a) ys) Q E s := by
  unfold searchCouldBeSeen
  refine wpAny_bind ?_
  refine wpAny_forIn_list _ (fun left acc s' => acc.1 = none ∧ s' = s ∧ ∀ y ∈ left, ∃ j b, y = Value.ref b ∧ TupKey s.heap j b) _ ?_ ?_ _ _ ⟨rfl, rfl, hy⟩
  · rintro y left acc s' ⟨ha, rfl, hl⟩
    obtain ⟨j, b, rfl, xb⟩ := hl y List.mem_cons_self
    have more : ∀ y ∈ left, ∃ j b, y = Value.ref b ∧ TupKey s'.heap j b := fun u hu => hl u (List.mem_cons_of_mem _ hu)
    dsimp only
    split
    · exact wpAny_pure ⟨rfl, rfl, more⟩
    · refine wpAny_bind (quiet_key _ _ 8 _ x.is x.deep _ _ _ ?_)
      rw [if_neg (by decide)]
      refine wpAny_bind (quiet_key _ _ 8 _ xb.is xb.deep _ _ _ ?_)
      rw [if_neg (by decide)]
      refine wpAny_bind (noClass_key _ _ 8 _ x.is x.deep _ _ _ ?_)
      rw [if_neg (by decide)]
      refine wpAny_bind (noClass_key _ _ 8 _ xb.is xb.deep _ _ _ ?_)
      rw [if_neg (by decide)]
      exact wpAny_pure ⟨rfl, rfl, more⟩
  · rintro ⟨acc1, acc2⟩ s' ⟨ha, rfl, _⟩
    cases (show acc1 = none from ha)
    exact wpAny_pure q
end
end L2

set_option Elab.async false
set_option linter.all false
set_option maxRecDepth 100000
set_option maxHeartbeats 4000000
/-! sets of nested tuples: the search -/
namespace L2
open PySem PySem.SeqAt PySem.Spec PyProof.Rows
abbrev NRow := Addr × NestedKey
def hashesN (w : World) (L : List NRow) : List Int := L.map fun r => r.2.hash w
def nrows (w : World) (L : List NRow) : List (Int × Value) := L.map fun r => (r.2.hash w, Value.ref r.1)
/-- the set at a has these keys, in the sequence of its table -/
structure NSet (w : World) (h : Heap) (a : Addr) (L : List NRow) (es : Array (Int × Value)) (ep : Nat) (t : SetTable) : Prop where
  obj : ∃ o, h.get? a = some o ∧ o.ExactSet ∧ o.data = .set es ep t
  eqs : es.toList = nrows w L
  tok : TabOk t (hashesN w L)
  dif : (L.map Prod.snd).Nodup
  key : ∀ r ∈ L, TupKey h r.2 r.1
  led : w.params.followText "set-order" = true ∨ t.led = true
  gap : L.length * 5 < t.mask * 3
  small : L.length < 64
section
variable {P : Program} {w : World} {A : Around} {E : Value → Shared → Prop} {s : Shared} {a : Addr} {L : List NRow} {es : Array (Int × Value)} {ep : Nat} {t : SetTable}
theorem nrows_len (h : es.toList = nrows w L) : es.size = L.length := by
  have z := congrArg List.length h
  unfold nrows at z
  simpa using z
theorem NSet.size (N : NSet w s.heap a L es ep t) : es.size = L.length := nrows_len N.eqs
theorem NSet.place (N : NSet w s.heap a L es ep t) : t.place.size = L.length := by
  have z := N.tok.sz
  unfold hashesN at z
  simpa using z
theorem fits_of (h1 : t.place.size = es.size) (h2 : t.dummies = #[]) (h3 : es.size ≤ t.mask) : t.fits es.size = true := by
  unfold SetTable.fits SetTable.fill
  rw [h2, h1, Bool.and_eq_true]
  exact ⟨beq_self_eq_true _, decide_eq_true (by show es.size + 0 ≤ t.mask; omega)⟩
theorem NSet.fits (N : NSet w s.heap a L es ep t) : t.fits es.size = true := fits_of (by rw [N.place, N.size]) N.tok.dm (by have := N.gap; have := N.size; omega)
theorem row_at (h : es.toList = nrows w L) {i : Nat} {r : NRow} (e : L[i]? = some r) : es[i]? = some (r.2.hash w, Value.ref r.1) := by
  rw [← Array.getElem?_toList, h]
  unfold nrows
  rw [List.getElem?_map, e]
  first | rfl | done
theorem NSet.odd (N : NSet w s.heap a L es ep t) : ¬ t.gaveWay = true := by
  unfold SetTable.gaveWay
  rw [mask_odd N.tok.mok]
  decide
/-- the c-th step of the way of a hash -/
abbrev step (m : Nat) (h : Int) (c : Nat) : SetTable.Probe := nth m (runAt m (SetTable.bits h % (m + 1)) (SetTable.bits h)) c
theorem step_add (m : Nat) (h : Int) (c q : Nat) : nth m (step m h c) q = step m h (c + q) := (nth_add m c _ q).symm
theorem step_way (m : Nat) (h : Int) (c q : Nat) : (nth m (step m h c) q).j = way m h (c + q) := congrArg SetTable.Probe.j (step_add m h c q)
theorem step_dummy (m : Nat) : ∀ (c : Nat) (p : SetTable.Probe), p.dummy = none → (nth m p c).dummy = none
  | 0, _, e => e
  | c + 1, p, e => step_dummy m c (adv m p) (by unfold adv; split <;> exact e)
/-- from the c-th step of the way on: the key is there, or the first empty slot is found -/
theorem nsearch_from (N : NSet w s.heap a L es ep t) {x : Addr} {k : NestedKey} (kx : TupKey s.heap k x) (hu : A.units + 8 < cLine) {K : Nat} (hf : K < 10 * SetTable.turns t.mask)
    (hK : way t.mask (k.hash w) K ∉ t.place.toList) (hb : ∀ c, c < K → way t.mask (k.hash w) c ∈ t.place.toList) {Q : SetFound → Shared → Prop}
    (yes : k ∈ L.map Prod.snd → Q (.there none) s) (no : k ∉ L.map Prod.snd → Q (.free (way t.mask (k.hash w) K) false) s) :
    ∀ (f c : Nat) (from_ : Option SetTable.Probe), from_.getD (t.probeStart (k.hash w)) = step t.mask (k.hash w) c → c ≤ K → K - c < f →
      (∀ (i : Nat) r, L[i]? = some r → r.2 = k → ∃ d, c ≤ d ∧ d < K ∧ t.place.toList[i]? = some (way t.mask (k.hash w) d)) →
      wpAny (model P w) A (setSearchFrom a (.ref x) (k.hash w) true f from_) Q E s
  | 0, _, _, _, _, z, _ => absurd z (Nat.not_lt_zero _)
  | f + 1, c, from_, hst, hc, hz, hre => by
    obtain ⟨o, g, hex, hd⟩ := N.obj
    have places : t.place.toList.length = L.length := by rw [Array.length_toList]; exact N.place
    rw [setSearchFrom_succ]
    refine wpAny_bind (wpAny_setState_of g hd N.fits ?_)
    dsimp only
    rw [if_neg N.odd]
    try refine wpAny_bind (wpAny_pure ?_)
    generalize hhv : k.hash w = hv at *
    have hashOf : ∀ (i : Nat) r, L[i]? = some r → ((es[i]?.map (·.1)).getD 0) = r.2.hash w := fun i r e => by
      rw [row_at N.eqs e]
      first | rfl | done
    have cases2 := go_spec t N.tok.ris N.tok.dm (fun i => (es[i]?.map (·.1)).getD 0) hv (10 * SetTable.turns t.mask) (K - c) (step t.mask hv c) (step_dummy _ _ _ rfl) (by omega)
      (fun q hq => by rw [step_way]; exact hb (c + q) (by omega)) (by rw [step_way, show c + (K - c) = K by omega]; exact hK)
    rcases cases2 with ⟨q, i, hq, hi, hh, before, hp⟩ | ⟨before, hp⟩
    · rw [step_way] at hi hp
      rw [step_add] at hp
      have hp' : t.probe (fun i => (es[i]?.map (·.1)).getD 0) hv (from_.getD (t.probeStart hv)) = some (.candidate (way t.mask hv (c + q)) i (step t.mask hv (c + (q + 1)))) := by
        rw [hst]
        exact hp
      rw [hp']
      dsimp only
      obtain ⟨r, hr⟩ : ∃ r, L[i]? = some r := ⟨_, List.getElem?_eq_getElem (by have := (List.getElem?_eq_some_iff.mp hi).1; omega)⟩
      have mem : r ∈ L := List.mem_of_getElem? hr
      have kr := N.key r mem
      have after : wpAny (model P w) A (searchRest a (.ref x) hv true f es t (way t.mask hv (c + q)) i (step t.mask hv (c + (q + 1)))) Q E s := by
        unfold searchRest
        rw [row_at N.eqs hr]
        dsimp only
        refine wpAny_bind (wpAny_holding (eqAt_key _ _ A s _ _ kr.is kx.is (by have := kr.deep; omega) _ _ _ _ ?_))
        refine wpAny_bind (wpAny_setState_of g hd N.fits ?_)
        dsimp only
        by_cases same : r.2 = k
        · rw [if_pos (by rw [same, NestedKey.beq_self]; decide)]
          exact wpAny_pure (yes (List.mem_map.mpr ⟨r, mem, same⟩))
        · have nb : NestedKey.beq r.2 k = false := by
            rw [← NestedKey.decide_eq]
            exact decide_eq_false same
          rw [if_neg (by rw [nb]; decide)]
          try refine wpAny_bind (wpAny_pure ?_)
          rw [sameMem]
          dsimp only
          have sl : t.slot (way t.mask hv (c + q)) = .live i := slot_live N.tok.ris hi
          simp only [if_true, sl, row_at N.eqs hr]
          refine wpAny_bind (wpAny_isSame_ref_self (wpAny_bind (wpAny_pure ?_)))
          rw [if_pos rfl]
          dsimp only
          rw [nb, if_neg (by decide)]
          subst hhv
          refine nsearch_from N kx hu hf hK hb yes no f (c + (q + 1)) _ rfl (by omega) (by omega) fun j r' hj hk => ?_
          obtain ⟨d, d1, d2, d3⟩ := hre j r' hj hk
          refine ⟨d, ?_, d2, d3⟩
          rcases Nat.lt_trichotomy d (c + q) with z | z | z
          · exact absurd ((hashOf j r' hj).trans (by rw [hk])) (before (d - c) j (by omega) (by rw [step_way, show c + (d - c) = d by omega]; exact d3))
          · exfalso
            rw [z] at d3
            have sj := slot_live N.tok.ris d3
            rw [sl] at sj
            injection sj with sj
            rw [← sj, hr] at hj
            exact same ((congrArg Prod.snd (Option.some.inj hj)).trans hk)
          · omega
      cases hl : t.led with
      | true =>
        rw [if_neg (by decide)]
        try refine wpAny_bind (wpAny_pure ?_)
        exact after
      | false =>
        rw [if_pos (by decide)]
        refine wpAny_bind (kx.unseen (fun y hy => ?_) ?_)
        · obtain ⟨e, he, rfl⟩ := List.mem_map.mp hy
          have he : e ∈ es.toList := by
            have z : e ∈ es ∧ e.1 = hv := by simpa using he
            simpa using z.1
          rw [N.eqs] at he
          obtain ⟨r2, m2, rfl⟩ := List.mem_map.mp he
          exact ⟨_, _, rfl, N.key r2 m2⟩
        · rw [if_neg (by decide)]
          try refine wpAny_bind (wpAny_pure ?_)
          exact after
    · have hp' : t.probe (fun i => (es[i]?.map (·.1)).getD 0) hv (from_.getD (t.probeStart hv)) = some (.empty (way t.mask hv K) none) := by
        rw [hst]
        rw [step_way, show c + (K - c) = K by omega] at hp
        exact hp
      rw [hp']
      dsimp only
      refine wpAny_pure (no fun m => ?_)
      obtain ⟨r, mr, hk⟩ := List.mem_map.mp m
      obtain ⟨i, hi, e⟩ := List.getElem_of_mem mr
      have hr : L[i]? = some r := by rw [List.getElem?_eq_getElem hi, e]
      obtain ⟨d, d1, d2, d3⟩ := hre i r hr hk
      exact before (d - c) i (by omega) (by rw [step_way, show c + (d - c) = d by omega]; exact d3) ((hashOf i r hr).trans (by rw [hk, hhv]))
end
end L2

set_option Elab.async false
set_option linter.all false
set_option maxRecDepth 100000
set_option maxHeartbeats 4000000
/-! sets of nested tuples: adding -/
namespace L2
open PySem PySem.SeqAt PySem.Spec PyProof.Rows
section
variable {P : Program} {w : World} {A : Around} {E : Value → Shared → Prop} {s : Shared} {a : Addr} {L : List NRow} {es : Array (Int × Value)} {ep : Nat} {t : SetTable}
theorem nsearch (N : NSet w s.heap a L es ep t) {x : Addr} {k : NestedKey} (kx : TupKey s.heap k x) (hu : A.units + 8 < cLine) {Q : SetFound → Shared → Prop}
    (yes : k ∈ L.map Prod.snd → Q (.there none) s)
    (no : ∀ K, k ∉ L.map Prod.snd → way t.mask (k.hash w) K ∉ t.place.toList → (∀ c, c < K → way t.mask (k.hash w) c ∈ t.place.toList) → Q (.free (way t.mask (k.hash w) K) false) s) :
    wpAny (model P w) A (setSearch a (.ref x) (k.hash w) true) Q E s := by
  have hgap := N.gap
  obtain ⟨K, f1, f2, f3⟩ := N.tok.first (by unfold hashesN; rw [List.length_map]; omega) (k.hash w)
  have lim : K < 100000 := by
    have z : SetTable.turns t.mask ≤ 142 := by
      unfold SetTable.turns
      rcases N.tok.mok with e | e | e <;> omega
    omega
  unfold setSearch
  refine nsearch_from N kx hu f1 f2 f3 yes (fun m => no K m f2 f3) 100000 0 none rfl (Nat.zero_le _) (by omega) fun i r hr hk => ?_
  have h1 : (hashesN w L)[i]? = some (k.hash w) := by
    unfold hashesN
    rw [List.getElem?_map, hr, ← hk]
    first | rfl | done
  have h2 : i < t.place.toList.length := by
    rw [Array.length_toList, N.place]
    exact (List.getElem?_eq_some_iff.mp hr).1
  have h3 := List.getElem?_eq_getElem h2
  obtain ⟨d, d1, d2⟩ := N.tok.before f2 h1 h3
  exact ⟨d, Nat.zero_le _, d1, by rw [h3, d2]⟩
theorem nrows_put (L : List NRow) (p : Nat) (r : NRow) : nrows w (L.take p ++ r :: L.drop p) = (nrows w L).take p ++ (r.2.hash w, Value.ref r.1) :: (nrows w L).drop p := by
  unfold nrows
  rw [List.map_append, List.map_take, List.map_cons, List.map_drop]
theorem hashesN_put (L : List NRow) (p : Nat) (r : NRow) : hashesN w (L.take p ++ r :: L.drop p) = (hashesN w L).take p ++ r.2.hash w :: (hashesN w L).drop p := by
  unfold hashesN
  rw [List.map_append, List.map_take, List.map_cons, List.map_drop]
/-- rows taken by their numbers -/
theorem rows_taken (L : List NRow) (eqs : es.toList = nrows w L) : ∀ l : List Nat, (∀ i ∈ l, i < L.length) →
    l.filterMap (fun i => es[i]?) = nrows w (l.filterMap fun i => L[i]?) ∧ hashesN w (l.filterMap fun i => L[i]?) = l.map fun i => (es.map (·.1)).getD i 0
  | [], _ => ⟨rfl, rfl⟩
  | i :: l, hl => by
    obtain ⟨r, hi⟩ : ∃ r, L[i]? = some r := ⟨_, List.getElem?_eq_getElem (hl i List.mem_cons_self)⟩
    obtain ⟨h1, h2⟩ := rows_taken L eqs l fun j hj => hl j (List.mem_cons_of_mem _ hj)
    have he := row_at eqs hi
    have hg : (es.map (·.1)).getD i 0 = r.2.hash w := by
      have z : (es.map (·.1))[i]? = some (r.2.hash w) := by
        rw [Array.getElem?_map, he]
        first | rfl | done
      simp [Array.getD_eq_getD_getElem?, z]
    rw [List.filterMap_cons_some he, List.filterMap_cons_some hi, h1, List.map_cons, hg]
    refine ⟨rfl, ?_⟩
    rw [← h2]
    first | rfl | done
theorem all_taken (L : List NRow) : (List.range L.length).filterMap (fun i => L[i]?) = L := by
  have key : ∀ n, n ≤ L.length → (List.range n).filterMap (fun i => L[i]?) = L.take n := by
    intro n
    induction n with
    | zero => exact fun _ => rfl
    | succ n ih =>
      intro hn
      rw [List.range_succ, List.filterMap_append, ih (by omega), List.take_succ, List.getElem?_eq_getElem hn]
      refine congrArg _ ?_
      rw [List.filterMap_cons_some (List.getElem?_eq_getElem hn)]
      first | rfl | done
  rw [key _ (Nat.le_refl _), List.take_length]
/-- laid anew in a larger table -/
theorem nrelay {o : Obj} (g : s.heap.get? a = some o) (hex : o.ExactSet) (hd : o.data = .set es ep t) (eqs : es.toList = nrows w L) (hpl : t.place.size = es.size) (hdm : t.dummies = #[]) (hmk : es.size ≤ t.mask)
    (dif : (L.map Prod.snd).Nodup) (key : ∀ r ∈ L, TupKey s.heap r.2 r.1) (led : w.params.followText "set-order" = true ∨ t.led = true) (small : L.length < 64) {want M : Nat}
    (hw : SetTable.sizeAbove want - 1 = M) (hM : MaskOk M) (hw2 : SetTable.sizeAbove want ≤ 128) (gap : L.length * 5 < M * 3) {Q : Unit → Shared → Prop}
    (q : ∀ h' L' es' ep' t', Heap.SameBut a s.heap h' → NSet w h' a L' es' ep' t' → L'.Perm L → Q () { s with heap := h' }) : wpAny (model P w) A (setRelay a want) Q E s := by
  have hn := nrows_len eqs
  obtain ⟨t', order, e1, e2, e3, e4, e5, _, e7⟩ := relaid_ok t (hs := es.map (·.1)) hw hM (by rw [Array.size_map]; omega)
  rw [Array.size_map, hn] at e2
  obtain ⟨r1, r2⟩ := rows_taken L eqs order.toList fun i hi => List.mem_range.mp (e2.mem_iff.mp hi)
  rw [← r2] at e3
  have pm : (order.toList.filterMap fun i => L[i]?).Perm L := by
    have z := e2.filterMap fun i => L[i]?
    rw [all_taken] at z
    exact z
  have r3 : (order.filterMap (es[·]?)).toList = nrows w (order.toList.filterMap fun i => L[i]?) := by
    rw [← r1]
    first
      | exact Array.toList_filterMap
      | simp
  generalize hL2 : (order.toList.filterMap fun i => L[i]?) = L2 at *
  generalize hes2 : order.filterMap (es[·]?) = es2 at *
  have hn2 : es2.size = es.size := by rw [nrows_len r3, pm.length_eq, hn]
  rw [setRelay_eq]
  refine wpAny_bind (wpAny_setState_of g hd (fits_of hpl hdm hmk) ?_)
  dsimp only
  rw [if_neg (by rw [sizeLine_eq]; omega)]
  try refine wpAny_bind (wpAny_pure ?_)
  rw [e1]
  dsimp only
  refine wpAny_bind ?_
  rw [hes2, if_neg (by rw [hn2]; simp)]
  try refine wpAny_bind (wpAny_pure ?_)
  refine wpAny_pure ?_
  dsimp only
  refine wpAny_storeSet_of g hd ?_ (by rw [hn2, hn, sizeLine_eq]; omega)
  have sb : Heap.SameBut a s.heap (s.heap.update a (Obj.putSet es2 t')) := Heap.SameBut.update ..
  refine q _ L2 es2 (ep + 1) t' sb ⟨⟨_, store_at g hd, ⟨hex.1, hex.2.1, hex.2.2⟩, rfl⟩, r3, e3, (pm.map Prod.snd).nodup_iff.mpr dif, fun r m => (key r (pm.mem_iff.mp m)).but g hd sb, by rw [e5]; exact led, ?_, by rw [pm.length_eq]; exact small⟩ pm
  rw [pm.length_eq, e4]
  exact gap
theorem tab_plain {hs : List Int} (T : TabOk t hs) (b : Bool) : TabOk (if b = true then t else { t with plain := false }) hs ∧ (if b = true then t else { t with plain := false }).mask = t.mask ∧ (if b = true then t else { t with plain := false }).led = t.led ∧
    (if b = true then t else { t with plain := false }).fill = t.fill := by
  cases b with
  | true => exact ⟨T, rfl, rfl, rfl⟩
  | false => exact ⟨⟨T.ris, T.dm, T.sz, T.mok, T.bd, T.reach⟩, rfl, rfl, rfl⟩
/-- one key is added -/
theorem nadd (N : NSet w s.heap a L es ep t) {x : Addr} {k : NestedKey} (kx : TupKey s.heap k x) (hu : A.units + 8 < cLine) (few : L.length + 1 < 64) {Q : Bool → Shared → Prop}
    (q : ∀ b h' L' es' ep' t', Heap.SameBut a s.heap h' → NSet w h' a L' es' ep' t' → (k ∈ L.map Prod.snd → L' = L) → (k ∉ L.map Prod.snd → L'.Perm ((x, k) :: L)) → Q b { s with heap := h' }) :
    wpAny (model P w) A (setAddHashed a (.ref x) (k.hash w)) Q E s := by
  obtain ⟨o, g, hex, hd⟩ := N.obj
  have hn := N.size
  have hgap := N.gap
  unfold setAddHashed
  refine wpAny_holding ?_
  rw [show (100000 : Nat) = Nat.succ 99999 from rfl, setAddHashedIn_succ]
  refine wpAny_bind (wpAny_setState_of g hd N.fits ?_)
  dsimp only
  rw [if_neg (by simp [byScan, Value.scannable])]
  try refine wpAny_bind (wpAny_pure ?_)
  refine wpAny_bind (nsearch N kx hu (fun m => ?_) fun K m hK hb => ?_)
  · dsimp only
    exact wpAny_pure (q false s.heap L es ep t (Heap.SameBut.refl a s.heap) N (fun _ => rfl) fun z => absurd m z)
  · dsimp only
    refine wpAny_bind (wpAny_setState_of g hd N.fits ?_)
    dsimp only
    obtain ⟨q1, q2, q3, q4, q5, q6, q7, q8, q9⟩ := N.tok.put hK hb
    generalize hpt : t.put (way t.mask (k.hash w) K) = pt at *
    obtain ⟨t1, p⟩ := pt
    dsimp only at q1 q3 q4 q5 q9 ⊢
    subst q1
    have some_ : ∀ (f : Bool → Sem Bool), (∀ b, wpAny (model P w) A (f b) Q E s) → wpAny (model P w) A (if t1.plain = true then hashByValue 8 (.ref x) >>= f else pure true >>= f) Q E s := fun f hr => by
      by_cases hp : t1.plain = true
      · rw [if_pos hp]
        exact wpAny_bind (someHash_key _ _ 8 _ kx.is kx.deep _ _ _ hr)
      · rw [if_neg hp]
        exact wpAny_bind (wpAny_pure (hr true))
    refine some_ _ fun b => ?_
    obtain ⟨T2, m2, l2, f2⟩ := tab_plain q3 b
    generalize (if b = true then t1 else { t1 with plain := false }) = t2 at T2 m2 l2 f2 ⊢
    rw [← hashesN_put L _ (x, k)] at T2
    have he : (SetTable.insertAt es (SetTable.below t.place (way t.mask (k.hash w) K)) (k.hash w, Value.ref x)).toList = nrows w (L.take (SetTable.below t.place (way t.mask (k.hash w) K)) ++ (x, k) :: L.drop (SetTable.below t.place (way t.mask (k.hash w) K))) := by
      rw [SetTable.toList_insertAt, nrows_put, N.eqs]
    have pm := put_perm L (SetTable.below t.place (way t.mask (k.hash w) K)) (x, k)
    generalize SetTable.insertAt es (SetTable.below t.place (way t.mask (k.hash w) K)) (k.hash w, Value.ref x) = es1 at he ⊢
    generalize L.take (SetTable.below t.place (way t.mask (k.hash w) K)) ++ (x, k) :: L.drop (SetTable.below t.place (way t.mask (k.hash w) K)) = L1 at pm he T2
    have n1 : L1.length = L.length + 1 := pm.length_eq
    have n2 : es1.size = L.length + 1 := by rw [nrows_len he, n1]
    have nd : (L1.map Prod.snd).Nodup := by
      rw [(pm.map Prod.snd).nodup_iff, List.map_cons, List.nodup_cons]
      exact ⟨m, N.dif⟩
    have pl2 : t2.place.size = es1.size := by
      have z := T2.sz
      unfold hashesN at z
      rw [z, List.length_map, n1, n2]
    rw [hn]
    refine wpAny_bind (wpAny_storeSet_of g hd ?_ (by rw [n2, sizeLine_eq]; omega))
    have sb : Heap.SameBut a s.heap (s.heap.update a (Obj.putSet es1 t2)) := Heap.SameBut.update ..
    have g1 := store_at (es' := es1) (t' := t2) g hd
    generalize s.heap.update a (Obj.putSet es1 t2) = h1 at sb g1 ⊢
    have key1 : ∀ r ∈ L1, TupKey h1 r.2 r.1 := fun r hr => by
      rcases List.mem_cons.mp (pm.mem_iff.mp hr) with rfl | hr
      · exact kx.but g hd sb
      · exact (N.key r hr).but g hd sb
    have led1 : w.params.followText "set-order" = true ∨ t2.led = true := by
      rw [l2, q5]
      exact N.led
    have full : t2.tooFull = decide ((L.length + 1) * 5 ≥ t.mask * 3) := by
      unfold SetTable.tooFull
      rw [f2, q9, m2, q4]
      unfold hashesN
      rw [List.length_map]
    by_cases hf : (L.length + 1) * 5 ≥ t.mask * 3
    · rw [full, decide_eq_true hf]
      have two : (t.mask = 7 ∧ L.length = 4) ∨ (t.mask = 31 ∧ L.length = 18) := by
        rcases N.tok.mok with e | e | e
        · exact .inl ⟨e, by omega⟩
        · exact .inr ⟨e, by omega⟩
        · omega
      have grow : ∀ M, SetTable.sizeAbove (SetTable.grown (L.length + 1)) - 1 = M → MaskOk M → SetTable.sizeAbove (SetTable.grown (L.length + 1)) ≤ 128 → (L.length + 1) * 5 < M * 3 →
          wpAny (model P w) A (setRelay a (SetTable.grown (L.length + 1))) (fun _ s' => wpAny (model P w) A (pure true) Q E s') E { s with heap := h1 } := fun M h1' h2' h3' h4' => by
        refine nrelay (s := { s with heap := h1 }) g1 ⟨hex.1, hex.2.1, hex.2.2⟩ rfl he pl2 T2.dm (by rw [n2, m2, q4]; omega) nd key1 led1 (by rw [n1]; exact few) h1' h2' h3' (by rw [n1]; exact h4') ?_
        exact fun h2 L2 es2 ep2 t3 sb2 N2 pm2 => wpAny_pure (q true h2 L2 es2 ep2 t3 (sb.trans sb2) N2 (fun z => absurd z m) fun _ => pm2.trans pm)
      have go : wpAny (model P w) A (setRelay a (SetTable.grown (L.length + 1))) (fun _ s' => wpAny (model P w) A (pure true) Q E s') E { s with heap := h1 } := by
        rcases two with ⟨_, e⟩ | ⟨_, e⟩
        · exact grow 31 (by rw [e, size_20]) (.inr (.inl rfl)) (by rw [e, size_20]; decide) (by omega)
        · exact grow 127 (by rw [e, size_76]) (.inr (.inr rfl)) (by rw [e, size_76]; decide) (by omega)
      first
        | (refine wpAny_bind ?_; rw [if_pos (by decide)]; exact go)
        | (rw [if_pos (by decide)]; exact wpAny_bind go)
    · rw [full, decide_eq_false hf]
      have N1 : NSet w h1 a L1 es1 (ep + 1) t2 := ⟨⟨_, g1, ⟨hex.1, hex.2.1, hex.2.2⟩, rfl⟩, he, T2, nd, key1, led1, by rw [n1, m2, q4]; omega, by rw [n1]; exact few⟩
      have fin : wpAny (model P w) A (pure true) Q E { s with heap := h1 } := wpAny_pure (q true h1 L1 es1 (ep + 1) t2 sb N1 (fun z => absurd z m) fun _ => pm)
      first
        | (refine wpAny_bind ?_; rw [if_neg (by decide)]; exact wpAny_pure fin)
        | (rw [if_neg (by decide)]; exact fin)
end
end L2

set_option Elab.async false
set_option linter.all false
set_option maxRecDepth 100000
set_option maxHeartbeats 4000000
/-! sets of nested tuples: set(list) -/
namespace L2
open PySem PySem.SeqAt PySem.Spec PyProof.Rows
/-- what a set has got of the first i of these rows -/
structure NGot (ks : List NRow) (i : Nat) (L : List NRow) : Prop where
  only : ∀ r ∈ L, r ∈ ks.take i
  every : ∀ r ∈ ks.take i, r.2 ∈ L.map Prod.snd
  most : L.length ≤ i
theorem NGot.none_ (ks : List NRow) : NGot ks 0 [] := ⟨fun r h => absurd h (by simp), fun r h => absurd h (by simp), Nat.le_refl _⟩
theorem NGot.next {ks L L' : List NRow} {i : Nat} {x : NRow} (g : NGot ks i L) (e : ks[i]? = some x) (h1 : x.2 ∈ L.map Prod.snd → L' = L) (h2 : x.2 ∉ L.map Prod.snd → L'.Perm (x :: L)) : NGot ks (i + 1) L' := by
  have tk := take_next e
  rcases Classical.em (x.2 ∈ L.map Prod.snd) with c | c
  · cases h1 c
    refine ⟨fun r hr => ?_, fun r hr => ?_, Nat.le_succ_of_le g.most⟩
    · rw [tk]
      exact List.mem_append_left _ (g.only r hr)
    · rw [tk] at hr
      rcases List.mem_append.mp hr with z | z
      · exact g.every r z
      · cases List.mem_singleton.mp z
        exact c
  · have pm := h2 c
    refine ⟨fun r hr => ?_, fun r hr => ?_, by rw [pm.length_eq, List.length_cons]; exact Nat.succ_le_succ g.most⟩
    · rw [tk]
      rcases List.mem_cons.mp (pm.mem_iff.mp hr) with rfl | z
      · exact List.mem_append_right _ List.mem_cons_self
      · exact List.mem_append_left _ (g.only r z)
    · rw [(pm.map Prod.snd).mem_iff, List.map_cons]
      rw [tk] at hr
      rcases List.mem_append.mp hr with z | z
      · exact List.mem_cons_of_mem _ (g.every r z)
      · cases List.mem_singleton.mp z
        exact List.mem_cons_self
section
variable {P : Program} {w : World} {A : Around} {E : Value → Shared → Prop} {s : Shared}
/-- a set that was just made -/
abbrev newSetObj (w : World) : Obj := { cls := .type "set", dict := none, data := .set #[] 0 (.fresh 0 0 (!w.params.followText "set-order")) }
theorem nset_new {h : Heap} {a : Addr} (g : h.get? a = some (newSetObj w)) : NSet w h a [] #[] 0 (.fresh 0 0 (!w.params.followText "set-order")) where
  obj := ⟨_, g, ⟨rfl, rfl, rfl⟩, rfl⟩
  eqs := rfl
  tok := ⟨List.Pairwise.nil, rfl, rfl, .inl rfl, fun x hx => absurd hx (by first | exact List.not_mem_nil | simp), fun i h j hi => absurd hi (by simp [hashesN])⟩
  dif := List.nodup_nil
  key := fun r hr => absurd hr (by simp)
  led := by
    cases z : w.params.followText "set-order"
    · exact .inr rfl
    · exact .inl rfl
  gap := by show 0 < 7 * 3; decide
  small := by decide
theorem NSet.keep {h h' : Heap} {a : Addr} {L : List NRow} {es : Array (Int × Value)} {ep : Nat} {t : SetTable} (N : NSet w h a L es ep t) (ha : ∀ o, h.get? a = some o → h'.get? a = some o) (hk : ∀ r ∈ L, TupKey h' r.2 r.1) : NSet w h' a L es ep t := by
  obtain ⟨o, g, z⟩ := N.obj
  exact ⟨⟨o, ha o g, z⟩, N.eqs, N.tok, N.dif, hk, N.led, N.gap, N.small⟩
/-- the loop of set.update -/
theorem nupdate {I : Addr} {fp wr : List Addr} {G : Array GenState → Array GenState → Prop} {n : Nat} {Pv : Nat → Value → Prop} {St : Nat → Shared → Prop} {R : Result → Shared → Prop}
    (W : WalksS P w A.in1 I fp wr G n Pv St) (S : Addr) (hS : S ∉ fp) (ks : List NRow) (hn : n = ks.length) (few : ks.length < 64) (val : ∀ i v, Pv i v → ∃ r, ks[i]? = some r ∧ v = .ref r.1)
    (h0 : Heap) (hk : ∀ r ∈ ks, TupKey h0 r.2 r.1) (hS0 : h0.get? S = none) (hw0 : ∀ b ∈ wr, h0.get? b = none) (hu : A.in1.units + 8 < cLine) :
    ∀ (d i : Nat) (s : Shared), n - i = d → i ≤ n → St i s → (∀ b o, h0.get? b = some o → s.heap.get? b = some o) → (∃ L es ep t, NSet w s.heap S L es ep t ∧ NGot ks i L) →
      (∀ s' L es ep t, Moved (S :: wr) G s s' → NSet w s'.heap S L es ep t → NGot ks n L → (∀ b o, h0.get? b = some o → s'.heap.get? b = some o) → R (.ok (.ret .none)) s') →
      codeAny (model P w) A (.builtin "set.update.loop" ⟨[.ref S, .ref I], []⟩) R s := by
  have out : S ∉ wr := fun z => hS (W.sub _ z)
  have up : ∀ b ∈ wr, b ∈ S :: wr := fun b z => List.mem_cons_of_mem _ z
  have moved : ∀ {s s' : Shared}, Moved wr G s s' → (∀ b o, h0.get? b = some o → s.heap.get? b = some o) → ∀ b o, h0.get? b = some o → s'.heap.get? b = some o := fun m ext b o e =>
    m.heap b o (fun z => nomatch (hw0 b z).symm.trans e) (ext b o e)
  intro d
  induction d with
  | zero =>
    intro i s hd hi st ext ⟨L, es, ep, t, N, g⟩ hR
    obtain rfl : i = n := by omega
    refine codeAny_builtin F.entry_set_update_loop ?_
    rw [Around.under_plainId F.plain_set_update_loop _]
    show wpAny _ A.in1 (pyNext (.ref I) >>= _) _ _ s
    refine wpAny_bind (W.done s _ _ st fun s' m => ?_)
    show wpAny _ A.in1 (ret Value.none) _ _ s'
    have ext' := moved m ext
    exact wpAny_pure (hR s' L es ep t (m.mono up) (N.keep (fun o e => m.heap S o out e) fun r hr => (hk r (List.mem_of_mem_take (g.only r hr))).keep ext') g ext')
  | succ d ih =>
    intro i s hd hi st ext ⟨L, es, ep, t, N, g⟩ hR
    have lt : i < n := by omega
    refine codeAny_builtin F.entry_set_update_loop ?_
    rw [Around.under_plainId F.plain_set_update_loop _]
    show wpAny _ A.in1 (pyNext (.ref I) >>= _) _ _ s
    refine wpAny_bind (W.item i s _ _ lt st fun v s' hv st' m => ?_)
    obtain ⟨r, hr, rfl⟩ := val i v hv
    have ext' := moved m ext
    have N' : NSet w s'.heap S L es ep t := N.keep (fun o e => m.heap S o out e) fun q hq => (hk q (List.mem_of_mem_take (g.only q hq))).keep ext'
    have kr : TupKey s'.heap r.2 r.1 := (hk r (List.mem_of_getElem? hr)).keep ext'
    show wpAny _ A.in1 (holding [Value.ref r.1] (setAdd S (.ref r.1)) >>= _) _ _ s'
    refine wpAny_bind (wpAny_holding ?_)
    unfold setAdd
    refine wpAny_holding ?_
    refine wpAny_bind (pyHash_key _ _ _ _ _ kr.is (by have := kr.deep; omega) ?_)
    refine nadd (s := { s' with toks := s'.toks + r.2.draws }) N' kr hu (by have := g.most; omega) fun b h' L' es' ep' t' sb N2 c1 c2 => ?_
    have g' : NGot ks (i + 1) L' := g.next hr c1 c2
    have ext2 : ∀ b o, h0.get? b = some o → h'.get? b = some o := fun b o e => (sb.2 b (fun z => by rw [z, hS0] at e; exact nomatch e)).trans (ext' b o e)
    refine wpAny_pure ⟨plainId_quiet F.plain_set_update_loop _, ih (i + 1) _ (by omega) lt (W.frame _ s' _ _ st' (Nat.le_add_right _ _) fun b hb o e => ?_) ext2 ⟨L', es', ep', t', N2, g'⟩ fun s2 L2 es2 ep2 t2 m2 N3 g3 ext3 => ?_⟩
    · rw [sb.2 b (fun z => hS (z ▸ hb))]
      exact e
    · refine hR s2 L2 es2 ep2 t2 (Moved.trans W.gtrans ((m.mono up).then_heap (Nat.le_add_right _ _) fun b o hb e => ?_) m2) N3 g3 ext3
      rw [sb.2 b (fun z => hb (z ▸ List.mem_cons_self))]
      exact e
end
end L2

set_option Elab.async false
set_option linter.all false
set_option maxRecDepth 100000
set_option maxHeartbeats 4000000
/-! sets of nested tuples: the call set(list) -/
namespace L2
open PySem PySem.SeqAt PySem.Spec PyProof.Rows
section
variable {P : Program} {w : World} {A : Around} {E : Value → Shared → Prop} {s : Shared}
theorem absent_of {h : Heap} {b : Addr} (z : h.objs.size ≤ b) : h.get? b = none := by
  cases q : h.get? b with
  | none => rfl
  | some o => exact absurd (Nat.lt_of_lt_of_le (Heap.lt_size q) z) (Nat.lt_irrefl _)
/-- what a call of set leaves behind -/
def NMade (w : World) (s : Shared) (ks : List NRow) (s' : Shared) : Prop := ∃ h' tk L es ep t, s' = { s with heap := h', toks := tk } ∧ NSet w h' s.heap.objs.size L es ep t ∧ NGot ks ks.length L ∧ ∀ b o, s.heap.get? b = some o → h'.get? b = some o
theorem nset_call {l : Addr} {us : Array Value} (ks : List NRow) {Q : Value → Shared → Prop} (hh : A.handled = none) (hl : s.heap.IsList l us) (hit : us.toList = ks.map fun r => Value.ref r.1)
    (hk : ∀ r ∈ ks, TupKey s.heap r.2 r.1) (few : ks.length < 64) (hu : A.units + 16 < cLine) (q : ∀ s', NMade w s ks s' → Q (.ref s.heap.objs.size) s') :
    wpAny (model P w) A (call (.type "set") [.ref l]) Q E s := by
  have n0 : us.size = ks.length := by
    have z := congrArg List.length hit
    simpa using z
  obtain ⟨c, tl, mro⟩ := F.called_set.mro
  have made_ := F.called_set.made
  have sub_ := F.called_set.sub
  refine wpAny_call (codeAny_of_tree ?_)
  show wpAny _ _ (callAny (.type "set") _) _ _ _
  refine wpAny_pure ⟨Code.quiet_builtin _ (by decide +kernel), codeAny_builtin F.entry_type_call ?_⟩
  rw [Around.under_plain (weight_type_call_type "set" [.ref l] []) rfl]
  have isn := F.called_set.notType
  have can := F.called_set.canCreate
  have fit := F.typeCall_set_1 (.ref l)
  repeat (any_goals (first | assumption | wp_step))
  refine codeAny_mono (code_set_led1 (.ref l) (E := E) (Q₁ := fun obj s₁ => obj = .ref s.heap.objs.size ∧ s₁ = { s with heap := s.heap.push (newSetObj w) }) ⟨rfl, rfl⟩) fun r s₁ hr => ?_
  cases r with
  | error e => exact hr
  | ok fl =>
    cases fl with
    | ret obj =>
      obtain ⟨rfl, rfl⟩ := hr
      have gS : (s.heap.push (newSetObj w)).get? s.heap.objs.size = some (newSetObj w) := Heap.get?_push_size _ rfl
      have tS : Shared.TypeIs { s with heap := s.heap.push (newSetObj w) } (.ref s.heap.objs.size) "set" := ⟨_, gS, rfl⟩
      have look := F.called_set.init.lookup
      have bind_ := F.called_set.init.bind (.ref s.heap.objs.size)
      repeat (any_goals (first | assumption | wp_step))
      refine codeAny_mono (codeAny_call_builtin (R := wants (fun r s₂ => r = .none ∧ NMade w s ks s₂) E) F.called_set.init.plain F.entry_set_init (check_set_init_1 tS ?_)) fun r₂ s₂ hr₂ => ?_
      · obtain ⟨⟨kl, dl, tl', sl⟩, gl, rfl, nl, rfl⟩ := hl
        have gl' : (s.heap.push (newSetObj w)).get? l = some { cls := .type "list", dict := dl, data := .seq us nl, slots := sl } := Heap.get?_push_of_some _ gl
        have sub1 := F.sub_list_set
        have sub2 := F.sub_list_frozenset
        have nd : (Value.type "list" == Value.type "dict") = false := by decide
        have L1 : (s.heap.push (newSetObj w)).IsList l us := ⟨_, gl', rfl, nl, rfl⟩
        unfold Builtin.«set.__init__» noKeywords Builtin.Frozenset.updateFrom
        generalize hit_ : pyIter = IT
        wp_walk
        subst hit_
        refine wpAny_pyIter_list L1 ?_
        refine wpAny_bind (wpAny_runValue ?_)
        have ll : l < s.heap.objs.size := Heap.lt_size gl
        have sz1 : (s.heap.push (newSetObj w)).objs.size = s.heap.objs.size + 1 := Heap.size_push ..
        have ne1 : l ≠ (s.heap.push (newSetObj w)).objs.size := by
          rw [sz1]
          exact Nat.ne_of_lt (Nat.lt_succ_of_lt ll)
        have out : s.heap.objs.size ∉ [(s.heap.push (newSetObj w)).objs.size, l] := by
          rw [sz1]
          intro z
          rcases List.mem_cons.mp z with z | z
          · exact absurd z (Nat.ne_of_lt (Nat.lt_succ_self _))
          · exact absurd (List.mem_singleton.mp z) (Nat.ne_of_gt ll)
        have val : ∀ (i : Nat) (v : Value), us[i]? = some v → ∃ r, ks[i]? = some r ∧ v = .ref r.1 := fun i v hv => by
          rw [← Array.getElem?_toList, hit, List.getElem?_map] at hv
          obtain ⟨r, hr, e⟩ := Option.map_eq_some_iff.mp hv
          exact ⟨r, hr, e.symm⟩
        have W0 := (Walks.list (prog := P) (w := w) (A := A.in1.in1.in1) (show A.in1.in1.in1.handled = none by simp [hh]) (s.heap.push (newSetObj w)).objs.size l ne1 us).toS
        refine nupdate W0 s.heap.objs.size out ks n0 few val s.heap hk (absent_of (Nat.le_refl _)) (fun b hb => absent_of (by
            rw [List.mem_singleton.mp hb, sz1]
            exact Nat.le_succ _)) (by simp only [Around.in1_units]; omega) (us.size - 0) 0 _ (by omega) (Nat.zero_le _)
          ⟨⟨_, Heap.get?_push_size _ rfl, rfl, rfl⟩, L1.push _⟩ (fun b o e => Heap.get?_push_of_some _ (Heap.get?_push_of_some _ e)) ?first ?last
        case first => exact ⟨[], #[], 0, _, nset_new (Heap.get?_push_of_some _ gS), NGot.none_ ks⟩
        case last =>
          intro s' L es ep t m N g ext
          obtain ⟨h', gn, dr, tk', os'⟩ := s'
          cases (show gn = s.gens from m.gens)
          cases (show dr = s.drawn from m.drawn)
          cases (show os' = s.os from m.os)
          show wpAny _ _ _ _ _ _
          refine wpAny_pure ?_
          show wpAny _ _ (ret Value.none) _ _ _
          rw [n0] at g
          exact wpAny_pure ⟨rfl, h', tk', L, es, ep, t, rfl, N, g, ext⟩
      · cases r₂ with
        | error e => exact hr₂
        | ok fl₂ =>
          cases fl₂ with
          | ret r =>
            obtain ⟨rfl, hm⟩ := hr₂
            have hm' := hm
            obtain ⟨h', tk, L, es, ep, t, rfl, N, g, ext⟩ := hm
            repeat (any_goals (first | assumption | wp_step))
            exact q _ hm'
          | _ => exact hr₂.elim
    | _ => exact hr.elim
end
end L2

set_option Elab.async false
set_option linter.all false
set_option maxRecDepth 100000
set_option maxHeartbeats 4000000
/-! data that sets take, and their order -/
namespace L2
open PySem PySem.W PySem.SeqAt PySem.Spec PyProof.Rows
mutual
def nkey : PyData → NestedKey
  | .none => .none
  | .bool b => .num (if b = true then 1 else 0)
  | .int i => .num i
  | .str x => .text x
  | .tuple ds => .tup (nkeys ds)
  | .list _ => .none
  | .dict _ => .none
def nkeys : List PyData → List NestedKey
  | [] => []
  | d :: ds => nkey d :: nkeys ds
end
mutual
/-- neither a list nor a dict, nor one within -/
def keyable : PyData → Bool
  | .list _ => false
  | .dict _ => false
  | .tuple ds => keyables ds
  | _ => true
def keyables : List PyData → Bool
  | [] => true
  | d :: ds => keyable d && keyables ds
end
mutual
theorem nkey_depth : ∀ d : PyData, keyable d = true → (nkey d).depth = d.depth
  | .none, _ => rfl
  | .bool _, _ => rfl
  | .int _, _ => rfl
  | .str _, _ => rfl
  | .tuple ds, k => by
    have z := nkeys_depth ds (by simpa [keyable] using k)
    simp only [nkey, NestedKey.depth, PyData.depth, z]
  | .list _, k => by simp [keyable] at k
  | .dict _, k => by simp [keyable] at k
theorem nkeys_depth : ∀ ds : List PyData, keyables ds = true → NestedKey.depthAll (nkeys ds) = PyData.depthAll ds
  | [], _ => rfl
  | d :: ds, k => by
    rw [keyables, Bool.and_eq_true] at k
    simp only [nkeys, NestedKey.depthAll, PyData.depthAll, nkey_depth d k.1, nkeys_depth ds k.2]
end
mutual
theorem nkey_is {h : Heap} : ∀ (d : PyData) (v : Value) (as : List Addr), keyable d = true → Reads h v d as → NestedIs h (nkey d) v
  | .none, _, _, _, r => by cases r; exact .none
  | .bool b, _, _, _, r => by cases r; exact .bool rfl
  | .int i, _, _, _, r => by cases r; exact .int _ _
  | .str x, _, _, _, r => by cases r; exact .text _ _
  | .tuple ds, _, _, k, r => by
    cases r with
    | tuple g1 g2 g3 g4 => exact .tup g1 g2 g3 (nkeys_is ds _ _ (by simpa [keyable] using k) g4)
  | .list _, _, _, k, _ => by simp [keyable] at k
  | .dict _, _, _, k, _ => by simp [keyable] at k
theorem nkeys_is {h : Heap} : ∀ (ds : List PyData) (vs : List Value) (as : List Addr), keyables ds = true → ReadsAll h vs ds as → NestedAll h (nkeys ds) vs
  | [], _, _, _, r => by cases r; exact .nil
  | d :: ds, _, _, k, r => by
    rw [keyables, Bool.and_eq_true] at k
    cases r with
    | cons r1 r2 => exact .cons (nkey_is d _ _ k.1 r1) (nkeys_is ds _ _ k.2 r2)
end
mutual
theorem nkey_inj : ∀ d e : PyData, keyable d = true → keyable e = true → alike d e = true → nkey d = nkey e → d = e
  | .none, e, _, _, a, _ => by cases e <;> first | rfl | simp [alike] at a
  | .bool b, e, _, _, a, q => by
    cases e with
    | bool c =>
      simp only [nkey] at q
      injection q with q
      cases b <;> cases c <;> first | rfl | exact absurd q (by decide)
    | _ => simp [alike] at a
  | .int i, e, _, _, a, q => by
    cases e with
    | int j =>
      simp only [nkey] at q
      injection q with q
      rw [q]
    | _ => simp [alike] at a
  | .str x, e, _, _, a, q => by
    cases e with
    | str y =>
      simp only [nkey] at q
      injection q with q
      rw [q]
    | _ => simp [alike] at a
  | .tuple ds, e, k, k', a, q => by
    cases e with
    | tuple es =>
      simp only [nkey] at q
      injection q with q
      rw [nkeys_inj ds es (by simpa [keyable] using k) (by simpa [keyable] using k') (by simpa [alike] using a) q]
    | _ => simp [alike] at a
  | .list _, _, k, _, _, _ => by simp [keyable] at k
  | .dict _, _, k, _, _, _ => by simp [keyable] at k
theorem nkeys_inj : ∀ ds es : List PyData, keyables ds = true → keyables es = true → alikeAll ds es = true → nkeys ds = nkeys es → ds = es
  | [], [], _, _, _, _ => rfl
  | [], _ :: _, _, _, _, q => by simp [nkeys] at q
  | _ :: _, [], _, _, _, q => by simp [nkeys] at q
  | d :: ds, e :: es, k, k', a, q => by
    rw [keyables, Bool.and_eq_true] at k k'
    obtain ⟨a1, a2⟩ := alike_all_cons a
    simp only [nkeys] at q
    injection q with q1 q2
    rw [nkey_inj d e k.1 k'.1 a1 q1, nkeys_inj ds es k.2 k'.2 a2 q2]
end
mutual
theorem eqv_same : ∀ d e : PyData, alike d e = true → PyData.eqv d e = true → d = e
  | .none, e, a, _ => by cases e <;> first | rfl | simp [alike] at a
  | .bool b, e, a, q => by
    cases e with
    | bool c => cases b <;> cases c <;> first | rfl | (simp [PyData.eqv] at q)
    | _ => simp [alike] at a
  | .int i, e, a, q => by
    cases e with
    | int j =>
      have z : i = j := by simpa [PyData.eqv] using q
      rw [z]
    | _ => simp [alike] at a
  | .str x, e, a, q => by
    cases e with
    | str y =>
      have z : x = y := by simpa [PyData.eqv] using q
      rw [z]
    | _ => simp [alike] at a
  | .tuple ds, e, a, q => by
    cases e with
    | tuple es => rw [eqvs_same ds es (by simpa [alike] using a) (by simpa [PyData.eqv] using q)]
    | _ => simp [alike] at a
  | .list ds, e, a, q => by
    cases e with
    | list es => rw [eqvs_same ds es (by simpa [alike] using a) (by simpa [PyData.eqv] using q)]
    | _ => simp [alike] at a
  | .dict _, e, a, _ => by cases e <;> simp [alike] at a
theorem eqvs_same : ∀ ds es : List PyData, alikeAll ds es = true → PyData.eqvAll ds es = true → ds = es
  | [], [], _, _ => rfl
  | [], _ :: _, _, q => by simp [PyData.eqvAll] at q
  | _ :: _, [], _, q => by simp [PyData.eqvAll] at q
  | d :: ds, e :: es, a, q => by
    obtain ⟨a1, a2⟩ := alike_all_cons a
    rw [eqv_all_cons, Bool.and_eq_true] at q
    rw [eqv_same d e a1 q.1, eqvs_same ds es a2 q.2]
end
/-- of two unlike data of one kind one is below the other -/
theorem dataLt_or {d e : PyData} (a : alike d e = true) (ne : d ≠ e) : dataLt d e = true ∨ dataLt e d = true := by
  cases h1 : dataLt d e with
  | true => exact .inl rfl
  | false =>
    cases h2 : dataLt e d with
    | true => exact .inr rfl
    | false =>
      exfalso
      have tk : keyToks d = keyToks e := (listOrd itemOrd).total _ _ h1 h2
      cases q : PyData.eqv d e with
      | true => exact ne (eqv_same d e a q)
      | false =>
        have z := (toks_eqv d e a).2 q [] [.inl 0]
        rw [tk, lex_pre] at z
        have z2 := (toks_eqv d e a).2 q [] []
        rw [tk, lex_pre] at z2
        rw [← z2] at z
        exact absurd z (by decide)
theorem dataLt_irrefl (d : PyData) : dataLt d d = false := (listOrd itemOrd).irrefl _
theorem dataLt_trans {d e f : PyData} (h1 : dataLt d e = true) (h2 : dataLt e f = true) : dataLt d f = true := (listOrd itemOrd).trans _ _ _ h1 h2
end L2

set_option Elab.async false
set_option linter.all false
set_option maxRecDepth 100000
set_option maxHeartbeats 4000000
/-! sorted(set) of nested tuples -/
namespace L2
open PySem PySem.W PySem.SeqAt PySem.Spec PyProof.Rows PySem.Calls
theorem perm_back {α β : Type} {f : α → β} {l k : List β} (p : l.Perm k) : ∀ m : List α, k = m.map f → ∃ m' : List α, m'.Perm m ∧ l = m'.map f := by
  induction p with
  | nil =>
    intro m e
    exact ⟨[], by cases m with | nil => exact .nil | cons _ _ => simp at e, rfl⟩
  | cons x _ ih =>
    intro m e
    cases m with
    | nil => simp at e
    | cons y m =>
      rw [List.map_cons] at e
      injection e with e1 e2
      obtain ⟨m', h1, h2⟩ := ih m e2
      exact ⟨y :: m', h1.cons y, by rw [h2, e1, List.map_cons]⟩
  | swap x y l =>
    intro m e
    match m, e with
    | [], e => simp at e
    | [_], e => simp at e
    | u :: v :: m, e =>
      simp only [List.map_cons] at e
      injection e with e1 e2
      injection e2 with e2 e3
      exact ⟨v :: u :: m, .swap _ _ _, by simp only [List.map_cons]; rw [e1, e2, e3]⟩
  | trans _ _ ih1 ih2 =>
    intro m e
    obtain ⟨m2, h1, h2⟩ := ih2 m e
    obtain ⟨m3, h3, h4⟩ := ih1 m2 h2
    exact ⟨m3, h3.trans h1, h4⟩
theorem sub_back {α β : Type} {f : α → β} {m : List α} : ∀ l : List β, (∀ x ∈ l, x ∈ m.map f) → ∃ m' : List α, l = m'.map f ∧ ∀ y ∈ m', y ∈ m
  | [], _ => ⟨[], rfl, fun y h => absurd h (by simp)⟩
  | x :: l, h => by
    obtain ⟨y, hy, e⟩ := List.mem_map.mp (h x List.mem_cons_self)
    obtain ⟨m', e', h'⟩ := sub_back l fun z hz => h z (List.mem_cons_of_mem _ hz)
    refine ⟨y :: m', by rw [List.map_cons, e, e'], fun z hz => ?_⟩
    rcases List.mem_cons.mp hz with rfl | hz
    · exact hy
    · exact h' z hz
/-- a tuple of the heap and what it reads as -/
abbrev TRow := Addr × PyData
abbrev TRow.n (p : TRow) : NRow := (p.1, nkey p.2)
abbrev TRow.r (p : TRow) : Value := .ref p.1
theorem each_rows {R : Value → TRow → Prop} : ∀ T : List TRow, (∀ p ∈ T, R p.r p) → EachIs R (T.map TRow.r) T
  | [], _ => .nil
  | p :: T, h => .cons (h p List.mem_cons_self) (each_rows T fun q hq => h q (List.mem_cons_of_mem _ hq))
theorem rows_each : ∀ {vs : List Value} {T : List TRow}, EachIs (fun v p => v = TRow.r p) vs T → vs = T.map TRow.r
  | _, _, .nil => rfl
  | _, _, .cons h t => by rw [h, rows_each t, List.map_cons]
section
variable {P : Program} {w : World} {A : Around} {E : Value → Shared → Prop} {s : Shared}
/-- the rows, sorted -/
def sortT (T : List TRow) : List TRow := T.mergeSort (dataLe false Prod.snd)
theorem sortT_perm (T : List TRow) : (sortT T).Perm T := List.mergeSort_perm _ _
theorem sortT_up (T : List TRow) (hal : AllAlike (T.map Prod.snd)) (nd : (T.map Prod.snd).Nodup) : (sortT T).Pairwise fun p q => dataLt p.2 q.2 = true := by
  have srt : (sortT T).Pairwise fun p q => dataLe false Prod.snd p q = true := sort_pairwise (sortLe_total (listOrd itemOrd) false fun p : TRow => keyToks p.2) T
  have nd' : ((sortT T).map Prod.snd).Nodup := ((sortT_perm T).map Prod.snd).nodup_iff.mpr nd
  have ne : (sortT T).Pairwise fun p q => p.2 ≠ q.2 := List.pairwise_map.mp nd'
  refine List.Pairwise.imp_of_mem (fun {p q} hp hq z => ?_) (srt.and ne)
  obtain ⟨z1, z2⟩ := z
  have mp := (sortT_perm T).mem_iff.mp hp
  have mq := (sortT_perm T).mem_iff.mp hq
  rcases dataLt_or (hal _ (List.mem_map_of_mem mp) _ (List.mem_map_of_mem mq)) z2 with c | c
  · exact c
  · exfalso
    have z3 : (!dataLt q.2 p.2) = true := z1
    rw [c] at z3
    exact absurd z3 (by decide)
/-- sorted of a set of tuples -/
theorem nsorted {a : Addr} {T : List TRow} {es : Array (Int × Value)} {ep : Nat} {t : SetTable} {Q : Value → Shared → Prop} (N : NSet w s.heap a (T.map TRow.n) es ep t) (hh : A.handled = none)
    (hr : ∀ p ∈ T, ∃ as, Reads s.heap p.r p.2 as) (hal : AllAlike (T.map Prod.snd)) (ht : ∀ p ∈ T, ∃ xs, p.2 = .tuple xs) (hu : ∀ p ∈ T, A.units + 4 + p.2.depth < cLine)
    (q : ∀ s' b c T', (∀ b o, s.heap.get? b = some o → s'.heap.get? b = some o) → s'.gens = s.gens → s'.os = s.os → s.heap.objs.size ≤ b → T'.Perm T → s'.heap.get? b = some (seqObj "list" ((sortT T').map TRow.r).toArray c) → Q (.ref b) s') :
    wpAny (model P w) A (call (.builtin "sorted") [.ref a]) Q E s := by
  obtain ⟨o, g, hex, hd⟩ := N.obj
  have few := N.small
  rw [List.length_map] at few
  refine Calls.call_function_entry kind_sorted plain_sorted entry_sorted (args_sorted1 _) ?_
  unfold Builtin.«sorted»
  refine wpAny_bind (m := checkCount "sorted" 1 1 _) (wpAny_pure ?_)
  refine wpAny_bind (collect_set (A := A.in1) hh ⟨o, g, hex.1, hd⟩ N.fits (by rw [N.size, List.length_map]; unfold scanBound; omega) N.tok.ris N.led fun s1 vs k1 hz g1 o1 pm => ?_)
  have e1 : es.toList.map (·.2) = T.map TRow.r := by
    rw [N.eqs]
    unfold nrows
    rw [List.map_map, List.map_map]
    first | rfl | done
  obtain ⟨T2, p2, rfl⟩ := perm_back pm T e1
  have len2 : (T2.map TRow.r).length < 64 := by rw [List.length_map, p2.length_eq]; exact few
  refine wpAny_bind (wpAny_newList ?_ (by rw [sizeLine_eq]; omega))
  have gL : (s1.heap.push (seqObj "list" (T2.map TRow.r).toArray 0)).get? s1.heap.objs.size = some (seqObj "list" (T2.map TRow.r).toArray 0) := Heap.get?_push_size _ rfl
  have rd : EachIs (fun v p => ∃ as, Reads (sortingHeap (s1.heap.push (seqObj "list" (T2.map TRow.r).toArray 0)) s1.heap.objs.size (T2.map TRow.r)) v p.2 as) (T2.map TRow.r) T2 :=
    each_rows T2 fun p hp => by
      obtain ⟨as, r⟩ := hr p (p2.mem_iff.mp hp)
      exact ⟨as, PyProof.Rows.Reads.keeps (fun b u e => by
        have z := k1 b u e
        exact sortingHeap_old (Nat.ne_of_lt (Heap.lt_size z)) (Heap.get?_push_of_some _ z)) r⟩
  have al2 : AllAlike (T2.map Prod.snd) := fun d hd e he => hal d ((p2.map Prod.snd).mem_iff.mp hd) e ((p2.map Prod.snd).mem_iff.mp he)
  have tp2 : ∀ d ∈ T2.map Prod.snd, ∃ xs, d = PyData.tuple xs := fun d hd => by
    obtain ⟨p, hp, rfl⟩ := List.mem_map.mp hd
    exact ht p (p2.mem_iff.mp hp)
  have u2 : ∀ d, d ∈ T2.map Prod.snd → A.in1.in1.units + d.depth < cLine := fun d hd => by
    obtain ⟨p, hp, rfl⟩ := List.mem_map.mp hd
    have z := hu p (p2.mem_iff.mp hp)
    simp only [Around.in1_units]
    omega
  have srt := sortsAt_tups (prog := P) (w := w) (A := A.in1.in1) (s := { s1 with heap := sortingHeap (s1.heap.push (seqObj "list" (T2.map TRow.r).toArray 0)) s1.heap.objs.size (T2.map TRow.r) }) (each_map (R := fun v d => ∃ as, Reads _ v d as) Prod.snd rd) al2 tp2 u2
  have out := rows_each (sortVals_data (R := fun v p => v = TRow.r p) (enc := Prod.snd) false (each_rows T2 fun p _ => rfl) rd al2)
  refine wpAny_bind (wpAny_holding (wpAny_call_entry slot_list_sort ⟨_, gL, rfl⟩ entry_list_sort (list_sort_vals (s := { s1 with heap := s1.heap.push (seqObj "list" (T2.map TRow.r).toArray 0) }) gL srt (by rw [sizeLine_eq]; omega) ⟨_, rfl, ?_⟩) (args_list_sort _)))
  rw [out]
  obtain ⟨c, hc⟩ := sortedHeap_at (vs := T2.map TRow.r) (out := ((T2.mergeSort (dataLe false Prod.snd)).map TRow.r).toArray) gL
  refine wpAny_pure ⟨_, rfl, q _ s1.heap.objs.size c T2 (fun b u e => ?_) g1 o1 hz p2 hc⟩
  have z := k1 b u e
  have lt := Heap.lt_size z
  show (sortedHeap (s1.heap.push (seqObj "list" (T2.map TRow.r).toArray 0)) s1.heap.objs.size (T2.map TRow.r) _).get? b = some u
  rw [sortedHeap_old (Nat.ne_of_lt lt) (by rw [size_push']; exact Nat.lt_succ_of_lt lt)]
  exact Heap.get?_push_of_some _ z
end
end L2

set_option Elab.async false
set_option linter.all false
set_option maxRecDepth 100000
set_option maxHeartbeats 4000000
/-! sets of nested tuples, and sorted lists of tuples: rules of the layer -/
namespace L2
open PySem PySem.W PySem.Spec PyProof.Rows
abbrev TRow.v (p : TRow) : V := .ref p.1
theorem tuple_ref {H : Hp} {v : V} {ds : List PyData} (h : Dat H v (.tuple ds)) : ∃ a, v = .ref a := by
  cases h with
  | tup _ _ => exact ⟨_, rfl⟩
theorem rows_of_dat {H : Hp} : ∀ {vs : List V} {ds : List PyData}, DatAll H vs ds → (∀ d ∈ ds, ∃ xs, d = .tuple xs) → ∃ T : List TRow, vs = T.map TRow.v ∧ ds = T.map Prod.snd ∧ ∀ p ∈ T, Dat H p.v p.2
  | _, _, .nil, _ => ⟨[], rfl, rfl, fun p hp => absurd hp (by simp)⟩
  | _, _, .cons (v := v) (d := d) h t, ht => by
    obtain ⟨T, rfl, rfl, h3⟩ := rows_of_dat t fun e he => ht e (List.mem_cons_of_mem _ he)
    obtain ⟨xs, rfl⟩ := ht d List.mem_cons_self
    obtain ⟨a, rfl⟩ := tuple_ref h
    refine ⟨(a, .tuple xs) :: T, rfl, rfl, fun p hp => ?_⟩
    rcases List.mem_cons.mp hp with rfl | hp
    · exact h
    · exact h3 p hp
theorem rows_vals : ∀ T : List TRow, Vals (T.map TRow.v) (T.map TRow.r)
  | [] => .nil
  | _ :: T => .cons rfl (rows_vals T)
theorem vals_rows : ∀ {T : List TRow} {us : List Value}, Vals (T.map TRow.v) us → us = T.map TRow.r
  | [], _, .nil => rfl
  | _ :: T, _, .cons r t => by
    cases (show _ = Value.ref _ from r)
    rw [vals_rows t, List.map_cons]
/-- what is asked of the data of tuples that are sorted -/
structure Sorty (T : List TRow) : Prop where
  alike : AllAlike (T.map Prod.snd)
  tup : ∀ p ∈ T, ∃ xs, p.2 = .tuple xs
  deep : ∀ p ∈ T, p.2.depth ≤ 8
theorem Sorty.sub {T T' : List TRow} (h : Sorty T) (s : ∀ p ∈ T', p ∈ T) : Sorty T' where
  alike := fun d hd e he => by
    obtain ⟨p, hp, rfl⟩ := List.mem_map.mp hd
    obtain ⟨q, hq, rfl⟩ := List.mem_map.mp he
    exact h.alike _ (List.mem_map_of_mem (s p hp)) _ (List.mem_map_of_mem (s q hq))
  tup := fun p hp => h.tup p (s p hp)
  deep := fun p hp => h.deep p (s p hp)
/-- the set at a, without its members -/
structure NSet0 (w : World) (h : Heap) (a : Addr) (L : List NRow) : Prop where
  ex : ∃ (es : Array (Int × Value)) (ep : Nat) (t : SetTable), (∃ o, h.get? a = some o ∧ o.ExactSet ∧ o.data = .set es ep t) ∧ es.toList = nrows w L ∧ TabOk t (hashesN w L) ∧ (L.map Prod.snd).Nodup ∧
    (w.params.followText "set-order" = true ∨ t.led = true) ∧ L.length * 5 < t.mask * 3 ∧ L.length < 64
def SetNO (w : World) (a : Addr) (L : List NRow) : HO := .ext fun h => NSet0 w h a L
theorem NSet.less {w : World} {h : Heap} {a : Addr} {L : List NRow} {es : Array (Int × Value)} {ep : Nat} {t : SetTable} (N : NSet w h a L es ep t) : NSet0 w h a L := ⟨es, ep, t, N.obj, N.eqs, N.tok, N.dif, N.led, N.gap, N.small⟩
theorem NSet0.full {w : World} {h : Heap} {a : Addr} {L : List NRow} (N : NSet0 w h a L) (hk : ∀ r ∈ L, TupKey h r.2 r.1) : ∃ es ep t, NSet w h a L es ep t := by
  obtain ⟨es, ep, t, h1, h2, h3, h4, h5, h6, h7⟩ := N.ex
  exact ⟨es, ep, t, h1, h2, h3, h4, hk, h5, h6, h7⟩
theorem setNO_ok {P : Program} {w : World} {H : Hp} {h : Heap} {a : Addr} {L : List NRow} (N : NSet0 w h a L) : ObjOk P w H h a (SetNO w a L) := by
  obtain ⟨es, ep, t, ⟨o, g, r⟩, z⟩ := N.ex
  refine ⟨N, ⟨o, g⟩, fun h1 h2 p k => ?_⟩
  obtain ⟨es', ep', t', ⟨o', g', r'⟩, z'⟩ := NSet0.ex p
  exact ⟨es', ep', t', ⟨o', k o' g', r'⟩, z'⟩
section
variable {X : Cx}
theorem Inv.reads {pins : List (Addr × Obj)} {σ : St} {H : Hp} {s : Shared} (I : Inv X pins σ H s) {p : TRow} (d : Dat H p.v p.2) : ∃ as, Reads s.heap p.r p.2 as := reads_of_dat I.hok d rfl
theorem tupKey_of {h : Heap} {p : TRow} (r : ∃ as, Reads h p.r p.2 as) (k : keyable p.2 = true) (z : p.2.depth ≤ 8) : TupKey h (nkey p.2) p.1 := by
  obtain ⟨as, r⟩ := r
  exact ⟨nkey_is _ _ as k r, by rw [nkey_depth _ k]; exact z⟩
/-- set(xs), xs a list of nested tuples -/
def rSetN (K : PySem.W.Frag) (w : World) : List V → Hp → VK → Prop := fun xs H Q => ∃ (l : Addr) (T : List TRow), xs = [V.ref l] ∧ SqL K H l (T.map TRow.v) ∧ (∀ p ∈ T, Dat H p.v p.2) ∧ Sorty T ∧ (∀ p ∈ T, keyable p.2 = true) ∧ T.length < 64 ∧
  ∀ (a : Addr) (T' : List TRow), H a = none → (∀ p ∈ T', p ∈ T) → (∀ p ∈ T, p.2 ∈ T'.map Prod.snd) → (T'.map Prod.snd).Nodup → Q (.ref a) (upd H a (SetNO w a (T'.map TRow.n)))
theorem cr_setN (hc : X.calm = true) (hu : X.A.units + 64 < cLine) : CallR X (.type "set") (rSetN X.K X.w) := by
  intro pins s σ H xs us Q I r h
  obtain ⟨l, T, rfl, hl, hd, so, hk, few, q⟩ := h
  rw [Vals.ref1 r]
  obtain ⟨its, rv, pl, hz⟩ := I.list hl
  have e1 : its = T.map TRow.r := vals_rows rv
  have fresh : H s.heap.objs.size = none := I.hok.fresh (Nat.le_refl _)
  have keys : ∀ r ∈ T.map TRow.n, TupKey s.heap r.2 r.1 := fun r hr => by
    obtain ⟨p, hp, rfl⟩ := List.mem_map.mp hr
    exact tupKey_of (I.reads (hd p hp)) (hk p hp) (so.deep p hp)
  refine nset_call (P := X.prog) (w := X.w) (T.map TRow.n) (I.ok.hd hc) pl.isList (by rw [e1, List.map_map]; first | rfl | done) keys (by rw [List.length_map]; exact few) (by omega) fun s' hm => ?_
  obtain ⟨h', tk, L, es, ep, t, rfl, N, g, ext⟩ := hm
  have sub : ∀ r ∈ L, r ∈ T.map TRow.n := fun r hr => List.mem_of_mem_take (g.only r hr)
  obtain ⟨T', rfl, sub'⟩ := sub_back L sub
  refine ⟨.ref s.heap.objs.size, upd H s.heap.objs.size (SetNO X.w s.heap.objs.size (T'.map TRow.n)), I.laid (t' := tk) ext (Nat.le_refl _) (setNO_ok N.less), rfl, q _ T' fresh sub' (fun p hp => ?_) ?_⟩
  · have z := g.every p.n (by rw [List.take_length]; exact List.mem_map_of_mem hp)
    rw [List.map_map] at z
    obtain ⟨p', hp', e⟩ := List.mem_map.mp z
    have e2 : nkey p'.2 = nkey p.2 := e
    have mp' := sub' p' hp'
    rw [← nkey_inj _ _ (hk p' mp') (hk p hp) (so.alike _ (List.mem_map_of_mem mp') _ (List.mem_map_of_mem hp)) e2]
    exact List.mem_map_of_mem hp'
  · have z := N.dif
    rw [List.map_map] at z
    have z2 : ((T'.map Prod.snd).map nkey).Nodup := by
      rw [List.map_map]
      exact z
    exact nodup_of_map z2
/-- sorted(set), the members nested tuples -/
def rSortN (w : World) : List V → Hp → VK → Prop := fun vs H Q => ∃ (a : Addr) (T : List TRow), vs = [V.ref a] ∧ H a = some (SetNO w a (T.map TRow.n)) ∧ (∀ p ∈ T, Dat H p.v p.2) ∧ Sorty T ∧ (∀ p ∈ T, keyable p.2 = true) ∧
  ∀ (T' : List TRow) (b : Addr), T'.Perm T → (T'.Pairwise fun p q => dataLt p.2 q.2 = true) → H b = none → Q (.ref b) (upd H b (.lst (T'.map TRow.v)))
theorem cr_sortN (hc : X.calm = true) (hu : X.A.units + 64 < cLine) : CallR X (.builtin "sorted") (rSortN X.w) := by
  intro pins s σ H vs us Q I r h
  obtain ⟨a, T, rfl, ha, hd, so, hk, q⟩ := h
  have N0 : NSet0 X.w s.heap a (T.map TRow.n) := (I.hok a _ ha).1
  obtain ⟨es, ep, t, N⟩ := N0.full fun r hr => by
    obtain ⟨p, hp, rfl⟩ := List.mem_map.mp hr
    exact tupKey_of (I.reads (hd p hp)) (hk p hp) (so.deep p hp)
  rw [Vals.ref1 r]
  have nd : (T.map Prod.snd).Nodup := by
    have z := N.dif
    rw [List.map_map] at z
    have z2 : ((T.map Prod.snd).map nkey).Nodup := by
      rw [List.map_map]
      exact z
    exact nodup_of_map z2
  have few := N.small
  rw [List.length_map] at few
  refine nsorted N (I.ok.hd hc) (fun p hp => I.reads (hd p hp)) so.alike so.tup (fun p hp => by have := so.deep p hp; omega) fun s' b c T' k g o hb pm hc' => ?_
  have pm2 : (sortT T').Perm T := (sortT_perm T').trans pm
  have so' : Sorty T' := so.sub fun p hp => pm.mem_iff.mp hp
  have fresh : H b = none := I.hok.fresh hb
  have J : Inv X pins σ (upd H b (.lst ((sortT T').map TRow.v))) { s with heap := s'.heap, gens := s'.gens, drawn := s'.drawn, toks := s'.toks } :=
    I.call (ch := []) (Un.laid k hb fresh) (I.hok.laid k hb ⟨by rw [List.length_map, pm2.length_eq, sizeLine_eq]; omega, _, c, rows_vals _, hc'⟩) (by rw [g]; exact I.bare) (fun _ z => nomatch z)
  have e : s' = { s with heap := s'.heap, gens := s'.gens, drawn := s'.drawn, toks := s'.toks } := by
    cases s'
    cases s
    cases o
    rfl
  rw [e]
  exact ⟨.ref b, _, J, rfl, q (sortT T') b pm2 (sortT_up T' so'.alike ((pm.map Prod.snd).nodup_iff.mpr nd)) fresh⟩
end
end L2

set_option Elab.async false
set_option linter.all false
set_option maxRecDepth 100000
set_option maxHeartbeats 4000000
/-! sorted(list) of tuples of any lengths -/
namespace L2
open PySem PySem.W PySem.Spec PyProof.Rows
theorem sortT_le (T : List TRow) : (sortT T).Pairwise fun p q => dataLt q.2 p.2 = false := by
  have srt : (sortT T).Pairwise fun p q => dataLe false Prod.snd p q = true := sort_pairwise (sortLe_total (listOrd itemOrd) false fun p : TRow => keyToks p.2) T
  refine srt.imp fun {p q} z => ?_
  have z3 : (!dataLt q.2 p.2) = true := z
  cases c : dataLt q.2 p.2 with
  | false => rfl
  | true =>
    rw [c] at z3
    exact absurd z3 (by decide)
section
variable {X : Cx}
/-- sorted(xs), xs a list of tuples -/
def rSortL (K : PySem.W.Frag) : List V → Hp → VK → Prop := fun vs H Q => ∃ (l : Addr) (T : List TRow), vs = [V.ref l] ∧ SqL K H l (T.map TRow.v) ∧ (∀ p ∈ T, Dat H p.v p.2) ∧ Sorty T ∧
  ∀ (T' : List TRow) (b : Addr), T'.Perm T → (T'.Pairwise fun p q => dataLt q.2 p.2 = false) → ((T.map Prod.snd).Nodup → T'.Pairwise fun p q => dataLt p.2 q.2 = true) → H b = none → Q (.ref b) (upd H b (.lst (T'.map TRow.v)))
theorem cr_sortL (hu : X.A.units + 64 < cLine) : CallR X (.builtin "sorted") (rSortL X.K) := by
  intro pins s σ H vs us Q I r h
  obtain ⟨l, T, rfl, hl, hd, so, q⟩ := h
  rw [Vals.ref1 r]
  obtain ⟨its, rv, pl, hz⟩ := I.list hl
  have e1 : its = T.map TRow.r := vals_rows rv
  subst e1
  rw [List.length_map] at hz
  have rd : EachIs (fun v p => ∃ as, Reads (sortingHeap (copyHeap s.heap (T.map TRow.r)) (s.heap.objs.size + 1) (T.map TRow.r)) v p.2 as) (T.map TRow.r) T :=
    each_rows T fun p hp => by
      obtain ⟨as, z⟩ := I.reads (hd p hp)
      exact ⟨as, PyProof.Rows.Reads.keeps (fun _ _ => sorting_copy_old) z⟩
  have tp : ∀ d ∈ T.map Prod.snd, ∃ xs, d = PyData.tuple xs := fun d z => by
    obtain ⟨p, hp, rfl⟩ := List.mem_map.mp z
    exact so.tup p hp
  have un : ∀ d, d ∈ T.map Prod.snd → X.A.in1.in1.units + d.depth < cLine := fun d z => by
    obtain ⟨p, hp, rfl⟩ := List.mem_map.mp z
    have z := so.deep p hp
    simp only [Around.in1_units]
    omega
  have srt := sortsAt_tups (prog := X.prog) (w := X.w) (A := X.A.in1.in1) (s := { s with heap := sortingHeap (copyHeap s.heap (T.map TRow.r)) (s.heap.objs.size + 1) (T.map TRow.r) }) (each_map (R := fun v d => ∃ as, Reads _ v d as) Prod.snd rd) so.alike tp un
  have out := rows_each (sortVals_data (R := fun v p => v = TRow.r p) (enc := Prod.snd) false (each_rows T fun p _ => rfl) rd so.alike)
  refine sorted_vals pl.isList srt (by rw [List.length_map]; exact hz) ?_
  rw [out]
  obtain ⟨c, hc⟩ := PyProof.Rows.sortedAll_at s.heap (T.map TRow.r) ((sortT T).map TRow.r).toArray
  have fresh : H (s.heap.objs.size + 1) = none := I.hok.fresh (Nat.le_succ _)
  exact ⟨.ref _, upd H (s.heap.objs.size + 1) (.lst ((sortT T).map TRow.v)), I.laid (t' := s.toks) (fun _ _ => PyProof.Rows.sortedAll_old) (Nat.le_succ _) ⟨by rw [List.length_map, (sortT_perm T).length_eq]; exact hz, _, c, rows_vals _, hc⟩, rfl,
    q (sortT T) _ (sortT_perm T) (sortT_le T) (sortT_up T so.alike) fresh⟩
end
end L2

set_option Elab.async false
set_option linter.all false
set_option maxRecDepth 100000
set_option maxHeartbeats 4000000
namespace S1
open PySem PySem.Spec PyProof.Rows L2
def topS (i : Nat) : Stmt := PySem.Challenge.pw_onlyseen_k47_whole_idle_sights_taken.main.body.getD i (.Pass ⟨0, 0, 0, 0⟩)
abbrev sInit : Stmt := inClass (topS 1) 0
abbrev sIsTruth : Stmt := topS 11
abbrev sIsTuple : Stmt := topS 12
abbrev sIsPair : Stmt := topS 13
abbrev sIsRising : Stmt := topS 14
abbrev sIsName : Stmt := topS 15
abbrev sIsLetter : Stmt := topS 16
abbrev sIsAnyClause : Stmt := topS 17
abbrev sAreNames : Stmt := topS 18
abbrev sIsSight : Stmt := topS 19
abbrev sIsOwn : Stmt := topS 20
abbrev sAreOwns : Stmt := topS 21
abbrev sIsClauseOver : Stmt := topS 22
abbrev sAreClauses : Stmt := topS 23
abbrev sNamesOf : Stmt := topS 24
abbrev sFitsSaying : Stmt := topS 25
abbrev sRenewed : Stmt := topS 27
abbrev sWantSaying : Stmt := topS 28
abbrev sWantOwn : Stmt := topS 29
abbrev sWantPick : Stmt := topS 30
abbrev sViewersOf : Stmt := topS 32
abbrev sBeside : Stmt := topS 33
abbrev sAllReached : Stmt := topS 34
abbrev sPaperOf : Stmt := topS 35
abbrev sHangsBy : Stmt := topS 36
abbrev sIdleOwns : Stmt := topS 37
abbrev sAllIdle : Stmt := topS 38
abbrev sWithSights : Stmt := topS 39
abbrev sLess : Stmt := topS 40
abbrev sMore : Stmt := topS 41
abbrev sHangs : Stmt := topS 42
abbrev sIdle : Stmt := topS 43
abbrev sAreLetters : Stmt := topS 44
abbrev sIsClosed : Stmt := topS 45
abbrev sIdleHolds : Stmt := topS 46
abbrev sIdlePaper : Stmt := topS 47
abbrev sWithout : Stmt := topS 48
abbrev sWith : Stmt := topS 49
abbrev sThinned : Stmt := topS 50
abbrev sWouldBe : Stmt := topS 51
abbrev sCould : Stmt := topS 52
abbrev sPot : Stmt := topS 54
abbrev sDraw : Stmt := topS 55
abbrev sLNames : Stmt := topS 56
abbrev sLPart : Stmt := topS 57
abbrev sLOwns : Stmt := topS 58
abbrev sLClause : Stmt := topS 59
abbrev sLSaying : Stmt := topS 60
abbrev sLChained : Stmt := topS 61
abbrev sLPlays : Stmt := topS 62
abbrev sLPlanted : Stmt := topS 63
abbrev sLSpelled : Stmt := topS 64
abbrev sLWith : Stmt := topS 65
abbrev sLCan : Stmt := topS 66
abbrev sLHas : Stmt := topS 67
abbrev sLAsked : Stmt := topS 68
abbrev sLViewers : Stmt := topS 69
abbrev sLReached : Stmt := topS 70
abbrev sLHangs : Stmt := topS 71
abbrev sLIdle : Stmt := topS 72
abbrev sLSighted : Stmt := topS 73
abbrev sLSame : Stmt := topS 74
abbrev sLTaken : Stmt := topS 75
abbrev sLGivenR : Stmt := topS 76
abbrev sLRight : Stmt := topS 77
abbrev sLaw : Stmt := topS 78
end S1

set_option Elab.async false
set_option linter.all false
set_option maxRecDepth 100000
set_option maxHeartbeats 4000000
namespace S1
open PySem PySem.Spec PyProof.Rows L2
/-- the built-in names that the text leaves as they are -/
structure Blt (mg : Str → Option Value) : Prop where
  len : mg "len" = none
  sum : mg "sum" = none
  int : mg "int" = none
  max : mg "max" = none
  min : mg "min" = none
  abs : mg "abs" = none
  str : mg "str" = none
  bool : mg "bool" = none
  dict : mg "dict" = none
  list : mg "list" = none
  set : mg "set" = none
  tuple : mg "tuple" = none
  sorted : mg "sorted" = none
  zip : mg "zip" = none
  all : mg "all" = none
  range : mg "range" = none
  isi : mg "isinstance" = none
/-- a def as the text leaves it: at f, under its name -/
structure Has (K : PySem.W.Frag) (mg : Str → Option Value) (x : Str) (st : Stmt) (ps : List Str) (f : Addr) (fd : FuncData) : Prop where
  F : Fun K x x st f fd
  g : mg x = some (.ref f)
  b : Binds K fd ps []
/-- the draws of one cell at p: the digits left, the mixed number, how many have been mixed -/
structure Src (H : Hp) (p : Addr) (c : Nat) : Prop where
  at_ : ∃ a b d : Int, H p = some (.lst [.int a, .int b, .int d]) ∧ 0 ≤ b ∧ b < 2 ^ 120 ∧ 0 ≤ d ∧ d ≤ c
theorem Src.mono {H H' : Hp} {p : Addr} {c c' : Nat} (h : Src H p c) (e : H' p = H p) (hc : c ≤ c') : Src H' p c' := by
  obtain ⟨a, b, d, h1, h2, h3, h4, h5⟩ := h
  exact ⟨a, b, d, e.trans h1, h2, h3, h4, by omega⟩
theorem Src.ne {H : Hp} {p l : Addr} {c : Nat} (h : Src H p c) (e : H l = none) : p ≠ l := by
  obtain ⟨a, b, d, h1, _⟩ := h
  exact ne_of_none h1 e
theorem same_new {H : Hp} {p : Addr} {o : HO} (h : H p = none) : Same H (upd H p o) := fun b u e => by
  rw [upd_ne (ne_of_none e h)]
  exact e
theorem same_upd {H H' : Hp} {p : Addr} {o : HO} (s : Same H H') (h : H p = none) : Same H (upd H' p o) := fun b u e => by
  rw [upd_ne (ne_of_none e h)]
  exact s _ _ e
theorem yes_of {σ : L2.St} {H : Hp} {A B : Hp → Prop} (h : A H) : tYes σ H (fun b H3 => if b = true then A H3 else B H3) := by
  show if true = true then A H else B H
  rw [if_pos rfl]
  exact h
theorem at_ok {xs : List V} {r : Int} (h0 : 0 ≤ r) (h1 : r < xs.length) : ∃ v, atI xs r = some v ∧ v ∈ xs ∧ xs[r.toNat]? = some v := by
  have hl : r.toNat < xs.length := by omega
  refine ⟨xs[r.toNat], ?_, List.getElem_mem _, List.getElem?_eq_getElem hl⟩
  have z := atI_nat (List.getElem?_eq_getElem hl)
  rw [Int.toNat_of_nonneg h0] at z
  exact z
def spPot (K : PySem.W.Frag) : Sp := fun vs H Q _ => ∃ (a : Addr) (ns : List Int) (k : Int), vs = [.ref a, .int k] ∧ SqL K H a (ns.map V.int) ∧ ns.length ≤ 63 ∧ 0 ≤ k ∧ k < 1000 ∧
  ∀ (p : Addr) (H' : Hp), H p = none → Same H H' → Src H' p 0 → Q (.ref p) H'
def spPick : Sp := fun vs H Q _ => ∃ (p : Addr) (c : Nat) (m : Int), vs = [.ref p, .int m] ∧ Src H p c ∧ c ≤ 100000 ∧ 0 < m ∧ m < 2 ^ 100 ∧
  ∀ (r : Int) (o : HO), 0 ≤ r → r < m → Src (upd H p o) p (c + 1) → Q (.int r) (upd H p o)
theorem len_ints {ns : List Int} : (ns.map V.int).length = ns.length := List.length_map ..
theorem get_ints {ns : List Int} {i : Nat} {x : V} (h : (ns.map V.int)[i]? = some x) : ∃ z, ns[i]? = some z ∧ x = V.int z := by
  rw [List.getElem?_map] at h
  cases e : ns[i]? with
  | none => rw [e] at h; cases h
  | some z => rw [e] at h; exact ⟨z, rfl, (Option.some.inj h).symm⟩
theorem ite_int {c : Prop} [Decidable c] {ta tb : TE} {σ : L2.St} {H : Hp} {Q : VK} (R : ∀ i : Int, Q (.int i) H) (h1 : c → (∀ i : Int, Q (.int i) H) → ta σ H Q) (h2 : ¬ c → (∀ i : Int, Q (.int i) H) → tb σ H Q) : if c then ta σ H Q else tb σ H Q := by
  by_cases h : c
  · rw [if_pos h]; exact h1 h R
  · rw [if_neg h]; exact h2 h R
/-- powers of wide numbers -/
def CPowW (i j : Int) : Prop := 0 ≤ j ∧ (Builtin.Int.intBits i : Int) * j ≤ 2 ^ 27
theorem op_powW {X : Cx} : OpR X (binaryOp .Pow) (rI CPowW fun i j => .int (i ^ j.toNat)) := opI fun _ _ _ _ _ _ _ hc q => pow_int hc.1 hc.2 q
abbrev mx (b d : Int) : Int := ((b + 86028121 * d) ^ (3 : Int).toNat + 17 * d) % (10 ^ (38 : Int).toNat + 133)
abbrev my (x d : Int) : Int := (x * x + 49979687 * d) % (10 ^ (37 : Int).toNat + 43)
theorem mx_lt (b d : Int) : 0 ≤ mx b d ∧ (mx b d).natAbs < 2 ^ 127 := by
  have m : (0 : Int) < 10 ^ (38 : Int).toNat + 133 := by decide +kernel
  have n : (10 : Int) ^ (38 : Int).toNat + 133 ≤ 2 ^ 127 := by decide +kernel
  have h0 : 0 ≤ mx b d := Int.emod_nonneg _ (by omega)
  have h1 : mx b d < 2 ^ 127 := Int.lt_of_lt_of_le (Int.emod_lt_of_pos _ m) n
  exact ⟨h0, by omega⟩
section
variable {P : Program} {w : World} {K : PySem.W.Frag} {mg : Str → Option Value} {base : Heap}
theorem scPot : FnScope ["script", "k", "cell", "total", "at", "other"] ["script", "k"] (defScope sPot) := ⟨rfl, rfl, rfl, by decide +kernel, rfl, by decide +kernel, by decide +kernel⟩
theorem scDraw : FnScope ["pot", "top", "found", "mixed"] ["pot", "top"] (defScope sDraw) := ⟨rfl, rfl, rfl, by decide +kernel, rfl, by decide +kernel, by decide +kernel⟩
theorem ok_pick {f : Addr} {fd : FuncData} (F : Fun K "_law_draw" "_law_draw" sDraw f fd) (B : Blt mg) : FnOk P w K mg base CX0 1 f fd ["pot", "top"] spPick := by
  refine F.ok scDraw (fun vs H Q E h => ?_) (fun cdv A outer s H vs Q E hr h => ?_)
  · obtain ⟨p, c, m, rfl, _⟩ := h
    rfl
  · obtain ⟨p, c, m, rfl, ⟨a, b, d, hp, hb0, hb1, hd0, hd1⟩, hc, hm0, hm1, q⟩ := h
    refine ⟨_, pss_cons (ps_if (pt_cmpR op_gt (pe_ix ix_list (pv 0) pe_int (fun _ _ => rfl)) pe_int (nomark _))
        (pss_cons (ps_set (i := 2) scDraw.nd rfl (.inl rfl) (pe_op op_mod (pe_callTy call_int1 (by rfl) B.int (by decide +kernel) (pa_cons (pe_ix ix_list (pv 0) pe_int (fun _ _ => rfl)) pa_nil)) (pv 1)))
        (pss_cons (ps_asg (pe_op op_fdivW (pe_ix ix_list (pv 0) pe_int (fun _ _ => rfl)) (pv 1)) (pg_sub (pv 0) pe_int set_list))
        (pss_one (ps_ret (pv 2))))) pss_nil)
      (pss_cons (ps_asg (pe_op op_add (pe_ix ix_list (pv 0) pe_int (fun _ _ => rfl)) pe_int) (pg_sub (pv 0) pe_int set_list))
      (pss_cons (ps_set (i := 3) scDraw.nd rfl (.inl rfl) (pe_op op_mod (pe_callTy call_int1 (by rfl) B.int (by decide +kernel)
          (pa_cons (pe_op op_add (pe_op op_powW (pe_op op_add (pe_ix ix_list (pv 0) pe_int (fun _ _ => rfl)) (pe_op op_mulW pe_int (pe_ix ix_list (pv 0) pe_int (fun _ _ => rfl)))) pe_int) (pe_op op_mulW pe_int (pe_ix ix_list (pv 0) pe_int (fun _ _ => rfl)))) pa_nil))
          (pe_op op_add (pe_op op_pow pe_int pe_int) pe_int)))
      (pss_cons (ps_set (i := 3) scDraw.nd rfl (.inl rfl) (pe_op op_mod (pe_callTy call_int1 (by rfl) B.int (by decide +kernel)
          (pa_cons (pe_op op_add (pe_op op_mulW (pv 3) (pv 3)) (pe_op op_mulW pe_int (pe_ix ix_list (pv 0) pe_int (fun _ _ => rfl)))) pa_nil)) (pe_op op_add (pe_op op_pow pe_int pe_int) pe_int)))
      (pss_one (ps_ret (pe_op op_mod (pe_callTy call_int1 (by rfl) B.int (by decide +kernel) (pa_cons (pe_op op_fdiv (pv 3) pe_int) pa_nil)) (pv 1))))))), ?_⟩
    have hh := SqL.of (K := K) hp
    refine ⟨_, rfl, p, _, 0, _, rfl, rfl, hh, rfl, _, _, rfl, rfl, _, rfl, ?_⟩
    refine ite2 (fun ha => ?_) (fun _ => ?_)
    · have ha0 : 0 < a := of_decide_eq_true ha
      refine ⟨_, rfl, p, _, 0, _, rfl, rfl, hh, rfl, .inl ⟨_, rfl, _, rfl, _, _, rfl, rfl, hm0, ?_⟩⟩
      refine ⟨_, rfl, p, _, 0, _, rfl, rfl, hh, rfl, _, rfl, _, _, rfl, rfl, wide_div (b := 100) hm0 (by omega) (by decide) (by decide), _, rfl, p, _, 0, 0, rfl, rfl, hp, rfl, _, rfl, ?_⟩
      exact q _ _ (Int.emod_nonneg _ (by omega)) (Int.emod_lt_of_pos _ hm0) ⟨_, _, _, upd_same, hb0, hb1, hd0, by omega⟩
    · refine ⟨_, rfl, p, _, 2, _, rfl, rfl, hh, rfl, _, _, rfl, rfl, _, rfl, p, _, 2, 2, rfl, rfl, hp, rfl, ?_⟩
      have hp' : (upd H p (HO.lst ([V.int a, V.int b, V.int d].set 2 (V.int (d + 1))))) p = some (.lst [V.int a, V.int b, V.int (d + 1)]) := upd_same
      have hh' := SqL.of (K := K) hp'
      have m38 : (0 : Int) < 10 ^ (38 : Int).toNat + 133 := by decide +kernel
      have m37 : (0 : Int) < 10 ^ (37 : Int).toNat + 43 := by decide +kernel
      have e2 : (d + 1).natAbs < 2 ^ 20 := by omega
      have g1 : (b + 86028121 * (d + 1)).natAbs < 2 ^ 121 := by omega
      have g2 : (Builtin.Int.intBits (b + 86028121 * (d + 1)) : Int) * 3 ≤ 2 ^ 27 := by
        have := intBits_le_iff.mpr g1
        omega
      refine ⟨_, rfl, p, _, 1, _, rfl, rfl, hh', rfl, _, rfl, p, _, 2, _, rfl, rfl, hh', rfl, _, _, rfl, rfl, wide_mul (a := 30) (b := 20) (by decide) e2 (by decide) (by decide) (by decide), _, _, rfl, rfl, _, _, rfl, rfl, ⟨by decide, g2⟩,
        _, rfl, p, _, 2, _, rfl, rfl, hh', rfl, _, _, rfl, rfl, wide_mul (a := 30) (b := 20) (by decide) e2 (by decide) (by decide) (by decide), _, _, rfl, rfl, .inl ⟨_, rfl, ?_⟩⟩
      refine ⟨_, _, rfl, rfl, ⟨by decide, by decide, by decide⟩, _, _, rfl, rfl, _, _, rfl, rfl, m38, ?_⟩
      obtain ⟨_, f1⟩ := mx_lt b (d + 1)
      refine ⟨_, rfl, _, rfl, _, _, rfl, rfl, wide_mul (a := 127) (b := 127) f1 f1 (by decide) (by decide) (by decide), _, rfl, p, _, 2, _, rfl, rfl, hh', rfl, _, _, rfl, rfl, wide_mul (a := 30) (b := 20) (by decide) e2 (by decide) (by decide) (by decide), _, _, rfl, rfl, .inl ⟨_, rfl, ?_⟩⟩
      refine ⟨_, _, rfl, rfl, ⟨by decide, by decide, by decide⟩, _, _, rfl, rfl, _, _, rfl, rfl, m37, ?_⟩
      refine ⟨_, rfl, _, _, rfl, rfl, ⟨by decide, by decide⟩, .inl ⟨_, rfl, _, rfl, _, _, rfl, rfl, hm0, ?_⟩⟩
      exact q _ _ (Int.emod_nonneg _ (by omega)) (Int.emod_lt_of_pos _ hm0) ⟨_, _, _, upd_same, hb0, hb1, by omega, by omega⟩
theorem for_enum {K : PySem.W.Frag} {a : Addr} {xs : List V} {g : TG} {tb : TS} {D : Ends} {σ : L2.St} {H : Hp} (Pv : Nat → L2.St → Hp → Prop) (h0 : Pv 0 σ H) (hl : ∀ i σ H, i ≤ xs.length → Pv i σ H → SqL K H a xs)
    (hs : ∀ i x σ H T, xs[i]? = some x → H T = none → Pv i σ H → g (.ref T) σ (upd H T (.tup [.int (i : Nat), x])) fun σ2 H2 => tb { D with nx := Pv (i + 1), ct := Pv (i + 1), bk := D.nx } σ2 H2) (hd : ∀ σ H, Pv xs.length σ H → D.nx σ H) :
    ∃ W : Nat → Nat → L2.St → Hp → Prop, (∃ m, W 0 m σ H) ∧ ∀ i m σ H, W i m σ H →
      ((Ite K a).stop i H ∧ D.nx σ H) ∨ ((Ite K a).go i H ∧ ∃ N : L2.St → Hp → Prop, (∀ σ' H', N σ' H' → ∃ m', m' < m ∧ W (i + 1) m' σ' H') ∧ ∀ x H', (Ite K a).yld i H x H' → g x σ H' fun σ2 H2 => tb { D with nx := N, ct := N, bk := D.nx } σ2 H2) := by
  refine ⟨fun i m σ H => m = xs.length - i ∧ i ≤ xs.length ∧ Pv i σ H, ⟨xs.length, by simp, Nat.zero_le _, h0⟩, ?_⟩
  rintro i m σ H ⟨rfl, hi, p⟩
  have q := hl i σ H hi p
  by_cases hlt : i < xs.length
  · refine .inr ⟨⟨xs, xs[i], q, by simp [hlt]⟩, Pv (i + 1), fun σ' H' p' => ⟨xs.length - (i + 1), by omega, rfl, hlt, p'⟩, fun x H' y => ?_⟩
    obtain ⟨T, z, rfl, hT, rfl, y⟩ := y
    exact hs i z σ _ T (y xs q) hT p
  · have e : i = xs.length := by omega
    subst e
    exact .inl ⟨⟨xs, q, Nat.le_refl _⟩, hd _ _ p⟩
theorem ok_pot {f : Addr} {fd : FuncData} (F : Fun K "_law_pot" "_law_pot" sPot f fd) (B : Blt mg) (en : mg "enumerate" = none) : FnOk P w K mg base CX0 1 f fd ["script", "k"] (spPot K) := by
  refine F.ok scPot (fun vs H Q E h => ?_) (fun cdv A outer s H vs Q E hr h => ?_)
  · obtain ⟨a, ns, k, rfl, _⟩ := h
    rfl
  · obtain ⟨a, ns, k, rfl, hS, hlen, hk, hk1, q⟩ := h
    refine ⟨_, pss_cons (ps_set (i := 2) scPot.nd rfl (.inl rfl) (pe_ifExp (pt_cmpR op_lt (pv 1) (pe_callB call_len_seq (by rfl) B.len (by decide +kernel) (pa_cons (pv 0) pa_nil)) (nomark _))
        (pe_ix ix_list (pv 0) (pv 1) (fun _ _ => rfl)) (pe_op op_add (pe_op op_mul pe_int (pv 1)) pe_int)))
      (pss_cons (ps_set (i := 3) scPot.nd rfl (.inl rfl) (pe_callB call_len_seq (by rfl) B.len (by decide +kernel) (pa_cons (pv 0) pa_nil)))
      (pss_cons (ps_for PassesOwn.never rfl (pi_enum (by rfl) en (pa_cons (pv 0) pa_nil)) (pg_tup rfl (pgs_cons (pg_name (i := 4) scPot.nd rfl (.inl rfl)) (pgs_cons (pg_name (i := 5) scPot.nd rfl (.inl rfl)) pgs_nil)))
        (pss_one (ps_set (i := 3) scPot.nd rfl (.inl rfl) (pe_op op_mod (pe_callTy call_int1 (by rfl) B.int (by decide +kernel) (pa_cons (pe_op op_add (pe_op op_mul (pv 3) pe_int) (pe_op op_mul (pv 5) (pe_op op_add (pe_op op_mul pe_int (pv 4)) pe_int))) pa_nil))
          (pe_op op_add (pe_op op_pow pe_int pe_int) pe_int)))))
      (pss_one (ps_ret (pe_lst (pa_cons (pe_callB (call_max2 rfl) (by rfl) B.max (by decide +kernel) (pa_cons pe_int (pa_cons (pe_op op_sub (pv 2) (pe_op op_pow pe_int pe_int)) pa_nil)))
        (pa_cons (pe_op op_mod (pe_callTy call_int1 (by rfl) B.int (by decide +kernel) (pa_cons (pe_op op_add (pe_op op_add (pe_op op_add (pe_op op_mul (pv 2) pe_int) (pe_op op_mul (pv 3) pe_int)) (pe_op op_mul pe_int (pv 1))) pe_int) pa_nil))
            (pe_op op_add (pe_op op_pow pe_int pe_int) pe_int))
        (pa_cons pe_int pa_nil)))))))), ?_⟩
    have p33 : (0 : Int) < 10 ^ (33 : Int).toNat + 61 := by decide +kernel
    have p36 : (0 : Int) < 10 ^ (36 : Int).toNat + 67 := by decide +kernel
    have q36 : (10 : Int) ^ (36 : Int).toNat + 67 ≤ 2 ^ 120 := by decide +kernel
    refine ⟨_, rfl, _, rfl, _, _, rfl, .inl hS, _, _, rfl, rfl, _, rfl, ?_⟩
    refine ite_int (fun cell => ?_) (fun hlt R => ?_) (fun _ R => ?_)
    · refine ⟨_, rfl, a, _, rfl, .inl hS, ?_⟩
      refine ⟨_, rfl, a, _, rfl, hS, ?_⟩
      refine for_enum (K := K) (a := a) (xs := ns.map V.int) (fun i σ H' => ∃ (total : Int) (o4 o5 : Option V), σ = [some (.ref a), some (.int k), some (.int cell), some (.int total), o4, o5] ∧ Same H H') ⟨_, _, _, rfl, Same.refl _⟩ (fun i σ H' _ ⟨_, _, _, _, s⟩ => s.seq hS) ?_ ?_
      · rintro i x σ H' T0 hx hT0 ⟨total, o4, o5, rfl, s⟩
        obtain ⟨z, hz, rfl⟩ := get_ints hx
        have hi : i < ns.length := (List.getElem?_eq_some_iff.mp hz).1
        have s2 := s.trans (same_new (o := .tup [.int (i : Nat), .int z]) hT0)
        refine ⟨T0, _, rfl, SqT.of upd_same, rfl, _, _, rfl, _, _, rfl, rfl, ?_⟩
        exact ⟨_, rfl, _, _, rfl, rfl, .inr ⟨by decide, by decide⟩, _, rfl, _, rfl, _, _, rfl, rfl, .inl ⟨by decide, by decide⟩, _, _, rfl, rfl, _, _, rfl, rfl, .inr ⟨by omega, by omega⟩, _, _, rfl, rfl, .inl ⟨_, rfl, _, _, rfl, rfl, ⟨by decide, by decide, by decide⟩, _, _, rfl, rfl, _, _, rfl, rfl, p33, _, _, _, rfl, s2⟩⟩
      · rintro σ H' ⟨total, o4, o5, rfl, s⟩
        refine ⟨_, rfl, _, _, rfl, rfl, ⟨by decide, by decide, by decide⟩, _, _, rfl, rfl, _, _, rfl, _, rfl, _, _, rfl, rfl, .inr ⟨by decide, by decide⟩, _, rfl, _, _, rfl, rfl, .inr ⟨by decide, by decide⟩, _, _, rfl, rfl,
          _, rfl, _, _, rfl, rfl, .inl ⟨by decide, by decide⟩, _, _, rfl, rfl, _, _, rfl, rfl, .inl ⟨_, rfl, _, _, rfl, rfl, ⟨by decide, by decide, by decide⟩, _, _, rfl, rfl, _, _, rfl, rfl, p36, (by show 3 ≤ sizeLine; decide), fun p hp => ?_⟩⟩
        exact q p _ (s.free hp) (s.trans (same_new hp)) ⟨_, _, _, upd_same, Int.emod_nonneg _ (by omega), Int.lt_of_lt_of_le (Int.emod_lt_of_pos _ p36) q36, by decide, by decide⟩
    · have hlt' : k < ((ns.map V.int).length : Int) := of_decide_eq_true hlt
      rw [len_ints] at hlt'
      have hget : (ns.map V.int)[k.toNat]? = some (.int ns[k.toNat]) := by rw [List.getElem?_map, List.getElem?_eq_getElem (by omega)]; rfl
      have hat := atI_nat hget
      rw [Int.toNat_of_nonneg hk] at hat
      exact ⟨_, rfl, _, rfl, a, _, k, _, rfl, rfl, hS, hat, R _⟩
    · exact ⟨_, rfl, _, _, rfl, rfl, .inl ⟨by decide, by decide⟩, _, _, rfl, rfl, R _⟩
end
end S1

set_option Elab.async false
set_option linter.all false
set_option maxRecDepth 100000
set_option maxHeartbeats 4000000
/-! unlike names, drawn: the counting -/
namespace S1
open PySem PySem.Spec PyProof.Rows L2
/-- a name -/
structure Nm (x : Str) : Prop where
  lo : 1 ≤ x.length
  hi : x.length ≤ 8
  az : ∀ c ∈ x.cps.toList, 97 ≤ c ∧ c ≤ 122
def nmB (x : Str) : Bool := decide (1 ≤ x.length) && decide (x.length ≤ 8) && x.cps.toList.all fun c => decide (97 ≤ c ∧ c ≤ 122)
theorem nm_of {x : Str} (h : nmB x = true) : Nm x := by
  unfold nmB at h
  rw [Bool.and_eq_true, Bool.and_eq_true, decide_eq_true_eq, decide_eq_true_eq, List.all_eq_true] at h
  exact ⟨h.1.1, h.1.2, fun c hc => of_decide_eq_true (h.2 c hc)⟩
def resv : List Str := ["mine", "newone", "nobody", "notthere"]
def left0 : List Str := ["a", "b", "c", "x", "y", "z", "ab", "ba", "aa", "xy", "yx", "zz", "abc", "acb", "xyz", "zyx", "own", "owns"]
def left1 : List Str := ["pick", "picks", "zebra", "alpha", "omega", "abcdefg", "abcdefgh", "hgfedcba", "aaaaaaaa", "zzzzzzzz"]
def cnt (L F : List Str) : Nat := L.countP fun w => decide (w ∈ F)
theorem pop_perm {α : Type} (L : List α) (k : Nat) (h : k < L.length) : L.Perm (L[k] :: L.eraseIdx k) := by
  have e : L = L.take k ++ L[k] :: L.drop (k + 1) := by
    rw [← List.drop_eq_getElem_cons h, List.take_append_drop]
  have z : (L.take k ++ L[k] :: L.drop (k + 1)).Perm (L[k] :: (L.take k ++ L.drop (k + 1))) := List.perm_middle
  rw [← e, ← List.eraseIdx_eq_take_drop_succ] at z
  exact z
theorem cnt_cons (w : Str) (L F : List Str) : cnt (w :: L) F = cnt L F + if w ∈ F then 1 else 0 := by
  unfold cnt
  rw [List.countP_cons]
  by_cases h : w ∈ F <;> simp [h]
theorem cnt_pop (L F : List Str) (k : Nat) (h : k < L.length) : cnt L F = cnt (L.eraseIdx k) F + if L[k] ∈ F then 1 else 0 := by
  rw [← cnt_cons]
  exact (pop_perm L k h).countP_eq _
theorem cnt_snoc_out {L F : List Str} {w : Str} (h : w ∉ L) : cnt L (F ++ [w]) = cnt L F := by
  unfold cnt
  refine List.countP_congr fun x hx => ?_
  have ne : x ≠ w := fun e => h (e ▸ hx)
  simp [ne]
theorem cnt_snoc_le : ∀ {L F : List Str} {w : Str}, L.Nodup → cnt L (F ++ [w]) ≤ cnt L F + 1
  | [], F, w, _ => by simp [cnt]
  | x :: L, F, w, nd => by
    obtain ⟨n1, n2⟩ := List.nodup_cons.mp nd
    rw [cnt_cons, cnt_cons]
    by_cases e : x = w
    · subst e
      rw [cnt_snoc_out n1]
      by_cases h : x ∈ F <;> simp [h]
    · have ih := cnt_snoc_le (F := F) (w := w) n2
      have z : (x ∈ F ++ [w]) ↔ x ∈ F := by simp [e]
      by_cases h : x ∈ F <;> simp [z, h] <;> omega
/-- what is left to draw from, what was found, and how many turns are ahead -/
structure Pool (L F : List Str) (r : Nat) : Prop where
  nl : L.Nodup
  nf : F.Nodup
  vl : ∀ w ∈ L, Nm w ∧ w ∉ resv
  vf : ∀ w ∈ F, Nm w ∧ w ∉ resv
  room : 2 * r + cnt L F ≤ L.length
/-- the same within a turn, with a word in hand -/
structure Mid (L F : List Str) (w : Str) (r : Nat) : Prop where
  nl : L.Nodup
  nf : F.Nodup
  vl : ∀ w ∈ L, Nm w ∧ w ∉ resv
  vf : ∀ w ∈ F, Nm w ∧ w ∉ resv
  nw : Nm w
  b : 2 * r + cnt L F ≤ L.length + 2
  c : w ∈ F ∨ w ∈ resv → 2 * r + cnt L F ≤ L.length + 1
  d : w ∉ L ∨ 2 * r + cnt L F ≤ L.length + 1
theorem erase_of {L : List Str} (nl : L.Nodup) (k : Nat) (h : k < L.length) : (L.eraseIdx k).Nodup ∧ L[k] ∉ L.eraseIdx k ∧ (L.eraseIdx k).length + 1 = L.length ∧ ∀ w ∈ L.eraseIdx k, w ∈ L := by
  have p := pop_perm L k h
  obtain ⟨n1, n2⟩ := List.nodup_cons.mp (p.nodup_iff.mp nl)
  refine ⟨n2, n1, by rw [p.length_eq, List.length_cons], fun w hw => p.mem_iff.mpr (List.mem_cons_of_mem _ hw)⟩
theorem Pool.pop {L F : List Str} {r : Nat} (P : Pool L F (r + 1)) (k : Nat) (h : k < L.length) : Mid (L.eraseIdx k) F L[k] (r + 1) ∧ 2 * (r + 1) + cnt (L.eraseIdx k) F ≤ (L.eraseIdx k).length + 1 := by
  obtain ⟨e1, e2, e3, e4⟩ := erase_of P.nl k h
  have c := cnt_pop L F k h
  have room := P.room
  have z : 2 * (r + 1) + cnt (L.eraseIdx k) F ≤ (L.eraseIdx k).length + 1 := by
    by_cases hF : L[k] ∈ F
    · rw [if_pos hF] at c; omega
    · rw [if_neg hF] at c; omega
  exact ⟨⟨e1, P.nf, fun w hw => P.vl w (e4 w hw), P.vf, (P.vl _ (List.getElem_mem h)).1, by omega, fun _ => z, .inr z⟩, z⟩
theorem Mid.rand {L F : List Str} {w u : Str} {r : Nat} (M : Mid L F w r) (z : 2 * r + cnt L F ≤ L.length + 1) (hu : Nm u) : Mid L F u r := ⟨M.nl, M.nf, M.vl, M.vf, hu, by omega, fun _ => z, .inr z⟩
theorem Mid.more {L F : List Str} {w : Str} {r : Nat} (M : Mid L F w (r + 1)) (hw : w ∈ F ∨ w ∈ resv) : 0 < L.length ∧ ∀ (k : Nat) (h : k < L.length), Mid (L.eraseIdx k) F L[k] (r + 1) := by
  have c := M.c hw
  refine ⟨by omega, fun k h => ?_⟩
  obtain ⟨e1, e2, e3, e4⟩ := erase_of M.nl k h
  have cp := cnt_pop L F k h
  refine ⟨e1, M.nf, fun w hw => M.vl w (e4 w hw), M.vf, (M.vl _ (List.getElem_mem h)).1, ?_, fun hk => ?_, .inl e2⟩
  · split at cp <;> omega
  · rcases hk with hk | hk
    · rw [if_pos hk] at cp; omega
    · exact absurd hk (M.vl _ (List.getElem_mem h)).2
theorem Mid.done {L F : List Str} {w : Str} {r : Nat} (M : Mid L F w (r + 1)) (h1 : w ∉ F) (h2 : w ∉ resv) : Pool L (F ++ [w]) r := by
  refine ⟨M.nl, ?_, M.vl, fun x hx => ?_, ?_⟩
  · rw [List.nodup_append]
    refine ⟨M.nf, by simp, fun a ha b hb => ?_⟩
    cases List.mem_singleton.mp hb
    exact fun e => h1 (e ▸ ha)
  · rcases List.mem_append.mp hx with z | z
    · exact M.vf x z
    · cases List.mem_singleton.mp z
      exact ⟨M.nw, h2⟩
  · rcases M.d with z | z
    · rw [cnt_snoc_out z]
      have := M.b
      omega
    · have := cnt_snoc_le (F := F) (w := w) M.nl
      omega
theorem pool0 {r : Nat} (h : r ≤ 14) : Pool (left0 ++ left1) [] r := by
  refine ⟨by decide +kernel, List.nodup_nil, fun w hw => ?_, fun w hw => absurd hw (by simp), ?_⟩
  · have z : ((left0 ++ left1).all fun w => nmB w && !resv.contains w) = true := by decide +kernel
    have z2 := List.all_eq_true.mp z w hw
    rw [Bool.and_eq_true] at z2
    refine ⟨nm_of z2.1, fun m => ?_⟩
    have z3 := z2.2
    simp [m] at z3
  · have z : cnt (left0 ++ left1) [] = 0 := by decide +kernel
    have z2 : (left0 ++ left1).length = 28 := by decide +kernel
    rw [z, z2]
    omega
end S1

set_option Elab.async false
set_option linter.all false
set_option maxRecDepth 100000
set_option maxHeartbeats 4000000
/-! unlike names, drawn -/
namespace S1
open PySem PySem.Spec PyProof.Rows L2
def spWords : Sp := fun vs H Q _ => ∃ (p : Addr) (c n : Nat), vs = [.ref p, .int n] ∧ Src H p c ∧ c ≤ 90000 ∧ n ≤ 14 ∧
  ∀ (l : Addr) (ws : List Str) (H' : Hp), H l = none → H' l = some (.lst (ws.map V.str)) → ws.length = n → ws.Nodup → (∀ x ∈ ws, Nm x ∧ x ∉ resv) → Src H' p (c + 200) → Same (del H p) (del H' p) → Q (.ref l) H'
theorem branch {c : Prop} [Decidable c] {t u : TS} {D : Ends} {σ : L2.St} {H : Hp} (I : L2.St → Hp → Prop) (R : ∀ σ' H', I σ' H' → D.nx σ' H') (h1 : c → (∀ σ' H', I σ' H' → D.nx σ' H') → t D σ H)
    (h2 : ¬ c → (∀ σ' H', I σ' H' → D.nx σ' H') → u D σ H) : if c then t D σ H else u D σ H := by
  by_cases h : c
  · rw [if_pos h]; exact h1 h R
  · rw [if_neg h]; exact h2 h R
theorem seq_nat {r : Int} {n : Nat} (h0 : 0 ≤ r) (h1 : r < n) : seqIndex? r n = some r.toNat := by
  unfold seqIndex?
  simp
  omega
theorem map_erase {α β : Type} (f : α → β) : ∀ (l : List α) (k : Nat), (l.map f).eraseIdx k = (l.eraseIdx k).map f
  | [], _ => rfl
  | _ :: _, 0 => rfl
  | x :: l, k + 1 => by rw [List.map_cons, List.eraseIdx_cons_succ, List.eraseIdx_cons_succ, List.map_cons, map_erase f l k]
theorem sd_of {H H' : Hp} {p : Addr} (s : Same H H') : Same (del H p) (del H' p) := fun b u e => by
  by_cases z : b = p
  · rw [z, del_same] at e; cases e
  · rw [del_ne z] at e ⊢; exact s b u e
theorem sd_put {H H' : Hp} {p l : Addr} {o : HO} (s : Same (del H p) (del H' p)) (h : H l = none) : Same (del H p) (del (upd H' l o) p) := fun b u e => by
  by_cases z : b = p
  · rw [z, del_same] at e; cases e
  · have z2 := s b u e
    rw [del_ne z] at e z2 ⊢
    rw [upd_ne (ne_of_none e h)]
    exact z2
theorem sd_at {H H' : Hp} {p : Addr} {o : HO} (s : Same (del H p) (del H' p)) : Same (del H p) (del (upd H' p o) p) := fun b u e => by
  by_cases z : b = p
  · rw [z, del_same] at e; cases e
  · have z2 := s b u e
    rw [del_ne z] at z2 ⊢
    rw [upd_ne z]
    exact z2
abbrev sg (c : Nat) : Str := ⟨#[c]⟩
theorem joinL_one : ∀ cs : List Nat, TL.joinL [] ((cs.map sg).map TL.tl) = cs
  | [] => rfl
  | [c] => rfl
  | c :: d :: cs => by
    show TL.tl (sg c) ++ ([] ++ TL.joinL [] (((d :: cs).map sg).map TL.tl)) = c :: d :: cs
    rw [joinL_one (d :: cs)]
    rfl
theorem join_one (cs : List Nat) : Txt.join "" (cs.map sg) = ⟨cs.toArray⟩ := by
  refine TL.ext_tl ((congrArg TL.tl (TL.join_eq _ _)).trans ((TL.tl_join _ _).trans ?_))
  have e : TL.tl ("" : Str) = [] := by decide +kernel
  rw [e, joinL_one]
theorem nm_join {cs : List Nat} (h1 : 1 ≤ cs.length) (h2 : cs.length ≤ 8) (h3 : ∀ c ∈ cs, 97 ≤ c ∧ c ≤ 122) : Nm (Txt.join "" (cs.map sg)) := by
  rw [join_one]
  exact ⟨by simpa [Str.length] using h1, by simpa [Str.length] using h2, by simpa using h3⟩
theorem join_len (cs : List Nat) : ((cs.map sg).map (·.length)).sum = cs.length := by
  induction cs with
  | nil => rfl
  | cons c cs ih =>
    rw [List.map_cons, List.map_cons, List.sum_cons, ih, List.length_cons]
    show 1 + cs.length = cs.length + 1
    omega
theorem abc_at {r : Int} (h0 : 0 ≤ r) (h1 : r < 26) : atI ("abcdefghijklmnopqrstuvwxyz" : Str).cps.toList r = some (97 + r.toNat) := by
  have z : ∀ k, k < 26 → ("abcdefghijklmnopqrstuvwxyz" : Str).cps.toList[k]? = some (97 + k) := by decide +kernel
  have z2 := atI_nat (z r.toNat (by omega))
  rwa [Int.toNat_of_nonneg h0] at z2
theorem gen_heap {D : L2.St → Hp → Prop} {σ : L2.St} {G : Hp} (F : Hp → Prop) (h : F G) (k : ∀ G', F G' → D σ G') : D σ G := k G h
theorem or_split {c : Prop} [Decidable c] {u : TT} {σ : L2.St} {H : Hp} {Q : Bool → Hp → Prop} (R : Hp → Prop) (k : ∀ H', R H' → Q true H') (h1 : c → (∀ H', R H' → Q true H') → Q true H) (h2 : ¬ c → (∀ H', R H' → Q true H') → u σ H Q) : if c then Q true H else u σ H Q := by
  by_cases h : c
  · rw [if_pos h]; exact h1 h k
  · rw [if_neg h]; exact h2 h k
theorem inV_str {x : Str} {xs : List Str} : inV (.str x) (xs.map V.str) = decide (x ∈ xs) := by
  unfold inV
  rw [List.any_map]
  by_cases h : x ∈ xs
  · rw [decide_eq_true h, List.any_eq_true]
    exact ⟨x, h, by simp [eqV]⟩
  · rw [decide_eq_false h, List.any_eq_false]
    intro y hy
    simp only [Function.comp, eqV]
    intro z
    have z2 : y = x := by simpa using z
    exact h (z2 ▸ hy)
theorem flat_strs (xs : List Str) : (xs.map V.str).all flatV = true := by
  rw [List.all_map, List.all_eq_true]
  exact fun _ _ => rfl
end S1

set_option Elab.async false
set_option linter.all false
set_option maxRecDepth 100000
set_option maxHeartbeats 4000000
/-! clauses, drawn -/
namespace S1
open PySem PySem.W PySem.Spec PyProof.Rows L2
theorem lst_ne_tup {xs ys : List V} : HO.lst xs ≠ HO.tup ys := fun z => by cases z
mutual
/-- tuples stay what they are while a list changes -/
theorem dat_del {H H' : Hp} {p : Addr} {xs : List V} (hp : H p = some (.lst xs)) (s : Same (del H p) (del H' p)) : ∀ {v : V} {d : PyData}, keyable d = true → Dat H v d → Dat H' v d
  | _, _, _, .non => .non
  | _, _, _, .bl b => .bl b
  | _, _, _, .int i => .int i
  | _, _, _, .str x => .str x
  | _, _, k, .lst e h => by simp [keyable] at k
  | _, _, k, .tup (a := a) e h => by
    have ne : a ≠ p := fun z => by rw [z, hp] at e; cases e
    have z := s a _ (by rw [del_ne ne]; exact e)
    rw [del_ne ne] at z
    exact .tup z (dats_del hp s (by simpa [keyable] using k) h)
  | _, _, k, .dct e h => by simp [keyable] at k
theorem dats_del {H H' : Hp} {p : Addr} {xs : List V} (hp : H p = some (.lst xs)) (s : Same (del H p) (del H' p)) : ∀ {vs : List V} {ds : List PyData}, keyables ds = true → DatAll H vs ds → DatAll H' vs ds
  | _, _, _, .nil => .nil
  | _, _, k, .cons h t => by
    rw [keyables, Bool.and_eq_true] at k
    exact .cons (dat_del hp s k.1 h) (dats_del hp s k.2 t)
end
theorem Src.lst {H : Hp} {p : Addr} {c : Nat} (h : Src H p c) : ∃ xs, H p = some (.lst xs) := by
  obtain ⟨_, _, _, z, _⟩ := h.at_
  exact ⟨_, z⟩
theorem dat_src {H H' : Hp} {p : Addr} {c : Nat} (h : Src H p c) (s : Same (del H p) (del H' p)) {v : V} {d : PyData} (k : keyable d = true) (D : Dat H v d) : Dat H' v d := by
  obtain ⟨xs, z⟩ := h.lst
  exact dat_del z s k D
theorem dat_upd {H : Hp} {p : Addr} {o : HO} {xs : List V} (hp : H p = some (.lst xs)) {v : V} {d : PyData} (k : keyable d = true) (D : Dat H v d) : Dat (upd H p o) v d := dat_del hp (sd_at (Same.refl _)) k D
theorem dat_new {H : Hp} {p : Addr} {o : HO} (hp : H p = none) {v : V} {d : PyData} (D : Dat H v d) : Dat (upd H p o) v d := D.same (same_new hp)
/-! ### letters and clauses, as data -/
abbrev Ltr := Str × Bool
def ltD (l : Ltr) : PyData := .tuple [.str l.1, .bool l.2]
def clD (cl : List Ltr) : PyData := .tuple (cl.map ltD)
theorem keyable_lt (l : Ltr) : keyable (ltD l) = true := rfl
theorem keyables_map {α : Type} (f : α → PyData) (h : ∀ x, keyable (f x) = true) : ∀ l : List α, keyables (l.map f) = true
  | [] => rfl
  | x :: l => by rw [List.map_cons, keyables, h x, keyables_map f h l]; rfl
theorem keyable_cl (cl : List Ltr) : keyable (clD cl) = true := by
  show keyables (cl.map ltD) = true
  exact keyables_map ltD keyable_lt cl
theorem alike_lt (a b : Ltr) : alike (ltD a) (ltD b) = true := by simp [ltD, alike, alikeAll]
theorem alikes_map {α : Type} (f : α → PyData) (h : ∀ x y, alike (f x) (f y) = true) : ∀ l m : List α, alikeAll (l.map f) (m.map f) = true
  | [], _ => by simp [alikeAll]
  | _ :: _, [] => by simp [alikeAll]
  | x :: l, y :: m => by simp only [List.map_cons, alikeAll, h x y, alikes_map f h l m, Bool.and_self]
theorem alike_cl (a b : List Ltr) : alike (clD a) (clD b) = true := by
  show alikeAll (a.map ltD) (b.map ltD) = true
  exact alikes_map ltD alike_lt a b
/-- one text below another -/
def tlt (x y : Str) : Prop := x.cps.toList < y.cps.toList
theorem lt_letters {a b : Ltr} (ne : a.1 ≠ b.1) (h : dataLt (ltD a) (ltD b) = true) : tlt a.1 b.1 := by
  unfold ltD at h
  rw [dataLt_pair (by simp [alike]) (by simp [alike])] at h
  have e : PyData.eqv (.str a.1) (.str b.1) = false := by
    simp only [PyData.eqv]
    exact beq_false_of_ne ne
  rw [e, if_neg (by decide), dataLt_str] at h
  rw [decide_eq_true_eq] at h
  exact h
/-- what a drawn clause is -/
structure ClOk (ws : List Str) (cl : List Ltr) : Prop where
  up : cl.Pairwise fun a b => tlt a.1 b.1
  mem : ∀ l ∈ cl, l.1 ∈ ws
theorem depth_lt (l : Ltr) : (ltD l).depth ≤ 1 := by simp [ltD, PyData.depth, PyData.depthAll]
theorem depths_map {α : Type} (f : α → PyData) (n : Nat) (h : ∀ x, (f x).depth ≤ n) : ∀ l : List α, PyData.depthAll (l.map f) ≤ n
  | [] => by simp [PyData.depthAll]
  | x :: l => by
    have := h x
    have := depths_map f n h l
    simp only [List.map_cons, PyData.depthAll]
    omega
theorem depth_cl (cl : List Ltr) : (clD cl).depth ≤ 2 := by
  have := depths_map ltD 1 depth_lt cl
  simp only [clD, PyData.depth]
  omega
def spClause : Sp := fun vs H Q _ => ∃ (p lw : Addr) (c : Nat) (ws : List Str), vs = [.ref p, .ref lw] ∧ Src H p c ∧ c ≤ 90000 ∧ H lw = some (.lst (ws.map V.str)) ∧ ws.Nodup ∧ ws.length ≤ 100 ∧ p ≠ lw ∧
  ∀ (v : V) (cl : List Ltr) (H' : Hp), Dat H' v (clD cl) → ClOk ws cl → Src H' p (c + 202) → Same (del H p) (del H' p) → Q v H'
theorem ite_intP {c : Prop} [Decidable c] {ta tb : TE} {σ : L2.St} {H : Hp} {Q : VK} (I : Int → Prop) (R : ∀ i : Int, I i → Q (.int i) H) (h1 : c → (∀ i : Int, I i → Q (.int i) H) → ta σ H Q) (h2 : ¬ c → (∀ i : Int, I i → Q (.int i) H) → tb σ H Q) : if c then ta σ H Q else tb σ H Q := by
  by_cases h : c
  · rw [if_pos h]; exact h1 h R
  · rw [if_neg h]; exact h2 h R
theorem sd_new {H H' : Hp} {p l : Addr} {o : HO} (s : Same (del H p) (del H' p)) (hl : H' l = none) (n : l ≠ p) : Same (del H p) (del (upd H' l o) p) := by
  refine sd_put s ?_
  cases z : H l with
  | none => rfl
  | some u =>
    have z2 := s l u (by rw [del_ne n]; exact z)
    rw [del_ne n, hl] at z2
    cases z2
theorem sd_free {H H' : Hp} {p l : Addr} (s : Same (del H p) (del H' p)) (hl : H' l = none) (n : l ≠ p) : H l = none := by
  cases z : H l with
  | none => rfl
  | some u =>
    have z2 := s l u (by rw [del_ne n]; exact z)
    rw [del_ne n, hl] at z2
    cases z2
theorem dats_rows {H : Hp} : ∀ {T : List TRow}, (∀ q ∈ T, Dat H q.v q.2) → DatAll H (T.map TRow.v) (T.map Prod.snd)
  | [], _ => .nil
  | q :: T, h => .cons (h q List.mem_cons_self) (dats_rows fun r hr => h r (List.mem_cons_of_mem _ hr))
theorem sorty_of {α : Type} {f : α → PyData} {T : List TRow} {l : List α} (e : T.map Prod.snd = l.map f) (al : ∀ x y, alike (f x) (f y) = true) (tp : ∀ x, ∃ xs, f x = .tuple xs) (dp : ∀ x, (f x).depth ≤ 8) : Sorty T := by
  have z : ∀ p ∈ T, ∃ x, p.2 = f x := fun p hp => by
    have m : p.2 ∈ l.map f := e ▸ List.mem_map_of_mem hp
    obtain ⟨x, _, hx⟩ := List.mem_map.mp m
    exact ⟨x, hx.symm⟩
  refine ⟨fun d hd d' hd' => ?_, fun p hp => ?_, fun p hp => ?_⟩
  · rw [e] at hd hd'
    obtain ⟨x, _, rfl⟩ := List.mem_map.mp hd
    obtain ⟨y, _, rfl⟩ := List.mem_map.mp hd'
    exact al x y
  · obtain ⟨x, hx⟩ := z p hp
    rw [hx]; exact tp x
  · obtain ⟨x, hx⟩ := z p hp
    rw [hx]; exact dp x
/-- the letters of sorted rows -/
theorem letters_back {T T' : List TRow} {cl : List Ltr} (pm : T'.Perm T) (e : T.map Prod.snd = cl.map ltD) (nd : (cl.map Prod.fst).Nodup) (up : (T.map Prod.snd).Nodup → T'.Pairwise fun p q => dataLt p.2 q.2 = true) :
    ∃ cl' : List Ltr, cl'.Perm cl ∧ T'.map Prod.snd = cl'.map ltD ∧ cl'.Pairwise fun a b => tlt a.1 b.1 := by
  obtain ⟨cl', p2, e2⟩ := perm_back (f := ltD) ((pm.map Prod.snd).trans (.of_eq e)) cl rfl
  have nl : cl.Nodup := nodup_of_map nd
  have nT : (T.map Prod.snd).Nodup := by
    rw [e]
    refine List.pairwise_map.mpr (nl.imp fun {a b} ne z => ne ?_)
    unfold ltD at z
    injection z with z
    injection z with z1 z2
    injection z1 with z1
    injection z2 with z2
    injection z2 with z2
    exact Prod.ext z1 z2
  have u1 : (T'.map Prod.snd).Pairwise fun d e => dataLt d e = true := List.pairwise_map.mpr (up nT)
  rw [e2] at u1
  have nd' : (cl'.map Prod.fst).Nodup := ((p2.map Prod.fst).nodup_iff).mpr nd
  exact ⟨cl', p2, e2, ((List.pairwise_map.mp u1).and (List.pairwise_map.mp nd')).imp fun {a b} z => lt_letters z.2 z.1⟩
end S1

set_option Elab.async false
set_option linter.all false
set_option maxRecDepth 100000
set_option maxHeartbeats 4000000
/-! sorted(list) of texts, and the data of sayings -/
namespace S1
open PySem PySem.W PySem.Spec PyProof.Rows L2
abbrev RS (v : Value) (x : Str) : Prop := RelV (.str x) v
theorem each_strs : ∀ {xs : List Str} {us : List Value}, Vals (xs.map V.str) us → EachIs RS us xs
  | [], _, .nil => .nil
  | _ :: _, _, .cons r t => .cons r (each_strs t)
theorem strs_each : ∀ {us : List Value} {xs : List Str}, EachIs RS us xs → Vals (xs.map V.str) us
  | _, _, .nil => .nil
  | _, _, .cons r t => .cons r (strs_each t)
theorem each_reads {h : Heap} : ∀ {us : List Value} {xs : List Str}, EachIs RS us xs → EachIs (fun v x => ∃ as, Reads h v (.str x) as) us xs
  | _, _, .nil => .nil
  | _, _, .cons r t => .cons (by obtain ⟨k, rfl⟩ := r; exact ⟨_, .str _ k⟩) (each_reads t)
def sortW (xs : List Str) : List Str := xs.mergeSort (dataLe false PyData.str)
theorem sortW_up {xs : List Str} (nd : xs.Nodup) : (sortW xs).Pairwise tlt := by
  have srt : (sortW xs).Pairwise fun p q => dataLe false PyData.str p q = true := sort_pairwise (sortLe_total (listOrd itemOrd) false fun p : Str => keyToks (.str p)) xs
  have nd' : (sortW xs).Nodup := (List.mergeSort_perm _ _).nodup_iff.mpr nd
  refine (srt.and nd').imp fun {p q} z => ?_
  have al : alike (.str p) (.str q) = true := by simp [alike]
  have ne : PyData.str p ≠ PyData.str q := fun e => z.2 (by injection e)
  rcases dataLt_or al ne with c | c
  · rw [dataLt_str, decide_eq_true_eq] at c
    exact c
  · have z3 : (!dataLt (.str q) (.str p)) = true := z.1
    rw [c] at z3
    exact absurd z3 (by decide)
section
variable {X : Cx}
/-- sorted(xs), xs a list of texts -/
def rSortW (K : PySem.W.Frag) : List V → Hp → VK → Prop := fun vs H Q => ∃ (l : Addr) (xs : List Str), vs = [V.ref l] ∧ SqL K H l (xs.map V.str) ∧
  ∀ (ys : List Str) (b : Addr), ys.Perm xs → (xs.Nodup → ys.Pairwise tlt) → H b = none → Q (.ref b) (upd H b (.lst (ys.map V.str)))
theorem cr_sortW (hu : X.A.units + 64 < cLine) : CallR X (.builtin "sorted") (rSortW X.K) := by
  intro pins s σ H vs us Q I r h
  obtain ⟨l, xs, rfl, hl, q⟩ := h
  rw [Vals.ref1 r]
  obtain ⟨its, rv, pl, hz⟩ := I.list hl
  have e0 := each_strs rv
  have rd := each_reads (h := sortingHeap (copyHeap s.heap its) (s.heap.objs.size + 1) its) e0
  have al : AllAlike (xs.map PyData.str) := AllAlike.of fun b b' => by simp [alike]
  have un : ∀ d, d ∈ xs.map PyData.str → X.A.in1.in1.units + d.depth < cLine := fun d z => by
    obtain ⟨p, _, rfl⟩ := List.mem_map.mp z
    simp only [Around.in1_units, PyData.depth]
    omega
  have srt := SortsAt.data (prog := X.prog) (w := X.w) (A := X.A.in1.in1) (s := { s with heap := sortingHeap (copyHeap s.heap its) (s.heap.objs.size + 1) its }) (each_map (R := fun v d => ∃ as, Reads _ v d as) PyData.str rd) al
    (Sortable.others fun b => ⟨fun z => (nomatch z), fun _ z => (nomatch z)⟩) un
  have out := strs_each (sortVals_data (R := RS) (enc := PyData.str) false e0 rd al)
  rw [List.length_map] at hz
  have len : its.length = xs.length := by rw [e0.length]
  refine sorted_vals pl.isList srt (by rw [len]; exact hz) ?_
  obtain ⟨c, hc⟩ := PyProof.Rows.sortedAll_at s.heap its (sortVals (dataKind (sortingHeap (copyHeap s.heap its) (s.heap.objs.size + 1) its) (xs.map PyData.str)) false its its).toArray
  have fresh : H (s.heap.objs.size + 1) = none := I.hok.fresh (Nat.le_succ _)
  have pm : (sortW xs).Perm xs := List.mergeSort_perm _ _
  exact ⟨.ref _, upd H (s.heap.objs.size + 1) (.lst ((sortW xs).map V.str)), I.laid (t' := s.toks) (fun _ _ => PyProof.Rows.sortedAll_old) (Nat.le_succ _) ⟨by rw [List.length_map, pm.length_eq]; exact hz, _, c, out, hc⟩, rfl,
    q (sortW xs) _ pm sortW_up fresh⟩
end
/-! ### the data of sayings -/
abbrev Own := Str × List Str
def nmsD (xs : List Str) : PyData := .tuple (xs.map .str)
def ownD (o : Own) : PyData := .tuple [.str o.1, nmsD o.2]
structure Say where
  picks : List Str
  owns : List Own
  cls : List (List Ltr)
def Say.d (s : Say) : PyData := .tuple [nmsD s.picks, .tuple (s.owns.map ownD), .tuple (s.cls.map clD)]
def Say.names (s : Say) : List Str := s.picks ++ s.owns.map Prod.fst
def copies (os : List Own) : Nat := (os.map fun o => 2 ^ o.2.length).sum
/-- a saying of at most so many picks, owns, copies, clauses -/
structure SayOk (a b c d : Nat) (s : Say) : Prop where
  pu : s.picks.Pairwise tlt
  pn : ∀ x ∈ s.picks, Nm x
  pl : s.picks.length ≤ a
  ou : s.owns.Pairwise fun x y => tlt x.1 y.1
  on : ∀ o ∈ s.owns, Nm o.1 ∧ o.1 ∉ s.picks ∧ o.2.Pairwise tlt ∧ ∀ x ∈ o.2, x ∈ s.picks
  ol : s.owns.length ≤ b
  oc : copies s.owns ≤ c
  cu : s.cls.Pairwise fun x y => dataLt (clD x) (clD y) = true
  ck : ∀ cl ∈ s.cls, ClOk s.names cl
  cl : s.cls.length ≤ d
theorem alike_nms (a b : List Str) : alike (nmsD a) (nmsD b) = true := by
  show alikeAll (a.map .str) (b.map .str) = true
  exact alikes_map PyData.str (fun _ _ => by simp [alike]) a b
theorem alike_own (a b : Own) : alike (ownD a) (ownD b) = true := by
  simp only [ownD, alike, alikeAll, alike_nms, Bool.and_self, Bool.and_true]
theorem depth_nms (a : List Str) : (nmsD a).depth ≤ 1 := by
  have := depths_map PyData.str 0 (fun _ => Nat.le_refl _) a
  simp only [nmsD, PyData.depth]
  omega
theorem depth_own (a : Own) : (ownD a).depth ≤ 2 := by
  have := depth_nms a.2
  simp only [ownD, PyData.depth, PyData.depthAll]
  omega
theorem keyable_nms (a : List Str) : keyable (nmsD a) = true := by
  show keyables (a.map .str) = true
  exact keyables_map PyData.str (fun _ => rfl) a
theorem keyable_own (a : Own) : keyable (ownD a) = true := by
  simp only [ownD, keyable, keyables, keyable_nms, Bool.and_self]
theorem lt_owns {a b : Own} (ne : a.1 ≠ b.1) (h : dataLt (ownD a) (ownD b) = true) : tlt a.1 b.1 := by
  unfold ownD at h
  rw [dataLt_pair (by simp [alike]) (alike_nms _ _)] at h
  have e : PyData.eqv (.str a.1) (.str b.1) = false := by
    simp only [PyData.eqv]
    exact beq_false_of_ne ne
  rw [e, if_neg (by decide), dataLt_str, decide_eq_true_eq] at h
  exact h
/-- a tuple that stands; all of it may be known -/
def FT (H : Hp) (a : Addr) (xs : List V) : Prop := Rd H a (.tup xs)
theorem FT.of {H : Hp} {a : Addr} {xs : List V} (h : H a = some (.tup xs)) : FT H a xs := .inl h
theorem FT.rd {H : Hp} {a : Addr} {xs : List V} (h : FT H a xs) : Rd H a (.tup xs) := h
theorem FT.sq {K : PySem.W.Frag} {H : Hp} {a : Addr} {xs : List V} (h : FT H a xs) : SqT K H a xs := .inl h
theorem FT.same {H H' : Hp} {a : Addr} {xs : List V} (h : FT H a xs) (S : Same H H') : FT H' a xs := by
  rcases h with h | ⟨o, h⟩
  · exact .inl (S _ _ h)
  · exact .inr ⟨o, S _ _ h⟩
/-- a tuple of which all is known, without a dict of its own -/
def FZ (H : Hp) (a : Addr) (xs : List V) : Prop := ∃ o : Obj, o.dict = none ∧ H a = some (.frz o (.tup xs))
theorem FZ.ft {H : Hp} {a : Addr} {xs : List V} (h : FZ H a xs) : FT H a xs := let ⟨o, _, e⟩ := h; .inr ⟨o, e⟩
theorem FZ.same {H H' : Hp} {a : Addr} {xs : List V} (h : FZ H a xs) (S : Same H H') : FZ H' a xs := let ⟨o, d, e⟩ := h; ⟨o, d, S _ _ e⟩
/-- the owns of a saying, as they stand -/
def DatO (H : Hp) (v : V) (os : List Own) : Prop := ∃ b us, v = .ref b ∧ FT H b us ∧ DatAll H us (os.map ownD)
theorem DatO.same {H H' : Hp} {v : V} {os : List Own} (h : DatO H v os) (S : Same H H') : DatO H' v os := let ⟨b, us, e, f, d⟩ := h; ⟨b, us, e, f.same S, DatAll.same S d⟩
/-- a saying, as it stands -/
def DatS (H : Hp) (v : V) (s : Say) : Prop := ∃ a p o c, v = .ref a ∧ H a = some (.tup [p, o, c]) ∧ Dat H p (nmsD s.picks) ∧ DatO H o s.owns ∧ Dat H c (.tuple (s.cls.map clD))
theorem DatS.same {H H' : Hp} {v : V} {s : Say} (h : DatS H v s) (S : Same H H') : DatS H' v s := let ⟨a, p, o, c, e, g, d1, d2, d3⟩ := h; ⟨a, p, o, c, e, S _ _ g, d1.same S, d2.same S, d3.same S⟩
/-- owns of which all is known -/
def DatZ (H : Hp) (v : V) (os : List Own) : Prop := ∃ b us, v = .ref b ∧ FZ H b us ∧ DatAll H us (os.map ownD)
theorem DatZ.o {H : Hp} {v : V} {os : List Own} (h : DatZ H v os) : DatO H v os := let ⟨b, us, e, f, d⟩ := h; ⟨b, us, e, f.ft, d⟩
theorem DatZ.same {H H' : Hp} {v : V} {os : List Own} (h : DatZ H v os) (S : Same H H') : DatZ H' v os := let ⟨b, us, e, f, d⟩ := h; ⟨b, us, e, f.same S, DatAll.same S d⟩
/-- a saying, its owns known -/
def DatF (H : Hp) (v : V) (s : Say) : Prop := ∃ a p o c, v = .ref a ∧ H a = some (.tup [p, o, c]) ∧ Dat H p (nmsD s.picks) ∧ DatZ H o s.owns ∧ Dat H c (.tuple (s.cls.map clD))
theorem DatF.s {H : Hp} {v : V} {s : Say} (h : DatF H v s) : DatS H v s := let ⟨a, p, o, c, e, g, d1, d2, d3⟩ := h; ⟨a, p, o, c, e, g, d1, d2.o, d3⟩
theorem DatF.same {H H' : Hp} {v : V} {s : Say} (h : DatF H v s) (S : Same H H') : DatF H' v s := let ⟨a, p, o, c, e, g, d1, d2, d3⟩ := h; ⟨a, p, o, c, e, S _ _ g, d1.same S, d2.same S, d3.same S⟩
section
variable {X : Cx}
/-- tuple(xs), xs a list: what is new is known to the last -/
def kTupF (K : PySem.W.Frag) : V → Hp → VK → Prop := fun x H Q => ∃ (p : Addr) (ys : List V), x = .ref p ∧ SqL K H p ys ∧ ∀ (l : Addr) (o : Obj), H l = none → o.dict = none → Q (.ref l) (upd H l (.frz o (.tup ys)))
theorem call_tupleF {pins : List (Addr × Obj)} {σ : L2.St} {H : Hp} {s : Shared} {x : V} {u : Value} {Q : VK} (I : Inv X pins σ H s) (r : RelV x u) (h : kTupF X.K x H Q) : wpAny (model X.prog X.w) X.A (call (.type "tuple") [u]) (EP X pins σ Q) X.xe s := by
  obtain ⟨p, ys, rfl, hq, q⟩ := h
  cases r
  obtain ⟨its, r', pl, hz⟩ := I.list hq
  have hlen := r'.length
  refine call_tuple_list pl.isList (fun h' kp => ?_) (by simp only [List.size_toArray] <;> omega)
  have I1 : Inv X pins σ H { s with heap := h' } := I.kept (t' := s.toks) kp
  have I2 : Inv X pins σ (upd H h'.objs.size (.frz { cls := .type "tuple", data := .seq its.toArray } (.tup ys))) { s with heap := h'.push { cls := .type "tuple", data := .seq its.toArray } } :=
    I1.laid (t' := s.toks) (fun b o e => Heap.get?_push_of_some _ e) (Nat.le_refl _) (show ObjOk X.prog X.w _ _ _ (.frz _ (.tup ys)) from ⟨Heap.get?_push_size _ rfl, hz, its, r', IsTup.new _ _⟩)
  exact ⟨.ref h'.objs.size, _, I2, rfl, q _ _ (I1.hok.fresh (Nat.le_refl _)) rfl⟩
theorem pe_tupleF {a : Expr} {ta : TE} {p pos : Pos} (hg : Gl X "tuple") (hm : X.mg "tuple" = none) (ha : PE X a ta) (na : starEach [a] X.env = (false, eval a X.env) :: starEach [] X.env := by rfl) :
    PE X (.Call (.Name "tuple" p) [a] [] pos) (tThen ta (kTupF X.K)) := by
  refine ⟨fun pins s σ H Q I h => ?_⟩
  exact Call_ (ld_blt I hg hm boot_tuple (PyProof.Rows.callWith_type1 (one_arg ha I h (fun v s2 x H2 I2 r q => call_tupleF I2 r q) na) na))
end
end S1

set_option Elab.async false
set_option linter.all false
set_option maxRecDepth 100000
set_option maxHeartbeats 4000000
/-! sayings, drawn -/
namespace S1
open PySem PySem.W PySem.Spec PyProof.Rows L2
theorem cut_take {ws : List Str} {r : Nat} : cutV (ws.map V.str) none (some (r : Int)) = (ws.take r).map V.str := by
  unfold cutV
  rw [HT.sIx_nat, HT.sIx_none, List.drop_zero, List.map_take, Nat.sub_zero, ← List.take_eq_take_min]
theorem cut_mid {ws : List Str} {a r : Nat} (h : a + r ≤ ws.length) : cutV (ws.map V.str) (some (a : Int)) (some ((a + r : Nat) : Int)) = ((ws.drop a).take r).map V.str := by
  unfold cutV
  rw [HT.sIx_nat, HT.sIx_nat, List.length_map, Nat.min_eq_left (show a ≤ ws.length by omega), Nat.min_eq_left h, ← List.map_drop, ← List.map_take]
  congr 1
  congr 1
  omega
theorem dats_strs {H : Hp} : ∀ xs : List Str, DatAll H (xs.map V.str) (xs.map PyData.str)
  | [] => .nil
  | x :: xs => .cons (.str x) (dats_strs xs)
theorem copies_snoc (os : List Own) (o : Own) : copies (os ++ [o]) = copies os + 2 ^ o.2.length := by
  unfold copies
  rw [List.map_append, List.sum_append, List.map_cons, List.map_nil, List.sum_cons, List.sum_nil, Nat.add_zero]
theorem own_row {H : Hp} {q : TRow} {o : Own} (e : q.2 = ownD o) (D : Dat H q.v q.2) : ∃ t, H q.1 = some (.tup [.str o.1, .ref t]) ∧ H t = some (.tup (o.2.map V.str)) := by
  rw [e] at D
  have D2 : Dat H (.ref q.1) (.tuple [.str o.1, nmsD o.2]) := D
  cases D2 with
  | tup g h =>
    cases h with
    | cons h1 h2 =>
      cases h2 with
      | cons h3 h4 =>
        cases h4
        cases h1
        have h5 : Dat H _ (.tuple (o.2.map .str)) := h3
        cases h5 with
        | tup g2 h6 =>
          have key : ∀ {xs : List V} {l : List Str}, DatAll H xs (l.map PyData.str) → xs = l.map V.str := by
            intro xs l
            induction l generalizing xs with
            | nil => intro h; cases h; rfl
            | cons x l ih =>
              intro h
              cases h with
              | cons a b =>
                cases a
                rw [ih b, List.map_cons]
          rw [key h6] at g2
          exact ⟨_, g, g2⟩
theorem rows_back {α : Type} {f : α → PyData} {g : α → Str} (hg : ∀ a b, f a = f b → g a = g b) (hlt : ∀ a b, g a ≠ g b → dataLt (f a) (f b) = true → tlt (g a) (g b)) {T T' : List TRow} {l : List α} (pm : T'.Perm T) (e : T.map Prod.snd = l.map f)
    (nd : (l.map g).Nodup) (up : (T.map Prod.snd).Nodup → T'.Pairwise fun p q => dataLt p.2 q.2 = true) : ∃ l' : List α, l'.Perm l ∧ T'.map Prod.snd = l'.map f ∧ l'.Pairwise fun a b => tlt (g a) (g b) := by
  obtain ⟨l', p2, e2⟩ := perm_back (f := f) ((pm.map Prod.snd).trans (.of_eq e)) l rfl
  have nT : (T.map Prod.snd).Nodup := by
    rw [e]
    exact List.pairwise_map.mpr ((List.pairwise_map.mp nd).imp fun {a b} ne z => ne (hg a b z))
  have u1 : (T'.map Prod.snd).Pairwise fun d e => dataLt d e = true := List.pairwise_map.mpr (up nT)
  rw [e2] at u1
  have nd' : (l'.map g).Nodup := ((p2.map g).nodup_iff).mpr nd
  exact ⟨l', p2, e2, ((List.pairwise_map.mp u1).and (List.pairwise_map.mp nd')).imp fun {a b} z => hlt a b z.2 z.1⟩
theorem own_name (a b : Own) (h : ownD a = ownD b) : a.1 = b.1 := by
  unfold ownD at h
  injection h with h
  injection h with h _
  injection h
theorem nodup_le {α : Type} : ∀ {l m : List α}, l.Nodup → (∀ x ∈ l, x ∈ m) → l.length ≤ m.length
  | [], _, _, _ => Nat.zero_le _
  | x :: l, m, nd, h => by
    obtain ⟨s, t, e⟩ := List.append_of_mem (h x List.mem_cons_self)
    obtain ⟨n1, n2⟩ := List.nodup_cons.mp nd
    have ih := nodup_le (m := s ++ t) n2 fun y hy => by
      have z := h y (List.mem_cons_of_mem _ hy)
      rw [e] at z
      rcases List.mem_append.mp z with z | z
      · exact List.mem_append_left _ z
      · rcases List.mem_cons.mp z with z | z
        · exact absurd (z ▸ hy) n1
        · exact List.mem_append_right _ z
    rw [e, List.length_append, List.length_cons, List.length_cons]
    rw [List.length_append] at ih
    omega
theorem copies_perm {l m : List Own} (p : l.Perm m) : copies l = copies m := (p.map fun o : Own => 2 ^ o.2.length).sum_nat
theorem and_split {c : Prop} [Decidable c] {u : TT} {σ : L2.St} {H : Hp} {Q : Bool → Hp → Prop} (R : Hp → Prop) (k : ∀ H', R H' → Q false H') (h1 : c → (∀ H', R H' → Q false H') → u σ H Q) (h2 : ¬ c → (∀ H', R H' → Q false H') → Q false H) : if c then u σ H Q else Q false H := by
  by_cases h : c
  · rw [if_pos h]; exact h1 h k
  · rw [if_neg h]; exact h2 h k
end S1

set_option Elab.async false
set_option linter.all false
set_option maxRecDepth 100000
set_option maxHeartbeats 4000000
/-! list(text); list.count of a list of truths -/
namespace L2
open PySem PySem.W PySem.Spec PyProof.Rows
section
variable {X : Cx}
def signV (x : Str) : List V := x.cps.toList.map fun c => V.str ⟨#[c]⟩
theorem vals_signs {x : Str} {acc : Array Value} (h : ItemsOf (SignAt x) acc x.cps.size) : Vals (signV x) acc.toList := by
  refine vals_of_idx _ _ (by rw [Array.length_toList, h.1, signV, List.length_map, Array.length_toList]) fun j u hj => ?_
  obtain ⟨c, t, hc, rfl⟩ := h.2 j u (by rw [← Array.getElem?_toList]; exact hj)
  refine ⟨V.str ⟨#[c]⟩, ?_, ⟨t, rfl⟩⟩
  rw [signV, List.getElem?_map, Array.getElem?_toList, hc]
  rfl
/-- list(x), x a text: a new list of its signV -/
def rListStr : List V → Hp → VK → Prop := fun xs H Q => ∃ x : Str, xs = [.str x] ∧ x.cps.size ≤ sizeLine ∧ ∀ l, H l = none → Q (.ref l) (upd H l (.lst (signV x)))
theorem call_listStr (hc : X.calm = true) : CallR X (.type "list") rListStr := by
  intro pins s σ H xs us Q I r h
  obtain ⟨x, rfl, hn, q⟩ := h
  obtain ⟨u, rfl, rx⟩ := vals1 r
  obtain ⟨t, rfl⟩ := rx
  refine call_list_str (I.ok.hd hc) x t (fun h' tk acc c' kp e ia => ?_) hn
  have rv := vals_signs ia
  exact ⟨.ref s.heap.objs.size, _, I.laid (t' := tk) kp (Nat.le_refl _) (show ObjOk X.prog X.w _ h' _ (.lst (signV x)) from ⟨by rw [signV, List.length_map, Array.length_toList]; exact hn, acc.toList, c', rv, by simpa using e⟩), rfl, q _ (I.hok.fresh (Nat.le_refl _))⟩
theorem bls_vals : ∀ {bs : List Bool} {us : List Value}, Vals (bs.map V.bl) us → us = bs.map Value.bool
  | [], _, .nil => rfl
  | b :: bs, _, .cons r t => by
    cases (show _ = Value.bool b from r)
    rw [bls_vals t, List.map_cons]
/-- xs.count(b), xs a list of truths -/
def rCntB (K : PySem.W.Frag) : V → List V → Hp → VK → Prop := fun x xs H Q => ∃ (p : Addr) (bs : List Bool) (k : Bool), x = .ref p ∧ xs = [.bl k] ∧ SqL K H p (bs.map V.bl) ∧ Q (.int (bs.count k : Nat)) H
theorem mt_lcountB : MtR X "list.count" (rCntB X.K) := by
  intro pins s σ H x xs v us Q I rx rxs h
  obtain ⟨p, bs, k, rfl, rfl, hs, q⟩ := h
  cases rx
  obtain ⟨u, rfl, ru⟩ := rxs.one
  cases (show u = Value.bool k from ru)
  obtain ⟨its, rv, ⟨⟨cls, dd, data, sl⟩, n, ho, hc, hdn, hd⟩, hlen⟩ := I.list hs
  simp only at hc hd
  subst hc hd
  have e := bls_vals rv
  subst e
  refine call_meets PySem.F.slot_list_count ⟨_, ho, rfl⟩ PySem.F.entry_list_count (PySem.F.args_list_count_2 _ _)
    (SeqAt.list_countAt p (bs.map Value.bool).toArray n dd sl (.bool k) (isBoolOf k)) ⟨ho, fun y hy => ?_, ?_⟩
  · obtain ⟨b, _, rfl⟩ := List.mem_map.mp (show y ∈ bs.map Value.bool by simpa using hy)
    exact SeqAt.EqAt.bool_bool b k
  · have ec : (bs.map Value.bool).toArray.toList.countP (isBoolOf k) = bs.count k := by
      rw [List.toList_toArray, List.countP_map, List.count]
      rfl
    refine ⟨.int (bs.count k : Nat), H, I.tok _, ⟨s.toks, ?_⟩, q⟩
    show Value.int (((bs.map Value.bool).toArray.toList.countP (isBoolOf k) : Nat) : Int) s.toks = Value.int ((bs.count k : Nat) : Int) s.toks
    rw [ec]
end
end L2

set_option Elab.async false
set_option linter.all false
set_option maxRecDepth 100000
set_option maxHeartbeats 4000000
/-! < and == of data; what is_truth, is_tuple, is_pair, is_rising tell of good ones -/
namespace S1
open PySem PySem.W PySem.Spec PyProof.Rows L2
section
variable {X : Cx}
def rLtD : R2 := fun x y H Q => ∃ d e, Dat H x d ∧ Dat H y e ∧ alike d e = true ∧ d ≠ .none ∧ d.depth ≤ 8 ∧ Q (.bl (dataLt d e)) H
theorem op_ltD (hu : X.A.units + 64 < cLine) : OpR X (compareOp .Lt) rLtD := by
  intro pins s σ H x y v u Q I rx ry h
  obtain ⟨d, e, D1, D2, al, ne, dp, q⟩ := h
  obtain ⟨as, R1⟩ := reads_of_dat I.hok D1 rx
  obtain ⟨bs, R2⟩ := reads_of_dat I.hok D2 ry
  exact rcLt_alike d e X.A s v u as bs R1 R2 al ne (by have := Nat.min_le_left d.depth e.depth; omega) X.prog X.w X.xe _ ⟨.bl (dataLt d e), H, I, rfl, q⟩
def rEqD : R2 := fun x y H Q => ∃ d e, Dat H x d ∧ Dat H y e ∧ alike d e = true ∧ d.depth ≤ 8 ∧ Q (.bl (PyData.eqv d e)) H
end
/-! ### the small questions -/
def spIsTruth : Sp := fun vs H Q _ => ∃ b : Bool, vs = [.bl b] ∧ Q (.bl true) H
def spIsTuple : Sp := fun vs H Q _ => ∃ (a : Addr) (xs : List V) (n : Int), vs = [.ref a, .int n] ∧ Rd H a (.tup xs) ∧ (xs.length : Int) ≤ n ∧ Q (.bl true) H
def spIsPair : Sp := fun vs H Q _ => ∃ (a : Addr) (x y : V), vs = [.ref a] ∧ H a = some (.tup [x, y]) ∧ Q (.bl true) H
/-- each one below the next -/
def Rise : List PyData → Prop
  | [] => True
  | [_] => True
  | x :: y :: r => (alike x y = true ∧ x ≠ .none ∧ x.depth ≤ 8 ∧ dataLt x y = true) ∧ Rise (y :: r)
theorem Rise.at_ : ∀ {ds : List PyData}, Rise ds → ∀ (k : Nat) (x y : PyData), ds[k]? = some x → ds[k + 1]? = some y → alike x y = true ∧ x ≠ .none ∧ x.depth ≤ 8 ∧ dataLt x y = true
  | [], _, _, _, _, h, _ => by simp at h
  | [_], _, k, _, _, _, h => by simp at h
  | a :: b :: r, R, 0, x, y, h1, h2 => by
    cases (show some a = some x from h1)
    cases (show some b = some y from h2)
    exact R.1
  | a :: b :: r, R, k + 1, x, y, h1, h2 => Rise.at_ R.2 k x y h1 h2
theorem rise_of {α : Type} {f : α → PyData} (al : ∀ x y, alike (f x) (f y) = true) (nn : ∀ x, f x ≠ .none) (dp : ∀ x, (f x).depth ≤ 8) : ∀ {l : List α}, (l.Pairwise fun x y => dataLt (f x) (f y) = true) → Rise (l.map f)
  | [], _ => True.intro
  | [_], _ => True.intro
  | x :: y :: l, h => by
    obtain ⟨h1, h2⟩ := List.pairwise_cons.mp h
    exact ⟨⟨al x y, nn x, dp x, h1 y List.mem_cons_self⟩, rise_of al nn dp h2⟩
theorem rise_strs {l : List Str} (h : l.Pairwise tlt) : Rise (l.map PyData.str) := rise_of (f := PyData.str) (fun _ _ => by simp [alike]) (fun _ z => nomatch z) (fun _ => Nat.zero_le _) (h.imp fun {x y} z => by
  rw [dataLt_str]
  exact decide_eq_true z)
theorem same_tup {K : PySem.W.Frag} {H H' : Hp} {a : Addr} {xs : List V} (S : Same H H') (h : SqT K H a xs) : SqT K H' a xs := by
  rcases h with h | h
  · refine .inl ?_
    rcases h with h | ⟨o, h⟩
    · exact .inl (S _ _ h)
    · exact .inr ⟨o, S _ _ h⟩
  · exact .inr h
theorem same_sq {K : PySem.W.Frag} {H H' : Hp} {a : Addr} {xs : List V} (S : Same H H') (h : SqL K H a xs ∨ SqT K H a xs) : SqL K H' a xs ∨ SqT K H' a xs := h.elim (fun h => .inl (S.seq h)) fun h => .inr (same_tup S h)
theorem ix_any {K : PySem.W.Frag} {H : Hp} {a : Addr} {xs : List V} {i : Int} {v : V} {Q : VK} (h : SqL K H a xs ∨ SqT K H a xs) (e : atI xs i = some v) (q : Q v H) : rIx K (.ref a) (.int i) H Q :=
  h.elim (fun h => .inl ⟨a, xs, i, v, rfl, rfl, h, e, q⟩) fun h => .inr (.inl ⟨a, xs, i, v, rfl, rfl, h, e, q⟩)
def spIsRising (K : PySem.W.Frag) : Sp := fun vs H Q _ => ∃ (a : Addr) (xs : List V) (ds : List PyData), vs = [.ref a] ∧ (SqL K H a xs ∨ SqT K H a xs) ∧ DatAll H xs ds ∧ Rise ds ∧ ds.length ≤ 1000 ∧ ∀ H', Same H H' → Q (.bl true) H'
theorem dats_get {H : Hp} : ∀ {xs : List V} {ds : List PyData}, DatAll H xs ds → ∀ (k : Nat) (d : PyData), ds[k]? = some d → ∃ x, xs[k]? = some x ∧ Dat H x d
  | _, _, .nil, _, _, h => by simp at h
  | _, _, .cons (v := v) h t, 0, d, e => by
    cases (show some _ = some d from e)
    exact ⟨v, rfl, h⟩
  | _, _, .cons h t, k + 1, d, e => dats_get t k d e
section
variable {P : Program} {w : World} {K : PySem.W.Frag} {mg : Str → Option Value} {base : Heap}
theorem scIsTruth : FnScope ["value"] ["value"] (defScope sIsTruth) := ⟨rfl, rfl, rfl, by decide +kernel, rfl, by decide +kernel, by decide +kernel⟩
theorem scIsTuple : FnScope ["value", "most"] ["value", "most"] (defScope sIsTuple) := ⟨rfl, rfl, rfl, by decide +kernel, rfl, by decide +kernel, by decide +kernel⟩
theorem scIsPair : FnScope ["value"] ["value"] (defScope sIsPair) := ⟨rfl, rfl, rfl, by decide +kernel, rfl, by decide +kernel, by decide +kernel⟩
theorem scIsRising : FnScope ["parts", "k"] ["parts"] (defScope sIsRising) := ⟨rfl, rfl, rfl, by decide +kernel, rfl, by decide +kernel, by decide +kernel⟩
theorem ok_isTruth {f : Addr} {fd : FuncData} (F : Fun K "is_truth" "is_truth" sIsTruth f fd) : FnOk P w K mg base CX0 1 f fd ["value"] spIsTruth := by
  refine F.ok scIsTruth (fun vs H Q E h => ?_) (fun cdv A outer s H vs Q E hr h => ?_)
  · obtain ⟨b, rfl, _⟩ := h
    rfl
  · obtain ⟨b, rfl, q⟩ := h
    refine ⟨_, pss_one (ps_ret (pe_or (pe_cmpR op_is_bl (pv 0) pe_bl (nomark _)) (pe_one (pe_cmpR op_is_bl (pv 0) pe_bl (nomark _))))), ?_⟩
    refine ⟨_, rfl, b, true, rfl, rfl, _, rfl, ?_⟩
    cases b with
    | true => exact q
    | false => exact ⟨_, rfl, false, false, rfl, rfl, q⟩
theorem ty_rd {H : Hp} {a : Addr} {xs : List V} (h : Rd H a (.tup xs)) : TyX K H (.ref a) (.type "tuple") := h.elim (fun e => .base (.tup e)) fun ⟨_, e⟩ => .fTuple e
theorem ok_isTuple {f : Addr} {fd : FuncData} (F : Fun K "is_tuple" "is_tuple" sIsTuple f fd) (B : Blt mg) : FnOk P w K mg base CX0 1 f fd ["value", "most"] spIsTuple := by
  refine F.ok scIsTuple (fun vs H Q E h => ?_) (fun cdv A outer s H vs Q E hr h => ?_)
  · obtain ⟨a, xs, n, rfl, _⟩ := h
    rfl
  · obtain ⟨a, xs, n, rfl, e, le, q⟩ := h
    refine ⟨_, pss_one (ps_ret (pe_and (pe_callB call_isi (by rfl) B.isi (by decide +kernel) (pa_cons (pv 0) (pa_cons (pe_bltn (v := V.ty "tuple") (by rfl) B.tuple (by decide +kernel) rfl) pa_nil)))
      (pe_one (pe_cmpR op_le (pe_callB call_len_seq (by rfl) B.len (by decide +kernel) (pa_cons (pv 0) pa_nil)) (pv 1) (nomark _))))), ?_⟩
    refine ⟨_, rfl, _, _, _, _, true, rfl, .ty _, ty_rd e, kit_ty (by decide +kernel), true, rfl, ?_⟩
    show if true = true then _ else _
    rw [if_pos rfl]
    refine ⟨_, rfl, _, _, rfl, .inr (.inl e), _, rfl, _, _, rfl, rfl, ?_⟩
    show Q (.bl (decide ((xs.length : Int) ≤ n))) H
    rw [decide_eq_true le]
    exact q
theorem ok_isPair {f : Addr} {fd : FuncData} (F : Fun K "is_pair" "is_pair" sIsPair f fd) (B : Blt mg) : FnOk P w K mg base CX0 1 f fd ["value"] spIsPair := by
  refine F.ok scIsPair (fun vs H Q E h => ?_) (fun cdv A outer s H vs Q E hr h => ?_)
  · obtain ⟨a, x, y, rfl, _⟩ := h
    rfl
  · obtain ⟨a, x, y, rfl, e, q⟩ := h
    refine ⟨_, pss_one (ps_ret (pe_and (pe_callB call_isi (by rfl) B.isi (by decide +kernel) (pa_cons (pv 0) (pa_cons (pe_bltn (v := V.ty "tuple") (by rfl) B.tuple (by decide +kernel) rfl) pa_nil)))
      (pe_one (pe_cmpR op_eq (pe_callB call_len_seq (by rfl) B.len (by decide +kernel) (pa_cons (pv 0) pa_nil)) pe_int (nomark _))))), ?_⟩
    refine ⟨_, rfl, _, _, _, _, true, rfl, .ty _, .base (.tup e), kit_ty (by decide +kernel), true, rfl, ?_⟩
    show if true = true then _ else _
    rw [if_pos rfl]
    exact ⟨_, rfl, _, _, rfl, .inr (SqT.of e), rfl, q⟩
theorem ok_isRising {f : Addr} {fd : FuncData} (F : Fun K "is_rising" "is_rising" sIsRising f fd) (B : Blt mg) : FnOk P w K mg base CX0 1 f fd ["parts"] (spIsRising K) := by
  refine F.ok scIsRising (fun vs H Q E h => ?_) (fun cdv A outer s H vs Q E hr h => ?_)
  · obtain ⟨a, xs, ds, rfl, _⟩ := h
    rfl
  · obtain ⟨a, xs, ds, rfl, sq, D, R, len, q⟩ := h
    have hu : (A.deeper (envOfC "is_rising" (defScope sIsRising) s.heap.objs.size f cdv)).units + 64 < cLine := hr.units
    refine ⟨_, pss_one (ps_ret (pe_callB (cr_all rfl) (by rfl) B.all (by decide +kernel) (pa_cons (pe_lc (own := [("k", 1)]) (g := gName 1) (tt := tYes) (te := tOp rLtD (tOp (rIx K) (tVar 0) (tVar 1)) (tOp (rIx K) (tVar 0) (tOp (rI0 fun i j => V.int (i + j)) (tVar 1) (tC (V.int 1))))) rfl scIsRising.nd (pi_range1 rfl B.range (pa_cons (pe_op op_sub (pe_callB call_len_seq (by rfl) B.len (by decide +kernel) (pa_cons (pv 0) pa_nil)) pe_int) pa_nil))
      (blkOk_by (N := ["parts", "k"]) (sc := defScope sIsRising) (by decide +kernel)) (fun _ _ _ _ _ => pg_name (i := 1) scIsRising.nd rfl (Or.inl rfl)) (fun _ _ _ _ _ => pts_nil)
      (fun _ _ _ _ _ => by exact pe_cmpR (op_ltD (by exact hu)) (pe_ix ix_seq (pv 0) (pv 1) (fun _ _ => rfl)) (pe_ix ix_seq (pv 0) (pe_op op_add (pv 1) pe_int) (fun _ _ => rfl)) (nomark _))) pa_nil))), ?_⟩
    have lx : xs.length = ds.length := D.len
    refine ⟨_, rfl, _, _, rfl, sq, _, _, rfl, rfl, _, rfl, by omega, by omega, fun D0 hD0 => ?_⟩
    refine lc_range (lo := 0) (n := ((xs.length : Int) - 1).toNat) (fun j H4 => H4 D0 = some (.lst ((List.replicate j true).map V.bl)) ∧ Same H H4) ⟨upd_same, same_new hD0⟩ ?_ ?_
    · rintro j H4 hj ⟨eD, S⟩
      obtain ⟨x, hx⟩ : ∃ x, ds[j]? = some x := ⟨_, List.getElem?_eq_getElem (by omega)⟩
      obtain ⟨y, hy⟩ : ∃ y, ds[j + 1]? = some y := ⟨_, List.getElem?_eq_getElem (by omega)⟩
      obtain ⟨u, hu1, Du⟩ := dats_get D j x hx
      obtain ⟨v, hv1, Dv⟩ := dats_get D (j + 1) y hy
      obtain ⟨al, nn, dp, lt⟩ := R.at_ j x y hx hy
      refine ⟨rfl, yes_of ?_⟩
      refine ⟨_, rfl, _, rfl, ix_any (same_sq S sq) (by rw [Int.zero_add]; exact atI_nat hu1) ⟨_, rfl, _, rfl, _, _, rfl, rfl, ix_any (same_sq S sq) (by rw [Int.zero_add]; exact atI_nat hv1) ?_⟩⟩
      refine ⟨x, y, Du.same S, Dv.same S, al, nn, dp, _, eD, ?_, ?_, ?_⟩
      · rw [List.length_map, List.length_replicate]
        exact small1000 (by omega)
      · rw [upd_same, lt, List.replicate_succ', List.map_append]
        rfl
      · exact same_upd S hD0
    · rintro H4 ⟨eD, S⟩
      refine ⟨D0, _, rfl, SqL.of eD, ?_⟩
      have e : (List.replicate ((xs.length : Int) - 1).toNat true).all id = true := by
        rw [List.all_eq_true]
        exact fun b hb => (List.mem_replicate.mp hb).2
      show Q (.bl _) H4
      rw [e]
      exact q H4 S
end
end S1

set_option Elab.async false
set_option linter.all false
set_option maxRecDepth 100000
set_option maxHeartbeats 4000000
/-! all([.. for ..]) where each one is True -/
namespace S1
open PySem PySem.W PySem.Spec PyProof.Rows L2
abbrev trues (n : Nat) : HO := .lst ((List.replicate n true).map V.bl)
theorem trues_next {H : Hp} {D : Addr} {n : Nat} (e : H D = some (trues n)) : upd H D (.lst ((List.replicate n true).map V.bl ++ [V.bl true])) D = some (trues (n + 1)) := by
  rw [upd_same]
  show some _ = some (HO.lst ((List.replicate (n + 1) true).map V.bl))
  rw [List.replicate_succ', List.map_append]
  rfl
theorem trues_all (n : Nat) : (List.replicate n true).all id = true := by
  rw [List.all_eq_true]
  exact fun b hb => (List.mem_replicate.mp hb).2
section
variable {K : PySem.W.Frag} {g : TG} {te : TE} {vs : List Nat} {σ : L2.St} {H : Hp} {D : Addr} {Qd : Hp → Prop}
theorem lc_allT {a : Addr} {xs : List V} (sq : SqT K H a xs) (hD : H D = none) (len : xs.length ≤ 1000)
    (step : ∀ (i : Nat) (x : V) (H4 : Hp) (Qe : VK), xs[i]? = some x → Same H H4 → (∀ H5, Same H4 H5 → Qe (.bl true) H5) → g x (wipe σ vs) H4 fun σ2 H2 => wipe σ2 vs = wipe σ vs ∧ te σ2 H2 Qe)
    (gm : ∀ x σ1 H1 (A B : L2.St → Hp → Prop), (∀ σ2 H2, A σ2 H2 → B σ2 H2) → g x σ1 H1 A → g x σ1 H1 B)
    (hd : ∀ H5, H5 D = some (trues xs.length) → Same H H5 → Qd H5) :
    ∃ W : Nat → Nat → Hp → Prop, (∃ m, W 0 m (upd H D (.lst []))) ∧ ∀ i m H, W i m H →
      ((Itt K a).stop i H ∧ Qd H) ∨ ((Itt K a).go i H ∧ ∃ Nx : Hp → Prop, (∀ H', Nx H' → ∃ m', m' < m ∧ W (i + 1) m' H') ∧ ∀ x H', (Itt K a).yld i H x H' → g x (wipe σ vs) H' fun σ2 H2 => wipe σ2 vs = wipe σ vs ∧ tYes σ2 H2 fun b H3 =>
        if b = true then te σ2 H3 fun y H4 => ∃ acc, H4 D = some (.lst acc) ∧ acc.length < sizeLine ∧ Nx (upd H4 D (.lst (acc ++ [y]))) else Nx H3) := by
  refine lc_tup (K := K) (a := a) (xs := xs) (fun j H4 => H4 D = some (trues j) ∧ Same H H4) ⟨upd_same, same_new hD⟩ (fun i H4 _ h => same_tup h.2 sq) (fun i x H4 hx h => ?_) (fun H5 h => hd H5 h.1 h.2)
  have il : i < xs.length := (List.getElem?_eq_some_iff.mp hx).1
  refine gm x _ _ _ _ (fun σ2 H2 z => ⟨z.1, yes_of z.2⟩) (step i x H4 _ hx h.2 fun H5 S5 => ?_)
  have e5 := S5 _ _ h.1
  exact ⟨_, e5, by rw [List.length_map, List.length_replicate]; exact small1000 (by omega), trues_next e5, same_upd (h.2.trans S5) hD⟩
theorem lc_allL {a : Addr} {xs : List V} (sq : SqL K H a xs) (hD : H D = none) (len : xs.length ≤ 1000)
    (step : ∀ (i : Nat) (x : V) (H4 : Hp) (Qe : VK), xs[i]? = some x → Same H H4 → (∀ H5, Same H4 H5 → Qe (.bl true) H5) → g x (wipe σ vs) H4 fun σ2 H2 => wipe σ2 vs = wipe σ vs ∧ te σ2 H2 Qe)
    (gm : ∀ x σ1 H1 (A B : L2.St → Hp → Prop), (∀ σ2 H2, A σ2 H2 → B σ2 H2) → g x σ1 H1 A → g x σ1 H1 B)
    (hd : ∀ H5, H5 D = some (trues xs.length) → Same H H5 → Qd H5) :
    ∃ W : Nat → Nat → Hp → Prop, (∃ m, W 0 m (upd H D (.lst []))) ∧ ∀ i m H, W i m H →
      ((Itl K a).stop i H ∧ Qd H) ∨ ((Itl K a).go i H ∧ ∃ Nx : Hp → Prop, (∀ H', Nx H' → ∃ m', m' < m ∧ W (i + 1) m' H') ∧ ∀ x H', (Itl K a).yld i H x H' → g x (wipe σ vs) H' fun σ2 H2 => wipe σ2 vs = wipe σ vs ∧ tYes σ2 H2 fun b H3 =>
        if b = true then te σ2 H3 fun y H4 => ∃ acc, H4 D = some (.lst acc) ∧ acc.length < sizeLine ∧ Nx (upd H4 D (.lst (acc ++ [y]))) else Nx H3) := by
  refine lc_list (K := K) (a := a) (xs := xs) (fun j H4 => H4 D = some (trues j) ∧ Same H H4) ⟨upd_same, same_new hD⟩ (fun i H4 _ h => h.2.seq sq) (fun i x H4 hx h => ?_) (fun H5 h => hd H5 h.1 h.2)
  have il : i < xs.length := (List.getElem?_eq_some_iff.mp hx).1
  refine gm x _ _ _ _ (fun σ2 H2 z => ⟨z.1, yes_of z.2⟩) (step i x H4 _ hx h.2 fun H5 S5 => ?_)
  have e5 := S5 _ _ h.1
  exact ⟨_, e5, by rw [List.length_map, List.length_replicate]; exact small1000 (by omega), trues_next e5, same_upd (h.2.trans S5) hD⟩
theorem lc_allS {x : Str} (hD : H D = none) (len : x.cps.size ≤ 1000)
    (step : ∀ (c : Nat) (H4 : Hp) (Qe : VK), c ∈ x.cps.toList → Same H H4 → (∀ H5, Same H4 H5 → Qe (.bl true) H5) → g (.str ⟨#[c]⟩) (wipe σ vs) H4 fun σ2 H2 => wipe σ2 vs = wipe σ vs ∧ te σ2 H2 Qe)
    (gm : ∀ x σ1 H1 (A B : L2.St → Hp → Prop), (∀ σ2 H2, A σ2 H2 → B σ2 H2) → g x σ1 H1 A → g x σ1 H1 B)
    (hd : ∀ H5, H5 D = some (trues x.cps.size) → Same H H5 → Qd H5) :
    ∃ W : Nat → Nat → Hp → Prop, (∃ m, W 0 m (upd H D (.lst []))) ∧ ∀ i m H, W i m H →
      ((Its x).stop i H ∧ Qd H) ∨ ((Its x).go i H ∧ ∃ Nx : Hp → Prop, (∀ H', Nx H' → ∃ m', m' < m ∧ W (i + 1) m' H') ∧ ∀ y H', (Its x).yld i H y H' → g y (wipe σ vs) H' fun σ2 H2 => wipe σ2 vs = wipe σ vs ∧ tYes σ2 H2 fun b H3 =>
        if b = true then te σ2 H3 fun y H4 => ∃ acc, H4 D = some (.lst acc) ∧ acc.length < sizeLine ∧ Nx (upd H4 D (.lst (acc ++ [y]))) else Nx H3) := by
  refine ⟨fun i m H4 => m = x.cps.size - i ∧ i ≤ x.cps.size ∧ H4 D = some (trues i) ∧ Same H H4, ⟨_, rfl, Nat.zero_le _, upd_same, same_new hD⟩, ?_⟩
  rintro i m H4 ⟨rfl, hi, e4, S4⟩
  by_cases il : i < x.cps.size
  · refine .inr ⟨il, fun H5 => i + 1 ≤ x.cps.size ∧ H5 D = some (trues (i + 1)) ∧ Same H H5, fun H5 z => ⟨x.cps.size - (i + 1), by omega, rfl, z.1, z.2⟩, ?_⟩
    rintro y H' ⟨rfl, c, hc, rfl⟩
    have mc : c ∈ x.cps.toList := List.mem_of_getElem? (by rw [Array.getElem?_toList]; exact hc)
    refine gm _ _ _ _ _ (fun σ2 H2 z => ⟨z.1, yes_of z.2⟩) (step c _ _ mc S4 fun H5 S5 => ?_)
    have e5 := S5 _ _ e4
    exact ⟨_, e5, by rw [List.length_map, List.length_replicate]; exact small1000 (by omega), il, trues_next e5, same_upd (S4.trans S5) hD⟩
  · have e : i = x.cps.size := by omega
    subst e
    exact .inl ⟨Nat.le_refl _, hd H4 e4 S4⟩
end
theorem gName_mono {i : Nat} : ∀ (x : V) (σ1 : L2.St) (H1 : Hp) (A B : L2.St → Hp → Prop), (∀ σ2 H2, A σ2 H2 → B σ2 H2) → gName i x σ1 H1 A → gName i x σ1 H1 B := fun x σ1 H1 A B h z => h _ _ z
end S1

set_option Elab.async false
set_option linter.all false
set_option maxRecDepth 100000
set_option maxHeartbeats 4000000
/-! names, letters, clauses: told to be such -/
namespace S1
open PySem PySem.W PySem.Spec PyProof.Rows L2
/-- the numbers at the head of the program -/
structure Cst (mg : Str → Option Value) : Prop where
  small : ∃ t, mg "SMALL" = some (.str "abcdefghijklmnopqrstuvwxyz" t)
  signs : ∃ t, mg "MOST_SIGNS" = some (.int 8 t)
  picks : ∃ t, mg "MOST_PICKS" = some (.int 6 t)
  owns : ∃ t, mg "MOST_OWNS" = some (.int 8 t)
  clauses : ∃ t, mg "MOST_CLAUSES" = some (.int 40 t)
  copies : ∃ t, mg "MOST_COPIES" = some (.int 120 t)
theorem abc_mem {c : Nat} (h : 97 ≤ c ∧ c ≤ 122) : c ∈ ("abcdefghijklmnopqrstuvwxyz" : Str).cps.toList := by
  have z : ∀ k, k < 123 → 97 ≤ k → k ∈ ("abcdefghijklmnopqrstuvwxyz" : Str).cps.toList := by decide +kernel
  exact z c (by omega) h.1
def spIsName : Sp := fun vs H Q _ => ∃ x : Str, vs = [.str x] ∧ Nm x ∧ ∀ H', Same H H' → Q (.bl true) H'
def spIsLetter : Sp := fun vs H Q _ => ∃ (v : V) (l : Ltr), vs = [v] ∧ Dat H v (ltD l) ∧ Nm l.1 ∧ ∀ H', Same H H' → Q (.bl true) H'
section
variable {P : Program} {w : World} {K : PySem.W.Frag} {mg : Str → Option Value} {base : Heap}
theorem scIsName : FnScope ["value", "sign"] ["value"] (defScope sIsName) := ⟨rfl, rfl, rfl, by decide +kernel, rfl, by decide +kernel, by decide +kernel⟩
theorem scIsLetter : FnScope ["value"] ["value"] (defScope sIsLetter) := ⟨rfl, rfl, rfl, by decide +kernel, rfl, by decide +kernel, by decide +kernel⟩
theorem ok_isName {f : Addr} {fd : FuncData} (F : Fun K "is_name" "is_name" sIsName f fd) (B : Blt mg) (C : Cst mg) : FnOk P w K mg base CX0 1 f fd ["value"] spIsName := by
  obtain ⟨t1, c1⟩ := C.small
  obtain ⟨t2, c2⟩ := C.signs
  refine F.ok scIsName (fun vs H Q E h => ?_) (fun cdv A outer s H vs Q E hr h => ?_)
  · obtain ⟨x, rfl, _⟩ := h
    rfl
  · obtain ⟨x, rfl, nx, q⟩ := h
    refine ⟨_, pss_cons (ps_if (PW.pt (pw_or (pt_not (pt_val (pe_callB call_isi (by rfl) B.isi (by decide +kernel) (pa_cons (pv 0) (pa_cons (pe_bltn (v := V.ty "str") (by rfl) B.str (by decide +kernel) rfl) pa_nil)))))
        (pw_or1 (pt_not (pt_chain op_le op_le pe_int (pe_callB call_len_str (by rfl) B.len (by decide +kernel) (pa_cons (pv 0) pa_nil)) (pe_glob (v := V.int 8) rfl c2 ⟨_, rfl⟩)))))) (pss_one (ps_ret pe_bl)) pss_nil)
      (pss_one (ps_ret (pe_callB (cr_all rfl) (by rfl) B.all (by decide +kernel) (pa_cons (pe_lc (own := [("sign", 1)]) (g := gName 1) (tt := tYes) rfl scIsName.nd (pi_str (pv 0))
        (blkOk_by (N := ["value", "sign"]) (sc := defScope sIsName) (by decide +kernel)) (fun _ _ _ _ _ => pg_name (i := 1) scIsName.nd rfl (Or.inl rfl)) (fun _ _ _ _ _ => pts_nil)
        (fun _ _ _ _ _ => pe_cmpR op_in_sign (pv 1) (pe_glob (v := V.str "abcdefghijklmnopqrstuvwxyz") rfl c1 ⟨_, rfl⟩) (by with_unfolding_all rfl))) pa_nil)))), ?_⟩
    have len : x.length ≤ sizeLine := Nat.le_of_lt (small1000 (by have := nx.hi; omega))
    refine ⟨_, rfl, _, _, _, _, true, rfl, .ty _, .base (.str x), kit_ty (by decide +kernel), true, rfl, ?_⟩
    show if (!true) = true then _ else _
    rw [if_neg (by decide)]
    refine ⟨_, rfl, x, rfl, len, _, _, rfl, rfl, _, rfl, ?_⟩
    have l1 : (1 : Int) ≤ (x.length : Int) := by have := nx.lo; omega
    have l8 : (x.length : Int) ≤ 8 := by have := nx.hi; omega
    refine ite2 (fun _ => ?_) (fun h => absurd (decide_eq_true l1) h)
    refine ⟨_, _, rfl, rfl, _, rfl, ?_⟩
    rw [show decide ((x.length : Int) ≤ 8) = true from decide_eq_true l8]
    show if (!true) = true then _ else _
    rw [if_neg (by decide)]
    refine ⟨_, rfl, x, rfl, fun D hD => ?_⟩
    refine lc_allS hD (by have := nx.hi; show x.length ≤ 1000; omega) (fun c H4 Qe mc S4 k => ?_) gName_mono (fun H5 e5 S5 => ?_)
    · refine ⟨rfl, _, rfl, c, _, rfl, rfl, ?_⟩
      show Qe (.bl (decide _)) H4
      rw [decide_eq_true (abc_mem (nx.az c mc))]
      exact k H4 (Same.refl _)
    · refine ⟨D, _, rfl, SqL.of e5, ?_⟩
      show Q (.bl _) H5
      rw [trues_all]
      exact q H5 S5
theorem ok_isLetter {f fP fN fT : Addr} {fd fdP fdN fdT : FuncData} (F : Fun K "is_letter" "is_letter" sIsLetter f fd) (Pr : Has K mg "is_pair" sIsPair ["value"] fP fdP) (Nn : Has K mg "is_name" sIsName ["value"] fN fdN) (Tr : Has K mg "is_truth" sIsTruth ["value"] fT fdT)
    (B : Blt mg) (C : Cst mg) : FnOk P w K mg base CX0 2 f fd ["value"] spIsLetter := by
  have GP : FnOk P w K mg base CX0 1 fP fdP ["value"] spIsPair := ok_isPair Pr.F B
  have GN : FnOk P w K mg base CX0 1 fN fdN ["value"] spIsName := ok_isName Nn.F B C
  have GT : FnOk P w K mg base CX0 1 fT fdT ["value"] spIsTruth := ok_isTruth Tr.F
  refine F.ok scIsLetter (fun vs H Q E h => ?_) (fun cdv A outer s H vs Q E hr h => ?_)
  · obtain ⟨v, l, rfl, _⟩ := h
    rfl
  · obtain ⟨v, l, rfl, D, nl, q⟩ := h
    refine ⟨_, pss_one (ps_ret (pe_and (pe_call GP hr rfl Pr.g Pr.F.kp Pr.b .nil pass0 (pa_cons (pv 0) pa_nil)) (pe_and (pe_call GN hr rfl Nn.g Nn.F.kp Nn.b .nil pass0 (pa_cons (pe_ix ix_tup (pv 0) pe_int (fun _ _ => rfl)) pa_nil))
      (pe_one (pe_call GT hr rfl Tr.g Tr.F.kp Tr.b .nil pass0 (pa_cons (pe_ix ix_tup (pv 0) pe_int (fun _ _ => rfl)) pa_nil)))))), ?_⟩
    have D2 : Dat H v (.tuple [.str l.1, .bool l.2]) := D
    cases D2 with
    | @tup a _ _ e h =>
      cases h with
      | cons h1 h =>
        cases h1
        cases h with
        | cons h2 h =>
          cases h2
          cases h
          refine ⟨_, rfl, a, _, _, rfl, e, true, rfl, ?_⟩
          show if true = true then _ else _
          rw [if_pos rfl]
          refine ⟨_, rfl, a, _, 0, _, rfl, rfl, SqT.of e, rfl, l.1, rfl, nl, fun H' S => ⟨true, rfl, ?_⟩⟩
          show if true = true then _ else _
          rw [if_pos rfl]
          exact ⟨_, rfl, a, _, 1, _, rfl, rfl, SqT.of (S _ _ e), rfl, l.2, rfl, q H' S⟩
end
end S1

set_option Elab.async false
set_option linter.all false
set_option maxRecDepth 100000
set_option maxHeartbeats 4000000
/-! clauses of any names, rows of names, rows of truths: told to be such -/
namespace S1
open PySem PySem.W PySem.Spec PyProof.Rows L2
section
variable {K : PySem.W.Frag} {g : TG} {te : TE} {vs : List Nat} {σ : L2.St} {H : Hp} {D : Addr} {Qd : Hp → Prop}
/-- [f(x) for x in a tuple], what it gives known one by one -/
theorem lc_mapT {a : Addr} {xs ys : List V} (sq : SqT K H a xs) (hD : H D = none) (ly : ys.length = xs.length) (len : xs.length ≤ 1000)
    (step : ∀ (i : Nat) (x y : V) (H4 : Hp) (Qe : VK), xs[i]? = some x → ys[i]? = some y → Same H H4 → (∀ H5, Same H4 H5 → Qe y H5) → g x (wipe σ vs) H4 fun σ2 H2 => wipe σ2 vs = wipe σ vs ∧ te σ2 H2 Qe)
    (gm : ∀ x σ1 H1 (A B : L2.St → Hp → Prop), (∀ σ2 H2, A σ2 H2 → B σ2 H2) → g x σ1 H1 A → g x σ1 H1 B)
    (hd : ∀ H5, H5 D = some (.lst ys) → Same H H5 → Qd H5) :
    ∃ W : Nat → Nat → Hp → Prop, (∃ m, W 0 m (upd H D (.lst []))) ∧ ∀ i m H, W i m H →
      ((Itt K a).stop i H ∧ Qd H) ∨ ((Itt K a).go i H ∧ ∃ Nx : Hp → Prop, (∀ H', Nx H' → ∃ m', m' < m ∧ W (i + 1) m' H') ∧ ∀ x H', (Itt K a).yld i H x H' → g x (wipe σ vs) H' fun σ2 H2 => wipe σ2 vs = wipe σ vs ∧ tYes σ2 H2 fun b H3 =>
        if b = true then te σ2 H3 fun y H4 => ∃ acc, H4 D = some (.lst acc) ∧ acc.length < sizeLine ∧ Nx (upd H4 D (.lst (acc ++ [y]))) else Nx H3) := by
  refine lc_tup (K := K) (a := a) (xs := xs) (fun j H4 => H4 D = some (.lst (ys.take j)) ∧ Same H H4) ⟨by rw [upd_same, List.take_zero], same_new hD⟩ (fun i H4 _ h => same_tup h.2 sq) (fun i x H4 hx h => ?_) (fun H5 h => hd H5 (by rw [h.1, ← ly, List.take_length]) h.2)
  have il : i < xs.length := (List.getElem?_eq_some_iff.mp hx).1
  obtain ⟨y, hy⟩ : ∃ y, ys[i]? = some y := ⟨_, List.getElem?_eq_getElem (by omega)⟩
  refine gm x _ _ _ _ (fun σ2 H2 z => ⟨z.1, yes_of z.2⟩) (step i x y H4 _ hx hy h.2 fun H5 S5 => ?_)
  have e5 := S5 _ _ h.1
  exact ⟨_, e5, by rw [List.length_take]; exact small1000 (by omega), by rw [upd_same, take_next hy], same_upd (h.2.trans S5) hD⟩
end
def blsD (bs : List Bool) : PyData := .tuple (bs.map .bool)
def spIsAnyClause : Sp := fun vs H Q _ => ∃ (v : V) (cl : List Ltr), vs = [v] ∧ Dat H v (clD cl) ∧ (cl.Pairwise fun a b => tlt a.1 b.1) ∧ (∀ l ∈ cl, Nm l.1) ∧ cl.length ≤ 1000 ∧ ∀ H', Same H H' → Q (.bl true) H'
def spAreNames : Sp := fun vs H Q _ => ∃ (v : V) (xs : List Str) (n : Int), vs = [v, .int n] ∧ Dat H v (nmsD xs) ∧ xs.Pairwise tlt ∧ (∀ x ∈ xs, Nm x) ∧ (xs.length : Int) ≤ n ∧ xs.length ≤ 1000 ∧ ∀ H', Same H H' → Q (.bl true) H'
def spAreTruths : Sp := fun vs H Q _ => ∃ (v : V) (bs : List Bool), vs = [v, .int bs.length] ∧ Dat H v (blsD bs) ∧ bs.length ≤ 1000 ∧ ∀ H', Same H H' → Q (.bl true) H'
theorem dat_tup {H : Hp} {v : V} {ds : List PyData} (D : Dat H v (.tuple ds)) : ∃ a xs, v = .ref a ∧ H a = some (.tup xs) ∧ DatAll H xs ds := by
  cases D with
  | tup e h => exact ⟨_, _, rfl, e, h⟩
theorem dats_strs_eq {H : Hp} : ∀ {xs : List V} {l : List Str}, DatAll H xs (l.map PyData.str) → xs = l.map V.str
  | _, [], h => by cases h; rfl
  | _, x :: l, h => by
    cases h with
    | cons a b =>
      cases a
      rw [dats_strs_eq b, List.map_cons]
theorem dats_bls_eq {H : Hp} : ∀ {xs : List V} {l : List Bool}, DatAll H xs (l.map PyData.bool) → xs = l.map V.bl
  | _, [], h => by cases h; rfl
  | _, x :: l, h => by
    cases h with
    | cons a b =>
      cases a
      rw [dats_bls_eq b, List.map_cons]
theorem dats_get' {H : Hp} : ∀ {xs : List V} {ds : List PyData}, DatAll H xs ds → ∀ (k : Nat) (x : V), xs[k]? = some x → ∃ d, ds[k]? = some d ∧ Dat H x d
  | _, _, .nil, _, _, h => by simp at h
  | _, _, .cons (d := d) h t, 0, x, e => by
    cases (show some _ = some x from e)
    exact ⟨d, rfl, h⟩
  | _, _, .cons h t, k + 1, x, e => dats_get' t k x e
theorem ltr_row {H : Hp} {x : V} {l : Ltr} (D : Dat H x (ltD l)) : ∃ b, x = .ref b ∧ H b = some (.tup [.str l.1, .bl l.2]) := by
  obtain ⟨b, xs, rfl, e, h⟩ := dat_tup (ds := [.str l.1, .bool l.2]) D
  cases h with
  | cons h1 h =>
    cases h1
    cases h with
    | cons h2 h =>
      cases h2
      cases h
      exact ⟨b, rfl, e⟩
theorem get_map {α : Type} {f : α → PyData} {l : List α} {i : Nat} {d : PyData} (h : (l.map f)[i]? = some d) : ∃ x, l[i]? = some x ∧ d = f x := by
  rw [List.getElem?_map] at h
  obtain ⟨x, hx, e⟩ := Option.map_eq_some_iff.mp h
  exact ⟨x, hx, e.symm⟩
section
variable {P : Program} {w : World} {K : PySem.W.Frag} {mg : Str → Option Value} {base : Heap}
theorem scIsAnyClause : FnScope ["value", "part", "letter"] ["value"] (defScope sIsAnyClause) := ⟨rfl, rfl, rfl, by decide +kernel, rfl, by decide +kernel, by decide +kernel⟩
theorem scAreNames : FnScope ["value", "most", "part"] ["value", "most"] (defScope sAreNames) := ⟨rfl, rfl, rfl, by decide +kernel, rfl, by decide +kernel, by decide +kernel⟩
theorem ok_isAnyClause {f fL fR : Addr} {fd fdL fdR : FuncData} (F : Fun K "is_any_clause" "is_any_clause" sIsAnyClause f fd) (Le : Has K mg "is_letter" sIsLetter ["value"] fL fdL) (GL : FnOk P w K mg base CX0 2 fL fdL ["value"] spIsLetter)
    (Ri : Has K mg "is_rising" sIsRising ["parts"] fR fdR) (B : Blt mg) : FnOk P w K mg base CX0 3 f fd ["value"] spIsAnyClause := by
  have GR : FnOk P w K mg base CX0 1 fR fdR ["parts"] (spIsRising K) := ok_isRising Ri.F B
  refine F.ok scIsAnyClause (fun vs H Q E h => ?_) (fun cdv A outer s H vs Q E hr h => ?_)
  · obtain ⟨v, cl, rfl, _⟩ := h
    rfl
  · obtain ⟨v, cl, rfl, D, up, nm, len, q⟩ := h
    have hr1 := hr.mono (show 1 ≤ 2 by decide)
    refine ⟨_, pss_cons (ps_if (PW.pt (pw_or (pt_not (pt_val (pe_callB call_isi (by rfl) B.isi (by decide +kernel) (pa_cons (pv 0) (pa_cons (pe_bltn (v := V.ty "tuple") (by rfl) B.tuple (by decide +kernel) rfl) pa_nil)))))
        (pw_or1 (pt_not (pt_val (pe_callB (cr_all rfl) (by rfl) B.all (by decide +kernel) (pa_cons (pe_lc (own := [("part", 1)]) (g := gName 1) (tt := tYes) rfl scIsAnyClause.nd (pi_tup (pv 0))
          (blkOk_by (N := ["value", "part", "letter"]) (sc := defScope sIsAnyClause) (by decide +kernel)) (fun _ _ _ _ _ => pg_name (i := 1) scIsAnyClause.nd rfl (Or.inl rfl)) (fun _ _ _ _ _ => pts_nil)
          (fun _ _ _ _ _ => pe_call GL (by exact hr) (by rfl) Le.g Le.F.kp Le.b .nil pass0 (pa_cons (pv 1) pa_nil))) pa_nil))))))) (pss_one (ps_ret pe_bl)) pss_nil)
      (pss_one (ps_ret (pe_call GR hr1 rfl Ri.g Ri.F.kp Ri.b .nil pass0 (pa_cons (pe_lc (own := [("letter", 2)]) (g := gName 2) (tt := tYes) (te := tOp (rIxT K) (tVar 2) (tC (V.int 0))) rfl scIsAnyClause.nd (pi_tup (pv 0))
          (blkOk_by (N := ["value", "part", "letter"]) (sc := defScope sIsAnyClause) (by decide +kernel)) (fun _ _ _ _ _ => pg_name (i := 2) scIsAnyClause.nd rfl (Or.inl rfl)) (fun _ _ _ _ _ => pts_nil)
          (fun _ _ _ _ _ => by exact pe_ix ix_tup (pv 2) pe_int (fun _ _ => rfl))) pa_nil)))), ?_⟩
    obtain ⟨a, xs, rfl, e, Da⟩ := dat_tup (ds := cl.map ltD) D
    have lx : xs.length = cl.length := by rw [Da.len, List.length_map]
    refine ⟨_, rfl, _, _, _, _, true, rfl, .ty _, .base (.tup e), kit_ty (by decide +kernel), true, rfl, ?_⟩
    show if (!true) = true then _ else _
    rw [if_neg (by decide)]
    refine ⟨_, rfl, a, rfl, ⟨_, SqT.of e⟩, fun D0 hD0 => lc_allT (K := K) (SqT.of e) hD0 (by omega) (fun i x H4 Qe hx S4 k => ?_) gName_mono (fun H5 e5 S5 => ?_)⟩
    · obtain ⟨d, hd, Dx⟩ := dats_get' Da i x hx
      obtain ⟨l, hl, rfl⟩ := get_map hd
      exact ⟨rfl, _, rfl, x, l, rfl, Dx.same S4, nm l (List.mem_of_getElem? hl), k⟩
    · refine ⟨D0, _, rfl, SqL.of e5, _, rfl, ?_⟩
      rw [trues_all]
      show if (!true) = true then _ else _
      rw [if_neg (by decide)]
      refine ⟨_, rfl, a, rfl, ⟨_, SqT.of (S5 _ _ e)⟩, fun D1 hD1 => lc_mapT (K := K) (ys := (cl.map Prod.fst).map V.str) (SqT.of (S5 _ _ e)) hD1 (by rw [List.length_map, List.length_map, lx]) (by omega) (fun i x y H4 Qe hx hy S4 k => ?_) gName_mono (fun H6 e6 S6 => ?_)⟩
      · obtain ⟨d, hd, Dx⟩ := dats_get' Da i x hx
        obtain ⟨l, hl, rfl⟩ := get_map hd
        obtain ⟨b, rfl, eb⟩ := ltr_row Dx
        have ey : y = V.str l.1 := by
          rw [List.getElem?_map, List.getElem?_map, hl] at hy
          exact (Option.some.inj hy).symm
        rw [ey] at k
        exact ⟨rfl, _, rfl, b, _, 0, _, rfl, rfl, SqT.of (S4 _ _ (S5 _ _ eb)), rfl, k H4 (Same.refl _)⟩
      · exact ⟨D1, _, _, rfl, .inl (SqL.of e6), dats_strs (cl.map Prod.fst), rise_strs (List.pairwise_map.mpr up), by rw [List.length_map, List.length_map]; exact len, fun H' S => q H' ((S5.trans S6).trans S)⟩
theorem ok_areNames {f fU fN fR : Addr} {fd fdU fdN fdR : FuncData} (F : Fun K "are_names" "are_names" sAreNames f fd) (Tu : Has K mg "is_tuple" sIsTuple ["value", "most"] fU fdU) (Nn : Has K mg "is_name" sIsName ["value"] fN fdN)
    (Ri : Has K mg "is_rising" sIsRising ["parts"] fR fdR) (B : Blt mg) (C : Cst mg) : FnOk P w K mg base CX0 2 f fd ["value", "most"] spAreNames := by
  have GU : FnOk P w K mg base CX0 1 fU fdU ["value", "most"] spIsTuple := ok_isTuple Tu.F B
  have GN : FnOk P w K mg base CX0 1 fN fdN ["value"] spIsName := ok_isName Nn.F B C
  have GR : FnOk P w K mg base CX0 1 fR fdR ["parts"] (spIsRising K) := ok_isRising Ri.F B
  refine F.ok scAreNames (fun vs H Q E h => ?_) (fun cdv A outer s H vs Q E hr h => ?_)
  · obtain ⟨v, xs, n, rfl, _⟩ := h
    rfl
  · obtain ⟨v, xs, n, rfl, D, up, nm, le, len, q⟩ := h
    refine ⟨_, pss_cons (ps_if (PW.pt (pw_or (pt_not (pt_val (pe_call GU hr rfl Tu.g Tu.F.kp Tu.b .nil pass0 (pa_cons (pv 0) (pa_cons (pv 1) pa_nil)))))
        (pw_or1 (pt_not (pt_val (pe_callB (cr_all rfl) (by rfl) B.all (by decide +kernel) (pa_cons (pe_lc (own := [("part", 2)]) (g := gName 2) (tt := tYes) rfl scAreNames.nd (pi_tup (pv 0))
          (blkOk_by (N := ["value", "most", "part"]) (sc := defScope sAreNames) (by decide +kernel)) (fun _ _ _ _ _ => pg_name (i := 2) scAreNames.nd rfl (Or.inl rfl)) (fun _ _ _ _ _ => pts_nil)
          (fun _ _ _ _ _ => pe_call GN (by exact hr) (by rfl) Nn.g Nn.F.kp Nn.b .nil pass0 (pa_cons (pv 2) pa_nil))) pa_nil))))))) (pss_one (ps_ret pe_bl)) pss_nil)
      (pss_one (ps_ret (pe_call GR hr rfl Ri.g Ri.F.kp Ri.b .nil pass0 (pa_cons (pv 0) pa_nil)))), ?_⟩
    obtain ⟨a, us, rfl, e, Da⟩ := dat_tup (ds := xs.map PyData.str) D
    have eu := dats_strs_eq Da
    subst eu
    refine ⟨_, rfl, _, rfl, a, _, n, rfl, .inl e, by rw [List.length_map]; exact le, true, rfl, ?_⟩
    show if (!true) = true then _ else _
    rw [if_neg (by decide)]
    refine ⟨_, rfl, a, rfl, ⟨_, SqT.of e⟩, fun D0 hD0 => lc_allT (K := K) (SqT.of e) hD0 (by rw [List.length_map]; exact len) (fun i x H4 Qe hx S4 k => ?_) gName_mono (fun H5 e5 S5 => ?_)⟩
    · rw [List.getElem?_map] at hx
      obtain ⟨y, hy, rfl⟩ := Option.map_eq_some_iff.mp hx
      exact ⟨rfl, _, rfl, y, rfl, nm y (List.mem_of_getElem? hy), k⟩
    · refine ⟨D0, _, rfl, SqL.of e5, _, rfl, ?_⟩
      rw [trues_all]
      show if (!true) = true then _ else _
      rw [if_neg (by decide)]
      exact ⟨_, rfl, a, _, _, rfl, .inr (SqT.of (S5 _ _ e)), dats_strs xs, rise_strs up, by rw [List.length_map]; exact len, fun H' S => q H' (S5.trans S)⟩
end
end S1

set_option Elab.async false
set_option linter.all false
set_option maxRecDepth 100000
set_option maxHeartbeats 4000000
/-! sights, owns, clauses of a saying: told to be such -/
namespace S1
open PySem PySem.W PySem.Spec PyProof.Rows L2
/-- a def is there, and is as promised -/
def Good (P : Program) (w : World) (K : PySem.W.Frag) (mg : Str → Option Value) (base : Heap) (k : Nat) (x : Str) (st : Stmt) (ps : List Str) (sp : Sp) : Prop :=
  ∃ (f : Addr) (fd : FuncData), Has K mg x st ps f fd ∧ FnOk P w K mg base CX0 k f fd ps sp
/-- a def is there -/
def There (K : PySem.W.Frag) (mg : Str → Option Value) (x : Str) (st : Stmt) (ps : List Str) : Prop := ∃ (f : Addr) (fd : FuncData), Has K mg x st ps f fd
structure Shp (K : PySem.W.Frag) (mg : Str → Option Value) : Prop where
  isTruth : There K mg "is_truth" sIsTruth ["value"]
  isTuple : There K mg "is_tuple" sIsTuple ["value", "most"]
  isPair : There K mg "is_pair" sIsPair ["value"]
  isRising : There K mg "is_rising" sIsRising ["parts"]
  isName : There K mg "is_name" sIsName ["value"]
  isLetter : There K mg "is_letter" sIsLetter ["value"]
  isAnyClause : There K mg "is_any_clause" sIsAnyClause ["value"]
  areNames : There K mg "are_names" sAreNames ["value", "most"]
  isSight : There K mg "is_sight" sIsSight ["value", "picks"]
  isOwn : There K mg "is_own" sIsOwn ["value", "picks"]
  areOwns : There K mg "are_owns" sAreOwns ["value", "picks"]
  isClauseOver : There K mg "is_clause_over" sIsClauseOver ["value", "names"]
  areClauses : There K mg "are_clauses" sAreClauses ["value", "names"]
  namesOf : There K mg "names_of" sNamesOf ["picks", "owns"]
  fitsSaying : There K mg "fits_saying" sFitsSaying ["value"]
/-- all that the text is made of, as far as these defs go -/
structure Env1 (K : PySem.W.Frag) (mg : Str → Option Value) : Prop where
  B : Blt mg
  C : Cst mg
  Y : Shp K mg
def spIsSight : Sp := fun vs H Q _ => ∃ (v u : V) (s ps : List Str), vs = [v, u] ∧ Dat H v (nmsD s) ∧ Dat H u (nmsD ps) ∧ s.Pairwise tlt ∧ (∀ x ∈ s, Nm x) ∧ (∀ x ∈ s, x ∈ ps) ∧ s.length ≤ ps.length ∧ ps.length ≤ 1000 ∧ ∀ H', Same H H' → Q (.bl true) H'
def spIsOwn : Sp := fun vs H Q _ => ∃ (v u : V) (o : Own) (ps : List Str), vs = [v, u] ∧ Dat H v (ownD o) ∧ Dat H u (nmsD ps) ∧ Nm o.1 ∧ o.1 ∉ ps ∧ o.2.Pairwise tlt ∧ (∀ x ∈ o.2, Nm x) ∧ (∀ x ∈ o.2, x ∈ ps) ∧ o.2.length ≤ ps.length ∧ ps.length ≤ 1000 ∧ ∀ H', Same H H' → Q (.bl true) H'
section
variable {P : Program} {w : World} {K : PySem.W.Frag} {mg : Str → Option Value} {base : Heap}
theorem g_isTruth (e : Env1 K mg) : Good P w K mg base 1 "is_truth" sIsTruth ["value"] spIsTruth := by
  obtain ⟨f, fd, h⟩ := e.Y.isTruth
  exact ⟨f, fd, h, ok_isTruth h.F⟩
theorem g_isTuple (e : Env1 K mg) : Good P w K mg base 1 "is_tuple" sIsTuple ["value", "most"] spIsTuple := by
  obtain ⟨f, fd, h⟩ := e.Y.isTuple
  exact ⟨f, fd, h, ok_isTuple h.F e.B⟩
theorem g_isPair (e : Env1 K mg) : Good P w K mg base 1 "is_pair" sIsPair ["value"] spIsPair := by
  obtain ⟨f, fd, h⟩ := e.Y.isPair
  exact ⟨f, fd, h, ok_isPair h.F e.B⟩
theorem g_isRising (e : Env1 K mg) : Good P w K mg base 1 "is_rising" sIsRising ["parts"] (spIsRising K) := by
  obtain ⟨f, fd, h⟩ := e.Y.isRising
  exact ⟨f, fd, h, ok_isRising h.F e.B⟩
theorem g_isName (e : Env1 K mg) : Good P w K mg base 1 "is_name" sIsName ["value"] spIsName := by
  obtain ⟨f, fd, h⟩ := e.Y.isName
  exact ⟨f, fd, h, ok_isName h.F e.B e.C⟩
theorem g_isLetter (e : Env1 K mg) : Good P w K mg base 2 "is_letter" sIsLetter ["value"] spIsLetter := by
  obtain ⟨f, fd, h⟩ := e.Y.isLetter
  obtain ⟨_, _, h1⟩ := e.Y.isPair
  obtain ⟨_, _, h2⟩ := e.Y.isName
  obtain ⟨_, _, h3⟩ := e.Y.isTruth
  exact ⟨f, fd, h, ok_isLetter h.F h1 h2 h3 e.B e.C⟩
theorem g_isAnyClause (e : Env1 K mg) : Good P w K mg base 3 "is_any_clause" sIsAnyClause ["value"] spIsAnyClause := by
  obtain ⟨f, fd, h⟩ := e.Y.isAnyClause
  obtain ⟨_, _, h1, g1⟩ := g_isLetter (P := P) (w := w) (base := base) e
  obtain ⟨_, _, h2⟩ := e.Y.isRising
  exact ⟨f, fd, h, ok_isAnyClause h.F h1 g1 h2 e.B⟩
theorem g_areNames (e : Env1 K mg) : Good P w K mg base 2 "are_names" sAreNames ["value", "most"] spAreNames := by
  obtain ⟨f, fd, h⟩ := e.Y.areNames
  obtain ⟨_, _, h1⟩ := e.Y.isTuple
  obtain ⟨_, _, h2⟩ := e.Y.isName
  obtain ⟨_, _, h3⟩ := e.Y.isRising
  exact ⟨f, fd, h, ok_areNames h.F h1 h2 h3 e.B e.C⟩
theorem scIsSight : FnScope ["value", "picks", "name"] ["value", "picks"] (defScope sIsSight) := ⟨rfl, rfl, rfl, by decide +kernel, rfl, by decide +kernel, by decide +kernel⟩
theorem scIsOwn : FnScope ["value", "picks"] ["value", "picks"] (defScope sIsOwn) := ⟨rfl, rfl, rfl, by decide +kernel, rfl, by decide +kernel, by decide +kernel⟩
theorem g_isSight (e : Env1 K mg) : Good P w K mg base 3 "is_sight" sIsSight ["value", "picks"] spIsSight := by
  obtain ⟨f, fd, h⟩ := e.Y.isSight
  obtain ⟨fA, fdA, An, GA⟩ := g_areNames (P := P) (w := w) (base := base) e
  refine ⟨f, fd, h, ?_⟩
  refine h.F.ok scIsSight (fun vs H Q E h => ?_) (fun cdv A outer s H vs Q E hr h => ?_)
  · obtain ⟨v, u, s, ps, rfl, _⟩ := h
    rfl
  · obtain ⟨v, u, s, ps, rfl, D, Dp, up, nm, sub, le, len, q⟩ := h
    refine ⟨_, pss_one (ps_ret (pe_and (pe_call GA hr rfl An.g An.F.kp An.b .nil pass0 (pa_cons (pv 0) (pa_cons (pe_callB call_len_seq (by rfl) e.B.len (by decide +kernel) (pa_cons (pv 1) pa_nil)) pa_nil)))
      (pe_one (pe_callB (cr_all rfl) (by rfl) e.B.all (by decide +kernel) (pa_cons (pe_lc (own := [("name", 2)]) (g := gName 2) (tt := tYes) (te := tOp (rIn K false) (tVar 2) (tVar 1)) rfl scIsSight.nd (pi_tup (pv 0))
        (blkOk_by (N := ["value", "picks", "name"]) (sc := defScope sIsSight) (by decide +kernel)) (fun _ _ _ _ _ => pg_name (i := 2) scIsSight.nd rfl (Or.inl rfl)) (fun _ _ _ _ _ => pts_nil)
        (fun _ _ _ _ _ => by exact pe_cmpR op_in_seq (pv 2) (pv 1) (by with_unfolding_all rfl))) pa_nil))))), ?_⟩
    obtain ⟨a, us, rfl, ea, Da⟩ := dat_tup (ds := s.map PyData.str) D
    cases dats_strs_eq Da
    obtain ⟨b, ups, rfl, eb, Db⟩ := dat_tup (ds := ps.map PyData.str) Dp
    cases dats_strs_eq Db
    refine ⟨_, rfl, _, rfl, _, _, rfl, .inr (SqT.of eb), .ref a, s, _, rfl, D, up, nm, by rw [List.length_map]; omega, by omega, fun H' S => ⟨true, rfl, ?_⟩⟩
    show if true = true then _ else _
    rw [if_pos rfl]
    refine ⟨_, rfl, a, rfl, ⟨_, SqT.of (S _ _ ea)⟩, fun D0 hD0 => lc_allT (K := K) (SqT.of (S _ _ ea)) hD0 (by rw [List.length_map]; omega) (fun i x H4 Qe hx S4 k => ?_) gName_mono (fun H5 e5 S5 => ?_)⟩
    · rw [List.getElem?_map] at hx
      obtain ⟨y, hy, rfl⟩ := Option.map_eq_some_iff.mp hx
      refine ⟨rfl, _, rfl, _, rfl, b, _, rfl, .inr (SqT.of (S4 _ _ (S _ _ eb))), rfl, flat_strs ps, ?_⟩
      show Qe (.bl (inV (V.str y) (ps.map V.str))) H4
      rw [inV_str, decide_eq_true (sub y (List.mem_of_getElem? hy))]
      exact k H4 (Same.refl _)
    · refine ⟨D0, _, rfl, SqL.of e5, ?_⟩
      show Q (.bl _) H5
      rw [trues_all]
      exact q H5 (S.trans S5)
theorem g_isOwn (e : Env1 K mg) : Good P w K mg base 4 "is_own" sIsOwn ["value", "picks"] spIsOwn := by
  obtain ⟨f, fd, h⟩ := e.Y.isOwn
  obtain ⟨fP, fdP, Pr, GP⟩ := g_isPair (P := P) (w := w) (base := base) e
  obtain ⟨fN, fdN, Nn, GN⟩ := g_isName (P := P) (w := w) (base := base) e
  obtain ⟨fS, fdS, Si, GS⟩ := g_isSight (P := P) (w := w) (base := base) e
  refine ⟨f, fd, h, ?_⟩
  refine h.F.ok scIsOwn (fun vs H Q E h => ?_) (fun cdv A outer s H vs Q E hr h => ?_)
  · obtain ⟨v, u, o, ps, rfl, _⟩ := h
    rfl
  · obtain ⟨v, u, o, ps, rfl, D, Dp, no, out, up, nm, sub, le, len, q⟩ := h
    have hr1 := hr.mono (show 1 ≤ 3 by decide)
    refine ⟨_, pss_cons (ps_if (PW.pt (pw_or (pt_not (pt_val (pe_call GP hr1 rfl Pr.g Pr.F.kp Pr.b .nil pass0 (pa_cons (pv 0) pa_nil)))) (pw_or (pt_not (pt_val (pe_call GN hr1 rfl Nn.g Nn.F.kp Nn.b .nil pass0 (pa_cons (pe_ix ix_tup (pv 0) pe_int (fun _ _ => rfl)) pa_nil))))
        (pw_or1 (pt_cmpR op_in_seq (pe_ix ix_tup (pv 0) pe_int (fun _ _ => rfl)) (pv 1) (by with_unfolding_all rfl)))))) (pss_one (ps_ret pe_bl)) pss_nil)
      (pss_one (ps_ret (pe_call GS hr rfl Si.g Si.F.kp Si.b .nil pass0 (pa_cons (pe_ix ix_tup (pv 0) pe_int (fun _ _ => rfl)) (pa_cons (pv 1) pa_nil))))), ?_⟩
    obtain ⟨a, us, rfl, ea, Da⟩ := dat_tup (ds := [.str o.1, nmsD o.2]) D
    cases Da with
    | @cons v1 d1 _ _ h1 Da =>
      cases h1
      cases Da with
      | @cons v2 d2 _ _ h2 Da =>
        cases Da
        obtain ⟨b, ups, rfl, eb, Db⟩ := dat_tup (ds := ps.map PyData.str) Dp
        cases dats_strs_eq Db
        refine ⟨_, rfl, a, _, _, rfl, ea, true, rfl, ?_⟩
        show if (!true) = true then _ else _
        rw [if_neg (by decide)]
        refine ⟨_, rfl, a, _, 0, _, rfl, rfl, SqT.of ea, rfl, o.1, rfl, no, fun H' S => ⟨true, rfl, ?_⟩⟩
        show if (!true) = true then _ else _
        rw [if_neg (by decide)]
        refine ⟨_, rfl, a, _, 0, _, rfl, rfl, SqT.of (S _ _ ea), rfl, _, rfl, b, _, rfl, .inr (SqT.of (S _ _ eb)), rfl, flat_strs ps, _, rfl, ?_⟩
        show if inV (V.str o.1) (ps.map V.str) = true then _ else _
        rw [inV_str, decide_eq_false out, if_neg (by decide)]
        exact ⟨_, rfl, a, _, 1, _, rfl, rfl, SqT.of (S _ _ ea), rfl, _, rfl, v2, .ref b, o.2, ps, rfl, h2.same S, Dp.same S, up, nm, sub, le, len, fun H2 S2 => q H2 (S.trans S2)⟩
end
end S1

set_option Elab.async false
set_option linter.all false
set_option maxRecDepth 100000
set_option maxHeartbeats 4000000
/-! sayings told to be such -/
namespace S1
open PySem PySem.W PySem.Spec PyProof.Rows L2
theorem tlt_irrefl (x : Str) : ¬ tlt x x := fun h => by
  have z := dataLt_irrefl (.str x)
  rw [dataLt_str, decide_eq_false_iff_not] at z
  exact z h
theorem nodup_tlt {xs : List Str} (h : xs.Pairwise tlt) : xs.Nodup := List.Pairwise.imp (fun {a b} z => fun e : a = b => tlt_irrefl b (by rw [e] at z; exact z)) h
abbrev sizeI (o : Own) : Int := 1 * 2 ^ ((o.2.map V.str).length : Int).toNat
theorem sizes_sum (os : List Own) : (os.map sizeI).sum = (copies os : Int) := by
  induction os with
  | nil => rfl
  | cons o os ih =>
    rw [List.map_cons, List.sum_cons, ih]
    show (1 : Int) * 2 ^ ((o.2.map V.str).length : Int).toNat + (copies os : Int) = ((2 ^ o.2.length + copies os : Nat) : Int)
    rw [List.length_map, Int.toNat_natCast, Int.one_mul]
    push_cast
    rfl
theorem cl_len {ns : List Str} {cl : List Ltr} (h : ClOk ns cl) : cl.length ≤ ns.length := by
  have nd : (cl.map Prod.fst).Nodup := nodup_tlt (List.pairwise_map.mpr h.up)
  have z := nodup_le nd fun x hx => by
    obtain ⟨l, hl, rfl⟩ := List.mem_map.mp hx
    exact h.mem l hl
  rwa [List.length_map] at z
/-- an own of a saying with these picks -/
structure OwnOk (ps : List Str) (o : Own) : Prop where
  n : Nm o.1
  out : o.1 ∉ ps
  up : o.2.Pairwise tlt
  nm : ∀ x ∈ o.2, Nm x
  sub : ∀ x ∈ o.2, x ∈ ps
  le : o.2.length ≤ ps.length
theorem SayOk.own {a b c d : Nat} {s : Say} (h : SayOk a b c d s) {o : Own} (ho : o ∈ s.owns) : OwnOk s.picks o := by
  obtain ⟨h1, h2, h3, h4⟩ := h.on o ho
  exact ⟨h1, h2, h3, fun x hx => h.pn x (h4 x hx), h4, nodup_le (nodup_tlt h3) h4⟩
def spAreOwns : Sp := fun vs H Q _ => ∃ (v u : V) (os : List Own) (ps : List Str), vs = [v, u] ∧ DatO H v os ∧ Dat H u (nmsD ps) ∧ (∀ o ∈ os, OwnOk ps o) ∧ (os.Pairwise fun x y => tlt x.1 y.1) ∧ os.length ≤ 8 ∧ copies os ≤ 1024 ∧ ps.length ≤ 1000 ∧ ∀ H', Same H H' → Q (.bl (decide (copies os ≤ 120))) H'
def spIsClauseOver : Sp := fun vs H Q _ => ∃ (v : V) (b : Addr) (cl : List Ltr) (ns : List Str), vs = [v, .ref b] ∧ Dat H v (clD cl) ∧ H b = some (.lst (ns.map V.str)) ∧ ClOk ns cl ∧ (∀ x ∈ ns, Nm x) ∧ ns.length ≤ 1000 ∧ ∀ H', Same H H' → Q (.bl true) H'
def spAreClauses : Sp := fun vs H Q _ => ∃ (v : V) (b : Addr) (cls : List (List Ltr)) (ns : List Str), vs = [v, .ref b] ∧ Dat H v (.tuple (cls.map clD)) ∧ H b = some (.lst (ns.map V.str)) ∧ (∀ cl ∈ cls, ClOk ns cl) ∧ (∀ x ∈ ns, Nm x) ∧ ns.length ≤ 1000 ∧
  cls.length ≤ 40 ∧ (cls.Pairwise fun x y => dataLt (clD x) (clD y) = true) ∧ ∀ H', Same H H' → Q (.bl true) H'
def spNamesOf : Sp := fun vs H Q _ => ∃ (u v : V) (ps : List Str) (os : List Own), vs = [u, v] ∧ Dat H u (nmsD ps) ∧ DatO H v os ∧ ps.length ≤ 500 ∧ os.length ≤ 500 ∧ ∀ (l : Addr) (H' : Hp), Same H H' → H l = none → H' l = some (.lst ((ps ++ os.map Prod.fst).map V.str)) → Q (.ref l) H'
section
variable {P : Program} {w : World} {K : PySem.W.Frag} {mg : Str → Option Value} {base : Heap}
theorem scAreOwns : FnScope ["value", "picks", "part", "own"] ["value", "picks"] (defScope sAreOwns) := ⟨rfl, rfl, rfl, by decide +kernel, rfl, by decide +kernel, by decide +kernel⟩
theorem scIsClauseOver : FnScope ["value", "names", "letter"] ["value", "names"] (defScope sIsClauseOver) := ⟨rfl, rfl, rfl, by decide +kernel, rfl, by decide +kernel, by decide +kernel⟩
theorem scAreClauses : FnScope ["value", "names", "part"] ["value", "names"] (defScope sAreClauses) := ⟨rfl, rfl, rfl, by decide +kernel, rfl, by decide +kernel, by decide +kernel⟩
theorem scNamesOf : FnScope ["picks", "owns", "own"] ["picks", "owns"] (defScope sNamesOf) := ⟨rfl, rfl, rfl, by decide +kernel, rfl, by decide +kernel, by decide +kernel⟩
theorem g_areOwns (e : Env1 K mg) : Good P w K mg base 5 "are_owns" sAreOwns ["value", "picks"] spAreOwns := by
  obtain ⟨f, fd, h⟩ := e.Y.areOwns
  obtain ⟨fU, fdU, Tu, GU⟩ := g_isTuple (P := P) (w := w) (base := base) e
  obtain ⟨fO, fdO, Ow, GO⟩ := g_isOwn (P := P) (w := w) (base := base) e
  obtain ⟨fR, fdR, Ri, GR⟩ := g_isRising (P := P) (w := w) (base := base) e
  obtain ⟨t1, c1⟩ := e.C.owns
  obtain ⟨t2, c2⟩ := e.C.copies
  refine ⟨f, fd, h, ?_⟩
  refine h.F.ok scAreOwns (fun vs H Q E h => ?_) (fun cdv A outer s H vs Q E hr h => ?_)
  · obtain ⟨v, u, os, ps, rfl, _⟩ := h
    rfl
  · obtain ⟨v, u, os, ps, rfl, D, Dp, good, up, len, cop, lp, q⟩ := h
    have hr1 := hr.mono (show 1 ≤ 4 by decide)
    refine ⟨_, pss_cons (ps_if (PW.pt (pw_or (pt_not (pt_val (pe_call GU hr1 rfl Tu.g Tu.F.kp Tu.b .nil pass0 (pa_cons (pv 0) (pa_cons (pe_glob (v := V.int 8) rfl c1 ⟨_, rfl⟩) pa_nil)))))
        (pw_or1 (pt_not (pt_val (pe_callB (cr_all rfl) (by rfl) e.B.all (by decide +kernel) (pa_cons (pe_lc (own := [("part", 2)]) (g := gName 2) (tt := tYes) rfl scAreOwns.nd (pi_tup (pv 0))
          (blkOk_by (N := ["value", "picks", "part", "own"]) (sc := defScope sAreOwns) (by decide +kernel)) (fun _ _ _ _ _ => pg_name (i := 2) scAreOwns.nd rfl (Or.inl rfl)) (fun _ _ _ _ _ => pts_nil)
          (fun _ _ _ _ _ => pe_call GO (by exact hr) (by rfl) Ow.g Ow.F.kp Ow.b .nil pass0 (pa_cons (pv 2) (pa_cons (pv 1) pa_nil)))) pa_nil))))))) (pss_one (ps_ret pe_bl)) pss_nil)
      (pss_cons (ps_if (pt_not (pt_val (pe_call GR hr1 rfl Ri.g Ri.F.kp Ri.b .nil pass0 (pa_cons (pe_lc (own := [("own", 3)]) (g := gName 3) (tt := tYes) (te := tOp (rIxT K) (tVar 3) (tC (V.int 0))) rfl scAreOwns.nd (pi_tup (pv 0))
          (blkOk_by (N := ["value", "picks", "part", "own"]) (sc := defScope sAreOwns) (by decide +kernel)) (fun _ _ _ _ _ => pg_name (i := 3) scAreOwns.nd rfl (Or.inl rfl)) (fun _ _ _ _ _ => pts_nil)
          (fun _ _ _ _ _ => by exact pe_ix ix_tup (pv 3) pe_int (fun _ _ => rfl))) pa_nil)))) (pss_one (ps_ret pe_bl)) pss_nil)
      (pss_one (ps_ret (pe_cmpR op_le (pe_callB (cr_sum rfl) (by rfl) e.B.sum (by decide +kernel) (pa_cons (pe_lc (own := [("own", 3)]) (g := gName 3) (tt := tYes)
            (te := tOp (rI CPow fun i j => V.int (i * 2 ^ j.toNat)) (tC (V.int 1)) (tCB (fun xs H Q => ∃ p ys, xs = [V.ref p] ∧ (SqL K H p ys ∨ SqT K H p ys) ∧ Q (V.int ys.length) H) (tCons (tOp (rIxT K) (tVar 3) (tC (V.int 1))) tNil))) rfl scAreOwns.nd (pi_tup (pv 0))
          (blkOk_by (N := ["value", "picks", "part", "own"]) (sc := defScope sAreOwns) (by decide +kernel)) (fun _ _ _ _ _ => pg_name (i := 3) scAreOwns.nd rfl (Or.inl rfl)) (fun _ _ _ _ _ => pts_nil)
          (fun _ _ _ _ _ => by exact pe_op op_shl pe_int (pe_callB call_len_seq (by rfl) e.B.len (by decide +kernel) (pa_cons (pe_ix ix_tup (pv 3) pe_int (fun _ _ => rfl)) pa_nil)))) pa_nil)) (pe_glob (v := V.int 120) rfl c2 ⟨_, rfl⟩) (nomark _))))), ?_⟩
    obtain ⟨a, us, rfl, ea, Da⟩ := D
    have lu : us.length = os.length := by rw [Da.len, List.length_map]
    refine ⟨_, rfl, a, us, 8, rfl, ea.rd, by omega, true, rfl, ?_⟩
    show if (!true) = true then _ else _
    rw [if_neg (by decide)]
    refine ⟨_, rfl, a, rfl, ⟨_, FT.sq ea⟩, fun D0 hD0 => lc_allT (K := K) (FT.sq ea) hD0 (by omega) (fun i x H4 Qe hx S4 k => ?_) gName_mono (fun H5 e5 S5 => ?_)⟩
    · obtain ⟨d, hd, Dx⟩ := dats_get' Da i x hx
      obtain ⟨o, ho, rfl⟩ := get_map hd
      have g := good o (List.mem_of_getElem? ho)
      exact ⟨rfl, _, rfl, _, rfl, x, u, o, ps, rfl, Dx.same S4, Dp.same S4, g.n, g.out, g.up, g.nm, g.sub, g.le, lp, k⟩
    · refine ⟨D0, _, rfl, SqL.of e5, _, rfl, ?_⟩
      rw [trues_all]
      show if (!true) = true then _ else _
      rw [if_neg (by decide)]
      have names : ∀ {H4 : Hp} {x : V} {i : Nat}, Same H H4 → us[i]? = some x → ∃ (o : Own) (t t' : Addr), os[i]? = some o ∧ x = .ref t ∧ H4 t = some (.tup [.str o.1, .ref t']) ∧ H4 t' = some (.tup (o.2.map V.str)) := fun {H4 x i} S hx => by
        obtain ⟨d, hd, Dx⟩ := dats_get' Da i x hx
        obtain ⟨o, ho, rfl⟩ := get_map hd
        obtain ⟨t, rfl⟩ := tuple_ref (ds := [.str o.1, nmsD o.2]) Dx
        obtain ⟨t', g1, g2⟩ := own_row (q := (t, ownD o)) rfl Dx
        exact ⟨o, t, t', ho, rfl, S _ _ g1, S _ _ g2⟩
      refine ⟨_, rfl, a, rfl, ⟨_, FT.sq (FT.same ea S5)⟩, fun D1 hD1 => lc_mapT (K := K) (ys := (os.map Prod.fst).map V.str) (FT.sq (FT.same ea S5)) hD1 (by rw [List.length_map, List.length_map, lu]) (by omega) (fun i x y H4 Qe hx hy S4 k => ?_) gName_mono (fun H6 e6 S6 => ?_)⟩
      · obtain ⟨o, t, t', ho, rfl, g1, _⟩ := names (S5.trans S4) hx
        have ey : y = V.str o.1 := by
          rw [List.getElem?_map, List.getElem?_map, ho] at hy
          exact (Option.some.inj hy).symm
        rw [ey] at k
        exact ⟨rfl, _, rfl, t, _, 0, _, rfl, rfl, SqT.of g1, rfl, k H4 (Same.refl _)⟩
      · refine ⟨D1, _, _, rfl, .inl (SqL.of e6), dats_strs (os.map Prod.fst), rise_strs (List.pairwise_map.mpr up), by rw [List.length_map, List.length_map]; omega, fun H7 S7 => ⟨true, rfl, ?_⟩⟩
        show if (!true) = true then _ else _
        rw [if_neg (by decide)]
        have S8 := (S5.trans S6).trans S7
        refine ⟨_, rfl, a, rfl, ⟨_, FT.sq (FT.same ea S8)⟩, fun D2 hD2 => lc_mapT (K := K) (ys := (os.map sizeI).map V.int) (FT.sq (FT.same ea S8)) hD2 (by rw [List.length_map, List.length_map, lu]) (by omega) (fun i x y H4 Qe hx hy S4 k => ?_) gName_mono (fun H9 e9 S9 => ?_)⟩
        · obtain ⟨o, t, t', ho, rfl, g1, g2⟩ := names (S8.trans S4) hx
          have ey : y = V.int (sizeI o) := by
            rw [List.getElem?_map, List.getElem?_map, ho] at hy
            exact (Option.some.inj hy).symm
          rw [ey] at k
          have g := good o (List.mem_of_getElem? ho)
          have := g.le
          exact ⟨rfl, _, rfl, t, _, 1, _, rfl, rfl, SqT.of g1, rfl, t', _, rfl, .inr (SqT.of g2), _, _, rfl, rfl, ⟨by omega, by rw [List.length_map]; omega, by decide⟩, k H4 (Same.refl _)⟩
        · refine ⟨D2, _, rfl, SqL.of e9, _, _, rfl, rfl, ?_⟩
          rw [sizes_sum]
          show Q (.bl (decide ((copies os : Int) ≤ 120))) H9
          rw [show decide ((copies os : Int) ≤ 120) = decide (copies os ≤ 120) from by
            by_cases z : copies os ≤ 120
            · rw [decide_eq_true z, decide_eq_true (by omega)]
            · rw [decide_eq_false z, decide_eq_false (by omega)]]
          exact q H9 (S8.trans S9)
theorem g_isClauseOver (e : Env1 K mg) : Good P w K mg base 4 "is_clause_over" sIsClauseOver ["value", "names"] spIsClauseOver := by
  obtain ⟨f, fd, h⟩ := e.Y.isClauseOver
  obtain ⟨fA, fdA, An, GA⟩ := g_isAnyClause (P := P) (w := w) (base := base) e
  refine ⟨f, fd, h, ?_⟩
  refine h.F.ok scIsClauseOver (fun vs H Q E h => ?_) (fun cdv A outer s H vs Q E hr h => ?_)
  · obtain ⟨v, b, cl, ns, rfl, _⟩ := h
    rfl
  · obtain ⟨v, b, cl, ns, rfl, D, eb, ck, nm, len, q⟩ := h
    refine ⟨_, pss_one (ps_ret (pe_and (pe_call GA hr rfl An.g An.F.kp An.b .nil pass0 (pa_cons (pv 0) pa_nil))
      (pe_one (pe_callB (cr_all rfl) (by rfl) e.B.all (by decide +kernel) (pa_cons (pe_lc (own := [("letter", 2)]) (g := gName 2) (tt := tYes) (te := tOp (rIn K false) (tOp (rIxT K) (tVar 2) (tC (V.int 0))) (tVar 1)) rfl scIsClauseOver.nd (pi_tup (pv 0))
        (blkOk_by (N := ["value", "names", "letter"]) (sc := defScope sIsClauseOver) (by decide +kernel)) (fun _ _ _ _ _ => pg_name (i := 2) scIsClauseOver.nd rfl (Or.inl rfl)) (fun _ _ _ _ _ => pts_nil)
        (fun _ _ _ _ _ => by exact pe_cmpR op_in_seq (pe_ix ix_tup (pv 2) pe_int (fun _ _ => rfl)) (pv 1) (by with_unfolding_all rfl))) pa_nil))))), ?_⟩
    obtain ⟨a, us, rfl, ea, Da⟩ := dat_tup (ds := cl.map ltD) D
    have lu : us.length = cl.length := by rw [Da.len, List.length_map]
    have lc := cl_len ck
    refine ⟨_, rfl, .ref a, cl, rfl, D, ck.up, fun l hl => nm _ (ck.mem l hl), by omega, fun H' S => ⟨true, rfl, ?_⟩⟩
    show if true = true then _ else _
    rw [if_pos rfl]
    refine ⟨_, rfl, a, rfl, ⟨_, SqT.of (S _ _ ea)⟩, fun D0 hD0 => lc_allT (K := K) (SqT.of (S _ _ ea)) hD0 (by omega) (fun i x H4 Qe hx S4 k => ?_) gName_mono (fun H5 e5 S5 => ?_)⟩
    · obtain ⟨d, hd, Dx⟩ := dats_get' Da i x hx
      obtain ⟨l, hl, rfl⟩ := get_map hd
      obtain ⟨t, rfl, et⟩ := ltr_row Dx
      refine ⟨rfl, _, rfl, t, _, 0, _, rfl, rfl, SqT.of (S4 _ _ (S _ _ et)), rfl, _, rfl, b, _, rfl, .inl (SqL.of (S4 _ _ (S _ _ eb))), rfl, flat_strs ns, ?_⟩
      show Qe (.bl (inV (V.str l.1) (ns.map V.str))) H4
      rw [inV_str, decide_eq_true (ck.mem l (List.mem_of_getElem? hl))]
      exact k H4 (Same.refl _)
    · refine ⟨D0, _, rfl, SqL.of e5, ?_⟩
      show Q (.bl _) H5
      rw [trues_all]
      exact q H5 (S.trans S5)
theorem g_areClauses (e : Env1 K mg) : Good P w K mg base 5 "are_clauses" sAreClauses ["value", "names"] spAreClauses := by
  obtain ⟨f, fd, h⟩ := e.Y.areClauses
  obtain ⟨fU, fdU, Tu, GU⟩ := g_isTuple (P := P) (w := w) (base := base) e
  obtain ⟨fO, fdO, Ov, GO⟩ := g_isClauseOver (P := P) (w := w) (base := base) e
  obtain ⟨fR, fdR, Ri, GR⟩ := g_isRising (P := P) (w := w) (base := base) e
  obtain ⟨t1, c1⟩ := e.C.clauses
  refine ⟨f, fd, h, ?_⟩
  refine h.F.ok scAreClauses (fun vs H Q E h => ?_) (fun cdv A outer s H vs Q E hr h => ?_)
  · obtain ⟨v, b, cls, ns, rfl, _⟩ := h
    rfl
  · obtain ⟨v, b, cls, ns, rfl, D, eb, ck, nm, len, lcs, up, q⟩ := h
    have hr1 := hr.mono (show 1 ≤ 4 by decide)
    refine ⟨_, pss_cons (ps_if (pt_not (pt_val (pe_call GU hr1 rfl Tu.g Tu.F.kp Tu.b .nil pass0 (pa_cons (pv 0) (pa_cons (pe_glob (v := V.int 40) rfl c1 ⟨_, rfl⟩) pa_nil))))) (pss_one (ps_ret pe_bl)) pss_nil)
      (pss_one (ps_ret (pe_and (pe_callB (cr_all rfl) (by rfl) e.B.all (by decide +kernel) (pa_cons (pe_lc (own := [("part", 2)]) (g := gName 2) (tt := tYes) rfl scAreClauses.nd (pi_tup (pv 0))
          (blkOk_by (N := ["value", "names", "part"]) (sc := defScope sAreClauses) (by decide +kernel)) (fun _ _ _ _ _ => pg_name (i := 2) scAreClauses.nd rfl (Or.inl rfl)) (fun _ _ _ _ _ => pts_nil)
          (fun _ _ _ _ _ => pe_call GO (by exact hr) (by rfl) Ov.g Ov.F.kp Ov.b .nil pass0 (pa_cons (pv 2) (pa_cons (pv 1) pa_nil)))) pa_nil))
        (pe_one (pe_call GR hr1 rfl Ri.g Ri.F.kp Ri.b .nil pass0 (pa_cons (pv 0) pa_nil)))))), ?_⟩
    obtain ⟨a, us, rfl, ea, Da⟩ := dat_tup D
    have lu : us.length = cls.length := by rw [Da.len, List.length_map]
    refine ⟨_, rfl, a, us, 40, rfl, .inl ea, by omega, true, rfl, ?_⟩
    show if (!true) = true then _ else _
    rw [if_neg (by decide)]
    refine ⟨_, rfl, a, rfl, ⟨_, SqT.of ea⟩, fun D0 hD0 => lc_allT (K := K) (SqT.of ea) hD0 (by omega) (fun i x H4 Qe hx S4 k => ?_) gName_mono (fun H5 e5 S5 => ?_)⟩
    · obtain ⟨d, hd, Dx⟩ := dats_get' Da i x hx
      obtain ⟨cl, hcl, rfl⟩ := get_map hd
      exact ⟨rfl, _, rfl, _, rfl, x, b, cl, ns, rfl, Dx.same S4, S4 _ _ eb, ck cl (List.mem_of_getElem? hcl), nm, len, k⟩
    · refine ⟨D0, _, rfl, SqL.of e5, ?_⟩
      rw [trues_all]
      refine ⟨true, rfl, ?_⟩
      show if true = true then _ else _
      rw [if_pos rfl]
      exact ⟨_, rfl, a, us, _, rfl, .inr (SqT.of (S5 _ _ ea)), DatAll.same S5 Da, rise_of alike_cl (fun _ z => nomatch z) (fun x => by have := depth_cl x; omega) up, by rw [List.length_map]; omega, fun H' S => q H' (S5.trans S)⟩
theorem g_namesOf (e : Env1 K mg) : Good P w K mg base 1 "names_of" sNamesOf ["picks", "owns"] spNamesOf := by
  obtain ⟨f, fd, h⟩ := e.Y.namesOf
  refine ⟨f, fd, h, ?_⟩
  refine h.F.ok scNamesOf (fun vs H Q E h => ?_) (fun cdv A outer s H vs Q E hr h => ?_)
  · obtain ⟨u, v, ps, os, rfl, _⟩ := h
    rfl
  · obtain ⟨u, v, ps, os, rfl, Dp, D, lp, lo, q⟩ := h
    refine ⟨_, pss_one (ps_ret (pe_op op_cat (pe_callTy call_list_of (by rfl) e.B.list (by decide +kernel) (pa_cons (pv 0) pa_nil)) (pe_lc (own := [("own", 2)]) (g := gName 2) (tt := tYes) (te := tOp (rIxT K) (tVar 2) (tC (V.int 0))) rfl scNamesOf.nd (pi_tup (pv 1))
          (blkOk_by (N := ["picks", "owns", "own"]) (sc := defScope sNamesOf) (by decide +kernel)) (fun _ _ _ _ _ => pg_name (i := 2) scNamesOf.nd rfl (Or.inl rfl)) (fun _ _ _ _ _ => pts_nil)
          (fun _ _ _ _ _ => by exact pe_ix ix_tup (pv 2) pe_int (fun _ _ => rfl))))), ?_⟩
    obtain ⟨b, ups, rfl, eb, Db⟩ := dat_tup (ds := ps.map PyData.str) Dp
    cases dats_strs_eq Db
    obtain ⟨a, us, rfl, ea, Da⟩ := D
    have lu : us.length = os.length := by rw [Da.len, List.length_map]
    refine ⟨_, rfl, b, _, rfl, .inr (SqT.of eb), fun l1 hl1 => ?_⟩
    have S1 : Same H (upd H l1 (.lst (ps.map V.str))) := same_new hl1
    have e1 : upd H l1 (.lst (ps.map V.str)) l1 = some (.lst (ps.map V.str)) := upd_same
    generalize upd H l1 (.lst (ps.map V.str)) = H1 at S1 e1 ⊢
    refine ⟨_, rfl, a, rfl, ⟨_, FT.sq (FT.same ea S1)⟩, fun D1 hD1 => lc_mapT (K := K) (ys := (os.map Prod.fst).map V.str) (FT.sq (FT.same ea S1)) hD1 (by rw [List.length_map, List.length_map, lu]) (by omega) (fun i x y H4 Qe hx hy S4 k => ?_) gName_mono (fun H6 e6 S6 => ?_)⟩
    · obtain ⟨d, hd, Dx⟩ := dats_get' Da i x hx
      obtain ⟨o, ho, rfl⟩ := get_map hd
      obtain ⟨t, rfl⟩ := tuple_ref (ds := [.str o.1, nmsD o.2]) Dx
      obtain ⟨t', g1, _⟩ := own_row (q := (t, ownD o)) rfl Dx
      have ey : y = V.str o.1 := by
        rw [List.getElem?_map, List.getElem?_map, ho] at hy
        exact (Option.some.inj hy).symm
      rw [ey] at k
      exact ⟨rfl, _, rfl, t, _, 0, _, rfl, rfl, SqT.of (S4 _ _ (S1 _ _ g1)), rfl, k H4 (Same.refl _)⟩
    · refine ⟨_, _, _, _, rfl, rfl, S6 _ _ e1, e6, ?_, fun l hl => ?_⟩
      · rw [List.length_map, List.length_map, List.length_map]
        exact Nat.le_of_lt (small1000 (by omega))
      · exact q l _ ((S1.trans S6).trans (same_new hl)) ((S1.trans S6).free hl) (by rw [upd_same, List.map_append])
end
end S1

set_option Elab.async false
set_option linter.all false
set_option maxRecDepth 100000
set_option maxHeartbeats 4000000
/-! good arguments are let by -/
namespace S1
open PySem PySem.W PySem.Spec PyProof.Rows L2
section
variable {X : Cx}
/-- if c: ..., where c is known to be False -/
def tIfNo (tc : TT) (u : TS) : TS := fun D σ H => tc σ H fun b H1 => b = false ∧ u D σ H1
theorem ps_ifNo {c : Expr} {p q : List Stmt} {tc : TT} {u : TS} {pos : Pos} (hc : PT X c tc) (hb : PSs X q u) : PS X (.If c p q pos) (tIfNo tc u) := by
  refine ⟨fun pins s σ H D I h => ?_⟩
  refine wpAny_If (thn (hc.run pins s σ H _ I h) fun k s1 ⟨H1, I1, e, q1⟩ => ?_)
  subst e
  exact hb.run pins s1 σ H1 D I1 q1
end
def spFitsSaying : Sp := fun vs H Q _ => ∃ (v : V) (s : Say), vs = [v] ∧ DatS H v s ∧ SayOk 6 8 1024 40 s ∧ ∀ H', Same H H' → Q (.bl (decide (copies s.owns ≤ 120))) H'
def spFitsClause : Sp := fun vs H Q _ => ∃ (v u : V) (s : Say) (cl : List Ltr), vs = [v, u] ∧ DatS H v s ∧ Dat H u (clD cl) ∧ SayOk 6 8 120 40 s ∧ ClOk s.names cl ∧ ∀ H', Same H H' → Q (.bl true) H'
def spFitsPlay : Sp := fun vs H Q _ => ∃ (v u : V) (s : Say) (bs : List Bool), vs = [v, u] ∧ DatS H v s ∧ Dat H u (blsD bs) ∧ SayOk 6 8 120 40 s ∧ bs.length = s.picks.length ∧ ∀ H', Same H H' → Q (.bl true) H'
theorem say_row {H : Hp} {v : V} {s : Say} (D : DatS H v s) : ∃ a p o c, v = .ref a ∧ H a = some (.tup [p, o, c]) ∧ Dat H p (nmsD s.picks) ∧ DatO H o s.owns ∧ Dat H c (.tuple (s.cls.map clD)) := D
theorem SayOk.nm {a b c d : Nat} {s : Say} (h : SayOk a b c d s) : ∀ x ∈ s.names, Nm x := fun x hx => by
  rcases List.mem_append.mp hx with y | y
  · exact h.pn x y
  · obtain ⟨o, ho, rfl⟩ := List.mem_map.mp y
    exact (h.on o ho).1
theorem SayOk.nlen {c d : Nat} {s : Say} (h : SayOk 6 8 c d s) : s.names.length ≤ 14 := by
  have h1 := h.pl
  have h2 := h.ol
  show (s.picks ++ s.owns.map Prod.fst).length ≤ 14
  rw [List.length_append, List.length_map]
  omega
section
variable {P : Program} {w : World} {K : PySem.W.Frag} {mg : Str → Option Value} {base : Heap}
theorem scFitsSaying : FnScope ["value", "picks", "owns", "clauses"] ["value"] (defScope sFitsSaying) := ⟨rfl, rfl, rfl, by decide +kernel, rfl, by decide +kernel, by decide +kernel⟩
theorem g_fitsSaying (e : Env1 K mg) : Good P w K mg base 6 "fits_saying" sFitsSaying ["value"] spFitsSaying := by
  obtain ⟨f, fd, h⟩ := e.Y.fitsSaying
  obtain ⟨fA, fdA, An, GA⟩ := g_areNames (P := P) (w := w) (base := base) e
  obtain ⟨fO, fdO, Ow, GO⟩ := g_areOwns (P := P) (w := w) (base := base) e
  obtain ⟨fC, fdC, Cl, GC⟩ := g_areClauses (P := P) (w := w) (base := base) e
  obtain ⟨fN, fdN, No, GN⟩ := g_namesOf (P := P) (w := w) (base := base) e
  obtain ⟨t1, c1⟩ := e.C.picks
  refine ⟨f, fd, h, ?_⟩
  refine h.F.ok scFitsSaying (fun vs H Q E h => ?_) (fun cdv A outer s H vs Q E hr h => ?_)
  · obtain ⟨v, sy, rfl, _⟩ := h
    rfl
  · obtain ⟨v, sy, rfl, D, ok, q⟩ := h
    have hr1 := hr.mono (show 1 ≤ 5 by decide)
    have hr2 := hr.mono (show 2 ≤ 5 by decide)
    refine ⟨_, pss_cons (ps_if (PW.pt (pw_or (pt_not (pt_val (pe_callB call_isi (by rfl) e.B.isi (by decide +kernel) (pa_cons (pv 0) (pa_cons (pe_bltn (v := V.ty "tuple") (by rfl) e.B.tuple (by decide +kernel) rfl) pa_nil)))))
        (pw_or1 (pt_cmpR op_ne (pe_callB call_len_seq (by rfl) e.B.len (by decide +kernel) (pa_cons (pv 0) pa_nil)) pe_int (nomark _))))) (pss_one (ps_ret pe_bl)) pss_nil)
      (pss_cons (ps_asg (pv 0) (pg_tup rfl (pgs_cons (pg_name (i := 1) scFitsSaying.nd rfl (.inl rfl)) (pgs_cons (pg_name (i := 2) scFitsSaying.nd rfl (.inl rfl)) (pgs_cons (pg_name (i := 3) scFitsSaying.nd rfl (.inl rfl)) pgs_nil)))))
      (pss_cons (ps_if (PW.pt (pw_or (pt_not (pt_val (pe_call GA hr2 rfl An.g An.F.kp An.b .nil pass0 (pa_cons (pv 1) (pa_cons (pe_glob (v := V.int 6) rfl c1 ⟨_, rfl⟩) pa_nil)))))
        (pw_or1 (pt_not (pt_val (pe_call GO hr rfl Ow.g Ow.F.kp Ow.b .nil pass0 (pa_cons (pv 2) (pa_cons (pv 1) pa_nil)))))))) (pss_one (ps_ret pe_bl)) pss_nil)
      (pss_one (ps_ret (pe_call GC hr rfl Cl.g Cl.F.kp Cl.b .nil pass0 (pa_cons (pv 3) (pa_cons (pe_call GN hr1 rfl No.g No.F.kp No.b .nil pass0 (pa_cons (pv 1) (pa_cons (pv 2) pa_nil))) pa_nil))))))), ?_⟩
    obtain ⟨a, p, o, c, rfl, ea, Dp, Do, Dc⟩ := say_row D
    refine ⟨_, rfl, _, _, _, _, true, rfl, .ty _, .base (.tup ea), kit_ty (by decide +kernel), true, rfl, ?_⟩
    show if (!true) = true then _ else _
    rw [if_neg (by decide)]
    refine ⟨_, rfl, _, _, rfl, .inr (SqT.of ea), rfl, _, rfl, iteNS rfl ?_⟩
    refine ⟨_, rfl, a, _, rfl, SqT.of ea, rfl, _, _, rfl, _, _, rfl, _, _, rfl, rfl, ?_⟩
    have lp := ok.pl
    have lo := ok.ol
    refine ⟨_, rfl, p, sy.picks, 6, rfl, Dp, ok.pu, ok.pn, by omega, by omega, fun H1 S1 => ⟨true, rfl, ?_⟩⟩
    show if (!true) = true then _ else _
    rw [if_neg (by decide)]
    refine ⟨_, rfl, _, rfl, o, p, sy.owns, sy.picks, rfl, Do.same S1, Dp.same S1, fun x hx => ok.own hx, ok.ou, lo, ok.oc, by omega, fun H2 S2 => ⟨_, rfl, ?_⟩⟩
    have S12 := S1.trans S2
    by_cases hcop : copies sy.owns ≤ 120
    · rw [decide_eq_true hcop] at q ⊢
      show if (!true) = true then _ else _
      rw [if_neg (by decide)]
      refine ⟨_, rfl, _, rfl, _, rfl, p, o, sy.picks, sy.owns, rfl, Dp.same S12, Do.same S12, by omega, by omega, fun l H3 S3 _ el => ?_⟩
      have S13 := S12.trans S3
      have nl := ok.nlen
      exact ⟨c, l, sy.cls, sy.names, rfl, Dc.same S13, el, ok.ck, ok.nm, by omega, ok.cl, ok.cu, fun H4 S4 => q H4 (S13.trans S4)⟩
    · rw [decide_eq_false hcop] at q ⊢
      show if (!false) = true then _ else _
      rw [if_pos (by decide)]
      exact q H2 S12
end
end S1

set_option Elab.async false
set_option linter.all false
set_option maxRecDepth 100000
set_option maxHeartbeats 4000000
/-! the checks ahead of each function let good arguments by -/
namespace S1
open PySem PySem.W PySem.Spec PyProof.Rows L2
structure Wnt (K : PySem.W.Frag) (mg : Str → Option Value) : Prop where
  saying : There K mg "want_saying" sWantSaying ["saying"]
def spWantSaying : Sp := fun vs H Q _ => ∃ (v : V) (s : Say), vs = [v] ∧ DatS H v s ∧ SayOk 6 8 120 40 s ∧ ∀ H', Same H H' → Q .non H'
def spWantClause : Sp := fun vs H Q _ => ∃ (v u : V) (s : Say) (cl : List Ltr), vs = [v, u] ∧ DatS H v s ∧ Dat H u (clD cl) ∧ SayOk 6 8 120 40 s ∧ ClOk s.names cl ∧ ∀ H', Same H H' → Q .non H'
def spWantPlay : Sp := fun vs H Q _ => ∃ (v u : V) (s : Say) (bs : List Bool), vs = [v, u] ∧ DatS H v s ∧ Dat H u (blsD bs) ∧ SayOk 6 8 120 40 s ∧ bs.length = s.picks.length ∧ ∀ H', Same H H' → Q .non H'
def spWantOwn : Sp := fun vs H Q _ => ∃ (v : V) (s : Say) (o : Own), vs = [v, .str o.1] ∧ DatS H v s ∧ SayOk 6 8 120 40 s ∧ o ∈ s.owns ∧ ∀ H', Same H H' → Q .non H'
section
variable {P : Program} {w : World} {K : PySem.W.Frag} {mg : Str → Option Value} {base : Heap}
theorem scWantSaying : FnScope ["saying"] ["saying"] (defScope sWantSaying) := ⟨rfl, rfl, rfl, by decide +kernel, rfl, by decide +kernel, by decide +kernel⟩
theorem g_wantSaying (e : Env1 K mg) (Wn : Wnt K mg) : Good P w K mg base 7 "want_saying" sWantSaying ["saying"] spWantSaying := by
  obtain ⟨f, fd, h⟩ := Wn.saying
  obtain ⟨fA, fdA, An, GA⟩ := g_fitsSaying (P := P) (w := w) (base := base) e
  refine ⟨f, fd, h, ?_⟩
  refine h.F.ok scWantSaying (fun vs H Q E h => ?_) (fun cdv A outer s H vs Q E hr h => ?_)
  · obtain ⟨v, sy, rfl, _⟩ := h
    rfl
  · obtain ⟨v, sy, rfl, D, ok, q⟩ := h
    refine ⟨_, pss_one (ps_if (pt_not (pt_val (pe_call GA hr rfl An.g An.F.kp An.b .nil pass0 (pa_cons (pv 0) pa_nil)))) pss_never pss_nil), ?_⟩
    refine ⟨_, rfl, v, sy, rfl, D, ⟨ok.pu, ok.pn, ok.pl, ok.ou, ok.on, ok.ol, Nat.le_trans ok.oc (by decide), ok.cu, ok.ck, ok.cl⟩, fun H' S => ⟨_, rfl, ?_⟩⟩
    rw [decide_eq_true ok.oc]
    show if (!true) = true then _ else _
    rw [if_neg (by decide)]
    exact q H' S
end
end S1

set_option Elab.async false
set_option linter.all false
set_option maxRecDepth 100000
set_option maxHeartbeats 4000000
/-! good names of owns and picks are let by -/
namespace S1
open PySem PySem.W PySem.Spec PyProof.Rows L2
structure Wnt2 (K : PySem.W.Frag) (mg : Str → Option Value) : Prop where
  own : There K mg "want_own" sWantOwn ["saying", "name"]
  pick : There K mg "want_pick" sWantPick ["saying", "pick"]
def spWantPick : Sp := fun vs H Q _ => ∃ (v : V) (s : Say) (x : Str), vs = [v, .str x] ∧ DatS H v s ∧ SayOk 6 8 120 40 s ∧ x ∈ s.picks ∧ ∀ H', Same H H' → Q .non H'
section
variable {P : Program} {w : World} {K : PySem.W.Frag} {mg : Str → Option Value} {base : Heap}
theorem scWantOwn : FnScope ["saying", "name", "own"] ["saying", "name"] (defScope sWantOwn) := ⟨rfl, rfl, rfl, by decide +kernel, rfl, by decide +kernel, by decide +kernel⟩
theorem scWantPick : FnScope ["saying", "pick"] ["saying", "pick"] (defScope sWantPick) := ⟨rfl, rfl, rfl, by decide +kernel, rfl, by decide +kernel, by decide +kernel⟩
theorem g_wantOwn (e : Env1 K mg) (W2 : Wnt2 K mg) : Good P w K mg base 2 "want_own" sWantOwn ["saying", "name"] spWantOwn := by
  obtain ⟨f, fd, h⟩ := W2.own
  obtain ⟨fN, fdN, Nn, GN⟩ := g_isName (P := P) (w := w) (base := base) e
  refine ⟨f, fd, h, ?_⟩
  refine h.F.ok scWantOwn (fun vs H Q E h => ?_) (fun cdv A outer s H vs Q E hr h => ?_)
  · obtain ⟨v, sy, o, rfl, _⟩ := h
    rfl
  · obtain ⟨v, sy, o, rfl, D, ok, ho, q⟩ := h
    refine ⟨_, pss_one (ps_if (PW.pt (pw_or (pt_not (pt_val (pe_call GN hr rfl Nn.g Nn.F.kp Nn.b .nil pass0 (pa_cons (pv 1) pa_nil))))
      (pw_or1 (pt_cmpR op_notIn_seq (pv 1) (pe_lc (own := [("own", 2)]) (g := gName 2) (tt := tYes) (te := tOp (rIxT K) (tVar 2) (tC (V.int 0))) rfl scWantOwn.nd (pi_tup (pe_ix ix_tup (pv 0) pe_int (fun _ _ => rfl)))
          (blkOk_by (N := ["saying", "name", "own"]) (sc := defScope sWantOwn) (by decide +kernel)) (fun _ _ _ _ _ => pg_name (i := 2) scWantOwn.nd rfl (Or.inl rfl)) (fun _ _ _ _ _ => pts_nil)
          (fun _ _ _ _ _ => by exact pe_ix ix_tup (pv 2) pe_int (fun _ _ => rfl))) (by with_unfolding_all rfl))))) pss_never pss_nil), ?_⟩
    obtain ⟨a, p, ov, c, rfl, ea, Dp, Do, Dc⟩ := say_row D
    obtain ⟨b, us, rfl, eb, Db⟩ := Do
    have lu : us.length = sy.owns.length := by rw [Db.len, List.length_map]
    have lo := ok.ol
    refine ⟨_, rfl, o.1, rfl, (ok.own ho).n, fun H1 S1 => ⟨true, rfl, ?_⟩⟩
    show if (!true) = true then _ else _
    rw [if_neg (by decide)]
    refine ⟨_, rfl, _, rfl, a, _, 1, _, rfl, rfl, SqT.of (S1 _ _ ea), rfl, b, rfl, ⟨_, FT.sq (FT.same eb S1)⟩, fun D1 hD1 => lc_mapT (K := K) (ys := (sy.owns.map Prod.fst).map V.str) (FT.sq (FT.same eb S1)) hD1 (by rw [List.length_map, List.length_map, lu]) (by omega) (fun i x y H4 Qe hx hy S4 k => ?_) gName_mono (fun H6 e6 S6 => ?_)⟩
    · obtain ⟨d, hd, Dx⟩ := dats_get' Db i x hx
      obtain ⟨o', ho', rfl⟩ := get_map hd
      obtain ⟨t, rfl⟩ := tuple_ref (ds := [.str o'.1, nmsD o'.2]) Dx
      obtain ⟨t', g1, _⟩ := own_row (q := (t, ownD o')) rfl Dx
      have ey : y = V.str o'.1 := by
        rw [List.getElem?_map, List.getElem?_map, ho'] at hy
        exact (Option.some.inj hy).symm
      rw [ey] at k
      exact ⟨rfl, _, rfl, t, _, 0, _, rfl, rfl, SqT.of (S4 _ _ (S1 _ _ g1)), rfl, k H4 (Same.refl _)⟩
    · refine ⟨D1, _, rfl, .inl (SqL.of e6), rfl, flat_strs _, _, rfl, ?_⟩
      show if (!inV (V.str o.1) ((sy.owns.map Prod.fst).map V.str)) = true then _ else _
      rw [inV_str, decide_eq_true (List.mem_map_of_mem ho), if_neg (by decide)]
      exact q H6 (S1.trans S6)
theorem g_wantPick (e : Env1 K mg) (W2 : Wnt2 K mg) : Good P w K mg base 2 "want_pick" sWantPick ["saying", "pick"] spWantPick := by
  obtain ⟨f, fd, h⟩ := W2.pick
  obtain ⟨fN, fdN, Nn, GN⟩ := g_isName (P := P) (w := w) (base := base) e
  refine ⟨f, fd, h, ?_⟩
  refine h.F.ok scWantPick (fun vs H Q E h => ?_) (fun cdv A outer s H vs Q E hr h => ?_)
  · obtain ⟨v, sy, o, rfl, _⟩ := h
    rfl
  · obtain ⟨v, sy, x, rfl, D, ok, hx, q⟩ := h
    refine ⟨_, pss_one (ps_if (PW.pt (pw_or (pt_not (pt_val (pe_call GN hr rfl Nn.g Nn.F.kp Nn.b .nil pass0 (pa_cons (pv 1) pa_nil))))
      (pw_or1 (pt_cmpR op_notIn_seq (pv 1) (pe_ix ix_tup (pv 0) pe_int (fun _ _ => rfl)) (by with_unfolding_all rfl))))) pss_never pss_nil), ?_⟩
    obtain ⟨a, p, ov, c, rfl, ea, Dp, Do, Dc⟩ := say_row D
    obtain ⟨b, us, rfl, eb, Db⟩ := dat_tup (ds := sy.picks.map PyData.str) Dp
    cases dats_strs_eq Db
    refine ⟨_, rfl, x, rfl, ok.pn x hx, fun H1 S1 => ⟨true, rfl, ?_⟩⟩
    show if (!true) = true then _ else _
    rw [if_neg (by decide)]
    refine ⟨_, rfl, _, rfl, a, _, 0, _, rfl, rfl, SqT.of (S1 _ _ ea), rfl, b, _, rfl, .inr (SqT.of (S1 _ _ eb)), rfl, flat_strs _, _, rfl, ?_⟩
    show if (!inV (V.str x) (sy.picks.map V.str)) = true then _ else _
    rw [inV_str, decide_eq_true hx, if_neg (by decide)]
    exact q H1 S1
end
end S1

set_option Elab.async false
set_option linter.all false
set_option maxRecDepth 100000
set_option maxHeartbeats 2000000
/-! dicts keyed by tuples of texts, numbers, truths and such tuples -/
namespace L2
open PySem PySem.W PySem.Spec PyProof.Rows
abbrev DRow := TRow × V
/-- the rows of the layer, and the entries -/
abbrev KN : List DRow → List (NestedKey × Addr × Value) → Prop := Paired fun p q => q.1 = nkey p.1.2 ∧ q.2.1 = p.1.1 ∧ RelV p.2 q.2.2
def lookN (D : List DRow) (d : PyData) : Option V := (D.find? fun p => decide (nkey p.1.2 = nkey d)).map (·.2)
def putN (D : List DRow) (r : TRow) (v : V) : List DRow := if (lookN D r.2).isSome then D.map fun p => if nkey p.1.2 = nkey r.2 then (p.1, v) else p else D ++ [(r, v)]
theorem putN_new {D : List DRow} {r : TRow} {v : V} (h : lookN D r.2 = none) : putN D r v = D ++ [(r, v)] := by simp [putN, h]
theorem putN_old {D : List DRow} {r : TRow} {v x : V} (h : lookN D r.2 = some x) : putN D r v = D.map fun p => if nkey p.1.2 = nkey r.2 then (p.1, v) else p := by simp [putN, h]
theorem putN_len (D : List DRow) (r : TRow) (v : V) : (putN D r v).length ≤ D.length + 1 := by
  unfold putN
  split
  · rw [List.length_map]; omega
  · rw [List.length_append]; exact Nat.le_refl _
theorem lookN_cons (p : DRow) (D : List DRow) (d : PyData) : lookN (p :: D) d = if nkey p.1.2 = nkey d then some p.2 else lookN D d := by
  unfold lookN
  rw [List.find?_cons]
  by_cases h : nkey p.1.2 = nkey d
  · rw [if_pos h, decide_eq_true h]; rfl
  · rw [if_neg h, decide_eq_false h]
theorem lookN_none {D : List DRow} {d : PyData} : lookN D d = none ↔ ∀ p ∈ D, nkey p.1.2 ≠ nkey d := by
  induction D with
  | nil => exact ⟨fun _ p hp => absurd hp (by simp), fun _ => rfl⟩
  | cons p D ih =>
    rw [lookN_cons]
    by_cases h : nkey p.1.2 = nkey d
    · rw [if_pos h]
      exact ⟨fun z => (nomatch z), fun z => absurd h (z p List.mem_cons_self)⟩
    · rw [if_neg h, ih]
      exact ⟨fun z q hq => by
        rcases List.mem_cons.mp hq with rfl | hq
        · exact h
        · exact z q hq, fun z q hq => z q (List.mem_cons_of_mem _ hq)⟩
theorem KN.val {D : List DRow} {xs : List (NestedKey × Addr × Value)} (r : KN D xs) (d : PyData) : RelO (lookN D d) ((atKey xs (nkey d)).map (·.2)) := by
  induction r with
  | nil => exact trivial
  | @cons p q ps qs h t ih =>
    rw [lookN_cons]
    have e : atKey (q :: qs) (nkey d) = if nkey p.1.2 = nkey d then some q.2 else atKey qs (nkey d) := by
      unfold atKey
      rw [List.find?_cons, h.1]
      by_cases z : nkey p.1.2 = nkey d
      · rw [if_pos z, decide_eq_true z]; rfl
      · rw [if_neg z, decide_eq_false z]
    rw [e]
    by_cases z : nkey p.1.2 = nkey d
    · rw [if_pos z, if_pos z]
      exact h.2.2
    · rw [if_neg z, if_neg z]
      exact ih
theorem KN.repl {D : List DRow} {xs : List (NestedKey × Addr × Value)} (r : KN D xs) (d : PyData) {v : V} {u : Value} (rv : RelV v u) :
    KN (D.map fun p => if nkey p.1.2 = nkey d then (p.1, v) else p) (xs.map (putAt (nkey d) u)) := by
  induction r with
  | nil => exact .nil
  | @cons p q ps qs h t ih =>
    refine .cons ?_ ih
    unfold putAt
    dsimp only
    rw [h.1]
    by_cases z : nkey p.1.2 = nkey d
    · rw [if_pos z, if_pos z]
      exact ⟨rfl, h.2.1, rv⟩
    · rw [if_neg z, if_neg z]
      exact h
theorem KN.app {D E : List DRow} {xs ys : List (NestedKey × Addr × Value)} (r : KN D xs) (t : KN E ys) : KN (D ++ E) (xs ++ ys) := by
  induction r with
  | nil => exact t
  | cons h _ ih => exact .cons h ih
theorem KN.put {D : List DRow} {xs : List (NestedKey × Addr × Value)} (r : KN D xs) (k : TRow) {v : V} {u : Value} (rv : RelV v u) : KN (putN D k v) (storedH xs (nkey k.2) k.1 u) := by
  have z := (r.val k.2).isSome_eq
  rw [Option.isSome_map] at z
  unfold putN storedH
  rw [z]
  by_cases h : (atKey xs (nkey k.2)).isSome = true
  · rw [if_pos h, if_pos h]
    exact r.repl k.2 rv
  · rw [if_neg h, if_neg h]
    exact r.app (.cons ⟨rfl, rfl, rv⟩ .nil)
/-- the dict's object alone -/
def RawN (w : World) (a : Addr) (D : List DRow) (h : Heap) : Prop := ∃ xs o es ep, KN D xs ∧ h.get? a = some o ∧ o.ExactDict ∧ o.data = .dict es ep ∧ es.toList = xs.map (fun x => (⟨x.1.hash w, .ref x.2.1, x.2.2⟩ : DictEntry)) ∧ (xs.map (·.1)).Nodup ∧ D.length ≤ sizeLine ∧ (a == sysModules) = false
def DnO (w : World) (a : Addr) (D : List DRow) : HO := .ext (RawN w a D)
theorem dn_ok {P : Program} {w : World} {H : Hp} {h : Heap} {a : Addr} {D : List DRow} (r : RawN w a D h) : ObjOk P w H h a (DnO w a D) := by
  have ⟨xs, o, es, ep, r1, r2, r3, r4, r5, r6, r7, r8⟩ := r
  exact ⟨r, ⟨o, r2⟩, fun h1 h2 ⟨xs, o, es, ep, q1, q2, q3, q4, q5, q6, q7, q8⟩ k => ⟨xs, o, es, ep, q1, k _ q2, q3, q4, q5, q6, q7, q8⟩⟩
/-- a dict stands at a with the rows D (the empty one may still be of no kind) -/
def DnAt (w : World) (H : Hp) (a : Addr) (D : List DRow) : Prop := H a = some (DnO w a D) ∨ (H a = some (.dK []) ∧ D = [])
def KeysAt (H : Hp) (D : List DRow) : Prop := ∀ p ∈ D, Dat H p.1.v p.1.2 ∧ keyable p.1.2 = true ∧ p.1.2.depth ≤ 8
theorem DnAt.same {w : World} {H H' : Hp} {a : Addr} {D : List DRow} (h : DnAt w H a D) (S : Same H H') : DnAt w H' a D := by
  rcases h with h | ⟨h, e⟩
  · exact .inl (S _ _ h)
  · exact .inr ⟨S _ _ h, e⟩
theorem KeysAt.same {H H' : Hp} {D : List DRow} (h : KeysAt H D) (S : Same H H') : KeysAt H' D := fun p hp => ⟨(h p hp).1.same S, (h p hp).2⟩
section
variable {X : Cx} {pins : List (Addr × Obj)} {σ : L2.St} {H : Hp} {s : Shared} {a : Addr} {D : List DRow}
theorem key_at {r : Addr} {d : PyData} {h : Heap} {P : Program} {w : World} (ok : HOk P w H h) (D : Dat H (.ref r) d) (k : keyable d = true) (dp : d.depth ≤ 8) : (nestedKind P w).is h (nkey d) r := by
  obtain ⟨as, R⟩ := reads_of_dat ok D (show RelV (.ref r) (Value.ref r) from rfl)
  exact ⟨nkey_is d _ as k R, by rw [nkey_depth d k]; exact dp⟩
theorem kn_keys {h : Heap} {P : Program} {w : World} (ok : HOk P w H h) {D : List DRow} {xs : List (NestedKey × Addr × Value)} (r : KN D xs) (kk : KeysAt H D) : ∀ x ∈ xs, (nestedKind P w).is h x.1 x.2.1 := by
  induction r with
  | nil => exact fun x hx => absurd hx (by simp)
  | @cons p q ps qs hq t ih =>
    intro x hx
    rcases List.mem_cons.mp hx with rfl | hx
    · obtain ⟨D1, k1, dp⟩ := kk p List.mem_cons_self
      rw [hq.1, hq.2.1]
      exact key_at ok D1 k1 dp
    · exact ih (fun p hp => kk p (List.mem_cons_of_mem _ hp)) x hx
theorem dn_of {h : Heap} {P : Program} {w : World} (ok : HOk P w H h) (e : DnAt w H a D) (kk : KeysAt H D) : ∃ xs, KN D xs ∧ h.DictOfH (nestedKind P w) a xs ∧ xs.length ≤ sizeLine ∧ (a == sysModules) = false := by
  rcases e with e | ⟨e, rfl⟩
  · obtain ⟨⟨xs, o, es, ep, r1, r2, r3, r4, r5, r6, r7, r8⟩, _⟩ := (show ObjOk P w H h a (DnO w a D) from ok a _ e)
    exact ⟨xs, r1, ⟨o, es, ep, r2, r3, r4, r5, kn_keys ok r1 kk, r6⟩, by rw [← Paired.length r1]; exact r7, r8⟩
  · obtain ⟨z, hd, vs, rel, dd⟩ := dk_of ok e
    have e0 : vs = [] := by
      have := rel.length
      exact List.length_eq_zero_iff.mp this.symm
    subst e0
    obtain ⟨o, es, ep, h1, h2, h3, _, h4, _⟩ := dd
    have e1 : es.toList = [] := by
      cases hh : es.toList with
      | nil => rfl
      | cons x l => rw [hh] at h4; cases h4
    exact ⟨[], .nil, ⟨o, es, ep, h1, h2, h3, e1, fun x hx => absurd hx (by simp), List.nodup_nil⟩, Nat.zero_le _, hd⟩
theorem DnAt.mut {w : World} (e : DnAt w H a D) : Mut (H a) := by
  rcases e with e | ⟨e, _⟩ <;> rw [e] <;> exact True.intro
theorem dn_setItem {A : Around} {E : Value → Shared → Prop} {r : Addr} {d : PyData} {v : V} {u : Value} {Q : Unit → Shared → Prop} (hu : A.units + 16 < cLine) (I : Inv X pins σ H s) (e : DnAt X.w H a D) (kk : KeysAt H D) (Dr : Dat H (.ref r) d) (kd : keyable d = true) (dp : d.depth ≤ 8)
    (rv : RelV v u) (hl : D.length < sizeLine) (h : ∀ s', Inv X pins σ (upd H a (DnO X.w a (putN D (r, d) v))) s' → Q () s') : wpAny (model X.prog X.w) A (setItem (.ref a) (.ref r) u) Q E s := by
  obtain ⟨xs, rel, dd, hz, hd⟩ := dn_of I.hok e kk
  refine wpAny_setItem_heap (hsz := hz) (show A.in1.units + 8 < cLine by rw [Around.in1_units]; omega) (key_at I.hok Dr kd dp) dd fun h' dd' hs => h _ ?_
  obtain ⟨q, es, ep, hq, h2, h3, h4, _, h5⟩ := dd'
  exact d_write I e.mut hs ⟨q, hq⟩ (dn_ok ⟨_, q, es, ep, rel.put (r, d) rv, hq, h2, h3, h4, h5, Nat.le_trans (putN_len _ _ _) hl, hd⟩)
end
section
variable {X : Cx}
def rInN (f : Bool → Bool) (w : World) : R2 := fun x y H Q => ∃ r a D d, x = .ref r ∧ y = .ref a ∧ DnAt w H a D ∧ KeysAt H D ∧ Dat H (.ref r) d ∧ keyable d = true ∧ d.depth ≤ 8 ∧ Q (.bl (f (lookN D d).isSome)) H
theorem op_inN (hu : X.A.units + 16 < cLine) : OpR X (compareOp .In) (rInN id X.w) := by
  intro pins s σ H x y v u Q I rx ry h
  obtain ⟨r, a, D, d, rfl, rfl, e, kk, Dr, kd, dp, q⟩ := h
  cases rx; cases ry
  obtain ⟨xs, rel, dd, hz, hd⟩ := dn_of I.hok e kk
  refine wpAny_in_heap (show X.A.in1.units + 8 < cLine by rw [Around.in1_units]; omega) (key_at I.hok Dr kd dp) hd dd ?_
  have z := (rel.val d).isSome_eq
  rw [Option.isSome_map] at z
  rw [← z]
  exact ⟨.bl _, H, I.tok _, rfl, q⟩
theorem op_notInN (hu : X.A.units + 16 < cLine) : OpR X (compareOp .NotIn) (rInN not X.w) := by
  intro pins s σ H x y v u Q I rx ry h
  obtain ⟨r, a, D, d, rfl, rfl, e, kk, Dr, kd, dp, q⟩ := h
  cases rx; cases ry
  obtain ⟨xs, rel, dd, hz, hd⟩ := dn_of I.hok e kk
  refine wpAny_notIn_heap (show X.A.in1.units + 8 < cLine by rw [Around.in1_units]; omega) (key_at I.hok Dr kd dp) hd dd ?_
  have z := (rel.val d).isSome_eq
  rw [Option.isSome_map] at z
  rw [← z]
  exact ⟨.bl _, H, I.tok _, rfl, q⟩
/-- d[y] = v -/
def sNPut (w : World) (td ty tv : TE) : TS := fun Dn σ H => tv σ H fun v H1 => td σ H1 fun x H2 => ty σ H2 fun y H3 => ∃ a r D d, x = .ref a ∧ y = .ref r ∧ DnAt w H3 a D ∧ KeysAt H3 D ∧ Dat H3 (.ref r) d ∧ keyable d = true ∧ d.depth ≤ 8 ∧ D.length < sizeLine ∧
  Dn.nx σ (upd H3 a (DnO w a (putN D (r, d) v)))
theorem ps_nput {o i value : Expr} {td ty tv : TE} {pos pos' : Pos} (hu : X.A.units + 16 < cLine) (ho : PE X o td) (hi : PE X i ty) (hv : PE X value tv) (hs : swapsWith value (some (.Subscript o i pos')) pos.line X.env = pure false) :
    PS X (.Assign [.Subscript o i pos'] value pos) (sNPut X.w td ty tv) := by
  refine ⟨fun pins s σ H D I h => ?_⟩
  refine wpAny_Assign_Subscript (thn (hv.run pins s σ H _ I h) fun r s1 ⟨v, H1, I1, rv, q1⟩ => thn (ho.run pins s1 σ H1 _ I1 q1) fun u s2 ⟨x, H2, I2, rx, q2⟩ => thn (hi.run pins s2 σ H2 _ I2 q2) fun iv s3 ⟨y, H3, I3, ry, a, r', D', d, ex, ey, e, kk, Dr, kd, dp, hl, q3⟩ => ?_) hs
  subst ex ey
  cases rx; cases ry
  exact dn_setItem hu I3 e kk Dr kd dp rv hl fun s4 I4 => ⟨σ, _, I4, q3⟩
/-- d[y], there -/
def tNGet (w : World) (td ty : TE) : TE := fun σ H Q => td σ H fun x H1 => ty σ H1 fun y H2 => ∃ a r D d v, x = .ref a ∧ y = .ref r ∧ DnAt w H2 a D ∧ KeysAt H2 D ∧ Dat H2 (.ref r) d ∧ keyable d = true ∧ d.depth ≤ 8 ∧ lookN D d = some v ∧ Q v H2
theorem pe_nget {o i : Expr} {td ty : TE} {pos : Pos} (hu : X.A.units + 16 < cLine) (ho : PE X o td) (hi : PE X i ty) (hs : NoSl i) : PE X (.Subscript o i pos) (tNGet X.w td ty) := by
  refine ⟨fun pins s σ H Q I h => ?_⟩
  refine subD_of PySem.F.slot_dict_getitem.lookup hs (thn (ho.run pins s σ H _ I h) fun u s1 ⟨x, H1, I1, rx, q1⟩ => thn (hi.run pins s1 σ H1 _ I1 q1) fun iv s2 ⟨y, H2, I2, ry, a, r, D, d, v, ex, ey, e, kk, Dr, kd, dp, l, q2⟩ => ?_)
  subst ex ey
  cases rx; cases ry
  obtain ⟨xs, rel, dd, hz, hd⟩ := dn_of I2.hok e kk
  refine ⟨dd.typeIs, ?_⟩
  obtain ⟨w', hw, rw'⟩ := RelO.some_of (v := v) (o := (atKey xs (nkey d)).map (·.2)) (by rw [← l]; exact rel.val d)
  obtain ⟨p, hp, hp2⟩ := Option.map_eq_some_iff.mp hw
  refine wpAny_getItem_heap (show X.A.in1.units + 8 < cLine by rw [Around.in1_units]; omega) (key_at I2.hok Dr kd dp) dd hp ?_
  rw [hp2]
  exact ⟨v, H2, I2.tok _, rw', q2⟩
def rLenN (w : World) : List V → Hp → VK → Prop := fun vs H Q => ∃ a D, vs = [.ref a] ∧ DnAt w H a D ∧ KeysAt H D ∧ Q (.int ((D.length : Nat) : Int)) H
theorem call_lenN : CallR X (.builtin "len") (rLenN X.w) := by
  intro pins s σ H xs us Q I r h
  obtain ⟨a, D, rfl, e, kk, q⟩ := h
  rw [Vals.ref1 r]
  obtain ⟨ys, rel, dd, hz, hd⟩ := dn_of I.hok e kk
  have hl : D.length = ys.length := Paired.length rel
  have hs : sizeLine = 16777216 := sizeLine_eq
  refine call_len_dictH hd dd (by omega) ?_
  rw [← hl]
  exact ⟨.int _, H, I.tok _, ⟨_, rfl⟩, q⟩
end
end L2

set_option Elab.async false
set_option linter.all false
set_option maxRecDepth 100000
set_option maxHeartbeats 2000000
/-! t in ts, t a tuple, ts a row of tuples -/
namespace L2
open PySem PySem.W PySem.Spec PyProof.Rows
def inT (d : PyData) (T : List TRow) : Bool := T.any fun p => decide (nkey p.2 = nkey d)
section
variable {X : Cx}
open Classical in
noncomputable def hitT (d : PyData) (T : List TRow) (u : Value) : Bool := decide (∃ p ∈ T, TRow.r p = u ∧ nkey p.2 = nkey d)
theorem hit_any {H : Hp} {h : Heap} {P : Program} {w : World} (ok : HOk P w H h) {d : PyData} {T : List TRow} (kk : ∀ p ∈ T, Dat H p.v p.2 ∧ keyable p.2 = true ∧ p.2.depth ≤ 8) (p : TRow) (hp : p ∈ T) : hitT d T (TRow.r p) = decide (nkey p.2 = nkey d) := by
  unfold hitT
  by_cases z : nkey p.2 = nkey d
  · rw [decide_eq_true z, decide_eq_true_eq]
    exact ⟨p, hp, rfl, z⟩
  · rw [decide_eq_false z, decide_eq_false_iff_not]
    rintro ⟨q, hq, e, f⟩
    have e1 : q.1 = p.1 := by injection e
    obtain ⟨D1, k1, dp1⟩ := kk p hp
    obtain ⟨D2, k2, dp2⟩ := kk q hq
    have z1 := (key_at ok D1 k1 dp1).1
    have z2 := (key_at ok D2 k2 dp2).1
    rw [e1] at z2
    exact z ((NestedIs.inj _ _ _ z1 z2).trans f)
theorem any_hits {H : Hp} {h : Heap} {P : Program} {w : World} (ok : HOk P w H h) {d : PyData} {T : List TRow} (kk : ∀ p ∈ T, Dat H p.v p.2 ∧ keyable p.2 = true ∧ p.2.depth ≤ 8) : (T.map TRow.r).any (hitT d T) = inT d T := by
  unfold inT
  rw [List.any_map]
  rw [Bool.eq_iff_iff, List.any_eq_true, List.any_eq_true]
  constructor
  · rintro ⟨p, hp, e⟩
    rw [Function.comp, hit_any ok kk p hp] at e
    exact ⟨p, hp, e⟩
  · rintro ⟨p, hp, e⟩
    refine ⟨p, hp, ?_⟩
    rw [Function.comp, hit_any ok kk p hp]
    exact e
theorem eqs_T {H : Hp} {s : Shared} {P : Program} {w : World} (ok : HOk P w H s.heap) {r : Addr} {d : PyData} {T : List TRow} (kk : ∀ p ∈ T, Dat H p.v p.2 ∧ keyable p.2 = true ∧ p.2.depth ≤ 8) (Dr : Dat H (.ref r) d) (kd : keyable d = true) (dp : d.depth ≤ 8) :
    ∀ A : Around, A.units + 8 < cLine → ∀ w ∈ (T.map TRow.r), SeqAt.EqAt A s w (.ref r) (hitT d T w) := fun A hA w hw => by
  obtain ⟨p, hp, rfl⟩ := List.mem_map.mp hw
  obtain ⟨D1, k1, dp1⟩ := kk p hp
  have z1 := (key_at ok D1 k1 dp1)
  have z2 := (key_at ok Dr kd dp)
  rw [hit_any ok kk p hp]
  exact SeqAt.EqAt.cast (eqAt_key _ _ A s _ _ z1.1 z2.1 (by have := z1.2; omega)) (NestedKey.decide_eq _ _).symm
def rInT (K : PySem.W.Frag) (neg : Bool) : R2 := fun x y H Q => ∃ r a d T, x = .ref r ∧ y = .ref a ∧ (SqL K H a (T.map TRow.v) ∨ SqT K H a (T.map TRow.v)) ∧ (∀ p ∈ T, Dat H p.v p.2 ∧ keyable p.2 = true ∧ p.2.depth ≤ 8) ∧ Dat H (.ref r) d ∧ keyable d = true ∧ d.depth ≤ 8 ∧ Q (.bl (if neg then !inT d T else inT d T)) H
theorem op_inT (hu : X.A.units + 16 < cLine) : OpR X (compareOp .In) (rInT X.K false) := by
  intro pins s σ H x y v u Q I rx ry h
  obtain ⟨r, a, d, T, rfl, rfl, hq, kk, Dr, kd, dp, q⟩ := h
  cases rx; cases ry
  have eqs := eqs_T I.hok kk Dr kd dp (s := s)
  have h8 : X.A.in1.units + 8 < cLine := by rw [Around.in1_units]; omega
  rcases hq with hq | hq
  · obtain ⟨its, rv, pl, hz⟩ := I.list hq
    have e1 : its = T.map TRow.r := vals_rows rv
    subst e1
    refine SeqAt.in_listAt (hitT d T) pl.isList (fun w hw => eqs X.A.in1 h8 w (by simpa using hw)) ⟨.bl _, H, I, rfl, ?_⟩
    rw [show (T.map TRow.r).toArray.any (hitT d T) = (T.map TRow.r).any (hitT d T) by simp only [List.any_toArray], any_hits I.hok kk]
    exact q
  · obtain ⟨its, rv, pl, hz⟩ := I.tuple hq
    have e1 : its = T.map TRow.r := vals_rows rv
    subst e1
    refine SeqAt.in_tupleAt (hitT d T) pl (fun w hw => eqs X.A.in1 h8 w (by simpa using hw)) ⟨.bl _, H, I, rfl, ?_⟩
    rw [show (T.map TRow.r).toArray.any (hitT d T) = (T.map TRow.r).any (hitT d T) by simp only [List.any_toArray], any_hits I.hok kk]
    exact q
theorem op_notInT (hu : X.A.units + 16 < cLine) : OpR X (compareOp .NotIn) (rInT X.K true) := by
  intro pins s σ H x y v u Q I rx ry h
  obtain ⟨r, a, d, T, rfl, rfl, hq, kk, Dr, kd, dp, q⟩ := h
  cases rx; cases ry
  have eqs := eqs_T I.hok kk Dr kd dp (s := s)
  have h8 : X.A.in1.units + 8 < cLine := by rw [Around.in1_units]; omega
  rcases hq with hq | hq
  · obtain ⟨its, rv, pl, hz⟩ := I.list hq
    have e1 : its = T.map TRow.r := vals_rows rv
    subst e1
    refine SeqAt.notIn_listAt (hitT d T) pl.isList (fun w hw => eqs X.A.in1 h8 w (by simpa using hw)) ⟨.bl _, H, I, rfl, ?_⟩
    rw [show (T.map TRow.r).toArray.any (hitT d T) = (T.map TRow.r).any (hitT d T) by simp only [List.any_toArray], any_hits I.hok kk]
    exact q
  · obtain ⟨its, rv, pl, hz⟩ := I.tuple hq
    have e1 : its = T.map TRow.r := vals_rows rv
    subst e1
    refine SeqAt.notIn_tupleAt (hitT d T) pl (fun w hw => eqs X.A.in1 h8 w (by simpa using hw)) ⟨.bl _, H, I, rfl, ?_⟩
    rw [show (T.map TRow.r).toArray.any (hitT d T) = (T.map TRow.r).any (hitT d T) by simp only [List.any_toArray], any_hits I.hok kk]
    exact q
end
end L2

set_option Elab.async false
set_option linter.all false
set_option maxRecDepth 100000
set_option maxHeartbeats 4000000
/-! owns that see a pick; letters beside a letter -/
namespace S1
open PySem PySem.W PySem.Spec PyProof.Rows L2
section
variable {X : Cx}
def rNeP : R2 := fun x y H Q => ∃ d e, Dat H x d ∧ Dat H y e ∧ d.plain = true ∧ e.plain = true ∧ d.depth ≤ 8 ∧ Q (.bl (!PyData.eqv d e)) H
theorem op_neP (hu : X.A.units + 64 < cLine) : OpR X (compareOp .NotEq) rNeP := by
  intro pins s σ H x y v u Q I rx ry h
  obtain ⟨d, e, D1, D2, p1, p2, dp, q⟩ := h
  obtain ⟨as, R1⟩ := reads_of_dat I.hok D1 rx
  obtain ⟨bs, R2⟩ := reads_of_dat I.hok D2 ry
  exact PySem.SeqAt.ne_plain R1 R2 p1 p2 (by have := Nat.min_le_left d.depth e.depth; omega) ⟨.bl _, H, I, rfl, q⟩
end
section
variable {K : PySem.W.Frag} {a : Addr} {xs : List V} {F : V → Hp → (Hp → Prop) → Prop} {H0 : Hp} {Qd : Hp → Prop}
theorem turns_list (Pv : Nat → Hp → Prop) (h0 : Pv 0 H0) (hl : ∀ i H, i ≤ xs.length → Pv i H → SqL K H a xs) (hs : ∀ i x H, xs[i]? = some x → Pv i H → F x H (Pv (i + 1))) (hd : ∀ H, Pv xs.length H → Qd H) :
    ∃ W : Nat → Nat → Hp → Prop, (∃ m, W 0 m H0) ∧ ∀ i m H, W i m H →
      ((Itl K a).stop i H ∧ Qd H) ∨ ((Itl K a).go i H ∧ ∃ Nx : Hp → Prop, (∀ H', Nx H' → ∃ m', m' < m ∧ W (i + 1) m' H') ∧ ∀ x H', (Itl K a).yld i H x H' → F x H' Nx) := by
  refine ⟨fun i m H => m = xs.length - i ∧ i ≤ xs.length ∧ Pv i H, ⟨_, rfl, Nat.zero_le _, h0⟩, ?_⟩
  rintro i m H ⟨rfl, hi, p⟩
  have q := hl i H hi p
  by_cases lt : i < xs.length
  · refine .inr ⟨⟨xs, xs[i], q, List.getElem?_eq_getElem lt⟩, Pv (i + 1), fun H' p' => ⟨xs.length - (i + 1), by omega, rfl, lt, p'⟩, ?_⟩
    rintro x H' ⟨e, y⟩
    subst e
    exact hs i x _ (y xs q) p
  · have e : i = xs.length := by omega
    subst e
    exact .inl ⟨⟨xs, q, Nat.le_refl _⟩, hd H p⟩
theorem turns_tup (Pv : Nat → Hp → Prop) (h0 : Pv 0 H0) (hl : ∀ i H, i ≤ xs.length → Pv i H → SqT K H a xs) (hs : ∀ i x H, xs[i]? = some x → Pv i H → F x H (Pv (i + 1))) (hd : ∀ H, Pv xs.length H → Qd H) :
    ∃ W : Nat → Nat → Hp → Prop, (∃ m, W 0 m H0) ∧ ∀ i m H, W i m H →
      ((Itt K a).stop i H ∧ Qd H) ∨ ((Itt K a).go i H ∧ ∃ Nx : Hp → Prop, (∀ H', Nx H' → ∃ m', m' < m ∧ W (i + 1) m' H') ∧ ∀ x H', (Itt K a).yld i H x H' → F x H' Nx) := by
  refine ⟨fun i m H => m = xs.length - i ∧ i ≤ xs.length ∧ Pv i H, ⟨_, rfl, Nat.zero_le _, h0⟩, ?_⟩
  rintro i m H ⟨rfl, hi, p⟩
  have q := hl i H hi p
  by_cases lt : i < xs.length
  · refine .inr ⟨⟨xs, xs[i], q, List.getElem?_eq_getElem lt⟩, Pv (i + 1), fun H' p' => ⟨xs.length - (i + 1), by omega, rfl, lt, p'⟩, ?_⟩
    rintro x H' ⟨e, y⟩
    subst e
    exact hs i x _ (y xs q) p
  · have e : i = xs.length := by omega
    subst e
    exact .inl ⟨⟨xs, q, Nat.le_refl _⟩, hd H p⟩
end
def vw (s : Say) (x : Str) : List Str := (s.owns.filter fun o => decide (x ∈ o.2)).map Prod.fst
def besC (ws : List Str) (l : Ltr) (cl : List Ltr) : List Ltr := if l ∈ cl then cl.filter fun o => decide (o ≠ l) && decide (o.1 ∈ ws) else []
def bes (s : Say) (ws : List Str) (l : Ltr) : List Ltr := s.cls.flatMap (besC ws l)
theorem ltD_inj {a b : Ltr} (h : ltD a = ltD b) : a = b := by
  unfold ltD at h
  injection h with h
  injection h with h1 h2
  injection h1 with h1
  injection h2 with h2 _
  injection h2 with h2
  exact Prod.ext h1 h2
theorem nkey_lt {a b : Ltr} : nkey (ltD a) = nkey (ltD b) ↔ a = b :=
  ⟨fun h => ltD_inj (nkey_inj _ _ (keyable_lt a) (keyable_lt b) (alike_lt a b) h), fun h => by rw [h]⟩
theorem eqv_lt (a b : Ltr) : PyData.eqv (ltD a) (ltD b) = decide (a = b) := by
  obtain ⟨x, p⟩ := a
  obtain ⟨y, q⟩ := b
  by_cases h : x = y
  · subst h
    cases p <;> cases q <;> simp [ltD, PyData.eqv, PyData.eqvAll]
  · cases p <;> cases q <;> simp [ltD, PyData.eqv, PyData.eqvAll, h]
/-- letters in a row of letters -/
theorem inT_lt {T : List TRow} {cl : List Ltr} (e : T.map Prod.snd = cl.map ltD) (l : Ltr) : inT (ltD l) T = decide (l ∈ cl) := by
  unfold inT
  have e2 : (T.any fun p => decide (nkey p.2 = nkey (ltD l))) = (T.map Prod.snd).any fun d => decide (nkey d = nkey (ltD l)) := by rw [List.any_map]; rfl
  rw [e2, e, List.any_map]
  rw [Bool.eq_iff_iff, List.any_eq_true, decide_eq_true_eq]
  constructor
  · rintro ⟨o, ho, z⟩
    have z := of_decide_eq_true z
    rw [← nkey_lt.mp z]
    exact ho
  · intro h
    exact ⟨l, h, decide_eq_true rfl⟩
theorem bes_len (ws : List Str) (l : Ltr) (m : Nat) : ∀ cs : List (List Ltr), (∀ cl ∈ cs, cl.length ≤ m) → (cs.flatMap (besC ws l)).length ≤ m * cs.length
  | [], _ => Nat.zero_le _
  | cl :: cs, h => by
    have h1 := bes_len ws l m cs fun c hc => h c (List.mem_cons_of_mem _ hc)
    have h2 := h cl List.mem_cons_self
    have h3 : (besC ws l cl).length ≤ cl.length := by
      unfold besC
      split
      · exact List.length_filter_le _ _
      · exact Nat.zero_le _
    rw [List.flatMap_cons, List.length_append, List.length_cons, Nat.mul_succ]
    omega
def spViewers : Sp := fun vs H Q _ => ∃ (v : V) (s : Say) (x : Str), vs = [v, .str x] ∧ DatS H v s ∧ SayOk 6 8 120 40 s ∧ ∀ (l : Addr) (H' : Hp), Same H H' → H l = none → H' l = some (.lst ((vw s x).map V.str)) → Q (.ref l) H'
def spBeside : Sp := fun vs H Q _ => ∃ (v : V) (lv r : Addr) (s : Say) (ws : List Str) (lt : Ltr), vs = [v, .ref lv, .ref r] ∧ DatS H v s ∧ SayOk 6 8 120 40 s ∧ H lv = some (.lst (ws.map V.str)) ∧ Dat H (.ref r) (ltD lt) ∧
  ∀ (l : Addr) (T : List TRow) (H' : Hp), Same H H' → H l = none → H' l = some (.lst (T.map TRow.v)) → T.map Prod.snd = (bes s ws lt).map ltD → (∀ q ∈ T, Dat H' q.v q.2) → Q (.ref l) H'
section
variable {P : Program} {w : World} {K : PySem.W.Frag} {mg : Str → Option Value} {base : Heap}
abbrev nBs : List Str := ["saying", "viewers", "letter", "clause", "other"]
theorem scVw : FnScope ["saying", "pick", "name", "sight"] ["saying", "pick"] (defScope sViewersOf) := ⟨rfl, rfl, rfl, by decide +kernel, rfl, by decide +kernel, by decide +kernel⟩
theorem scBs : FnScope nBs ["saying", "viewers", "letter"] (defScope sBeside) := ⟨rfl, rfl, rfl, by decide +kernel, rfl, by decide +kernel, by decide +kernel⟩
theorem ok_viewersOf {f : Addr} {fd : FuncData} (F : Fun K "viewers_of" "viewers_of" sViewersOf f fd) : FnOk P w K mg base CX0 1 f fd ["saying", "pick"] spViewers := by
  refine F.ok scVw (fun vs H Q E h => ?_) (fun cdv A outer s H vs Q E hr h => ?_)
  · obtain ⟨v, sy, x, rfl, _⟩ := h
    rfl
  · obtain ⟨v, sy, x, rfl, D, ok, q⟩ := h
    refine ⟨_, pss_one (ps_ret (pe_lc (own := [("name", 2), ("sight", 3)]) (g := gTup K 2 (gCons (gName 2) (gCons (gName 3) gNil))) (tt := tTest (tOp (rIn K false) (tVar 1) (tVar 3))) (te := tVar 2) rfl scVw.nd (pi_tup (pe_ix ix_tup (pv 0) pe_int (fun _ _ => rfl))) (blkOk_by (N := ["saying", "pick", "name", "sight"]) (sc := defScope sViewersOf) (by decide +kernel))
        (fun _ _ _ _ _ => by exact pg_tup rfl (pgs_cons (pg_name (i := 2) scVw.nd rfl (.inl rfl)) (pgs_cons (pg_name (i := 3) scVw.nd rfl (.inl rfl)) pgs_nil))) (fun _ _ _ _ _ => by exact pts_one (pt_cmpR op_in_seq (pv 1) (pv 3) (by with_unfolding_all rfl))) (fun _ _ _ _ _ => by exact pv 2))), ?_⟩
    obtain ⟨a, pk, ow, c, rfl, ea, Dp, Do, Dc⟩ := say_row D
    obtain ⟨b, us, rfl, eb, Db⟩ := Do
    have lu : us.length = sy.owns.length := by rw [Db.len, List.length_map]
    have lo := ok.ol
    refine ⟨_, rfl, a, _, 1, _, rfl, rfl, SqT.of ea, rfl, b, rfl, ⟨_, FT.sq eb⟩, fun D0 hD0 => ?_⟩
    refine lc_tup (K := K) (a := b) (xs := us) (fun j H4 => H4 D0 = some (.lst ((((sy.owns.take j).filter fun o => decide (x ∈ o.2)).map Prod.fst).map V.str)) ∧ Same H H4) ⟨upd_same, same_new hD0⟩ (fun j H4 _ h => FT.sq (FT.same eb h.2)) ?_ ?_
    · rintro j y H4 hy ⟨e4, S4⟩
      obtain ⟨d, hd, Dx⟩ := dats_get' Db j y hy
      obtain ⟨o, ho, rfl⟩ := get_map hd
      obtain ⟨to, rfl⟩ := tuple_ref (ds := [.str o.1, nmsD o.2]) Dx
      obtain ⟨t', g1, g2⟩ := own_row (q := (to, ownD o)) rfl Dx
      have jl : j < sy.owns.length := (List.getElem?_eq_some_iff.mp ho).1
      refine ⟨to, _, rfl, SqT.of (S4 _ _ g1), rfl, _, _, rfl, _, _, rfl, rfl, rfl, ?_⟩
      refine ⟨_, rfl, _, rfl, t', _, rfl, .inr (SqT.of (S4 _ _ g2)), rfl, flat_strs _, _, rfl, ?_⟩
      show if inV (V.str x) (o.2.map V.str) = true then _ else _
      rw [inV_str]
      have len : ((((sy.owns.take j).filter fun o => decide (x ∈ o.2)).map Prod.fst).map V.str).length < sizeLine := by
        rw [List.length_map, List.length_map]
        have z := List.length_filter_le (fun o : Own => decide (x ∈ o.2)) (sy.owns.take j)
        rw [List.length_take] at z
        exact small1000 (by omega)
      by_cases hx : x ∈ o.2
      · rw [if_pos (decide_eq_true hx)]
        refine ⟨_, rfl, _, e4, len, ?_, same_upd S4 hD0⟩
        have eo : [o].filter (fun o : Own => decide (x ∈ o.2)) = [o] := by simp [hx]
        rw [upd_same, take_next ho, List.filter_append, List.map_append, List.map_append, eo]
        rfl
      · rw [if_neg (by rw [decide_eq_false hx]; decide)]
        refine ⟨?_, S4⟩
        have eo : [o].filter (fun o : Own => decide (x ∈ o.2)) = [] := by simp [hx]
        rw [take_next ho, List.filter_append, eo, List.append_nil]
        exact e4
    · rintro H4 ⟨e4, S4⟩
      rw [lu, List.take_length] at e4
      exact q D0 H4 S4 hD0 e4
theorem ok_beside {f : Addr} {fd : FuncData} (F : Fun K "letters_beside" "letters_beside" sBeside f fd) : FnOk P w K mg base CX0 1 f fd ["saying", "viewers", "letter"] spBeside := by
  refine F.ok scBs (fun vs H Q E h => ?_) (fun cdv A outer s H vs Q E hr h => ?_)
  · obtain ⟨v, lv, r, sy, ws, lt, rfl, _⟩ := h
    rfl
  · obtain ⟨v, lv, r, sy, ws, lt, rfl, D, ok, ev, Dr, q⟩ := h
    have hu : (A.deeper (envOfC "letters_beside" (defScope sBeside) s.heap.objs.size f cdv)).units + 64 < cLine := hr.units
    have hu2 : (A.deeper (envOfC "letters_beside" (defScope sBeside) s.heap.objs.size f cdv)).units + 16 < cLine := by omega
    refine ⟨_, pss_one (ps_ret (pe_lc2 (own := [("clause", 3), ("other", 4)]) (vs1 := [4]) (g := gName 3) (g1 := gName 4) (wi1 := iTup K (tVar 3)) (tt := tTest (tOp (rInT K false) (tVar 2) (tVar 3))) (tt1 := tAnd (tTest (tOp rNeP (tVar 4) (tVar 2))) (tTest (tOp (rIn K false) (tOp (rIxT K) (tVar 4) (tC (V.int 0))) (tVar 1)))) (te := tVar 4) rfl scBs.nd (pi_tup (pe_ix ix_tup (pv 0) pe_int (fun _ _ => rfl))) (blkOk_by (N := nBs) (sc := defScope sBeside) (by decide +kernel)) (by decide)
        (fun _ _ _ _ _ => pg_name (i := 3) scBs.nd rfl (Or.inl rfl)) (fun _ _ _ _ _ => by exact pts_one (pt_cmpR (op_inT (by exact hu2)) (pv 2) (pv 3) (by with_unfolding_all rfl))) (fun _ _ _ _ _ => by exact pi_tup (pv 3))
        (fun _ _ _ _ _ => pg_name (i := 4) scBs.nd rfl (Or.inl rfl)) (fun _ _ _ _ _ => by exact pts_one (PW.pt (pw_and (pt_cmpR (op_neP (by exact hu)) (pv 4) (pv 2) (by with_unfolding_all rfl)) (pw_and1 (pt_cmpR op_in_seq (pe_ix ix_tup (pv 4) pe_int (fun _ _ => rfl)) (pv 1) (by with_unfolding_all rfl)))))) (fun _ _ _ _ _ => by exact pv 4))), ?_⟩
    obtain ⟨a, pk, ow, c, rfl, ea, Dp, Do, Dc⟩ := say_row D
    obtain ⟨b, us, rfl, eb, Db⟩ := dat_tup (ds := sy.cls.map clD) Dc
    have lu : us.length = sy.cls.length := by rw [Db.len, List.length_map]
    have lc := ok.cl
    refine ⟨_, rfl, a, _, 2, _, rfl, rfl, SqT.of ea, rfl, b, rfl, ⟨_, SqT.of eb⟩, fun D0 hD0 => ?_⟩
    refine turns_tup (K := K) (a := b) (xs := us) (fun j H4 => ∃ T4 : List TRow, H4 D0 = some (.lst (T4.map TRow.v)) ∧ T4.map Prod.snd = ((sy.cls.take j).flatMap (besC ws lt)).map ltD ∧ (∀ q' ∈ T4, Dat H4 q'.v q'.2) ∧ Same H H4)
      ⟨[], upd_same, rfl, fun q' hq' => absurd hq' (by simp), same_new hD0⟩ (fun j H4 _ ⟨_, _, _, _, S4⟩ => SqT.of (S4 _ _ eb)) ?_ ?_
    · rintro j x4 H4 hx4 ⟨T4, e4, d4, D4, S4⟩
      obtain ⟨d, hd, Dx⟩ := dats_get' Db j x4 hx4
      obtain ⟨cl, hc, rfl⟩ := get_map hd
      have jl : j < sy.cls.length := (List.getElem?_eq_some_iff.mp hc).1
      have mc := List.mem_of_getElem? hc
      obtain ⟨t, ls, rfl, et, Dl⟩ := dat_tup (ds := cl.map ltD) Dx
      have lcl : cl.length ≤ 14 := Nat.le_trans (cl_len (ok.ck cl mc)) ok.nlen
      have ll : ls.length = cl.length := by rw [Dl.len, List.length_map]
      obtain ⟨Tc, eT, dT, DT⟩ := rows_of_dat Dl (fun d hd => by obtain ⟨o, _, rfl⟩ := List.mem_map.mp hd; exact ⟨_, rfl⟩)
      have len4 : T4.length ≤ 14 * j := by
        rw [← List.length_map (f := Prod.snd), d4, List.length_map]
        have z := bes_len ws lt 14 (sy.cls.take j) (fun cl' h' => Nat.le_trans (cl_len (ok.ck cl' (List.mem_of_mem_take h'))) ok.nlen)
        rw [List.length_take, Nat.min_eq_left (Nat.le_of_lt jl)] at z
        exact z
      have KT : ∀ p ∈ Tc, Dat H4 p.v p.2 ∧ keyable p.2 = true ∧ p.2.depth ≤ 8 := fun p hp => by
        have m : p.2 ∈ cl.map ltD := dT ▸ List.mem_map_of_mem hp
        obtain ⟨o, _, ho⟩ := List.mem_map.mp m
        refine ⟨(DT p hp).same S4, by rw [← ho]; exact keyable_lt o, by rw [← ho]; have := depth_lt o; omega⟩
      refine ⟨rfl, _, rfl, _, rfl, r, t, ltD lt, Tc, rfl, rfl, .inr (SqT.of (by rw [← eT]; exact S4 _ _ et)), KT, Dr.same S4, keyable_lt lt, by have := depth_lt lt; omega, _, rfl, ?_⟩
      show if inT (ltD lt) Tc = true then _ else _
      rw [inT_lt dT.symm]
      by_cases hin : lt ∈ cl
      · rw [if_pos (decide_eq_true hin)]
        refine ⟨_, rfl, t, rfl, ⟨_, SqT.of (S4 _ _ et)⟩, ?_⟩
        have eB : besC ws lt cl = cl.filter fun o => decide (o ≠ lt) && decide (o.1 ∈ ws) := if_pos hin
        refine turns_tup (K := K) (a := t) (xs := ls) (fun k H5 => ∃ T5 : List TRow, H5 D0 = some (.lst (T5.map TRow.v)) ∧ T5.map Prod.snd = T4.map Prod.snd ++ ((cl.take k).filter fun o => decide (o ≠ lt) && decide (o.1 ∈ ws)).map ltD ∧ (∀ q' ∈ T5, Dat H5 q'.v q'.2) ∧ Same H H5)
          ⟨T4, e4, by simp, D4, S4⟩ (fun k H5 _ ⟨_, _, _, _, S5⟩ => SqT.of (S5 _ _ et)) ?_ ?_
        · rintro k x5 H5 hx5 ⟨T5, e5, d5, D5, S5⟩
          rw [eT, List.getElem?_map] at hx5
          obtain ⟨p, hp, rfl⟩ := Option.map_eq_some_iff.mp hx5
          have ep : (cl.map ltD)[k]? = some p.2 := by rw [dT, List.getElem?_map, hp]; rfl
          obtain ⟨o, ho, eo⟩ := get_map ep
          have Dp := (DT p (List.mem_of_getElem? hp)).same S5
          rw [eo] at Dp
          obtain ⟨ot, ol, eov, eot, Dol⟩ := dat_tup (ds := [.str o.1, .bool o.2]) Dp
          have kl : k < cl.length := (List.getElem?_eq_some_iff.mp ho).1
          have len5 : T5.length < sizeLine := by
            rw [← List.length_map (f := Prod.snd), d5, List.length_append, List.length_map, List.length_map]
            have z := List.length_filter_le (fun o : Ltr => decide (o ≠ lt) && decide (o.1 ∈ ws)) (cl.take k)
            rw [List.length_take] at z
            exact small1000 (by omega)
          have no : (cl.take (k + 1)).filter (fun o => decide (o ≠ lt) && decide (o.1 ∈ ws)) = (cl.take k).filter (fun o => decide (o ≠ lt) && decide (o.1 ∈ ws)) ++ (if (decide (o ≠ lt) && decide (o.1 ∈ ws)) = true then [o] else []) := by
            rw [take_next ho, List.filter_append]
            congr 1
            by_cases z : (decide (o ≠ lt) && decide (o.1 ∈ ws)) = true
            · rw [if_pos z]; simp only [List.filter_cons, z, if_true, List.filter_nil]
            · rw [if_neg z]; simp only [List.filter_cons, z, if_false, List.filter_nil, Bool.false_eq_true]
          have skip : (decide (o ≠ lt) && decide (o.1 ∈ ws)) ≠ true → ∃ T5 : List TRow, H5 D0 = some (.lst (T5.map TRow.v)) ∧ T5.map Prod.snd = T4.map Prod.snd ++ ((cl.take (k + 1)).filter fun o => decide (o ≠ lt) && decide (o.1 ∈ ws)).map ltD ∧ (∀ q' ∈ T5, Dat H5 q'.v q'.2) ∧ Same H H5 := fun z =>
            ⟨T5, e5, by rw [no, if_neg z, List.append_nil]; exact d5, D5, S5⟩
          refine ⟨rfl, _, rfl, _, rfl, ltD o, ltD lt, Dp, Dr.same S5, rfl, rfl, by have := depth_lt o; omega, _, rfl, ?_⟩
          show if (!PyData.eqv (ltD o) (ltD lt)) = true then _ else _
          rw [eqv_lt]
          by_cases hne : o = lt
          · rw [if_neg (by rw [decide_eq_true hne]; decide)]
            show if false = true then _ else _
            rw [if_neg (by decide)]
            exact skip (by rw [decide_eq_false (fun z => z hne), Bool.false_and]; decide)
          rw [if_pos (by rw [decide_eq_false hne]; rfl)]
          cases Dol with
          | cons h1 t1 =>
          cases t1 with
          | cons h2 t2 =>
          cases t2
          cases h1
          cases h2
          refine ⟨_, rfl, ot, _, 0, _, eov, rfl, SqT.of eot, rfl, _, rfl, lv, _, rfl, .inl (SqL.of (S5 _ _ ev)), rfl, flat_strs _, _, rfl, ?_⟩
          show if inV (V.str o.1) (ws.map V.str) = true then _ else _
          rw [inV_str]
          by_cases hw : o.1 ∈ ws
          · have yes : (decide (o ≠ lt) && decide (o.1 ∈ ws)) = true := by rw [decide_eq_true hne, decide_eq_true hw]; rfl
            rw [if_pos (decide_eq_true hw)]
            refine ⟨_, rfl, _, e5, by rw [List.length_map]; exact len5, T5 ++ [(p.1, ltD o)], by rw [upd_same, List.map_append]; rfl, ?_, fun q' hq' => ?_, same_upd S5 hD0⟩
            · rw [List.map_append, d5, no, if_pos yes, List.map_append, List.append_assoc]
              rfl
            · have kq : keyable q'.2 = true := by
                rcases List.mem_append.mp hq' with m | m
                · have m2 : q'.2 ∈ T5.map Prod.snd := List.mem_map_of_mem m
                  rw [d5, d4, ← List.map_append] at m2
                  obtain ⟨z, _, hz⟩ := List.mem_map.mp m2
                  rw [← hz]
                  exact keyable_lt z
                · cases List.mem_singleton.mp m
                  exact keyable_lt o
              refine dat_upd e5 kq ?_
              rcases List.mem_append.mp hq' with m | m
              · exact D5 q' m
              · cases List.mem_singleton.mp m
                exact Dp
          · rw [if_neg (by rw [decide_eq_false hw]; decide)]
            exact skip (by rw [decide_eq_false hw, Bool.and_false]; decide)
        · rintro H5 ⟨T5, e5, d5, D5, S5⟩
          rw [ll, List.take_length] at d5
          refine ⟨T5, e5, ?_, D5, S5⟩
          rw [d5, d4, take_next hc, List.flatMap_append, List.flatMap_cons, List.flatMap_nil, List.append_nil, List.map_append, eB]
      · rw [if_neg (by rw [decide_eq_false hin]; decide)]
        refine ⟨T4, e4, ?_, D4, S4⟩
        rw [d4, take_next hc, List.flatMap_append, List.flatMap_cons, List.flatMap_nil, List.append_nil]
        have e0 : besC ws lt cl = [] := if_neg hin
        rw [e0, List.append_nil]
    · rintro H4 ⟨T4, e4, d4, D4, S4⟩
      rw [lu, List.take_length] at d4
      exact q D0 T4 H4 S4 hD0 e4 d4 D4
end
end S1

set_option Elab.async false
set_option linter.all false
set_option maxRecDepth 100000
set_option maxHeartbeats 4000000
/-! what is reached -/
namespace S1
open PySem PySem.W PySem.Spec PyProof.Rows L2
def neg (l : Ltr) : Ltr := (l.1, !l.2)
inductive Reach (s : Say) (ws : List Str) (l0 : Ltr) : Ltr → Prop
  | start {m : Ltr} : m ∈ bes s ws l0 → Reach s ws l0 m
  | step {l m : Ltr} : Reach s ws l0 l → m ∈ bes s ws (neg l) → Reach s ws l0 m
/-- all letters of a saying -/
def univ (s : Say) : List Ltr := s.names.flatMap fun n => [(n, true), (n, false)]
theorem univ_len : ∀ ns : List Str, (ns.flatMap fun n => [((n, true) : Ltr), (n, false)]).length = 2 * ns.length
  | [] => rfl
  | n :: ns => by
    rw [List.flatMap_cons, List.length_append, univ_len ns, List.length_cons]
    show 2 + 2 * ns.length = 2 * (ns.length + 1)
    omega
theorem bes_mem {s : Say} {ws : List Str} {l m : Ltr} (h : m ∈ bes s ws l) : ∃ cl ∈ s.cls, l ∈ cl ∧ m ∈ cl ∧ m ≠ l ∧ m.1 ∈ ws := by
  unfold bes at h
  obtain ⟨cl, hc, hm⟩ := List.mem_flatMap.mp h
  unfold besC at hm
  by_cases hl : l ∈ cl
  · rw [if_pos hl] at hm
    obtain ⟨h1, h2⟩ := List.mem_filter.mp hm
    rw [Bool.and_eq_true, decide_eq_true_eq, decide_eq_true_eq] at h2
    exact ⟨cl, hc, hl, h1, h2.1, h2.2⟩
  · rw [if_neg hl] at hm
    exact absurd hm (by simp)
theorem bes_of {s : Say} {ws : List Str} {l m : Ltr} {cl : List Ltr} (hc : cl ∈ s.cls) (hl : l ∈ cl) (hm : m ∈ cl) (ne : m ≠ l) (hw : m.1 ∈ ws) : m ∈ bes s ws l := by
  unfold bes besC
  refine List.mem_flatMap.mpr ⟨cl, hc, ?_⟩
  rw [if_pos hl]
  exact List.mem_filter.mpr ⟨hm, by rw [Bool.and_eq_true, decide_eq_true_eq, decide_eq_true_eq]; exact ⟨ne, hw⟩⟩
theorem bes_univ {s : Say} (ok : SayOk 6 8 120 40 s) {ws : List Str} {l m : Ltr} (h : m ∈ bes s ws l) : m ∈ univ s := by
  obtain ⟨cl, hc, _, hm, _⟩ := bes_mem h
  have z := (ok.ck cl hc).mem m hm
  refine List.mem_flatMap.mpr ⟨m.1, z, ?_⟩
  obtain ⟨n, b⟩ := m
  cases b <;> simp
theorem bes_max {s : Say} (ok : SayOk 6 8 120 40 s) (ws : List Str) (l : Ltr) : (bes s ws l).length ≤ 560 := by
  have z := bes_len ws l 14 s.cls fun cl h => Nat.le_trans (cl_len (ok.ck cl h)) ok.nlen
  have := ok.cl
  show (s.cls.flatMap (besC ws l)).length ≤ 560
  omega
/-- letters waiting, letters found -/
structure WInv (s : Say) (ws : List Str) (l0 : Ltr) (A F : List Ltr) : Prop where
  nd : F.Nodup
  ra : ∀ m ∈ A, Reach s ws l0 m
  rf : ∀ m ∈ F, Reach s ws l0 m
  c0 : ∀ m ∈ bes s ws l0, m ∈ F ∨ m ∈ A
  c1 : ∀ l ∈ F, ∀ m ∈ bes s ws (neg l), m ∈ F ∨ m ∈ A
  len : A.length ≤ 560 * (F.length + 1)
theorem reach_univ {s : Say} (ok : SayOk 6 8 120 40 s) {ws : List Str} {l0 m : Ltr} (h : Reach s ws l0 m) : m ∈ univ s := by
  cases h with
  | start h => exact bes_univ ok h
  | step _ h => exact bes_univ ok h
section
variable {s : Say} {ws : List Str} {l0 : Ltr} {A F : List Ltr}
theorem WInv.start (ok : SayOk 6 8 120 40 s) : WInv s ws l0 (bes s ws l0) [] := ⟨List.nodup_nil, fun m h => .start h, fun m h => absurd h (by simp), fun m h => .inr h, fun l h => absurd h (by simp), by have := bes_max ok ws l0; simpa using this⟩
theorem WInv.few (h : WInv s ws l0 A F) (ok : SayOk 6 8 120 40 s) : F.length ≤ 28 := by
  have z := nodup_le h.nd fun x hx => reach_univ ok (h.rf x hx)
  have y := univ_len s.names
  have x := ok.nlen
  have e : (univ s).length = 2 * s.names.length := y
  omega
theorem WInv.skip {l : Ltr} (h : WInv s ws l0 (A ++ [l]) F) (hl : l ∈ F) : WInv s ws l0 A F := by
  have back : ∀ m, (m ∈ F ∨ m ∈ A ++ [l]) → m ∈ F ∨ m ∈ A := fun m z => by
    rcases z with z | z
    · exact .inl z
    · rcases List.mem_append.mp z with z | z
      · exact .inr z
      · rw [List.mem_singleton.mp z]; exact .inl hl
  exact ⟨h.nd, fun m hm => h.ra m (List.mem_append_left _ hm), h.rf, fun m hm => back m (h.c0 m hm), fun k hk m hm => back m (h.c1 k hk m hm), by have := h.len; rw [List.length_append] at this; omega⟩
theorem WInv.add {l : Ltr} (h : WInv s ws l0 (A ++ [l]) F) (ok : SayOk 6 8 120 40 s) (hl : l ∉ F) : WInv s ws l0 (A ++ bes s ws (neg l)) (F ++ [l]) := by
  have rl : Reach s ws l0 l := h.ra l (List.mem_append_right _ List.mem_cons_self)
  have back : ∀ m, (m ∈ F ∨ m ∈ A ++ [l]) → m ∈ F ++ [l] ∨ m ∈ A ++ bes s ws (neg l) := fun m z => by
    rcases z with z | z
    · exact .inl (List.mem_append_left _ z)
    · rcases List.mem_append.mp z with z | z
      · exact .inr (List.mem_append_left _ z)
      · exact .inl (List.mem_append_right _ z)
  refine ⟨?_, fun m hm => ?_, fun m hm => ?_, fun m hm => back m (h.c0 m hm), fun k hk m hm => ?_, ?_⟩
  · rw [List.nodup_append]
    exact ⟨h.nd, by simp, fun a ha b hb e => by rw [List.mem_singleton.mp hb] at e; rw [e] at ha; exact hl ha⟩
  · rcases List.mem_append.mp hm with z | z
    · exact h.ra m (List.mem_append_left _ z)
    · exact .step rl z
  · rcases List.mem_append.mp hm with z | z
    · exact h.rf m z
    · rw [List.mem_singleton.mp z]; exact rl
  · rcases List.mem_append.mp hk with z | z
    · exact back m (h.c1 k z m hm)
    · rw [List.mem_singleton.mp z] at hm
      exact .inr (List.mem_append_right _ hm)
  · have y := bes_max ok ws (neg l)
    have x := h.len
    rw [List.length_append, List.length_append]
    rw [List.length_append] at x
    show A.length + _ ≤ 560 * (F.length + 1 + 1)
    omega
theorem WInv.done (h : WInv s ws l0 [] F) (m : Ltr) : m ∈ F ↔ Reach s ws l0 m := by
  refine ⟨h.rf m, fun r => ?_⟩
  induction r with
  | start hm => exact (h.c0 _ hm).resolve_right (by simp)
  | step _ hm ih => exact (h.c1 _ ih _ hm).resolve_right (by simp)
end
/-! ### tuples alone -/
mutual
theorem dat_tk {H H' : Hp} (K : ∀ b xs, H b = some (.tup xs) → H' b = some (.tup xs)) : ∀ (d : PyData) (v : V), keyable d = true → Dat H v d → Dat H' v d
  | .none, _, _, D => by cases D; exact .non
  | .bool _, _, _, D => by cases D; exact .bl _
  | .int _, _, _, D => by cases D; exact .int _
  | .str _, _, _, D => by cases D; exact .str _
  | .tuple ds, _, k, D => by
    cases D with
    | tup e h => exact .tup (K _ _ e) (dats_tk K ds _ (by simpa [keyable] using k) h)
  | .list _, _, k, _ => by simp [keyable] at k
  | .dict _, _, k, _ => by simp [keyable] at k
theorem dats_tk {H H' : Hp} (K : ∀ b xs, H b = some (.tup xs) → H' b = some (.tup xs)) : ∀ (ds : List PyData) (vs : List V), keyables ds = true → DatAll H vs ds → DatAll H' vs ds
  | [], _, _, D => by cases D; exact .nil
  | d :: ds, _, k, D => by
    rw [keyables, Bool.and_eq_true] at k
    cases D with
    | cons h t => exact .cons (dat_tk K d _ k.1 h) (dats_tk K ds _ k.2 t)
end
theorem tk_put {H : Hp} {a : Addr} {o : HO} (n : ∀ xs, H a ≠ some (.tup xs)) : ∀ b xs, H b = some (.tup xs) → upd H a o b = some (.tup xs) := fun b xs e => by
  have z : b ≠ a := fun z => n xs (by rw [← z]; exact e)
  rw [upd_ne z]
  exact e
end S1

set_option Elab.async false
set_option linter.all false
set_option maxRecDepth 100000
set_option maxHeartbeats 4000000
/-! a heap off another one by draws and new things -/
namespace S1
open PySem PySem.W PySem.Spec PyProof.Rows L2
/-- G comes of H by draws at p and by new things -/
structure Dr (H : Hp) (p : Addr) (c : Nat) (G : Hp) : Prop where
  s : Src G p c
  m : Same (del H p) (del G p)
section
variable {H G : Hp} {p : Addr} {c c' : Nat}
theorem Dr.start (h : Src H p c) : Dr H p c H := ⟨h, Same.refl _⟩
theorem Dr.up (d : Dr H p c G) (le : c ≤ c') : Dr H p c' G := ⟨d.s.mono rfl le, d.m⟩
theorem Dr.src {o : HO} (d : Dr H p c G) (h : Src (upd G p o) p c') : Dr H p c' (upd G p o) := ⟨h, sd_at d.m⟩
theorem Dr.ne {l : Addr} (d : Dr H p c G) (h : G l = none) : l ≠ p := (d.s.ne h).symm
theorem Dr.free {l : Addr} (d : Dr H p c G) (h : G l = none) : H l = none := sd_free d.m h (d.ne h)
theorem Dr.new {l : Addr} {o : HO} (d : Dr H p c G) (h : G l = none) : Dr H p c (upd G l o) :=
  ⟨d.s.mono (upd_ne (d.ne h).symm) (Nat.le_refl _), sd_new d.m h (d.ne h)⟩
theorem Dr.put {l : Addr} {o : HO} (d : Dr H p c G) (h : H l = none) (n : l ≠ p) : Dr H p c (upd G l o) :=
  ⟨d.s.mono (upd_ne n.symm) (Nat.le_refl _), sd_put d.m h⟩
theorem Dr.keep {x : Addr} {o : HO} (d : Dr H p c G) (e : H x = some o) (n : x ≠ p) : G x = some o := by
  have z := d.m x o (by rw [del_ne n]; exact e)
  rwa [del_ne n] at z
theorem Dr.dat {c0 : Nat} (d : Dr H p c G) (h : Src H p c0) {v : V} {u : PyData} (k : keyable u = true) (D : Dat H v u) : Dat G v u := dat_src h d.m k D
theorem Dr.trans {G2 : Hp} (d : Dr H p c G) (d2 : Dr G p c' G2) : Dr H p c' G2 := ⟨d2.s, d.m.trans d2.m⟩
theorem Dr.same {G2 : Hp} (d : Dr H p c G) (S : Same G G2) : Dr H p c G2 := by
  obtain ⟨xs, hx⟩ := d.s.lst
  exact ⟨d.s.mono (by rw [hx, S _ _ hx]) (Nat.le_refl _), d.m.trans (sd_of S)⟩
end
theorem Src.nes {H : Hp} {p l : Addr} {c : Nat} {xs : List Str} (h : Src H p c) (e : H l = some (.lst (xs.map V.str))) : l ≠ p := fun z => by
  obtain ⟨a, b, d, hp, _⟩ := h.at_
  rw [z, hp] at e
  injection e with e
  injection e with e
  cases xs with
  | nil => cases e
  | cons x xs =>
    rw [List.map_cons] at e
    injection e with e
    cases e
/-- draws have been made at p; what stands at F and the data R are known -/
structure Wk (H : Hp) (p : Addr) (c : Nat) (F : List (Addr × HO)) (R : List (V × PyData)) (G : Hp) : Prop where
  d : Dr H p c G
  f : ∀ x ∈ F, G x.1 = some x.2
  n : ∀ x ∈ F, x.1 ≠ p
  nd : (F.map Prod.fst).Nodup
  r : ∀ x ∈ R, keyable x.2 = true ∧ Dat G x.1 x.2
section
variable {H G : Hp} {p a : Addr} {c c' : Nat} {F : List (Addr × HO)} {R : List (V × PyData)} {o : HO}
theorem Wk.start (h : Src H p c) : Wk H p c [] [] H := ⟨Dr.start h, fun x z => absurd z (by simp), fun x z => absurd z (by simp), List.nodup_nil, fun x z => absurd z (by simp)⟩
theorem Wk.at (W : Wk H p c F R G) (i : Nat) (e : F[i]? = some (a, o)) : G a = some o := W.f (a, o) (List.mem_of_getElem? e)
theorem Wk.np (W : Wk H p c F R G) (i : Nat) (e : F[i]? = some (a, o)) : a ≠ p := W.n (a, o) (List.mem_of_getElem? e)
theorem Wk.row (W : Wk H p c F R G) (i : Nat) {v : V} {d : PyData} (e : R[i]? = some (v, d)) : Dat G v d := (W.r (v, d) (List.mem_of_getElem? e)).2
theorem Wk.s (W : Wk H p c F R G) : Src G p c := W.d.s
theorem Wk.up (W : Wk H p c F R G) (le : c ≤ c') : Wk H p c' F R G := { W with d := W.d.up le }
theorem Wk.no (W : Wk H p c F R G) (h : G a = none) : ∀ x ∈ F, x.1 ≠ a := fun x hx => ne_of_none (W.f x hx) h
theorem Wk.new (W : Wk H p c F R G) (h : G a = none) : Wk H p c ((a, o) :: F) R (upd G a o) :=
  ⟨W.d.new h, fun x hx => by
    rcases List.mem_cons.mp hx with rfl | hx
    · exact upd_same
    · show upd G a o x.1 = _
      rw [upd_ne (W.no h x hx)]
      exact W.f x hx, fun x hx => by
    rcases List.mem_cons.mp hx with rfl | hx
    · exact W.d.ne h
    · exact W.n x hx, List.nodup_cons.mpr ⟨fun z => by
    obtain ⟨x, hx, e⟩ := List.mem_map.mp z
    exact W.no h x hx e, W.nd⟩, fun x hx => ⟨(W.r x hx).1, dat_new h (W.r x hx).2⟩⟩
/-- a new thing that need not be known -/
theorem Wk.new' (W : Wk H p c F R G) (h : G a = none) : Wk H p c F R (upd G a o) :=
  ⟨W.d.new h, fun x hx => by
    rw [upd_ne (W.no h x hx)]
    exact W.f x hx, W.n, W.nd, fun x hx => ⟨(W.r x hx).1, dat_new h (W.r x hx).2⟩⟩
theorem Wk.trans {G2 : Hp} (W : Wk H p c F R G) (d : Dr G p c' G2) : Wk H p c' F R G2 :=
  ⟨W.d.trans d, fun x hx => d.keep (W.f x hx) (W.n x hx), W.n, W.nd, fun x hx => ⟨(W.r x hx).1, d.dat W.s (W.r x hx).1 (W.r x hx).2⟩⟩
theorem Wk.src (W : Wk H p c F R G) (h : Src (upd G p o) p c') : Wk H p c' F R (upd G p o) := W.trans ⟨h, sd_at (Same.refl _)⟩
theorem Wk.same {G2 : Hp} (W : Wk H p c F R G) (S : Same G G2) : Wk H p c F R G2 := W.trans ((Dr.start W.s).same S)
theorem set_fst {o' : HO} : ∀ {F : List (Addr × HO)} {i : Nat}, F[i]? = some (a, o) → (F.set i (a, o')).map Prod.fst = F.map Prod.fst
  | [], _, e => by simp at e
  | x :: F, 0, e => by simp at e; subst e; rfl
  | x :: F, i + 1, e => by
    rw [List.set_cons_succ, List.map_cons, List.map_cons, set_fst (F := F) (i := i) (by simpa using e)]
theorem mem_set {o' : HO} : ∀ {F : List (Addr × HO)} {i : Nat}, F[i]? = some (a, o) → (F.map Prod.fst).Nodup → ∀ x ∈ F.set i (a, o'), x = (a, o') ∨ (x ∈ F ∧ x.1 ≠ a)
  | [], _, e, _, _, _ => by simp at e
  | y :: F, 0, e, nd, x, hx => by
    simp at e
    subst e
    rw [List.map_cons, List.nodup_cons] at nd
    rw [List.set_cons_zero] at hx
    rcases List.mem_cons.mp hx with z | z
    · exact .inl z
    · exact .inr ⟨List.mem_cons_of_mem _ z, fun w => nd.1 (List.mem_map.mpr ⟨x, z, w⟩)⟩
  | y :: F, i + 1, e, nd, x, hx => by
    rw [List.map_cons, List.nodup_cons] at nd
    rw [List.set_cons_succ] at hx
    rcases List.mem_cons.mp hx with z | z
    · subst z
      refine .inr ⟨List.mem_cons_self, fun w => nd.1 (List.mem_map.mpr ⟨(a, o), List.mem_of_getElem? (i := i) (by simpa using e), w.symm⟩)⟩
    · rcases mem_set (F := F) (i := i) (by simpa using e) nd.2 x z with w | ⟨w, v⟩
      · exact .inl w
      · exact .inr ⟨List.mem_cons_of_mem _ w, v⟩
/-- what stands at a, no tuple, is changed -/
theorem Wk.put {o' : HO} (W : Wk H p c F R G) (i : Nat) (e : F[i]? = some (a, o)) (hH : H a = none) (nt : ∀ xs, o ≠ .tup xs) : Wk H p c (F.set i (a, o')) R (upd G a o') := by
  have hn := W.np i e
  have K := tk_put (H := G) (a := a) (o := o') fun xs z => by
    rw [W.at i e] at z
    exact nt xs (Option.some.inj z)
  refine ⟨W.d.put hH hn, fun x hx => ?_, fun x hx => ?_, by rw [set_fst e]; exact W.nd, fun x hx => ⟨(W.r x hx).1, dat_tk K _ _ (W.r x hx).1 (W.r x hx).2⟩⟩
  · rcases mem_set e W.nd x hx with rfl | ⟨w, v⟩
    · exact upd_same
    · rw [upd_ne v]
      exact W.f x w
  · rcases mem_set e W.nd x hx with rfl | ⟨w, v⟩
    · exact hn
    · exact W.n x w
theorem Wk.sub {F' : List (Addr × HO)} (W : Wk H p c F R G) (s : F'.Sublist F) : Wk H p c F' R G := ⟨W.d, fun x hx => W.f x (s.subset hx), fun x hx => W.n x (s.subset hx), W.nd.sublist (s.map _), W.r⟩
theorem Wk.rows {R' : List (V × PyData)} (W : Wk H p c F R G) (h : ∀ x ∈ R', x ∈ R ∨ (keyable x.2 = true ∧ Dat G x.1 x.2)) : Wk H p c F R' G := ⟨W.d, W.f, W.n, W.nd, fun x hx => (h x hx).elim (W.r x) id⟩
theorem Wk.addR {v : V} {d : PyData} (W : Wk H p c F R G) (k : keyable d = true) (D : Dat G v d) : Wk H p c F ((v, d) :: R) G := W.rows fun x hx => by
  rcases List.mem_cons.mp hx with rfl | z
  · exact .inr ⟨k, D⟩
  · exact .inl z
theorem Wk.know (W : Wk H p c F R G) (e : G a = some o) (n : a ≠ p) (nf : ∀ x ∈ F, x.1 ≠ a) : Wk H p c ((a, o) :: F) R G :=
  ⟨W.d, fun x hx => by
    rcases List.mem_cons.mp hx with rfl | hx
    · exact e
    · exact W.f x hx, fun x hx => by
    rcases List.mem_cons.mp hx with rfl | hx
    · exact n
    · exact W.n x hx, List.nodup_cons.mpr ⟨fun z => by
    obtain ⟨x, hx, e⟩ := List.mem_map.mp z
    exact nf x hx e, W.nd⟩, W.r⟩
theorem Wk.free (W : Wk H p c F R G) (h : G a = none) : H a = none := W.d.free h
end
theorem lst_nt {xs : List V} : ∀ ys, HO.lst xs ≠ .tup ys := fun _ z => by cases z
theorem dK_nt {kvs : List (Key × V)} : ∀ ys, HO.dK kvs ≠ .tup ys := fun _ z => by cases z
theorem frz_nt {od : Obj} {u : HO} : ∀ ys, HO.frz od u ≠ .tup ys := fun _ z => by cases z
theorem dn_nt {w : World} {a : Addr} {D : List DRow} : ∀ ys, DnO w a D ≠ .tup ys := fun _ z => by cases z
end S1

set_option Elab.async false
set_option linter.all false
set_option maxRecDepth 100000
set_option maxHeartbeats 4000000
/-! unlike names, parts of picks, drawn -/
namespace S1
open PySem PySem.W PySem.Spec PyProof.Rows L2
def abcN : List Nat := ("abcdefghijklmnopqrstuvwxyz" : Str).cps.toList
theorem abc_signs : signV "abcdefghijklmnopqrstuvwxyz" = (abcN.map sg).map V.str := by
  rw [List.map_map]
  rfl
def more9 : List Str := ["aa", "ab", "az", "ba", "xx", "xy", "abc", "aaaaaaaa", "azzzzzz"]
def pot35 : List Str := abcN.map sg ++ more9
theorem pot_nd : pot35.Nodup := by decide +kernel
theorem pot_len : pot35.length = 35 := by decide +kernel
theorem pot_nm : ∀ x ∈ pot35, Nm x := fun x hx => by
  have z : (pot35.all nmB) = true := by decide +kernel
  exact nm_of (List.all_eq_true.mp z x hx)
def spNames : Sp := fun vs H Q _ => ∃ (p : Addr) (c n : Nat), vs = [.ref p, .int n] ∧ Src H p c ∧ c ≤ 80000 ∧ n ≤ 35 ∧
  ∀ (b : Addr) (ws : List Str) (H' : Hp), ws.length = n → ws.Nodup → (∀ x ∈ ws, Nm x) → H b = none → H' b = some (.lst (ws.map V.str)) → Dr H p (c + n) H' → Q (.ref b) H'
def spPart : Sp := fun vs H Q _ => ∃ (p : Addr) (c : Nat) (v : V) (xs : List Str) (m : Int), vs = [.ref p, v, .int m] ∧ Src H p c ∧ c ≤ 90000 ∧ Dat H v (nmsD xs) ∧ xs.length ≤ 100 ∧ 0 < m ∧ m < 2 ^ 100 ∧
  ∀ (b : Addr) (ys : List Str) (H' : Hp), ys.Sublist xs → H b = none → H' b = some (.lst (ys.map V.str)) → Dr H p (c + xs.length) H' → Q (.ref b) H'
abbrev tLen (K : PySem.W.Frag) (i : Nat) : TE := tCB (fun xs H Q => ∃ p ys, xs = [V.ref p] ∧ (SqL K H p ys ∨ SqT K H p ys) ∧ Q (V.int ys.length) H) (tCons (tVar i) tNil)
abbrev nNames : List Str := ["pot", "size", "left", "turn"]
section
variable {P : Program} {w : World} {K : PySem.W.Frag} {mg : Str → Option Value} {base : Heap}
theorem scNames : FnScope nNames ["pot", "size"] (defScope sLNames) := ⟨rfl, rfl, rfl, by decide +kernel, rfl, by decide +kernel, by decide +kernel⟩
theorem scPart : FnScope ["pot", "items", "shares", "item"] ["pot", "items", "shares"] (defScope sLPart) := ⟨rfl, rfl, rfl, by decide +kernel, rfl, by decide +kernel, by decide +kernel⟩
theorem ok_names {f fP : Addr} {fd fdP : FuncData} (F : Fun K "_law_names" "_law_names" sLNames f fd) (Pk : Has K mg "_law_draw" sDraw ["pot", "top"] fP fdP) (B : Blt mg) : FnOk P w K mg base CX0 2 f fd ["pot", "size"] spNames := by
  have GP : FnOk P w K mg base CX0 1 fP fdP ["pot", "top"] spPick := ok_pick Pk.F B
  refine F.ok scNames (fun vs H Q E h => ?_) (fun cdv A outer s H vs Q E hr h => ?_)
  · obtain ⟨p, c, n, rfl, _⟩ := h
    rfl
  · obtain ⟨p, c, n, rfl, hs, hc, hn, q⟩ := h
    refine ⟨_, pss_cons (ps_set (i := 2) scNames.nd rfl (.inr rfl) (pe_op op_cat (pe_callTy (call_listStr rfl) (by rfl) B.list (by decide +kernel) (pa_cons pe_str pa_nil))
          (pe_lst (pa_cons pe_str (pa_cons pe_str (pa_cons pe_str (pa_cons pe_str (pa_cons pe_str (pa_cons pe_str (pa_cons pe_str (pa_cons pe_str (pa_cons pe_str pa_nil))))))))))))
      (pss_one (ps_ret (pe_lc (own := [("turn", 3)]) (g := gName 3) (tt := tYes) (te := tBM K "list" rPopAt (tVar 2) (tCons (tCall spPick [] E0 (tCons (tVar 0) (tCons (tLen K 2) tNil))) tNil)) rfl scNames.nd
            (pi_range1 rfl B.range (pa_cons (pv 1) pa_nil)) (blkOk_by (N := nNames) (sc := defScope sLNames) (by decide +kernel)) (fun _ _ _ _ _ => pg_name (i := 3) scNames.nd rfl (.inl rfl)) (fun _ _ _ _ _ => pts_nil)
            (fun _ _ _ _ _ => by exact pe_bm PySem.F.plainAttrs_list PySem.F.slot_list_pop PySem.F.type_list_pop mt_popAt (pv 2) (pa_cons (pe_call GP (by exact hr) (by rfl) Pk.g Pk.F.kp Pk.b .nil pass0 (pa_cons (pv 0) (pa_cons (pe_callB call_len_seq (by rfl) B.len (by decide +kernel) (pa_cons (pv 2) pa_nil)) pa_nil))) pa_nil))))), ?_⟩
    have W0 := Wk.start hs
    refine ⟨_, rfl, by decide +kernel, fun aA hA => ?_⟩
    rw [abc_signs]
    have W1 := W0.new (o := .lst ((abcN.map sg).map V.str)) hA
    refine ⟨(by show 9 ≤ sizeLine; decide), fun l0 hl0 => ?_⟩
    have W2 := W1.new (o := .lst (more9.map V.str)) hl0
    refine ⟨_, _, _, _, rfl, rfl, W2.at 1 rfl, W2.at 0 rfl, ?_, fun l hl => ?_⟩
    · rw [List.length_map, List.length_map]
      exact Nat.le_of_lt (small1000 (by decide +kernel))
    rw [← List.map_append]
    have W3 := (W2.new (o := .lst (pot35.map V.str)) hl).sub (F' := [(l, .lst (pot35.map V.str))]) (by simp)
    have hl1 := W2.free hl
    refine ⟨_, rfl, _, rfl, by omega, by omega, fun D hD => ?_⟩
    have W4 := W3.new (o := .lst ([] : List V)) hD
    have hD0 := W3.free hD
    refine lc_range (lo := 0) (n := ((n : Nat) : Int).toNat) (fun i H4 => ∃ (L1 W : List Str), Wk H p (c + i) [(D, .lst (W.map V.str)), (l, .lst (L1.map V.str))] [] H4 ∧ W.length = i ∧ (W ++ L1).Perm pot35) ?_ ?_ ?_
    · exact ⟨pot35, [], W4, rfl, List.Perm.refl _⟩
    · rintro i H4 hi ⟨L1, W, W5, hW, pm⟩
      have len : W.length + L1.length = 35 := by rw [← List.length_append, pm.length_eq, pot_len]
      refine ⟨rfl, yes_of ?_⟩
      refine ⟨_, rfl, .inl ⟨rfl, _, SqL.of (W5.at 1 rfl)⟩, _, rfl, _, rfl, _, _, rfl, .inl (SqL.of (W5.at 1 rfl)), p, _, _, rfl, W5.s, by omega, by rw [List.length_map]; omega, by rw [List.length_map]; omega, fun k o k0 k1 hp5 => ?_⟩
      rw [List.length_map] at k1
      have kl : k.toNat < L1.length := by omega
      have pp := pop_perm L1 k.toNat kl
      have W6 := W5.src hp5
      refine ⟨l, _, k, k.toNat, .str L1[k.toNat], rfl, rfl, W6.at 1 rfl, by omega, by omega, by rw [List.length_map]; exact seq_nat k0 k1, by rw [List.getElem?_map, List.getElem?_eq_getElem kl]; rfl, ?_⟩
      rw [map_erase]
      have W7 := W6.put (o' := .lst ((L1.eraseIdx k.toNat).map V.str)) 1 rfl hl1 lst_nt
      refine ⟨_, W7.at 0 rfl, by rw [List.length_map]; exact small1000 (by omega), L1.eraseIdx k.toNat, W ++ [L1[k.toNat]], ?_, by rw [List.length_append, hW]; rfl, ?_⟩
      · have W8 := W7.put (o' := .lst (W.map V.str ++ [V.str L1[k.toNat]])) 0 rfl hD0 lst_nt
        rw [List.map_append]
        exact W8.up (by omega)
      · rw [List.append_assoc]
        exact ((List.Perm.refl W).append pp.symm).trans pm
    · rintro H4 ⟨L1, W, W5, hW, pm⟩
      have ndW : (W ++ L1).Nodup := pm.nodup_iff.mpr pot_nd
      exact q D W H4 (by omega) (List.nodup_append.mp ndW).1 (fun y hy => pot_nm y (pm.mem_iff.mp (List.mem_append_left _ hy))) hD0 (W5.at 0 rfl) (W5.d.up (by omega))
theorem ok_part {f fP : Addr} {fd fdP : FuncData} (F : Fun K "_law_part" "_law_part" sLPart f fd) (Pk : Has K mg "_law_draw" sDraw ["pot", "top"] fP fdP) (B : Blt mg) : FnOk P w K mg base CX0 2 f fd ["pot", "items", "shares"] spPart := by
  have GP : FnOk P w K mg base CX0 1 fP fdP ["pot", "top"] spPick := ok_pick Pk.F B
  refine F.ok scPart (fun vs H Q E h => ?_) (fun cdv A outer s H vs Q E hr h => ?_)
  · obtain ⟨p, c, v, xs, m, rfl, _⟩ := h
    rfl
  · obtain ⟨p, c, v, xs, m, rfl, hs, hc, D1, h1, m0, m1, q⟩ := h
    refine ⟨_, pss_one (ps_ret (pe_lc (own := [("item", 3)]) (g := gName 3) (te := tVar 3) rfl scPart.nd (pi_tup (pv 1)) (blkOk_by (N := ["pot", "items", "shares", "item"]) (sc := defScope sLPart) (by decide +kernel))
            (fun _ _ _ _ _ => pg_name (i := 3) scPart.nd rfl (Or.inl rfl)) (fun _ _ _ _ _ => pts_one (pt_cmpR op_gt (pe_call GP (by exact hr) (by rfl) Pk.g Pk.F.kp Pk.b .nil pass0 (pa_cons (pv 0) (pa_cons (pv 2) pa_nil))) pe_int (nomark _))) (fun _ _ _ _ _ => by exact pv 3))), ?_⟩
    have W0 := (Wk.start hs).addR (keyable_nms xs) D1
    obtain ⟨a, ps, rfl, e1, Dp⟩ := dat_tup (ds := xs.map PyData.str) D1
    cases dats_strs_eq Dp
    refine ⟨_, rfl, a, rfl, ⟨_, SqT.of e1⟩, fun D hD => ?_⟩
    have hD0 := W0.free hD
    refine lc_tup (K := K) (a := a) (xs := xs.map V.str) (fun j H4 => ∃ ys : List Str, Wk H p (c + j) [(D, .lst (ys.map V.str))] [(.ref a, nmsD xs)] H4 ∧ ys.Sublist (xs.take j)) ⟨[], W0.new hD, List.nil_sublist _⟩
      (fun j H4 _ ⟨ys, W, _⟩ => ?_) ?_ ?_
    · have z := W.row 0 rfl
      obtain ⟨a', ps', e', e2, Dp'⟩ := dat_tup (ds := xs.map PyData.str) z
      cases dats_strs_eq Dp'
      cases e'
      exact SqT.of e2
    · rintro j x H4 hx ⟨ys, W, sub⟩
      rw [List.getElem?_map] at hx
      obtain ⟨y, hy, rfl⟩ := Option.map_eq_some_iff.mp hx
      have jl : j < xs.length := (List.getElem?_eq_some_iff.mp hy).1
      refine ⟨rfl, _, rfl, _, rfl, p, _, m, rfl, W.s, by omega, m0, m1, fun k4 o4 _ _ hp4 => ⟨_, _, rfl, rfl, _, rfl, ?_⟩⟩
      have W5 := W.src hp4
      have tk : xs.take (j + 1) = xs.take j ++ [y] := take_next hy
      refine ite2 (fun _ => ?_) (fun _ => ?_)
      · refine ⟨_, rfl, _, W5.at 0 rfl, ?_, ys ++ [y], ?_, by rw [tk]; exact sub.append (List.Sublist.refl _)⟩
        · rw [List.length_map]
          have := sub.length_le
          rw [List.length_take] at this
          exact small1000 (by omega)
        · have W6 := W5.put (o' := .lst (ys.map V.str ++ [V.str y])) 0 rfl hD0 lst_nt
          rw [List.map_append]
          exact W6.up (by omega)
      · exact ⟨ys, W5.up (by omega), by rw [tk]; exact sub.trans (List.sublist_append_left _ _)⟩
    · rintro H4 ⟨ys, W, sub⟩
      rw [List.length_map] at W
      exact q D ys H4 (sub.trans (List.take_sublist _ _)) hD0 (W.at 0 rfl) W.d
end
end S1

set_option Elab.async false
set_option linter.all false
set_option maxRecDepth 100000
set_option maxHeartbeats 4000000
/-! owns, drawn -/
namespace S1
open PySem PySem.W PySem.Spec PyProof.Rows L2
/-- picks and owns as of a saying -/
structure FrOk (a b m : Nat) (picks : List Str) (owns : List Own) : Prop where
  pu : picks.Pairwise tlt
  pn : ∀ x ∈ picks, Nm x
  pl : picks.length ≤ a
  ou : owns.Pairwise fun x y => tlt x.1 y.1
  on : ∀ o ∈ owns, Nm o.1 ∧ o.1 ∉ picks ∧ o.2.Pairwise tlt ∧ ∀ x ∈ o.2, x ∈ picks
  ol : owns.length ≤ b
  oc : copies owns ≤ m
def spOwns : Sp := fun vs H Q _ => ∃ (p ln : Addr) (c m : Nat) (v : V) (picks ns : List Str), vs = [.ref p, v, .ref ln, .int m] ∧ Src H p c ∧ c ≤ 50000 ∧ Dat H v (nmsD picks) ∧ picks.Pairwise tlt ∧ (∀ x ∈ picks, Nm x) ∧ picks.length ≤ 14 ∧
  H ln = some (.lst (ns.map V.str)) ∧ ns.Nodup ∧ (∀ x ∈ ns, Nm x ∧ x ∉ picks) ∧ ns.length ≤ 14 ∧ ns.length ≤ m ∧ m ≤ 1000 ∧
  ∀ (v2 : V) (owns : List Own) (H' : Hp), DatZ H' v2 owns → FrOk 14 ns.length m picks owns → owns.length = ns.length → (∀ x ∈ owns.map Prod.fst, x ∈ ns) → Dr H p (c + 500) H' → Q v2 H'
abbrev nOwns : List Str := ["pot", "picks", "names", "space", "found", "room", "shares", "at", "name", "sight"]
abbrev rowR (T : List TRow) : List (V × PyData) := T.map fun q => (q.v, q.2)
theorem rowR_mem {T : List TRow} {x : V × PyData} (h : x ∈ rowR T) : ∃ q ∈ T, x = (q.v, q.2) := by
  obtain ⟨q, hq, e⟩ := List.mem_map.mp h
  exact ⟨q, hq, e.symm⟩
section
variable {P : Program} {w : World} {K : PySem.W.Frag} {mg : Str → Option Value} {base : Heap}
theorem scOwns : FnScope nOwns ["pot", "picks", "names", "space"] (defScope sLOwns) := ⟨rfl, rfl, rfl, by decide +kernel, rfl, by decide +kernel, by decide +kernel⟩
theorem ok_owns {f fP fL : Addr} {fd fdP fdL : FuncData} (F : Fun K "_law_owns" "_law_owns" sLOwns f fd) (Pk : Has K mg "_law_draw" sDraw ["pot", "top"] fP fdP) (Lo : Has K mg "_law_part" sLPart ["pot", "items", "shares"] fL fdL) (B : Blt mg) (en : mg "enumerate" = none) :
    FnOk P w K mg base CX0 3 f fd ["pot", "picks", "names", "space"] spOwns := by
  have GP : FnOk P w K mg base CX0 1 fP fdP ["pot", "top"] spPick := ok_pick Pk.F B
  have GL : FnOk P w K mg base CX0 2 fL fdL ["pot", "items", "shares"] spPart := ok_part Lo.F Pk B
  refine F.ok scOwns (fun vs H Q E h => ?_) (fun cdv A outer s H vs Q E hr h => ?_)
  · obtain ⟨p, ln, c, m, v, picks, ns, rfl, _⟩ := h
    rfl
  · obtain ⟨p, ln, c, m, v, picks, ns, rfl, hs, hc, D1, pu, pn, pl, hln, nd, nm, nl, nlm, hm, q⟩ := h
    have hu : (A.deeper (envOfC "_law_owns" (defScope sLOwns) s.heap.objs.size f cdv)).units + 64 < cLine := hr.units
    have hr1 := hr.mono (show 1 ≤ 2 by decide)
    refine ⟨_, pss_cons (ps_par3 (i := 4) (j := 5) (l := 6) rfl scOwns.nd rfl rfl rfl (by decide) (by decide) (by decide) rfl rfl rfl
        (pa_cons (pe_lst pa_nil) (pa_cons (pv 3) (pa_cons (pe_ix ix_list (pe_lst (pa_cons pe_int (pa_cons pe_int (pa_cons pe_int (pa_cons pe_int pa_nil))))) (pe_call GP hr1 rfl Pk.g Pk.F.kp Pk.b .nil pass0 (pa_cons (pv 0) (pa_cons pe_int pa_nil))) (fun _ _ => rfl)) pa_nil))) (by with_unfolding_all rfl))
      (pss_cons (ps_for PassesOwn.never rfl (pi_enum (by rfl) en (pa_cons (pe_callB (cr_sortW (by exact hu)) (by rfl) B.sorted (by decide +kernel) (pa_cons (pv 2) pa_nil)) pa_nil)) (pg_tup rfl (pgs_cons (pg_name (i := 7) scOwns.nd rfl (.inl rfl)) (pgs_cons (pg_name (i := 8) scOwns.nd rfl (.inl rfl)) pgs_nil)))
        (pss_cons (ps_set (i := 9) scOwns.nd rfl (.inl rfl) (pe_call GL hr rfl Lo.g Lo.F.kp Lo.b .nil pass0 (pa_cons (pv 0) (pa_cons (pv 1) (pa_cons (pv 6) pa_nil)))))
        (pss_cons (ps_while PassesOwn.never (pt_cmpR op_gt (pe_op op_shl pe_int (pe_callB call_len_seq (by rfl) B.len (by decide +kernel) (pa_cons (pv 9) pa_nil)))
              (pe_op op_sub (pv 5) (pe_op op_sub (pe_op op_sub (pe_callB call_len_seq (by rfl) B.len (by decide +kernel) (pa_cons (pv 2) pa_nil)) pe_int) (pv 7))) (nomark _))
            (pss_one (ps_expr (pe_bm PySem.F.plainAttrs_list PySem.F.slot_list_pop PySem.F.type_list_pop mt_popAt (pv 9) (pa_cons (pe_call GP hr1 rfl Pk.g Pk.F.kp Pk.b .nil pass0 (pa_cons (pv 0) (pa_cons (pe_callB call_len_seq (by rfl) B.len (by decide +kernel) (pa_cons (pv 9) pa_nil)) pa_nil))) pa_nil)))))
        (pss_cons (ps_set (i := 5) scOwns.nd rfl (.inl rfl) (pe_op op_sub (pv 5) (pe_op op_shl pe_int (pe_callB call_len_seq (by rfl) B.len (by decide +kernel) (pa_cons (pv 9) pa_nil)))))
        (pss_one (ps_expr (pe_bm PySem.F.plainAttrs_list PySem.F.slot_list_append PySem.F.type_list_append mt_append (pv 4) (pa_cons (pe_tup (pa_cons (pv 8) (pa_cons (pe_tupleOf rfl B.tuple (pv 9)) pa_nil))) pa_nil))))))))
      (pss_one (ps_ret (pe_tupleF rfl B.tuple (pv 4))))), ?_⟩
    have npl := hs.nes hln
    have W0 := ((Wk.start hs).addR (keyable_nms picks) D1).know hln npl (fun x z => absurd z (by simp))
    refine ⟨(by show 0 ≤ sizeLine; decide), fun aF hF => ⟨_, rfl, (by show 4 ≤ sizeLine; decide), fun l4 hl4 => ?_⟩⟩
    have hF0 := W0.free hF
    have W1 := W0.new (o := .lst ([] : List V)) hF
    have W2 := W1.new (o := .lst ([2, 2, 3, 9].map V.int)) hl4
    refine ⟨_, rfl, p, _, 4, rfl, W2.s, by omega, by decide, by decide, fun r o r0 r1 hp1 => ?_⟩
    have W3 := W2.src hp1
    obtain ⟨vv, hv, hm4, _⟩ := at_ok (xs := ([2, 2, 3, 9] : List Int).map V.int) r0 (by simpa using r1)
    obtain ⟨sh, hsh, rfl⟩ := List.mem_map.mp hm4
    have sh0 : 0 < sh ∧ sh < 2 ^ 100 := by
      simp only [List.mem_cons, List.not_mem_nil, or_false] at hsh
      rcases hsh with h | h | h | h <;> subst h <;> decide
    refine ⟨l4, _, r, _, rfl, rfl, SqL.of (W3.at 0 rfl), hv, _, _, _, rfl, ?_⟩
    have W4 := W3.sub (F' := [(aF, .lst ([] : List V)), (ln, .lst (ns.map V.str))]) (by simp)
    refine gen_heap (F := fun G => Wk H p (c + 1) [(aF, .lst ([] : List V)), (ln, .lst (ns.map V.str))] [(v, nmsD picks)] G) W4 (fun H4 W4 => ?_)
    refine ⟨_, rfl, ln, _, rfl, SqL.of (W4.at 1 rfl), fun zs b1 pm up hb1 => ⟨b1, _, rfl, SqL.of upd_same, ?_⟩⟩
    have W5 := W4.new (o := .lst (zs.map V.str)) hb1
    have zl : zs.length = ns.length := pm.length_eq
    have b1F : aF ≠ b1 := fun z => by
      have := W5.nd
      simp [z] at this
    refine for_enum (K := K) (a := b1) (xs := zs.map V.str) (fun i σ H' => ∃ (os : List Own) (T : List TRow) (room : Nat) (o7 o8 o9 : Option V), σ = [some (.ref p), some v, some (.ref ln), some (.int m), some (.ref aF), some (.int (room : Int)), some (.int sh), o7, o8, o9] ∧
      T.map Prod.snd = os.map ownD ∧ copies os + room = m ∧ os.map Prod.fst = zs.take i ∧ (∀ o ∈ os, o.2.Sublist picks) ∧ ns.length ≤ room + i ∧
      Wk H p (c + 1 + 30 * i) [(b1, .lst (zs.map V.str)), (aF, .lst (T.map TRow.v)), (ln, .lst (ns.map V.str))] ((v, nmsD picks) :: rowR T) H') ?_ (fun i σ H' _ ⟨_, _, _, _, _, _, _, _, _, _, _, _, W⟩ => SqL.of (W.at 0 rfl)) ?_ ?_
    · exact ⟨[], [], m, _, _, _, rfl, rfl, by show 0 + m = m; omega, rfl, fun o ho => absurd ho (by simp), by omega, W5⟩
    · rintro i x σ H' T0 hx hT0 ⟨os, T, room, o7, o8, o9, rfl, eT, hroom, hfst, hsg, hrm, F0⟩
      rw [List.getElem?_map] at hx
      obtain ⟨u, hu2, rfl⟩ := Option.map_eq_some_iff.mp hx
      have il : i < zs.length := (List.getElem?_eq_some_iff.mp hu2).1
      have F1 := F0.new' (o := .tup [.int (i : Nat), .str u]) hT0
      refine ⟨T0, _, rfl, SqT.of upd_same, rfl, _, _, rfl, _, _, rfl, rfl, ?_⟩
      generalize upd H' T0 (.tup [.int (i : Nat), .str u]) = H1 at F1 ⊢
      refine ⟨_, rfl, _, rfl, _, rfl, p, _, v, picks, sh, rfl, F1.s, by omega, F1.row 0 rfl, by omega, sh0.1, sh0.2, fun D sg H2 sub hD eD d2' => ?_⟩
      have F2 := (F1.trans d2').know eD (F1.d.ne hD) (F1.no hD)
      have hD0 := F1.free hD
      refine ⟨fun m' σ6 H6 => ∃ sg6 : List Str, σ6 = [some (.ref p), some v, some (.ref ln), some (.int m), some (.ref aF), some (.int (room : Int)), some (.int sh), some (.int (i : Nat)), some (.str u), some (.ref D)] ∧ m' = sg6.length ∧ sg6.Sublist picks ∧
        Wk H p (c + 1 + 30 * i + 14 + (14 - sg6.length)) [(D, .lst (sg6.map V.str)), (b1, .lst (zs.map V.str)), (aF, .lst (T.map TRow.v)), (ln, .lst (ns.map V.str))] ((v, nmsD picks) :: rowR T) H6, ⟨_, sg, rfl, rfl, sub, F2.up (by have := sub.length_le; omega)⟩, ?_⟩
      rintro m' σ6 H6 ⟨sg6, rfl, rfl, sub6, F6⟩
      have l6 : sg6.length ≤ 14 := by have := sub6.length_le; omega
      refine ⟨_, rfl, _, _, rfl, .inl (SqL.of (F6.at 0 rfl)), _, _, rfl, rfl, ⟨by omega, by rw [List.length_map]; omega, by decide⟩, _, rfl, _, rfl, _, _, rfl, .inl (SqL.of (F6.at 3 rfl)), _, _, rfl, rfl, _, rfl, _, _, rfl, rfl, _, _, rfl, rfl, _, _, rfl, rfl, _, rfl, ?_⟩
      have key : ((1 : Int) * 2 ^ ((sg6.map V.str).length : Int).toNat) = ((2 ^ sg6.length : Nat) : Int) := by
        rw [List.length_map, Int.toNat_natCast, Int.one_mul]
        push_cast
        rfl
      refine ite2 (fun hgt => ?_) (fun hle => ?_)
      · have hgt2 := of_decide_eq_true hgt
        rw [key, List.length_map] at hgt2
        have lp : 0 < sg6.length := by
          rcases Nat.eq_zero_or_pos sg6.length with e | e
          · rw [e] at hgt2
            simp only [Nat.pow_zero] at hgt2
            omega
          · exact e
        refine ⟨fun σ8 H8 => ∃ sg8 : List Str, σ8 = [some (.ref p), some v, some (.ref ln), some (.int m), some (.ref aF), some (.int (room : Int)), some (.int sh), some (.int (i : Nat)), some (.str u), some (.ref D)] ∧ sg8.length + 1 = sg6.length ∧ sg8.Sublist picks ∧
          Wk H p (c + 1 + 30 * i + 14 + (14 - sg8.length)) [(D, .lst (sg8.map V.str)), (b1, .lst (zs.map V.str)), (aF, .lst (T.map TRow.v)), (ln, .lst (ns.map V.str))] ((v, nmsD picks) :: rowR T) H8, fun σ8 H8 ⟨sg8, y1, y2, y3, y4⟩ => ⟨sg8.length, by omega, sg8, y1, rfl, y3, y4⟩, ?_⟩
        refine ⟨_, rfl, .inl ⟨rfl, _, SqL.of (F6.at 0 rfl)⟩, _, rfl, _, rfl, _, _, rfl, .inl (SqL.of (F6.at 0 rfl)), p, _, _, rfl, F6.s, by omega, by rw [List.length_map]; omega, by rw [List.length_map]; omega, fun k9 o9 k90 k91 hp9 => ?_⟩
        rw [List.length_map] at k91
        have kl : k9.toNat < sg6.length := by omega
        have F9 := F6.src hp9
        have lenE : (sg6.eraseIdx k9.toNat).length + 1 = sg6.length := by
          rw [List.length_eraseIdx, if_pos kl]
          omega
        refine ⟨D, _, k9, k9.toNat, .str sg6[k9.toNat], rfl, rfl, F9.at 0 rfl, by omega, by omega, by rw [List.length_map]; exact seq_nat k90 k91, by rw [List.getElem?_map, List.getElem?_eq_getElem kl]; rfl, ?_⟩
        rw [map_erase]
        exact ⟨sg6.eraseIdx k9.toNat, rfl, lenE, (List.eraseIdx_sublist _ _).trans sub6, (F9.put (o' := .lst ((sg6.eraseIdx k9.toNat).map V.str)) 0 rfl hD0 lst_nt).up (by omega)⟩
      · have hle2 : ¬ _ := fun y => hle (decide_eq_true y)
        rw [key, List.length_map] at hle2
        have fit : 2 ^ sg6.length ≤ room := by omega
        have rest : ns.length ≤ room - 2 ^ sg6.length + (i + 1) := by omega
        refine ⟨_, rfl, _, rfl, _, _, rfl, .inl (SqL.of (F6.at 0 rfl)), _, _, rfl, rfl, ⟨by omega, by rw [List.length_map]; omega, by decide⟩, _, _, rfl, rfl, ?_⟩
        have er : (room : Int) - 1 * 2 ^ ((sg6.map V.str).length : Int).toNat = ((room - 2 ^ sg6.length : Nat) : Int) := by
          rw [key]
          omega
        refine ⟨_, rfl, .inl ⟨rfl, _, SqL.of (F6.at 2 rfl)⟩, _, rfl, _, rfl, .inl ⟨D, _, rfl, SqL.of (F6.at 0 rfl), fun t1 ht1 => ⟨(by show 2 ≤ sizeLine; decide), fun t2 ht2 => ?_⟩⟩⟩
        have F7 := F6.new (o := .tup (sg6.map V.str)) ht1
        have F8 := F7.new (o := .tup [.str u, .ref t1]) ht2
        generalize upd (upd H6 t1 (.tup (sg6.map V.str))) t2 (.tup [.str u, .ref t1]) = H8 at F8 ⊢
        have Dow : Dat H8 (.ref t2) (ownD (u, sg6)) := .tup (F8.at 0 rfl) (.cons (.str u) (.cons (.tup (F8.at 1 rfl) (dats_strs sg6)) .nil))
        have lenT : T.length = i := by
          rw [← List.length_map (f := Prod.snd), eT, List.length_map, ← List.length_map (f := Prod.fst), hfst, List.length_take]
          omega
        refine ⟨aF, _, _, rfl, rfl, F8.at 4 rfl, by rw [List.length_map, lenT]; exact small1000 (by omega), ?_⟩
        refine ⟨os ++ [(u, sg6)], T ++ [(t2, ownD (u, sg6))], room - 2 ^ sg6.length, _, _, _, by rw [← er]; rfl, by rw [List.map_append, List.map_append, eT]; rfl, by rw [copies_snoc]; show copies os + 2 ^ sg6.length + _ = m; omega,
          by rw [List.map_append, hfst, take_next hu2]; rfl, fun o ho => ?_, rest, ?_⟩
        · rcases List.mem_append.mp ho with y | y
          · exact hsg o y
          · cases List.mem_singleton.mp y
            exact sub6
        · have F9 := (F8.addR (keyable_own _) Dow).sub (F' := [(b1, .lst (zs.map V.str)), (aF, .lst (T.map TRow.v)), (ln, .lst (ns.map V.str))]) (.cons _ (.cons _ (.cons _ (.refl _))))
          have F10 := F9.put (o' := .lst (T.map TRow.v ++ [.ref t2])) 1 rfl hF0 lst_nt
          rw [List.map_append]
          refine (F10.rows fun x hx => ?_).up (by omega)
          refine .inl ?_
          rcases List.mem_cons.mp hx with rfl | hx
          · exact List.mem_cons_of_mem _ List.mem_cons_self
          · obtain ⟨q', hq', rfl⟩ := rowR_mem hx
            rcases List.mem_append.mp hq' with y | y
            · exact List.mem_cons_of_mem _ (List.mem_cons_of_mem _ (List.mem_map.mpr ⟨q', y, rfl⟩))
            · cases List.mem_singleton.mp y
              exact List.mem_cons_self
    · rintro σ H' ⟨os, T, room, o7, o8, o9, rfl, eT, hroom, hfst, hsg, hrm, F0⟩
      rw [List.length_map] at hfst F0
      rw [List.take_length] at hfst
      refine ⟨_, rfl, aF, _, rfl, SqL.of (F0.at 1 rfl), fun t2 ob ht2 hob => ?_⟩
      have F2 := F0.new (o := .frz ob (.tup (T.map TRow.v))) ht2
      have mz : ∀ x ∈ os.map Prod.fst, x ∈ ns := fun x hx => pm.mem_iff.mp (hfst ▸ hx)
      have lo : os.length = ns.length := by rw [← List.length_map (f := Prod.fst), hfst, zl]
      refine q (.ref t2) os _ ?_ ⟨pu, pn, pl, ?_, fun o ho => ?_, by omega, by omega⟩ lo mz (F2.d.up (by omega))
      · refine ⟨t2, _, rfl, ⟨ob, hob, F2.at 0 rfl⟩, ?_⟩
        rw [← eT]
        exact (dats_rows fun q' hq' => (F2.r (q'.v, q'.2) (List.mem_cons_of_mem _ (List.mem_map.mpr ⟨q', hq', rfl⟩))).2)
      · have upZ := up nd
        rw [← hfst] at upZ
        exact List.pairwise_map.mp upZ
      · have h1 := nm o.1 (mz o.1 (List.mem_map_of_mem ho))
        exact ⟨h1.1, h1.2, pu.sublist (hsg o ho), fun x hx => (hsg o ho).subset hx⟩
end
end S1

set_option Elab.async false
set_option linter.all false
set_option maxRecDepth 100000
set_option maxHeartbeats 4000000
/-! clauses, drawn -/
namespace S1
open PySem PySem.W PySem.Spec PyProof.Rows L2
theorem gPair_mono {K : PySem.W.Frag} {i j : Nat} : ∀ (x : V) (σ1 : L2.St) (H1 : Hp) (A B : L2.St → Hp → Prop), (∀ σ2 H2, A σ2 H2 → B σ2 H2) → gTup K 2 (gCons (gName i) (gCons (gName j) gNil)) x σ1 H1 A → gTup K 2 (gCons (gName i) (gCons (gName j) gNil)) x σ1 H1 B := by
  rintro x σ1 H1 A B h ⟨a, xs, e1, e2, e3, v, r, e4, v2, r2, e5, e6, z⟩
  exact ⟨a, xs, e1, e2, e3, v, r, e4, v2, r2, e5, e6, h _ _ z⟩
/-- the names of owns, one by one -/
theorem own_names {H : Hp} {us : List V} {owns : List Own} (D : DatAll H us (owns.map ownD)) {i : Nat} {x : V} (hx : us[i]? = some x) : ∃ (o : Own) (t t' : Addr), owns[i]? = some o ∧ x = .ref t ∧ H t = some (.tup [.str o.1, .ref t']) := by
  obtain ⟨d, hd, Dx⟩ := dats_get' D i x hx
  obtain ⟨o, ho, rfl⟩ := get_map hd
  obtain ⟨t, rfl⟩ := tuple_ref (ds := [.str o.1, nmsD o.2]) Dx
  obtain ⟨t', g1, g2⟩ := own_row (q := (t, ownD o)) rfl Dx
  exact ⟨o, t, t', ho, rfl, g1⟩
/-- [name for name, sight in owns] -/
theorem lc_names {K : PySem.W.Frag} {σ : L2.St} {H : Hp} {D b : Addr} {us : List V} {owns : List Own} {Qd : Hp → Prop} {i j : Nat} {ws : List Nat} (eb : FT H b us) (Db : DatAll H us (owns.map ownD)) (hD : H D = none) (len : owns.length ≤ 1000)
    (hw : ∀ (x y : V), wipe (((wipe σ ws).set i (some x)).set j (some y)) ws = wipe σ ws) (hi : ∀ (x y : V), (((wipe σ ws).set i (some x)).set j (some y))[i]? = some (some x))
    (hd : ∀ H5, H5 D = some (.lst ((owns.map Prod.fst).map V.str)) → Same H H5 → Qd H5) :
    ∃ W : Nat → Nat → Hp → Prop, (∃ m, W 0 m (upd H D (.lst []))) ∧ ∀ n m H, W n m H →
      ((Itt K b).stop n H ∧ Qd H) ∨ ((Itt K b).go n H ∧ ∃ Nx : Hp → Prop, (∀ H', Nx H' → ∃ m', m' < m ∧ W (n + 1) m' H') ∧ ∀ x H', (Itt K b).yld n H x H' → gTup K 2 (gCons (gName i) (gCons (gName j) gNil)) x (wipe σ ws) H' fun σ2 H2 => wipe σ2 ws = wipe σ ws ∧ tYes σ2 H2 fun b H3 =>
        if b = true then tVar i σ2 H3 fun y H4 => ∃ acc, H4 D = some (.lst acc) ∧ acc.length < sizeLine ∧ Nx (upd H4 D (.lst (acc ++ [y]))) else Nx H3) := by
  have lu : us.length = owns.length := by rw [Db.len, List.length_map]
  refine lc_mapT (K := K) (ys := (owns.map Prod.fst).map V.str) (FT.sq eb) hD (by rw [List.length_map, List.length_map, lu]) (by omega) (fun n x y H4 Qe hx hy S4 k => ?_) gPair_mono hd
  obtain ⟨o, t, t', ho, rfl, g1⟩ := own_names Db hx
  have ey : y = V.str o.1 := by
    rw [List.getElem?_map, List.getElem?_map, ho] at hy
    exact (Option.some.inj hy).symm
  rw [ey] at k
  exact ⟨t, _, rfl, SqT.of (S4 _ _ g1), rfl, _, _, rfl, _, _, rfl, rfl, hw _ _, _, hi _ _, k H4 (Same.refl _)⟩
theorem nms_at {G : Hp} {v : V} {xs : List Str} (D : Dat G v (nmsD xs)) : ∃ a, v = .ref a ∧ G a = some (.tup (xs.map V.str)) := by
  obtain ⟨a, ps, e, e1, Dp⟩ := dat_tup (ds := xs.map PyData.str) D
  cases dats_strs_eq Dp
  exact ⟨a, e, e1⟩
theorem tup_at {G : Hp} {a : Addr} {ds : List PyData} (D : Dat G (.ref a) (.tuple ds)) : ∃ us, G a = some (.tup us) ∧ DatAll G us ds := by
  obtain ⟨b, us, e, e1, h⟩ := dat_tup D
  cases e
  exact ⟨us, e1, h⟩
theorem nms_get {G : Hp} {a : Addr} {xs : List Str} (D : Dat G (.ref a) (nmsD xs)) : G a = some (.tup (xs.map V.str)) := by
  obtain ⟨b, e, h⟩ := nms_at D
  cases e
  exact h
theorem keyable_owns (os : List Own) : keyable (.tuple (os.map ownD)) = true := by
  show keyables (os.map ownD) = true
  exact keyables_map ownD keyable_own os
theorem FrOk.nd {a b m : Nat} {picks : List Str} {owns : List Own} (h : FrOk a b m picks owns) : (picks ++ owns.map Prod.fst).Nodup := by
  have nt : ∀ {xs : List Str}, xs.Pairwise tlt → xs.Nodup := fun h => List.Pairwise.imp (fun {a b} z => fun e : a = b => by
    rw [e] at z
    exact absurd z (by unfold tlt; exact List.lt_irrefl _)) h
  refine List.nodup_append.mpr ⟨nt h.pu, nt (List.pairwise_map.mpr h.ou), fun x hx y hy e => ?_⟩
  obtain ⟨o, ho, rfl⟩ := List.mem_map.mp hy
  exact (h.on o ho).2.1 (e ▸ hx)
theorem FrOk.len {a b m : Nat} {picks : List Str} {owns : List Own} (h : FrOk a b m picks owns) : (picks ++ owns.map Prod.fst).length ≤ a + b := by
  have := h.pl
  have := h.ol
  rw [List.length_append, List.length_map]
  omega
/-! ### dicts of letters -/
def ltK (cl : List Ltr) : List (Key × V) := cl.map fun l => (Sum.inr l.1, V.bl l.2)
theorem ltK_val (x : Str) : ∀ cl : List Ltr, valV (ltK cl) (.inr x) = (cl.find? fun l => decide (l.1 = x)).map fun l => V.bl l.2
  | [] => rfl
  | l :: cl => by
    show valV ((Sum.inr l.1, V.bl l.2) :: ltK cl) (.inr x) = _
    rw [List.find?_cons]
    by_cases h : l.1 = x
    · rw [valV_pos (by rw [h]), decide_eq_true h]
      rfl
    · rw [valV_neg (by intro z; injection z with z; exact h z), ltK_val x cl, decide_eq_false h]
structure LD (cl : List Ltr) (ws : List Str) : Prop where
  nd : (cl.map Prod.fst).Nodup
  mem : ∀ l ∈ cl, l.1 ∈ ws
theorem LD.put {cl : List Ltr} {ws : List Str} {x : Str} (b : Bool) (h : LD cl ws) (hx : x ∈ ws) : ∃ cl', putK (ltK cl) (.inr x) (.bl b) = ltK cl' ∧ LD cl' ws := by
  cases e : cl.find? fun l => decide (l.1 = x) with
  | none =>
    have nx : x ∉ cl.map Prod.fst := fun z => by
      obtain ⟨l, hl, el⟩ := List.mem_map.mp z
      have := List.find?_eq_none.mp e l hl
      exact this (decide_eq_true el)
    refine ⟨cl ++ [(x, b)], ?_, ?_, fun l hl => ?_⟩
    · rw [putK_new _ (by rw [ltK_val, e]; rfl)]
      unfold ltK
      rw [List.map_append]
      rfl
    · rw [List.map_append]
      exact List.nodup_append.mpr ⟨h.nd, by simp, fun a ha c hc z => by
        have : c = x := by simpa using hc
        exact nx (this ▸ z ▸ ha)⟩
    · rcases List.mem_append.mp hl with z | z
      · exact h.mem l z
      · cases List.mem_singleton.mp z
        exact hx
  | some l0 =>
    refine ⟨cl.map fun l => if l.1 = x then (l.1, b) else l, ?_, ?_, fun l hl => ?_⟩
    · unfold putK
      have z : ((ltK cl).any fun kv => decide (kv.1 = Sum.inr x)) = true := by
        rw [valV_any, ltK_val, e]
        rfl
      rw [if_pos z]
      unfold ltK
      rw [List.map_map, List.map_map]
      refine List.map_congr_left fun l _ => ?_
      simp only [Function.comp]
      by_cases h : l.1 = x
      · rw [if_pos (by rw [h]), if_pos h]
      · rw [if_neg (by intro z; injection z with z; exact h z), if_neg h]
    · rw [List.map_map]
      have : (Prod.fst ∘ fun l : Ltr => if l.1 = x then (l.1, b) else l) = Prod.fst := by
        funext l
        simp only [Function.comp]
        split <;> rfl
      rw [this]
      exact h.nd
    · obtain ⟨l', hl', rfl⟩ := List.mem_map.mp hl
      split
      · exact h.mem l' hl'
      · exact h.mem l' hl'
theorem LD.len {cl : List Ltr} {ws : List Str} (h : LD cl ws) : cl.length ≤ ws.length := by
  have := nodup_le (m := ws) h.nd fun x hx => by
    obtain ⟨l, hl, rfl⟩ := List.mem_map.mp hx
    exact h.mem l hl
  rwa [List.length_map] at this
theorem LD.get {cl : List Ltr} {ws : List Str} (h : LD cl ws) {i : Nat} {l : Ltr} (hl : cl[i]? = some l) : valV (ltK cl) (.inr l.1) = some (.bl l.2) := by
  rw [ltK_val]
  have m := List.mem_of_getElem? hl
  have : (cl.find? fun l' => decide (l'.1 = l.1)) = some l := by
    clear hl
    induction cl with
    | nil => exact absurd m (by simp)
    | cons a cl ih =>
      rw [List.find?_cons]
      have nd := h.nd
      rw [List.map_cons, List.nodup_cons] at nd
      rcases List.mem_cons.mp m with rfl | m2
      · rw [decide_eq_true rfl]
      · have ne : a.1 ≠ l.1 := fun z => nd.1 (z ▸ List.mem_map_of_mem m2)
        rw [decide_eq_false ne]
        exact ih ⟨nd.2, fun l hl => h.mem l (List.mem_cons_of_mem _ hl)⟩ m2
  rw [this]
  rfl
theorem plain_nms (xs : List Str) : PyData.plainAll (xs.map PyData.str) = true := by
  induction xs with
  | nil => rfl
  | cons x xs ih => rw [List.map_cons, PyData.plainAll, ih]; rfl
def spDrCl : Sp := fun vs H Q _ => ∃ (p a1 a2 : Addr) (c a b m most : Nat) (picks : List Str) (owns : List Own), vs = [.ref p, .ref a1, .ref a2, .int most] ∧ Src H p c ∧ c ≤ 60000 ∧ Dat H (.ref a1) (nmsD picks) ∧ DatO H (.ref a2) owns ∧ FrOk a b m picks owns ∧ a ≤ 14 ∧ b ≤ 14 ∧ 0 < most ∧ most ≤ 40 ∧
  ∀ (v : V) (cl : List Ltr) (H' : Hp), Dat H' v (clD cl) → ClOk (picks ++ owns.map Prod.fst) cl → Dr H p (c + 100) H' → Q v H'
abbrev nCl : List Str := ["pot", "picks", "owns", "most", "found", "names", "few", "turn", "name", "sight"]
abbrev tDrw (i : Int) : TE := tCall spPick [] E0 (tCons (tVar 0) (tCons (tC (V.int i)) tNil))
/-- sorted letters, as a clause -/
theorem clause_of {G : Hp} {T T' : List TRow} {t : Addr} {cl : List Ltr} {ws : List Str} (eT : T.map Prod.snd = cl.map ltD) (ndc : (cl.map Prod.fst).Nodup) (mem : ∀ l ∈ cl, l.1 ∈ ws) (pm : T'.Perm T) (up : (T.map Prod.snd).Nodup → T'.Pairwise fun p q => dataLt p.2 q.2 = true)
    (hT : ∀ q ∈ T, Dat G q.v q.2) (et : G t = some (.tup (T'.map TRow.v))) : ∃ cl', Dat G (.ref t) (clD cl') ∧ ClOk ws cl' := by
  obtain ⟨cl', p2, e9, up2⟩ := letters_back pm eT ndc up
  refine ⟨cl', .tup et ?_, up2, fun l hl => mem l (p2.mem_iff.mp hl)⟩
  rw [← e9]
  exact dats_rows fun r hr => hT r (pm.mem_iff.mp hr)
theorem keys_lt {T : List TRow} {cl : List Ltr} (e : T.map Prod.snd = cl.map ltD) : ∀ q ∈ T, keyable q.2 = true := fun q hq => by
  have m : q.2 ∈ cl.map ltD := e ▸ List.mem_map_of_mem hq
  obtain ⟨x, _, hx⟩ := List.mem_map.mp m
  rw [← hx]
  rfl
theorem Wk.rr {H G : Hp} {p : Addr} {c : Nat} {F : List (Addr × HO)} {R0 : List (V × PyData)} {T : List TRow} (W : Wk H p c F (R0 ++ rowR T) G) : ∀ q ∈ T, Dat G q.v q.2 := fun q hq => (W.r (q.v, q.2) (List.mem_append_right _ (List.mem_map.mpr ⟨q, hq, rfl⟩))).2
theorem Wk.snoc {H G : Hp} {p : Addr} {c : Nat} {F : List (Addr × HO)} {R0 : List (V × PyData)} {T : List TRow} {q : TRow} (W : Wk H p c F (R0 ++ rowR T) G) (k : keyable q.2 = true) (D : Dat G q.v q.2) : Wk H p c F (R0 ++ rowR (T ++ [q])) G := W.rows fun x hx => by
  rcases List.mem_append.mp hx with h | h
  · exact .inl (List.mem_append_left _ h)
  · obtain ⟨q', hq', rfl⟩ := rowR_mem h
    rcases List.mem_append.mp hq' with y | y
    · exact .inl (List.mem_append_right _ (List.mem_map.mpr ⟨q', y, rfl⟩))
    · cases List.mem_singleton.mp y
      exact .inr ⟨k, D⟩
end S1

set_option Elab.async false
set_option linter.all false
set_option maxRecDepth 100000
set_option maxHeartbeats 4000000
/-! clauses, drawn -/
namespace S1
open PySem PySem.W PySem.Spec PyProof.Rows L2
theorem max_nat {x y N : Int} (h : 0 ≤ x) (h2 : 0 ≤ y) (hx : x ≤ N) (hy : y ≤ N) : ∃ n : Nat, (if y > x then y else x) = (n : Int) ∧ (n : Int) ≤ N := by
  split
  · exact ⟨y.toNat, by omega, by omega⟩
  · exact ⟨x.toNat, by omega, by omega⟩
section
variable {P : Program} {w : World} {K : PySem.W.Frag} {mg : Str → Option Value} {base : Heap}
theorem scCl : FnScope nCl ["pot", "picks", "owns", "most"] (defScope sLClause) := ⟨rfl, rfl, rfl, by decide +kernel, rfl, by decide +kernel, by decide +kernel⟩
theorem ok_drCl {f fP : Addr} {fd fdP : FuncData} (F : Fun K "_law_clause" "_law_clause" sLClause f fd) (Pk : Has K mg "_law_draw" sDraw ["pot", "top"] fP fdP) (B : Blt mg) : FnOk P w K mg base CX0 2 f fd ["pot", "picks", "owns", "most"] spDrCl := by
  have GP : FnOk P w K mg base CX0 1 fP fdP ["pot", "top"] spPick := ok_pick Pk.F B
  refine F.ok scCl (fun vs H Q E h => ?_) (fun cdv A outer s H vs Q E hr h => ?_)
  · obtain ⟨p, a1, a2, c, a, b, m, most, picks, owns, rfl, _⟩ := h
    rfl
  · obtain ⟨p, a1, a2, c, a, b, m, most, picks, owns, rfl, hs, hc, D1, D2, ok, ha, hb, hm0, hm1, q⟩ := h
    have hu : (A.deeper (envOfC "_law_clause" (defScope sLClause) s.heap.objs.size f cdv)).units + 64 < cLine := hr.units
    have hu1 : (A.deeper (envOfC "_law_clause" (defScope sLClause) s.heap.objs.size f cdv)).units + 1 < cLine := by omega
    refine ⟨_, pss_cons (ps_asg (pe_tup (pa_cons pe_dnewK (pa_cons (pe_lc (own := [("name", 8), ("sight", 9)]) (g := gTup K 2 (gCons (gName 8) (gCons (gName 9) gNil))) (tt := tYes) (te := tVar 8) rfl scCl.nd (pi_tup (pv 2)) (blkOk_by (N := nCl) (sc := defScope sLClause) (by decide +kernel))
          (fun _ _ _ _ _ => by exact pg_tup rfl (pgs_cons (pg_name (i := 8) scCl.nd rfl (.inl rfl)) (pgs_cons (pg_name (i := 9) scCl.nd rfl (.inl rfl)) pgs_nil))) (fun _ _ _ _ _ => pts_nil) (fun _ _ _ _ _ => pv 8)) pa_nil)))
        (pg_tup rfl (pgs_cons (pg_name (i := 4) scCl.nd rfl (.inr rfl)) (pgs_cons (pg_name (i := 5) scCl.nd rfl (.inl rfl)) pgs_nil))))
      (pss_cons (ps_if (pt_cmpR op_eq (pe_call GP hr rfl Pk.g Pk.F.kp Pk.b .nil pass0 (pa_cons (pv 0) (pa_cons pe_int pa_nil))) pe_int (nomark _))
        (pss_cons (ps_setLc (i := 5) (own := [("name", 8)]) (g := gName 8) (tt := tTest (tOp (rI0 fun i j => V.bl (decide (i > j))) (tDrw 5) (tC (V.int 0)))) (te := tVar 8) rfl scCl.nd rfl rfl (sw_true rfl rfl rfl (by decide +kernel))
            (pi_list (pe_op op_cat (pv 5) (pe_callTy call_list_of (by rfl) B.list (by decide +kernel) (pa_cons (pv 1) pa_nil)))) (blkOk_by (N := nCl) (sc := defScope sLClause) (by decide +kernel)) (fun _ _ _ _ _ => pg_name (i := 8) scCl.nd rfl (Or.inl rfl))
            (fun _ _ _ _ _ => by exact pts_one (pt_cmpR op_gt (pe_call GP (by exact hr) (by rfl) Pk.g Pk.F.kp Pk.b .nil pass0 (pa_cons (pv 0) (pa_cons pe_int pa_nil))) pe_int (nomark _))) (fun _ _ _ _ _ => by exact pv 8))
        (pss_one (ps_ret (pe_tupleOf rfl B.tuple (pe_callB (cr_sortL (by exact hu)) (by rfl) B.sorted (by decide +kernel) (pa_cons (pe_lc (own := [("name", 8)]) (g := gName 8) (tt := tYes) (te := tTup (tCons (tVar 8) (tCons (tOp rEq (tDrw 2) (tC (V.int 0))) tNil))) rfl scCl.nd
            (pi_list (pv 5)) (blkOk_by (N := nCl) (sc := defScope sLClause) (by decide +kernel)) (fun _ _ _ _ _ => pg_name (i := 8) scCl.nd rfl (Or.inl rfl)) (fun _ _ _ _ _ => pts_nil)
            (fun _ _ _ _ _ => by exact pe_tup (pa_cons (pv 8) (pa_cons (pe_cmpR op_eq (pe_call GP (by exact hr) (by rfl) Pk.g Pk.F.kp Pk.b .nil pass0 (pa_cons (pv 0) (pa_cons pe_int pa_nil))) pe_int (nomark _)) pa_nil)))) pa_nil)))))) pss_nil)
      (pss_cons (ps_set (i := 6) scCl.nd rfl (.inl rfl) (pe_ifExp (pt_cmpR op_eq (pe_call GP hr rfl Pk.g Pk.F.kp Pk.b .nil pass0 (pa_cons (pv 0) (pa_cons pe_int pa_nil))) pe_int (nomark _)) pe_int pe_int))
      (pss_cons (ps_for PassesOwn.never rfl (pi_range1 rfl B.range (pa_cons (pe_op op_add (pv 6) (pe_callB (call_max2 rfl) (by rfl) B.max (by decide +kernel) (pa_cons (pe_call GP hr rfl Pk.g Pk.F.kp Pk.b .nil pass0 (pa_cons (pv 0) (pa_cons (pv 3) pa_nil))) (pa_cons (pe_call GP hr rfl Pk.g Pk.F.kp Pk.b .nil pass0 (pa_cons (pv 0) (pa_cons (pv 3) pa_nil))) pa_nil)))) pa_nil)) (pg_name (i := 7) scCl.nd rfl (.inl rfl))
        (pss_one (ps_if (pt_cmpR (op_neP (by exact hu)) (pv 5) (pe_lst pa_nil) (nomark _))
          (pss_one (ps_dput (by exact hu1) (pv 4) (pe_ix ix_list (pv 5) (pe_call GP hr rfl Pk.g Pk.F.kp Pk.b .nil pass0 (pa_cons (pv 0) (pa_cons (pe_callB call_len_seq (by rfl) B.len (by decide +kernel) (pa_cons (pv 5) pa_nil)) pa_nil))) (fun _ _ => rfl))
            (pe_cmpR op_eq (pe_call GP hr rfl Pk.g Pk.F.kp Pk.b .nil pass0 (pa_cons (pv 0) (pa_cons pe_int pa_nil))) pe_int (nomark _)) (by rfl))) pss_nil)))
      (pss_cons (ps_for PassesOwn.never rfl (pi_range1 rfl B.range (pa_cons (pe_ix ix_list (pe_lst (pa_cons pe_int (pa_cons pe_int (pa_cons pe_int (pa_cons pe_int (pa_cons pe_int (pa_cons pe_int pa_nil))))))) (pe_call GP hr rfl Pk.g Pk.F.kp Pk.b .nil pass0 (pa_cons (pv 0) (pa_cons pe_int pa_nil))) (fun _ _ => rfl)) pa_nil)) (pg_name (i := 7) scCl.nd rfl (.inl rfl))
        (pss_one (ps_if (pt_cmpR (op_neP (by exact hu)) (pv 1) (pe_tup pa_nil) (nomark _))
          (pss_one (ps_dput (by exact hu1) (pv 4) (pe_ix ix_tup (pv 1) (pe_call GP hr rfl Pk.g Pk.F.kp Pk.b .nil pass0 (pa_cons (pv 0) (pa_cons (pe_callB call_len_seq (by rfl) B.len (by decide +kernel) (pa_cons (pv 1) pa_nil)) pa_nil))) (fun _ _ => rfl))
            (pe_cmpR op_eq (pe_call GP hr rfl Pk.g Pk.F.kp Pk.b .nil pass0 (pa_cons (pv 0) (pa_cons pe_int pa_nil))) pe_int (nomark _)) (by rfl))) pss_nil)))
      (pss_one (ps_ret (pe_tupleOf rfl B.tuple (pe_callB (cr_sortL (by exact hu)) (by rfl) B.sorted (by decide +kernel) (pa_cons (pe_lock (pe_lc (own := [("name", 8)]) (g := gName 8) (tt := tYes) (te := tTup (tCons (tVar 8) (tCons (tDGet (tVar 4) (tVar 8)) tNil))) rfl scCl.nd
            (pi_keys (pv 4)) (blkOk_by (N := nCl) (sc := defScope sLClause) (by decide +kernel)) (fun _ _ _ _ _ => pg_name (i := 8) scCl.nd rfl (Or.inl rfl)) (fun _ _ _ _ _ => pts_nil)
            (fun _ _ _ _ _ => by exact pe_tup (pa_cons (pv 8) (pa_cons (pe_dget (by exact hu1) (pv 4) (pv 8) (fun _ _ => rfl)) pa_nil))))) pa_nil))))))))), ?_⟩
    have kO := keyable_owns owns
    have W0 := (Wk.start hs).addR (keyable_nms picks) D1
    have lO := ok.ol
    have lP := ok.pl
    have ndA := ok.nd
    have lA := ok.len
    refine fun aF hF0 => ?_
    have W1 := W0.new (o := .dK []) hF0
    obtain ⟨b2, us, eb2, e2, Do⟩ := D2.same (same_new (o := .dK []) hF0)
    cases eb2
    refine ⟨_, rfl, a2, rfl, ⟨_, FT.sq e2⟩, fun aL hL => ?_⟩
    refine lc_names (K := K) e2 Do hL (by omega) (fun _ _ => rfl) (fun _ _ => rfl) fun H5 eL S5 => ?_
    have W2 := (W1.same S5).know eL (W1.d.ne hL) (W1.no hL)
    refine ⟨(by show 2 ≤ sizeLine; decide), fun t ht => ?_⟩
    have W3 := W2.new' (o := .tup [.ref aF, .ref aL]) ht
    refine ⟨t, _, rfl, SqT.of upd_same, rfl, _, _, rfl, _, _, rfl, rfl, ?_⟩
    refine gen_heap (F := fun G => Wk H p c [(aL, .lst ((owns.map Prod.fst).map V.str)), (aF, .dK (ltK []))] [(.ref a1, nmsD picks)] G) W3 (fun G W3 => ?_)
    clear W1 W2
    refine ⟨_, rfl, p, _, 7, rfl, W3.s, by omega, by decide, by decide, fun r o r0 r1 hp1 => ⟨rfl, _, rfl, ?_⟩⟩
    have W4 := W3.src hp1
    generalize upd G p o = H4 at W4 ⊢
    clear W3
    refine ite2 (fun _ => ?_) (fun _ => ?_)
    · have e1 := nms_get (W4.row 0 rfl)
      refine ⟨_, rfl, _, rfl, a1, _, rfl, .inr (SqT.of e1), fun l0 hl0 => ?_⟩
      have W5 := W4.new (o := .lst (picks.map V.str)) hl0
      refine ⟨_, _, _, _, rfl, rfl, W5.at 1 rfl, W5.at 0 rfl, ?_, fun l hl => ?_⟩
      · rw [List.length_map, List.length_map, List.length_map]
        exact Nat.le_of_lt (small1000 (by omega))
      rw [← List.map_append]
      have W6 := (W5.new (o := .lst ((owns.map Prod.fst ++ picks).map V.str)) hl).sub (F' := [(l, .lst ((owns.map Prod.fst ++ picks).map V.str))]) (.cons₂ _ (.cons _ (.cons _ (.cons _ .slnil))))
      have pmA : (owns.map Prod.fst ++ picks).Perm (picks ++ owns.map Prod.fst) := List.perm_append_comm
      generalize hns : owns.map Prod.fst ++ picks = ns at W6 pmA ⊢
      have nsl : ns.length ≤ 28 := by have := pmA.length_eq; omega
      refine ⟨l, rfl, ⟨_, SqL.of (W6.at 0 rfl)⟩, fun D hD => ?_⟩
      have hD0 := W6.free hD
      refine lc_list (K := K) (a := l) (xs := ns.map V.str) (fun j H4 => ∃ ys : List Str, Wk H p (c + 1 + j) [(D, .lst (ys.map V.str)), (l, .lst (ns.map V.str))] [(.ref a1, nmsD picks)] H4 ∧ ys.Sublist (ns.take j)) ⟨[], W6.new hD, List.nil_sublist _⟩
        (fun j H4 _ ⟨ys, W, _⟩ => SqL.of (W.at 1 rfl)) ?_ ?_
      · rintro j x H4 hx ⟨ys, W, sub⟩
        rw [List.getElem?_map] at hx
        obtain ⟨y, hy, rfl⟩ := Option.map_eq_some_iff.mp hx
        have jl : j < ns.length := (List.getElem?_eq_some_iff.mp hy).1
        refine ⟨rfl, _, rfl, p, _, 5, rfl, W.s, by omega, by decide, by decide, fun k4 o4 _ _ hp4 => ⟨_, _, rfl, rfl, _, rfl, ?_⟩⟩
        have W5 := W.src hp4
        have tk : ns.take (j + 1) = ns.take j ++ [y] := take_next hy
        refine ite2 (fun _ => ?_) (fun _ => ?_)
        · refine ⟨_, rfl, _, W5.at 0 rfl, ?_, ys ++ [y], ?_, by rw [tk]; exact sub.append (List.Sublist.refl _)⟩
          · rw [List.length_map]
            have := sub.length_le
            rw [List.length_take] at this
            exact small1000 (by omega)
          · have W6 := W5.put (o' := .lst (ys.map V.str ++ [V.str y])) 0 rfl hD0 lst_nt
            rw [List.map_append]
            exact W6.up (by omega)
        · exact ⟨ys, W5.up (by omega), by rw [tk]; exact sub.trans (List.sublist_append_left _ _)⟩
      · rintro H7 ⟨ys, W7, sub⟩
        rw [List.length_map] at W7
        have sub := sub.trans (List.take_sublist _ _)
        have yl : ys.length ≤ 28 := Nat.le_trans sub.length_le nsl
        have ndy : ys.Nodup := (pmA.nodup_iff.mpr ndA).sublist sub
        refine ⟨_, rfl, D, rfl, ⟨_, SqL.of (W7.at 0 rfl)⟩, fun D2 hD2 => ?_⟩
        have hD20 := W7.free hD2
        have W8 := (W7.sub (F' := [(D, .lst (ys.map V.str))]) (.cons₂ _ (.cons _ .slnil))).new (o := .lst ([] : List V)) hD2
        refine lc_list (K := K) (a := D) (xs := ys.map V.str) (fun j H4 => ∃ (T : List TRow) (cl : List Ltr), T.map Prod.snd = cl.map ltD ∧ cl.map Prod.fst = ys.take j ∧ Wk H p (c + 30 + j) [(D2, .lst (T.map TRow.v)), (D, .lst (ys.map V.str))] ([(.ref a1, nmsD picks)] ++ rowR T) H4)
          ⟨[], [], rfl, rfl, W8.up (by omega)⟩ (fun j H4 _ ⟨T, cl, _, _, W⟩ => SqL.of (W.at 1 rfl)) ?_ ?_
        · rintro j x H4 hx ⟨T, cl, eT, ecl, W⟩
          rw [List.getElem?_map] at hx
          obtain ⟨y, hy, rfl⟩ := Option.map_eq_some_iff.mp hx
          have jl : j < ys.length := (List.getElem?_eq_some_iff.mp hy).1
          refine ⟨rfl, yes_of ⟨_, rfl, _, rfl, p, _, 2, rfl, W.s, by omega, by decide, by decide, fun k4 o4 _ _ hp4 => ⟨rfl, (by show 2 ≤ sizeLine; decide), fun t ht => ?_⟩⟩⟩
          have W5 := W.src hp4
          have W6 := W5.new (o := .tup [.str y, .bl (decide (V.int k4 = V.int 0))]) ht
          have lT : T.length = j := by
            rw [← List.length_map (f := Prod.snd), eT, List.length_map, ← List.length_map (f := Prod.fst), ecl, List.length_take]
            omega
          have Dl : Dat (upd (upd H4 p o4) t (.tup [.str y, .bl (decide (V.int k4 = V.int 0))])) (.ref t) (ltD (y, decide (V.int k4 = V.int 0))) := .tup upd_same (.cons (.str _) (.cons (.bl _) .nil))
          have W7 := ((W6.sub (F' := [(D2, .lst (T.map TRow.v)), (D, .lst (ys.map V.str))]) (.cons _ (.refl _))).snoc (q := (t, ltD (y, decide (V.int k4 = V.int 0)))) rfl Dl).put (o' := .lst (T.map TRow.v ++ [.ref t])) 0 rfl hD20 lst_nt
          refine ⟨_, W6.at 1 rfl, by rw [List.length_map, lT]; exact small1000 (by omega), T ++ [(t, ltD (y, decide (V.int k4 = V.int 0)))], cl ++ [(y, decide (V.int k4 = V.int 0))], by rw [List.map_append, List.map_append, eT]; rfl, by rw [List.map_append, ecl, take_next hy]; rfl, ?_⟩
          rw [List.map_append]
          exact W7.up (by omega)
        · rintro H9 ⟨T, cl, eT, ecl, W⟩
          rw [List.length_map] at ecl W
          rw [List.take_length] at ecl
          have ndc : (cl.map Prod.fst).Nodup := by rw [ecl]; exact ndy
          refine ⟨D2, T, rfl, SqL.of (W.at 0 rfl), W.rr, sorty_of eT alike_lt (fun x => ⟨_, rfl⟩) (fun x => by have := depth_lt x; omega), fun T' b9 pm _ up hb9 => .inl ⟨b9, _, rfl, SqL.of upd_same, fun t ht => ?_⟩⟩
          have WA := W.new' (o := .lst (T'.map TRow.v)) hb9
          have WB := WA.new (o := .tup (T'.map TRow.v)) ht
          obtain ⟨cl', Dc, ck⟩ := clause_of (ws := picks ++ owns.map Prod.fst) eT ndc (fun l hl => pmA.mem_iff.mp (sub.subset (ecl ▸ List.mem_map_of_mem hl))) pm up WB.rr (WB.at 0 rfl)
          exact q _ cl' _ Dc ck (WB.d.up (by omega))
    · refine ⟨_, rfl, p, _, 25, rfl, W4.s, by omega, by decide, by decide, fun r o r0 r1 hp1 => ⟨rfl, _, rfl, ?_⟩⟩
      have W5 := W4.src hp1
      generalize upd H4 p o = H5 at W5 ⊢
      clear W4
      refine ite_intP (fun i => 0 ≤ i ∧ i ≤ 1) (fun few hf => ?_) (fun _ R => R 0 ⟨by decide, by decide⟩) (fun _ R => R 1 ⟨by decide, by decide⟩)
      refine ⟨_, rfl, _, rfl, _, rfl, p, _, most, rfl, W5.s, by omega, by omega, by omega, fun r2 o2 r20 r21 hp2 => ?_⟩
      have W6 := W5.src hp2
      refine ⟨_, rfl, _, rfl, p, _, most, rfl, W6.s, by omega, by omega, by omega, fun r3 o3 r30 r31 hp3 => ?_⟩
      have W7 := W6.src hp3
      generalize upd (upd H5 p o2) p o3 = H7 at W7 ⊢
      clear W6 W5
      obtain ⟨n, en, hn⟩ := max_nat (N := 39) r20 r30 (by omega) (by omega)
      refine ⟨_, _, rfl, _, _, rfl, rfl, ?_⟩
      show ∃ n : Int, _
      rw [en]
      refine ⟨_, rfl, by omega, by omega, ?_⟩
      have hk : (few + (n : Int)).toNat ≤ 40 := by omega
      generalize (few + (n : Int)).toNat = k at hk ⊢
      have wsO : ∀ x ∈ owns.map Prod.fst, x ∈ picks ++ owns.map Prod.fst := fun x hx => List.mem_append_right _ hx
      have wsP : ∀ x ∈ picks, x ∈ picks ++ owns.map Prod.fst := fun x hx => List.mem_append_left _ hx
      refine for_range (lo := 0) (n := k) (fun i σ H' => ∃ (cl : List Ltr) (o7 : Option V), σ = [some (.ref p), some (.ref a1), some (.ref a2), some (.int most), some (.ref aF), some (.ref aL), some (.int few), o7, none, none] ∧ LD cl (picks ++ owns.map Prod.fst) ∧
        Wk H p (c + 5 + 2 * i) [(aL, .lst ((owns.map Prod.fst).map V.str)), (aF, .dK (ltK cl))] [(.ref a1, nmsD picks)] H') ?_ ?_ ?_
      · exact ⟨[], _, rfl, ⟨List.nodup_nil, fun l h => absurd h (by simp)⟩, W7.up (by omega)⟩
      · rintro i σ H' hi ⟨cl, o7, rfl, ld, W8⟩
        refine ⟨_, rfl, (by show 0 ≤ sizeLine; decide), fun l8 hl8 => ?_⟩
        have W9 := W8.new' (o := .lst ([] : List V)) hl8
        have el8 : upd H' l8 (.lst []) l8 = some (.lst []) := upd_same
        generalize upd H' l8 (.lst []) = H9 at W9 el8 ⊢
        refine ⟨.list ((owns.map Prod.fst).map PyData.str), .list [], .lst (W9.at 0 rfl) (dats_strs _), .lst el8 .nil, plain_nms _, rfl, ?_, _, rfl, ?_⟩
        · have := depths_map PyData.str 0 (fun _ => Nat.le_refl _) (owns.map Prod.fst)
          simp only [PyData.depth]
          omega
        · refine ite2 (fun hne => ?_) (fun _ => ?_)
          · have ne0 : 0 < (owns.map Prod.fst).length := by
              cases h0 : owns.map Prod.fst with
              | nil => rw [h0] at hne; exact absurd hne (by decide +kernel)
              | cons _ _ => exact Nat.succ_pos _
            have lO' : (owns.map Prod.fst).length ≤ 14 := by rw [List.length_map]; omega
            refine ⟨_, rfl, p, _, 2, rfl, W9.s, by omega, by decide, by decide, fun r4 o4 _ _ hp4 => ⟨rfl, ?_⟩⟩
            have WA := W9.src hp4
            generalize upd H9 p o4 = HA at WA ⊢
            refine ⟨_, rfl, _, rfl, _, rfl, _, rfl, _, _, rfl, .inl (SqL.of (WA.at 0 rfl)), p, _, _, rfl, WA.s, by omega, by rw [List.length_map]; omega, by rw [List.length_map]; omega, fun r5 o5 r50 r51 hp5 => ?_⟩
            rw [List.length_map] at r51
            have WB := WA.src hp5
            obtain ⟨vv, hv, hm, _⟩ := at_ok (xs := (owns.map Prod.fst).map V.str) r50 (by rw [List.length_map]; exact r51)
            obtain ⟨x, hx, rfl⟩ := List.mem_map.mp hm
            obtain ⟨cl', ep, ld'⟩ := ld.put (decide (V.int r4 = V.int 0)) (wsO x hx)
            have lcl : (ltK cl).length < sizeLine := by
              have := ld.len
              unfold ltK
              rw [List.length_map]
              exact small1000 (by omega)
            refine ⟨aL, _, r5, _, rfl, rfl, SqL.of (WB.at 0 rfl), hv, aF, _, rfl, .inl ⟨ltK cl, .inr x, WB.at 1 rfl, rfl, lcl, rfl⟩, ?_⟩
            rw [ep]
            exact ⟨cl', _, rfl, ld', (WB.put (o' := .dK (ltK cl')) 1 rfl hF0 dK_nt).up (by omega)⟩
          · exact ⟨cl, _, rfl, ld, W9.up (by omega)⟩
      · rintro σ H' ⟨cl, o7, rfl, ld, W8⟩
        have W8 := W8.up (show _ ≤ c + 85 by omega)
        refine ⟨(by show 6 ≤ sizeLine; decide), fun l6 hl6 => ?_⟩
        have W9 := W8.new (o := .lst ([0, 1, 1, 2, 2, 3].map V.int)) hl6
        refine ⟨_, rfl, p, _, 6, rfl, W9.s, by omega, by decide, by decide, fun r4 o4 r40 r41 hp4 => ?_⟩
        have WA := W9.src hp4
        obtain ⟨vv, hv, hm6, _⟩ := at_ok (xs := ([0, 1, 1, 2, 2, 3] : List Int).map V.int) r40 (by simpa using r41)
        obtain ⟨k6, hk6, rfl⟩ := List.mem_map.mp hm6
        have b6 : 0 ≤ k6 ∧ k6 ≤ 3 := by
          simp only [List.mem_cons, List.not_mem_nil, or_false] at hk6
          rcases hk6 with h | h | h | h | h | h <;> subst h <;> decide
        refine ⟨l6, _, r4, _, rfl, rfl, SqL.of (WA.at 0 rfl), hv, k6, rfl, by omega, by omega, ?_⟩
        have WB := WA.sub (F' := [(aL, .lst ((owns.map Prod.fst).map V.str)), (aF, .dK (ltK cl))]) (.cons _ (.refl _))
        refine for_range (lo := 0) (n := k6.toNat) (fun i σ H' => ∃ (cl : List Ltr) (o7 : Option V), σ = [some (.ref p), some (.ref a1), some (.ref a2), some (.int most), some (.ref aF), some (.ref aL), some (.int few), o7, none, none] ∧ LD cl (picks ++ owns.map Prod.fst) ∧
          Wk H p (c + 86 + 2 * i) [(aL, .lst ((owns.map Prod.fst).map V.str)), (aF, .dK (ltK cl))] [(.ref a1, nmsD picks)] H') ?_ ?_ ?_
        · exact ⟨cl, _, rfl, ld, WB.up (by omega)⟩
        · rintro i σ H' hi ⟨cl, o7, rfl, ld, W8⟩
          refine ⟨_, rfl, (by show 0 ≤ sizeLine; decide), fun l8 hl8 => ?_⟩
          have W9 := W8.new' (o := .tup ([] : List V)) hl8
          have el8 : upd H' l8 (.tup []) l8 = some (.tup []) := upd_same
          generalize upd H' l8 (.tup []) = H9 at W9 el8 ⊢
          refine ⟨nmsD picks, .tuple [], W9.row 0 rfl, .tup el8 .nil, plain_nms _, rfl, ?_, _, rfl, ?_⟩
          · have := depth_nms picks
            omega
          · refine ite2 (fun hne => ?_) (fun _ => ?_)
            · have ne0 : 0 < picks.length := by
                cases h0 : picks with
                | nil => rw [h0] at hne; exact absurd hne (by decide +kernel)
                | cons _ _ => exact Nat.succ_pos _
              refine ⟨_, rfl, p, _, 2, rfl, W9.s, by omega, by decide, by decide, fun r4 o4 _ _ hp4 => ⟨rfl, ?_⟩⟩
              have WA := W9.src hp4
              generalize upd H9 p o4 = HA at WA ⊢
              refine ⟨_, rfl, _, rfl, _, rfl, _, rfl, _, _, rfl, .inr (SqT.of (nms_get (WA.row 0 rfl))), p, _, _, rfl, WA.s, by omega, by rw [List.length_map]; omega, by rw [List.length_map]; omega, fun r5 o5 r50 r51 hp5 => ?_⟩
              rw [List.length_map] at r51
              have WB := WA.src hp5
              obtain ⟨vv, hv, hm, _⟩ := at_ok (xs := picks.map V.str) r50 (by rw [List.length_map]; exact r51)
              obtain ⟨x, hx, rfl⟩ := List.mem_map.mp hm
              obtain ⟨cl', ep, ld'⟩ := ld.put (decide (V.int r4 = V.int 0)) (wsP x hx)
              have lcl : (ltK cl).length < sizeLine := by
                have := ld.len
                unfold ltK
                rw [List.length_map]
                exact small1000 (by omega)
              refine ⟨a1, _, r5, _, rfl, rfl, SqT.of (nms_get (WB.row 0 rfl)), hv, aF, _, rfl, .inl ⟨ltK cl, .inr x, WB.at 1 rfl, rfl, lcl, rfl⟩, ?_⟩
              rw [ep]
              exact ⟨cl', _, rfl, ld', (WB.put (o' := .dK (ltK cl')) 1 rfl hF0 dK_nt).up (by omega)⟩
            · exact ⟨cl, _, rfl, ld, W9.up (by omega)⟩
        · rintro σ H' ⟨cl, o7, rfl, ld, W8⟩
          have W8 := (W8.up (show _ ≤ c + 99 by omega)).sub (F' := [(aF, .dK (ltK cl))]) (.cons _ (.refl _))
          have lcl := ld.len
          have kl : (ltK cl).length = cl.length := List.length_map ..
          refine ⟨aF, _, W8.at 0 rfl, trivial, fun od => ?_⟩
          have W9 := W8.put (o' := .frz od (.dK (ltK cl))) 0 rfl hF0 dK_nt
          refine ⟨_, rfl, aF, od, rfl, .inl ⟨ltK cl, W9.at 0 rfl, fun D hD => ?_⟩⟩
          have hD0 := W9.free hD
          have WA := W9.new (o := .lst ([] : List V)) hD
          refine lc_it walk_keys (fun j H4 => ∃ T : List TRow, T.map Prod.snd = (cl.take j).map ltD ∧ Wk H p (c + 99) [(D, .lst (T.map TRow.v)), (aF, .frz od (.dK (ltK cl)))] ([(V.ref a1, nmsD picks)] ++ rowR T) H4)
            ⟨[], rfl, WA⟩ (fun j H4 _ ⟨T, _, W⟩ => W.at 1 rfl) ?_ ?_
          · rintro j x H4 H5 jl ⟨T, eT, W⟩ ⟨rfl, k, v, hk, rfl⟩
            unfold ltK at hk
            rw [List.getElem?_map] at hk
            obtain ⟨l, hl, e⟩ := Option.map_eq_some_iff.mp hk
            cases e
            rw [kl] at jl
            refine ⟨rfl, yes_of ⟨_, rfl, _, rfl, _, rfl, aF, _, rfl, .inl ⟨ltK cl, .inr l.1, .inr ⟨od, W.at 1 rfl⟩, rfl, (ld.get hl).symm⟩, (by show 2 ≤ sizeLine; decide), fun t ht => ?_⟩⟩
            have W6 := W.new (o := .tup [.str l.1, .bl l.2]) ht
            have lT : T.length = j := by
              rw [← List.length_map (f := Prod.snd), eT, List.length_map, List.length_take]
              omega
            have Dl : Dat (upd H5 t (.tup [.str l.1, .bl l.2])) (.ref t) (ltD l) := .tup upd_same (.cons (.str _) (.cons (.bl _) .nil))
            have W7 := ((W6.sub (F' := [(D, .lst (T.map TRow.v)), (aF, .frz od (.dK (ltK cl)))]) (.cons _ (.refl _))).snoc (q := (t, ltD l)) rfl Dl).put (o' := .lst (T.map TRow.v ++ [.ref t])) 0 rfl hD0 lst_nt
            refine ⟨_, W6.at 1 rfl, by rw [List.length_map, lT]; exact small1000 (by omega), T ++ [(t, ltD l)], by rw [List.map_append, eT, take_next hl, List.map_append]; rfl, ?_⟩
            rw [List.map_append]
            exact W7
          · rintro H9 ⟨T, eT, W⟩
            rw [kl, List.take_length] at eT
            refine ⟨W.at 1 rfl, ?_⟩
            have WB := W.put (o' := .dK (ltK cl)) 1 rfl hF0 frz_nt
            refine ⟨D, T, rfl, SqL.of (WB.at 0 rfl), WB.rr, sorty_of eT alike_lt (fun x => ⟨_, rfl⟩) (fun x => by have := depth_lt x; omega), fun T' b9 pm _ up hb9 => .inl ⟨b9, _, rfl, SqL.of upd_same, fun t ht => ?_⟩⟩
            have WC := WB.new' (o := .lst (T'.map TRow.v)) hb9
            have WD := WC.new (o := .tup (T'.map TRow.v)) ht
            obtain ⟨cl', Dc, ck⟩ := clause_of (ws := picks ++ owns.map Prod.fst) eT ld.nd ld.mem pm up WD.rr (WD.at 0 rfl)
            exact q _ cl' _ Dc ck (WD.d.up (by omega))
end
end S1

set_option Elab.async false
set_option linter.all false
set_option maxRecDepth 100000
set_option maxHeartbeats 2000000
/-! list(d), sorted(d), d a dict keyed by tuples -/
namespace L2
open PySem PySem.W PySem.Spec PyProof.Rows
section
variable {X : Cx} {pins : List (Addr × Obj)} {σ : L2.St} {H : Hp} {s : Shared} {a : Addr} {D : List DRow}
theorem kn_get : ∀ {D : List DRow} {xs : List (NestedKey × Addr × Value)} {i : Nat} {p : DRow}, KN D xs → D[i]? = some p → ∃ q, xs[i]? = some q ∧ q.1 = nkey p.1.2 ∧ q.2.1 = p.1.1 ∧ RelV p.2 q.2.2
  | _, _, _, _, .nil, e => by simp at e
  | _, _, 0, _, .cons h _, e => by simp at e; subst e; exact ⟨_, rfl, h⟩
  | _, _, i + 1, _, .cons _ t, e => kn_get (i := i) t e
/-- the dict's own entries -/
theorem dn_raw {h : Heap} {P : Program} {w : World} (ok : HOk P w H h) (e : DnAt w H a D) (kk : KeysAt H D) : ∃ (es : Array DictEntry) (ep : Nat), h.DictRaw a es ep ∧ es.size = D.length ∧ (∀ (i : Nat) (p : DRow), D[i]? = some p → ∃ en : DictEntry, es[i]? = some en ∧ en.key = .ref p.1.1 ∧ RelV p.2 en.val) ∧ D.length ≤ sizeLine ∧ (a == sysModules) = false := by
  obtain ⟨xs, rel, ⟨o, es, ep, h1, h2, h3, h4, _, _⟩, hz, hd⟩ := dn_of ok e kk
  have hl : D.length = xs.length := Paired.length rel
  refine ⟨es, ep, ⟨o, h1, h2, h3⟩, (size_of_entries h4).trans hl.symm, fun i p hp => ?_, by omega, hd⟩
  obtain ⟨q, hq, q1, q2, q3⟩ := kn_get rel hp
  have z := entry_at h4 i
  rw [hq] at z
  exact ⟨_, z, by show Value.ref q.2.1 = _; rw [q2], q3⟩
theorem keys_items {es : Array DictEntry} {acc : Array Value} (hs : es.size = D.length) (he : ∀ (i : Nat) (p : DRow), D[i]? = some p → ∃ en : DictEntry, es[i]? = some en ∧ en.key = .ref p.1.1 ∧ RelV p.2 en.val) (h : ItemsOf (fun i v => ∃ hi : i < es.size, v = es[i].key) acc es.size) : acc.toList = (D.map Prod.fst).map TRow.r := by
  apply List.ext_getElem?
  intro i
  rw [Array.getElem?_toList, List.map_map, List.getElem?_map]
  cases hp : D[i]? with
  | none =>
    have hi : D.length ≤ i := List.getElem?_eq_none_iff.mp hp
    have : acc.size ≤ i := by rw [h.1]; omega
    rw [Array.getElem?_eq_none this]
    rfl
  | some p =>
    have hi : i < D.length := (List.getElem?_eq_some_iff.mp hp).1
    have ha : i < acc.size := by rw [h.1]; omega
    obtain ⟨hi2, e⟩ := h.2 i _ (Array.getElem?_eq_getElem ha)
    obtain ⟨en, h1, h2, _⟩ := he i p hp
    rw [Array.getElem?_eq_getElem ha, e]
    rw [Array.getElem?_eq_getElem hi2] at h1
    cases h1
    rw [h2]
    rfl
end
section
variable {X : Cx}
def rSortDn (w : World) : List V → Hp → VK → Prop := fun vs H Q => ∃ (a : Addr) (D : List DRow), vs = [V.ref a] ∧ DnAt w H a D ∧ KeysAt H D ∧ Sorty (D.map Prod.fst) ∧
  ∀ (T' : List TRow) (b : Addr), T'.Perm (D.map Prod.fst) → (T'.Pairwise fun p q => dataLt q.2 p.2 = false) → (((D.map Prod.fst).map Prod.snd).Nodup → T'.Pairwise fun p q => dataLt p.2 q.2 = true) → H b = none → Q (.ref b) (upd H b (.lst (T'.map TRow.v)))
theorem cr_sortDn (hc : X.calm = true) (hu : X.A.units + 64 < cLine) : CallR X (.builtin "sorted") (rSortDn X.w) := by
  intro pins s σ H vs us Q I r h
  obtain ⟨a, D, rfl, e, kk, so, q⟩ := h
  rw [Vals.ref1 r]
  obtain ⟨es, ep, raw, hs, he, hz, hd⟩ := dn_raw I.hok e kk
  have hsz : es.size ≤ sizeLine := by rw [hs]; exact hz
  refine Calls.call_function_entry PyProof.Rows.kind_sorted PyProof.Rows.plain_sorted PyProof.Rows.entry_sorted (PyProof.Rows.args_sorted1 _) ?_
  unfold Builtin.«sorted»
  refine wpAny_bind (m := checkCount "sorted" 1 1 _) (wpAny_pure ?_)
  refine wpAny_bind (kdu_collect (A := X.A.in1) (KdlSrc.rawDict (es := es) (ep := ep) hd) (I.ok.hd hc) raw hsz fun h' tk acc hk hacc => ?_)
  have ea := keys_items hs he hacc
  rw [ea]
  generalize hT : D.map Prod.fst = T at so q ⊢
  have hdat : ∀ p ∈ T, Dat H p.v p.2 := fun p hp => by
    rw [← hT] at hp
    obtain ⟨p', hp', rfl⟩ := List.mem_map.mp hp
    exact (kk p' hp').1
  have hzl : (T.map TRow.r).length ≤ sizeLine := by
    rw [List.length_map, ← hT, List.length_map]
    exact hz
  have I1 : Inv X pins σ H { s with heap := h', toks := tk } := I.kept (t' := tk) hk
  refine wpAny_bind (wpAny_newList ?_ (by exact hzl))
  have hoL : (h'.push (seqObj "list" (T.map TRow.r).toArray 0)).get? h'.objs.size = some (seqObj "list" (T.map TRow.r).toArray 0) := Heap.get?_push_size _ rfl
  show wpAny _ _ _ _ _ { s with heap := h'.push (seqObj "list" (T.map TRow.r).toArray 0), toks := tk }
  have old : ∀ {b : Addr} {u : Obj}, h'.get? b = some u → (h'.push (seqObj "list" (T.map TRow.r).toArray 0)).get? b = some u := fun e => Heap.get?_push_of_some _ e
  have rd : EachIs (fun v p => ∃ as, Reads (sortingHeap (h'.push (seqObj "list" (T.map TRow.r).toArray 0)) h'.objs.size (T.map TRow.r)) v p.2 as) (T.map TRow.r) T :=
    each_rows T fun p hp => by
      obtain ⟨as, z⟩ := I1.reads (hdat p hp)
      exact ⟨as, PyProof.Rows.Reads.keeps (fun b u e => sortingHeap_old (Nat.ne_of_lt (Heap.lt_size e)) (old e)) z⟩
  have tp : ∀ d ∈ T.map Prod.snd, ∃ xs, d = PyData.tuple xs := fun d z => by
    obtain ⟨p, hp, rfl⟩ := List.mem_map.mp z
    exact so.tup p hp
  have un : ∀ d, d ∈ T.map Prod.snd → X.A.in1.in1.units + d.depth < cLine := fun d z => by
    obtain ⟨p, hp, rfl⟩ := List.mem_map.mp z
    have z := so.deep p hp
    simp only [Around.in1_units]
    omega
  have srt := sortsAt_tups (prog := X.prog) (w := X.w) (A := X.A.in1.in1) (s := { s with heap := sortingHeap (h'.push (seqObj "list" (T.map TRow.r).toArray 0)) h'.objs.size (T.map TRow.r), toks := tk }) (each_map (R := fun v d => ∃ as, Reads _ v d as) Prod.snd rd) so.alike tp un
  have out := rows_each (sortVals_data (R := fun v p => v = TRow.r p) (enc := Prod.snd) false (each_rows T fun p _ => rfl) rd so.alike)
  refine wpAny_bind (wpAny_holding (wpAny_call_entry PyProof.Rows.slot_list_sort ⟨_, hoL, rfl⟩ PyProof.Rows.entry_list_sort
    (list_sort_vals (s := { s with heap := h'.push (seqObj "list" (T.map TRow.r).toArray 0), toks := tk }) hoL srt hzl ⟨_, rfl, ?_⟩) (PyProof.Rows.args_list_sort _)))
  rw [out]
  obtain ⟨e', he'⟩ := PyProof.Rows.sortedHeap_at (vs := T.map TRow.r) (out := ((sortT T).map TRow.r).toArray) hoL
  refine wpAny_pure ⟨_, rfl, .ref h'.objs.size, upd H h'.objs.size (.lst ((sortT T).map TRow.v)), I1.laid (t' := tk) (fun b u e => ?_) (Nat.le_refl _)
    ⟨by rw [List.length_map, (sortT_perm T).length_eq]; rw [List.length_map] at hzl; exact hzl, _, e', rows_vals _, he'⟩, rfl, q (sortT T) _ (sortT_perm T) (sortT_le T) (sortT_up T so.alike) (I1.hok.fresh (Nat.le_refl _))⟩
  have hb : b < h'.objs.size := Heap.lt_size e
  rw [PyProof.Rows.sortedHeap_old (Nat.ne_of_lt hb) (by rw [size_push']; exact Nat.lt_succ_of_lt hb)]
  exact old e
def rListDn (w : World) : List V → Hp → VK → Prop := fun vs H Q => ∃ (a : Addr) (D : List DRow), vs = [V.ref a] ∧ DnAt w H a D ∧ KeysAt H D ∧ ∀ b, H b = none → Q (.ref b) (upd H b (.lst ((D.map Prod.fst).map TRow.v)))
theorem call_listDn (hc : X.calm = true) : CallR X (.type "list") (rListDn X.w) := by
  intro pins s σ H vs us Q I r h
  obtain ⟨a, D, rfl, e, kk, q⟩ := h
  rw [Vals.ref1 r]
  obtain ⟨es, ep, raw, hs, he, hz, hd⟩ := dn_raw I.hok e kk
  have hsz : es.size ≤ sizeLine := by rw [hs]; exact hz
  refine kdl_call (KdlSrc.rawDict (es := es) (ep := ep) hd) (I.ok.hd hc) raw hsz fun h' tk acc c' hk hl hacc => ?_
  have ea := keys_items hs he hacc
  have ea2 : acc = ((D.map Prod.fst).map TRow.r).toArray := by rw [← ea]
  exact ⟨.ref _, upd H s.heap.objs.size (.lst ((D.map Prod.fst).map TRow.v)), I.laid (t' := tk) hk (Nat.le_refl _) ⟨by rw [List.length_map, List.length_map]; exact hz, _, c', rows_vals _, by rw [hl, ea2]⟩, rfl, q _ (I.hok.fresh (Nat.le_refl _))⟩
end
end L2

set_option Elab.async false
set_option linter.all false
set_option maxRecDepth 100000
set_option maxHeartbeats 4000000
/-! sayings, drawn -/
namespace S1
open PySem PySem.W PySem.Spec PyProof.Rows L2
theorem branchH {c : Prop} [Decidable c] {t u : TS} {D : Ends} {σ : L2.St} {H : Hp} (F : Hp → Prop) (hF : F H) (I : L2.St → Hp → Prop) (R : ∀ σ' H', I σ' H' → D.nx σ' H') (h1 : c → ∀ G, F G → (∀ σ' H', I σ' H' → D.nx σ' H') → t D σ G)
    (h2 : ¬ c → ∀ G, F G → (∀ σ' H', I σ' H' → D.nx σ' H') → u D σ G) : if c then t D σ H else u D σ H := by
  by_cases h : c
  · rw [if_pos h]; exact h1 h _ hF R
  · rw [if_neg h]; exact h2 h _ hF R
theorem gen_hp {D : Hp → Prop} {G : Hp} (F : Hp → Prop) (h : F G) (k : ∀ G', F G' → D G') : D G := k G h
theorem cut_drop {ws : List Str} {r : Nat} (h : r ≤ ws.length) : cutV (ws.map V.str) (some (r : Int)) none = (ws.drop r).map V.str := by
  unfold cutV
  rw [HT.sIx_nat, HT.sIx_none, List.length_map, Nat.min_eq_left h, ← List.map_drop, ← List.map_take]
  congr 1
  exact List.take_of_length_le (by rw [List.length_drop]; omega)
theorem datS_of {H : Hp} {v : V} {s : Say} (D : Dat H v s.d) : DatS H v s := by
  obtain ⟨a, xs, rfl, e, h⟩ := dat_tup D
  cases h with
  | cons h1 h =>
    cases h with
    | cons h2 h =>
      cases h with
      | cons h3 h =>
        cases h
        obtain ⟨b, us, rfl, eb, hb⟩ := dat_tup h2
        exact ⟨a, _, _, _, rfl, e, h1, ⟨b, us, rfl, .of eb, hb⟩, h3⟩
theorem plains_map {α : Type} (f : α → PyData) (h : ∀ x, (f x).plain = true) : ∀ l : List α, PyData.plainAll (l.map f) = true
  | [] => rfl
  | x :: l => by rw [List.map_cons, PyData.plainAll, h x, plains_map f h l]; rfl
theorem plain_cl (cl : List Ltr) : (clD cl).plain = true := plains_map ltD (fun _ => rfl) cl
theorem keyable_clss (cs : List (List Ltr)) : keyable (.tuple (cs.map clD)) = true := by
  show keyables (cs.map clD) = true
  exact keyables_map clD keyable_cl cs
theorem keyable_say (s : Say) : keyable s.d = true := by
  show keyables [nmsD s.picks, .tuple (s.owns.map ownD), .tuple (s.cls.map clD)] = true
  simp only [keyables, keyable_nms, keyable_owns, keyable_clss, Bool.and_self]
/-- a dict of clauses: what stands at its address -/
def DnS (w : World) (a : Addr) (D : List DRow) (o : HO) : Prop := o = DnO w a D ∨ (o = .dK [] ∧ D = [])
theorem DnS.at {w : World} {a : Addr} {D : List DRow} {o : HO} {G : Hp} (h : DnS w a D o) (e : G a = some o) : DnAt w G a D := by
  rcases h with rfl | ⟨rfl, rfl⟩
  · exact .inl e
  · exact .inr ⟨e, rfl⟩
theorem DnS.nt {w : World} {a : Addr} {D : List DRow} {o : HO} (h : DnS w a D o) : ∀ ys, o ≠ .tup ys := by
  rcases h with rfl | ⟨rfl, rfl⟩
  · exact dn_nt
  · exact dK_nt
/-- the rows of a dict of clauses: unlike, all of them clauses over ws -/
structure CD (D : List DRow) (cls : List (List Ltr)) (ws : List Str) : Prop where
  e : (D.map Prod.fst).map Prod.snd = cls.map clD
  nd : cls.Nodup
  ok : ∀ cl ∈ cls, ClOk ws cl
theorem clD_inj {a b : List Ltr} (h : clD a = clD b) : a = b := by
  unfold clD at h
  injection h with h
  induction a generalizing b with
  | nil => cases b with
    | nil => rfl
    | cons _ _ => cases h
  | cons x xs ih => cases b with
    | nil => cases h
    | cons y ys =>
      rw [List.map_cons, List.map_cons] at h
      injection h with h1 h2
      rw [ltD_inj h1, ih h2]
theorem nkey_cl {a b : List Ltr} : nkey (clD a) = nkey (clD b) ↔ a = b :=
  ⟨fun h => clD_inj (nkey_inj _ _ (keyable_cl a) (keyable_cl b) (alike_cl a b) h), fun h => by rw [h]⟩
theorem CD.put {D : List DRow} {cls : List (List Ltr)} {ws : List Str} {cl : List Ltr} {r : Addr} {v : V} (h : CD D cls ws) (ck : ClOk ws cl) :
    ∃ cls' : List (List Ltr), CD (putN D (r, clD cl) v) cls' ws ∧ cls'.length ≤ cls.length + 1 ∧ ∀ q ∈ (putN D (r, clD cl) v).map Prod.fst, q ∈ D.map Prod.fst ∨ q = (r, clD cl) := by
  cases e : lookN D (clD cl) with
  | none =>
    refine ⟨cls ++ [cl], ?_, by rw [List.length_append]; exact Nat.le_refl _, fun q hq => ?_⟩
    · rw [putN_new e]
      refine ⟨by rw [List.map_append, List.map_append, h.e, List.map_append]; rfl, ?_, fun c hc => ?_⟩
      · refine List.nodup_append.mpr ⟨h.nd, by simp, fun a ha c hc z => ?_⟩
        have : c = cl := by simpa using hc
        subst this
        subst z
        have m : clD a ∈ (D.map Prod.fst).map Prod.snd := h.e ▸ List.mem_map_of_mem ha
        obtain ⟨q, hq, eq⟩ := List.mem_map.mp m
        obtain ⟨q', hq', rfl⟩ := List.mem_map.mp hq
        exact lookN_none.mp e q' hq' (by rw [eq])
      · rcases List.mem_append.mp hc with z | z
        · exact h.ok c z
        · cases List.mem_singleton.mp z
          exact ck
    · rw [putN_new e, List.map_append] at hq
      rcases List.mem_append.mp hq with z | z
      · exact .inl z
      · exact .inr (by simpa using z)
  | some x =>
    have e2 : (putN D (r, clD cl) v).map Prod.fst = D.map Prod.fst := by
      rw [putN_old e, List.map_map]
      refine List.map_congr_left fun p _ => ?_
      simp only [Function.comp]
      split <;> rfl
    exact ⟨cls, ⟨by rw [e2]; exact h.e, h.nd, h.ok⟩, by omega, fun q hq => .inl (e2 ▸ hq)⟩
theorem CD.keys {D : List DRow} {cls : List (List Ltr)} {ws : List Str} {G : Hp} (h : CD D cls ws) (hD : ∀ q ∈ D.map Prod.fst, Dat G q.v q.2) : KeysAt G D := fun p hp => by
  have m : p.1.2 ∈ cls.map clD := h.e ▸ List.mem_map_of_mem (List.mem_map_of_mem hp)
  obtain ⟨c, _, ec⟩ := List.mem_map.mp m
  refine ⟨hD p.1 (List.mem_map_of_mem hp), by rw [← ec]; exact keyable_cl c, ?_⟩
  rw [← ec]
  have := depth_cl c
  omega
theorem CD.len {D : List DRow} {cls : List (List Ltr)} {ws : List Str} (h : CD D cls ws) : D.length = cls.length := by
  have := congrArg List.length h.e
  simpa using this
theorem CD.sorty {D : List DRow} {cls : List (List Ltr)} {ws : List Str} (h : CD D cls ws) : Sorty (D.map Prod.fst) := sorty_of h.e alike_cl (fun x => ⟨_, rfl⟩) (fun x => by have := depth_cl x; omega)
/-- the clauses of a dict, sorted -/
theorem CD.sorted {D : List DRow} {cls : List (List Ltr)} {ws : List Str} {T' : List TRow} (h : CD D cls ws) (pm : T'.Perm (D.map Prod.fst)) (up : ((D.map Prod.fst).map Prod.snd).Nodup → T'.Pairwise fun p q => dataLt p.2 q.2 = true) :
    ∃ cls' : List (List Ltr), T'.map Prod.snd = cls'.map clD ∧ (cls'.Pairwise fun x y => dataLt (clD x) (clD y) = true) ∧ (∀ cl ∈ cls', ClOk ws cl) ∧ cls'.length = cls.length := by
  obtain ⟨cls', p2, e2⟩ := perm_back (f := clD) ((pm.map Prod.snd).trans (.of_eq h.e)) cls rfl
  have nT : ((D.map Prod.fst).map Prod.snd).Nodup := by
    rw [h.e]
    exact List.pairwise_map.mpr (h.nd.imp fun {a b} ne z => ne (clD_inj z))
  have u1 : (T'.map Prod.snd).Pairwise fun d e => dataLt d e = true := List.pairwise_map.mpr (up nT)
  rw [e2] at u1
  exact ⟨cls', e2, List.pairwise_map.mp u1, fun cl hc => h.ok cl (p2.mem_iff.mp hc), p2.length_eq⟩
theorem dz_dr {H G : Hp} {p : Addr} {c c0 : Nat} {v : V} {os : List Own} (d : Dr H p c G) (hs : Src H p c0) (D : DatZ H v os) : DatZ G v os := by
  obtain ⟨b, us, e, ⟨ob, hd, eb⟩, Du⟩ := D
  refine ⟨b, us, e, ⟨ob, hd, d.keep eb fun z => ?_⟩, ?_⟩
  · obtain ⟨xs, hx⟩ := hs.lst
    rw [z, hx] at eb
    cases eb
  · refine dats_tk (fun b xs z => d.keep z fun w => ?_) _ _ (keyables_map ownD keyable_own os) Du
    obtain ⟨ys, hx⟩ := hs.lst
    rw [w, hx] at z
    cases z
theorem Wk.re {H G : Hp} {p : Addr} {c : Nat} {F : List (Addr × HO)} {R : List (V × PyData)} (W : Wk H p c F R G) : Wk G p c F R G := ⟨Dr.start W.s, W.f, W.n, W.nd, W.r⟩
def spDrSay : Sp := fun vs H Q _ => ∃ (p z : Addr) (c a b m d : Nat), vs = [.ref p, .ref z, .int d, .int m] ∧ Src H p c ∧ c ≤ 20000 ∧ H z = some (.lst [.int a, .int b]) ∧ z ≠ p ∧ 1 ≤ a ∧ a ≤ 6 ∧ 2 ≤ b ∧ b ≤ 8 ∧ b ≤ m ∧ m ≤ 120 ∧ d ≤ 40 ∧
  ∀ (v : V) (sy : Say) (H' : Hp), DatF H' v sy → SayOk a b m d sy → Dr H p (c + 5000) H' → Q v H'
abbrev nSay : List Str := ["pot", "sizes", "clauses", "space", "picks", "owns", "names", "found", "most", "some", "turn", "clause"]
section
variable {P : Program} {w : World} {K : PySem.W.Frag} {mg : Str → Option Value} {base : Heap}
theorem scSay : FnScope nSay ["pot", "sizes", "clauses", "space"] (defScope sLSaying) := ⟨rfl, rfl, rfl, by decide +kernel, rfl, by decide +kernel, by decide +kernel⟩
theorem ok_drSay {f fP fN fO fC : Addr} {fd fdP fdN fdO fdC : FuncData} (F : Fun K "_law_saying" "_law_saying" sLSaying f fd) (Pk : Has K mg "_law_draw" sDraw ["pot", "top"] fP fdP) (Nn : Has K mg "_law_names" sLNames ["pot", "size"] fN fdN)
    (Ow : Has K mg "_law_owns" sLOwns ["pot", "picks", "names", "space"] fO fdO) (Cl : Has K mg "_law_clause" sLClause ["pot", "picks", "owns", "most"] fC fdC)
    (GN : FnOk P w K mg base CX0 2 fN fdN ["pot", "size"] spNames) (GO : FnOk P w K mg base CX0 3 fO fdO ["pot", "picks", "names", "space"] spOwns) (GC : FnOk P w K mg base CX0 2 fC fdC ["pot", "picks", "owns", "most"] spDrCl) (B : Blt mg) :
    FnOk P w K mg base CX0 4 f fd ["pot", "sizes", "clauses", "space"] spDrSay := by
  have GP : FnOk P w K mg base CX0 1 fP fdP ["pot", "top"] spPick := ok_pick Pk.F B
  refine F.ok scSay (fun vs H Q E h => ?_) (fun cdv A outer s H vs Q E hr h => ?_)
  · obtain ⟨p, z, c, a, b, m, d, rfl, _⟩ := h
    rfl
  · obtain ⟨p, z, c, a, b, m, d, rfl, hs, hc, hz, nz, ha1, ha, hb1, hb, hbm, hm, hd, q⟩ := h
    have hu : (A.deeper (envOfC "_law_saying" (defScope sLSaying) s.heap.objs.size f cdv)).units + 64 < cLine := hr.units
    have hu16 : (A.deeper (envOfC "_law_saying" (defScope sLSaying) s.heap.objs.size f cdv)).units + 16 < cLine := by omega
    have hr1 := hr.mono (show 1 ≤ 3 by decide)
    have hr2 := hr.mono (show 2 ≤ 3 by decide)
    refine ⟨_, pss_cons (ps_par (i := 4) (j := 5) rfl scSay.nd rfl rfl (by decide) rfl rfl
          (pa_cons (pe_call GP hr1 rfl Pk.g Pk.F.kp Pk.b .nil pass0 (pa_cons (pv 0) (pa_cons (pe_op op_add (pe_ix ix_list (pv 1) pe_int (fun _ _ => rfl)) pe_int) pa_nil)))
            (pa_cons (pe_call GP hr1 rfl Pk.g Pk.F.kp Pk.b .nil pass0 (pa_cons (pv 0) (pa_cons (pe_op op_add (pe_ix ix_list (pv 1) pe_int (fun _ _ => rfl)) pe_int) pa_nil))) pa_nil)) (by with_unfolding_all rfl))
      (pss_cons (ps_if (pt_cmpR op_gt (pe_call GP hr1 rfl Pk.g Pk.F.kp Pk.b .nil pass0 (pa_cons (pv 0) (pa_cons pe_int pa_nil))) pe_int (nomark _))
        (pss_one (ps_par (i := 4) (j := 5) rfl scSay.nd rfl rfl (by decide) rfl rfl
          (pa_cons (pe_callB (call_max2 rfl) (by rfl) B.max (by decide +kernel) (pa_cons pe_int (pa_cons (pv 4) pa_nil))) (pa_cons (pe_callB (call_max2 rfl) (by rfl) B.max (by decide +kernel) (pa_cons pe_int (pa_cons (pv 5) pa_nil))) pa_nil)) (by with_unfolding_all rfl))) pss_nil)
      (pss_cons (ps_set (i := 6) scSay.nd rfl (.inl rfl) (pe_call GN hr2 rfl Nn.g Nn.F.kp Nn.b .nil pass0 (pa_cons (pv 0) (pa_cons (pe_op op_add (pv 4) (pv 5)) pa_nil))))
      (pss_cons (ps_set (i := 4) scSay.nd rfl (.inl rfl) (pe_tupleOf rfl B.tuple (pe_callB (cr_sortW (by exact hu)) (by rfl) B.sorted (by decide +kernel) (pa_cons (pe_slice sl_list (pv 6) po_none (po_some (pv 4))) pa_nil))))
      (pss_cons (ps_set (i := 5) scSay.nd rfl (.inl rfl) (pe_call GO hr rfl Ow.g Ow.F.kp Ow.b .nil pass0 (pa_cons (pv 0) (pa_cons (pv 4) (pa_cons (pe_slice sl_list (pv 6) (po_some (pe_callB call_len_seq (by rfl) B.len (by decide +kernel) (pa_cons (pv 4) pa_nil))) po_none) (pa_cons (pv 3) pa_nil))))))
      (pss_cons (ps_par3 (i := 7) (j := 8) (l := 9) rfl scSay.nd rfl rfl rfl (by decide) (by decide) (by decide) rfl rfl rfl
        (pa_cons pe_dnewK (pa_cons (pe_op op_add pe_int (pe_call GP hr1 rfl Pk.g Pk.F.kp Pk.b .nil pass0 (pa_cons (pv 0) (pa_cons pe_int pa_nil))))
          (pa_cons (pe_callB (call_max2 rfl) (by rfl) B.max (by decide +kernel) (pa_cons (pe_call GP hr1 rfl Pk.g Pk.F.kp Pk.b .nil pass0 (pa_cons (pv 0) (pa_cons (pe_op op_add (pv 2) pe_int) pa_nil))) (pa_cons (pe_call GP hr1 rfl Pk.g Pk.F.kp Pk.b .nil pass0 (pa_cons (pv 0) (pa_cons (pe_op op_add (pv 2) pe_int) pa_nil))) pa_nil))) pa_nil))) (by with_unfolding_all rfl))
      (pss_cons (ps_for PassesOwn.never rfl (pi_range1 rfl B.range (pa_cons (pv 9) pa_nil)) (pg_name (i := 10) scSay.nd rfl (.inl rfl))
        (pss_cons (ps_set (i := 11) scSay.nd rfl (.inl rfl) (pe_call GC hr2 rfl Cl.g Cl.F.kp Cl.b .nil pass0 (pa_cons (pv 0) (pa_cons (pv 4) (pa_cons (pv 5) (pa_cons (pv 8) pa_nil))))))
        (pss_one (ps_if (PW.pt (pw_or (pt_cmpR (op_neP (by exact hu)) (pv 11) (pe_tup pa_nil) (nomark _)) (pw_or1 (pt_cmpR op_eq (pe_call GP hr1 rfl Pk.g Pk.F.kp Pk.b .nil pass0 (pa_cons (pv 0) (pa_cons pe_int pa_nil))) pe_int (nomark _)))))
          (pss_one (ps_nput (by exact hu16) (pv 7) (pv 11) pe_bl (by rfl))) pss_nil))))
      (pss_one (ps_ret (pe_tup (pa_cons (pv 4) (pa_cons (pv 5) (pa_cons (pe_tupleOf rfl B.tuple (pe_callB (cr_sortL (by exact hu)) (by rfl) B.sorted (by decide +kernel) (pa_cons (pe_callTy (call_listDn rfl) (by rfl) B.list (by decide +kernel) (pa_cons (pv 7) pa_nil)) pa_nil))) pa_nil)))))))))))), ?_⟩
    have W0 := (Wk.start hs).know hz nz (fun x z => absurd z (by simp))
    refine ⟨_, rfl, _, rfl, z, _, 0, _, rfl, rfl, SqL.of (W0.at 0 rfl), rfl, _, _, rfl, rfl, p, _, _, rfl, W0.s, by omega, by omega, by omega, fun r o r0 r1 hp1 => ?_⟩
    have W1 := W0.src hp1
    refine ⟨_, rfl, _, rfl, z, _, 1, _, rfl, rfl, SqL.of (W1.at 0 rfl), rfl, _, _, rfl, rfl, p, _, _, rfl, W1.s, by omega, by omega, by omega, fun r2 o2 r20 r21 hp2 => ?_⟩
    have W2 := W1.src hp2
    refine ⟨_, _, rfl, ?_⟩
    obtain ⟨k1, rfl⟩ : ∃ k : Nat, r = (k : Int) := ⟨r.toNat, by omega⟩
    obtain ⟨k2, rfl⟩ : ∃ k : Nat, r2 = (k : Int) := ⟨r2.toNat, by omega⟩
    refine ⟨_, rfl, p, _, 4, rfl, W2.s, by omega, by decide, by decide, fun r3 o3 r30 r31 hp3 => ⟨_, _, rfl, rfl, _, rfl, ?_⟩⟩
    have W3 := W2.src hp3
    refine branchH (fun G => Wk H p (c + 3) [(z, .lst [.int a, .int b])] [] G) W3 (fun σ' H4 => ∃ k1 k2 : Nat, k1 ≤ a ∧ k2 ≤ b ∧ σ' = [some (.ref p), some (.ref z), some (.int d), some (.int m), some (.int k1), some (.int k2), none, none, none, none, none, none] ∧ Wk H p (c + 3) [(z, .lst [.int a, .int b])] [] H4) ?_ (fun _ G W R => ?_) (fun _ G W R => ?_)
    · rintro σ' H4 ⟨k1, k2, hk1, hk2, rfl, W4⟩
      refine ⟨_, rfl, _, rfl, _, rfl, _, _, rfl, rfl, p, _, k1 + k2, rfl, W4.s, by omega, by omega, fun l ws H5 wl nd nm hl el d5 => ?_⟩
      have W5 := (W4.trans d5).know el (W4.d.ne hl) (W4.no hl)
      refine ⟨_, rfl, _, rfl, k1, rfl, l, _, rfl, SqL.of (W5.at 0 rfl), fun n0 hn0 => ⟨n0, ws.take k1, rfl, SqL.of (by rw [cut_take]; exact upd_same), fun ys b0 pm up hb0 => .inl ⟨b0, _, rfl, SqL.of upd_same, fun t1 ht1 => ?_⟩⟩⟩
      have W6 := W5.new' (o := .lst (cutV (ws.map V.str) none (some (k1 : Int)))) hn0
      have W7 := W6.new' (o := .lst (ys.map V.str)) hb0
      have W8 := W7.new (o := .tup (ys.map V.str)) ht1
      have W9 := (W8.addR (v := .ref t1) (keyable_nms ys) (.tup (W8.at 0 rfl) (dats_strs ys))).sub (F' := [(l, .lst (ws.map V.str))]) (.cons _ (.cons₂ _ (.cons _ .slnil)))
      have ysl : ys.length = k1 := by rw [pm.length_eq, List.length_take]; omega
      refine gen_hp (F := fun G => Wk H p (c + 3 + (k1 + k2)) [(l, .lst (ws.map V.str))] [(V.ref t1, nmsD ys)] G) W9 (fun G W => ?_)
      clear W9 W8 W7 W6 W5 W4 W3 W2 W1 W0
      have ndT : (ws.take k1).Nodup := nd.sublist (List.take_sublist _ _)
      have ndD : (ws.drop k1).Nodup := nd.sublist (List.drop_sublist _ _)
      have dis : ∀ x ∈ ws.take k1, ∀ y ∈ ws.drop k1, x ≠ y := by
        have z : (ws.take k1 ++ ws.drop k1).Nodup := by rw [List.take_append_drop]; exact nd
        exact (List.nodup_append.mp z).2.2
      refine ⟨_, rfl, _, rfl, _, rfl, _, rfl, _, _, rfl, .inr (SqT.of (nms_get (W.row 0 rfl))), _, rfl, l, _, rfl, SqL.of (W.at 0 rfl), fun n1 hn1 => ?_⟩
      have e1 : ((ys.map V.str).length : Int) = (k1 : Int) := by rw [List.length_map, ysl]
      rw [e1, cut_drop (by omega)] at *
      have W2 := W.new (o := .lst ((ws.drop k1).map V.str)) hn1
      refine ⟨_, rfl, p, n1, _, m, .ref t1, ys, ws.drop k1, rfl, W2.s, by omega, W2.row 0 rfl, up ndT, fun x hx => nm x (List.take_subset _ _ (pm.mem_iff.mp hx)), by omega, W2.at 0 rfl, ndD,
        fun x hx => ⟨nm x (List.drop_subset _ _ hx), fun h' => dis _ (pm.mem_iff.mp h') _ hx rfl⟩, by rw [List.length_drop]; omega, by rw [List.length_drop]; omega, by omega, fun v2 owns H6 D2 fr lo _ d6 => ?_⟩
      have lo2 : owns.length = k2 := by rw [lo, List.length_drop]; omega
      have W3 := ((W2.trans d6).sub (F' := []) (.cons _ (.cons _ .slnil))).up (show _ ≤ c + 530 by omega)
      have d3 := W3.d
      have s6 := d3.s
      replace W3 := W3.re
      obtain ⟨a2, us2, rfl, fz2, Da2⟩ := D2
      have D2 : DatZ H6 (.ref a2) owns := ⟨a2, us2, rfl, fz2, Da2⟩
      clear W2 W
      refine fun aF hF => ?_
      have hF0 := W3.free hF
      have W4 := W3.new (o := .dK []) hF
      refine ⟨_, rfl, p, _, 4, rfl, W4.s, by omega, by decide, by decide, fun r4 o4 r40 r41 hp4 => ⟨_, _, rfl, rfl, ?_⟩⟩
      have W5 := W4.src hp4
      refine ⟨_, rfl, _, rfl, _, _, rfl, rfl, p, _, _, rfl, W5.s, by omega, by omega, by omega, fun r5 o5 r50 r51 hp5 => ?_⟩
      have W6 := W5.src hp5
      refine ⟨_, rfl, _, rfl, _, _, rfl, rfl, p, _, _, rfl, W6.s, by omega, by omega, by omega, fun r6 o6 r60 r61 hp6 => ?_⟩
      have W7 := W6.src hp6
      obtain ⟨n, en, hn⟩ := max_nat (N := (d : Int)) r50 r60 (by omega) (by omega)
      refine ⟨_, _, rfl, _, _, _, rfl, ?_⟩
      obtain ⟨most, hmo⟩ : ∃ k : Nat, (1 : Int) + r4 = (k : Int) := ⟨(1 + r4).toNat, by omega⟩
      refine gen_hp (F := fun G => Wk H6 p (c + 533) [(aF, .dK [])] [(V.ref t1, nmsD ys)] G) W7 (fun G W => ?_)
      clear W7 W6 W5 W4 W3
      rw [en]
      refine ⟨_, rfl, n, rfl, by omega, by omega, ?_⟩
      have hn40 : ((n : Nat) : Int).toNat ≤ 40 := by omega
      have ndN := fr.nd
      refine for_range (lo := 0) (n := ((n : Nat) : Int).toNat) (fun i σ H' => ∃ (cls : List (List Ltr)) (D : List DRow) (o : HO) (o10 o11 : Option V), σ = [some (.ref p), some (.ref z), some (.int d), some (.int m), some (.ref t1), some (.ref a2), some (.ref l), some (.ref aF), some (.int (1 + r4)), some (.int (n : Int)), o10, o11] ∧
        DnS w aF D o ∧ CD D cls (ys ++ owns.map Prod.fst) ∧ cls.length ≤ i ∧ Wk H6 p (c + 533 + 101 * i) [(aF, o)] ([(V.ref t1, nmsD ys)] ++ rowR (D.map Prod.fst)) H') ?_ ?_ ?_
      · exact ⟨[], [], _, _, _, rfl, .inr ⟨rfl, rfl⟩, ⟨rfl, List.nodup_nil, fun cl h => absurd h (by simp)⟩, Nat.le_refl _, W⟩
      · rintro i σ H' hi ⟨cls, D, o, o10, o11, rfl, hD, cd, lc, W⟩
        refine ⟨_, rfl, _, rfl, _, rfl, _, rfl, p, t1, a2, _, 14, _, m, most, ys, owns, by rw [← hmo]; rfl, W.s, by omega, W.row 0 rfl, (dz_dr W.d s6 D2).o, fr, by omega, by rw [List.length_drop]; omega, by omega, by omega, fun v cl H7 Dc ck d7 => ?_⟩
        have W8 := (W.trans d7).addR (keyable_cl cl) Dc
        refine ⟨_, rfl, (by show 0 ≤ sizeLine; decide), fun l8 hl8 => ?_⟩
        have W9 := W8.new' (o := .tup ([] : List V)) hl8
        have el8 : upd H7 l8 (.tup []) l8 = some (.tup []) := upd_same
        refine ⟨clD cl, .tuple [], W9.row 0 rfl, .tup el8 .nil, plain_cl cl, rfl, by have := depth_cl cl; omega, _, rfl, ?_⟩
        obtain ⟨r, rfl⟩ := tuple_ref (ds := cl.map ltD) Dc
        refine or_split (R := fun G => Wk H6 p (c + 533 + 101 * i + 101) [(aF, o)] ((V.ref r, clD cl) :: ([(V.ref t1, nmsD ys)] ++ rowR (D.map Prod.fst))) G) (fun G WG => ?_) (fun _ k => k _ (W9.up (by omega))) (fun _ k => ?_)
        · show if true = true then _ else _
          rw [if_pos rfl]
          obtain ⟨cls', cd', lc', mem'⟩ := cd.put (r := r) (v := V.bl true) ck
          have hDat : ∀ q ∈ D.map Prod.fst, Dat G q.v q.2 := fun q hq => (WG.r (q.v, q.2) (List.mem_cons_of_mem _ (List.mem_append_right _ (List.mem_map.mpr ⟨q, hq, rfl⟩)))).2
          refine ⟨_, rfl, _, rfl, aF, r, D, clD cl, rfl, rfl, hD.at (WG.at 0 rfl), cd.keys hDat, WG.row 0 rfl, keyable_cl cl, by have := depth_cl cl; omega, by rw [cd.len]; exact small1000 (by omega), ?_⟩
          refine ⟨cls', _, _, _, _, rfl, .inl rfl, cd', by omega, ?_⟩
          have WH := WG.put (o' := DnO w aF (putN D (r, clD cl) (V.bl true))) 0 rfl hF0 hD.nt
          refine (WH.rows fun x hx => .inl ?_).up (by omega)
          rcases List.mem_append.mp hx with y | y
          · exact List.mem_cons_of_mem _ (List.mem_append_left _ y)
          · obtain ⟨q', hq', rfl⟩ := rowR_mem y
            rcases mem' q' hq' with y | rfl
            · exact List.mem_cons_of_mem _ (List.mem_append_right _ (List.mem_map.mpr ⟨q', y, rfl⟩))
            · exact List.mem_cons_self
        · refine ⟨_, rfl, p, _, 9, rfl, W9.s, by omega, by decide, by decide, fun r9 o9 r90 r91 hp9 => ⟨rfl, _, rfl, ?_⟩⟩
          have WA := W9.src hp9
          by_cases hz : decide (V.int r9 = V.int 0) = true
          · have y := k _ (WA.up (by omega))
            show if decide (V.int r9 = V.int 0) = true then _ else _
            rw [hz]
            exact y
          · show if decide (V.int r9 = V.int 0) = true then _ else _
            rw [if_neg hz]
            refine ⟨cls, D, o, _, _, rfl, hD, cd, by omega, (WA.rows fun x hx => .inl (List.mem_cons_of_mem _ hx)).up (by omega)⟩
      · rintro σ H' ⟨cls, D, o, o10, o11, rfl, hD, cd, lc, W⟩
        have hDat : ∀ q ∈ D.map Prod.fst, Dat H' q.v q.2 := W.rr
        refine ⟨_, rfl, _, rfl, _, rfl, aF, D, rfl, hD.at (W.at 0 rfl), cd.keys hDat, fun bL hbL => ?_⟩
        have W2 := W.new (o := .lst ((D.map Prod.fst).map TRow.v)) hbL
        refine ⟨bL, D.map Prod.fst, rfl, SqL.of (W2.at 0 rfl), W2.rr, cd.sorty, fun T' b9 pm2 _ up2 hb9 => .inl ⟨b9, _, rfl, SqL.of upd_same, fun t ht => ⟨(by show 3 ≤ sizeLine; decide), fun t3 ht3 => ?_⟩⟩⟩
        have W3 := W2.new' (o := .lst (T'.map TRow.v)) hb9
        have W4 := W3.new (o := .tup (T'.map TRow.v)) ht
        have W5 := W4.new (o := .tup [.ref t1, .ref a2, .ref t]) ht3
        obtain ⟨cls', e', up', ok', len'⟩ := cd.sorted pm2 up2
        have Dcs : Dat (upd (upd (upd (upd H' bL (.lst ((D.map Prod.fst).map TRow.v))) b9 (.lst (T'.map TRow.v))) t (.tup (T'.map TRow.v))) t3 (.tup [.ref t1, .ref a2, .ref t])) (.ref t) (.tuple (cls'.map clD)) := by
          rw [← e']
          exact .tup (W5.at 1 rfl) (dats_rows fun q' hq' => W5.rr q' (pm2.mem_iff.mp hq'))
        refine q _ ⟨ys, owns, cls'⟩ _ ⟨_, _, _, _, rfl, W5.at 0 rfl, W5.row 0 rfl, dz_dr W5.d s6 D2, Dcs⟩ ⟨fr.pu, fr.pn, by show ys.length ≤ a; omega, fr.ou, fr.on, by show owns.length ≤ b; omega, fr.oc, up', ok', ?_⟩ ((d3.trans W5.d).up (by omega))
        show cls'.length ≤ d
        omega
    · refine ⟨_, rfl, _, _, rfl, _, rfl, _, _, rfl, _, _, rfl, R _ _ ?_⟩
      obtain ⟨m1, e1, h1⟩ := max_nat (x := 1) (y := (k1 : Int)) (N := (a : Int)) (by omega) (by omega) (by omega) (by omega)
      obtain ⟨m2, e2, h2⟩ := max_nat (x := 2) (y := (k2 : Int)) (N := (b : Int)) (by omega) (by omega) (by omega) (by omega)
      refine ⟨m1, m2, by omega, by omega, ?_, W⟩
      rw [e1, e2]
      rfl
    · exact R _ _ ⟨k1, k2, by omega, by omega, rfl, W⟩
end
end S1

set_option Elab.async false
set_option linter.all false
set_option maxRecDepth 100000
set_option maxHeartbeats 2000000
/-! dict(pairs), the keys unlike tuples -/
namespace L2
open PySem PySem.W PySem.Spec PyProof.Rows
section
variable {X : Cx}
theorem kn_pairs {pins : List (Addr × Obj)} {σ : L2.St} {H : Hp} {s : Shared} (I : Inv X pins σ H s) : ∀ {ps : List Addr} {E : List DRow}, Paired (fun (p : Addr) (e : DRow) => H p = some (.tup [.ref e.1.1, e.2])) ps E →
    ∃ xs : List (NestedKey × Addr × Value), KN E xs ∧ xs.length = ps.length ∧ ∀ (j : Nat) (p : Addr), ps[j]? = some p → ∃ x, xs[j]? = some x ∧ s.heap.IsTuple p #[.ref x.2.1, x.2.2]
  | _, _, .nil => ⟨[], .nil, rfl, fun j q e => by simp at e⟩
  | _, _, .cons (a := p) (b := e) h t => by
    obtain ⟨xs, r, hl, hp⟩ := kn_pairs I t
    obtain ⟨its, rv, ht, _⟩ := I.tuple (SqT.of (K := X.K) h)
    obtain ⟨u, y, ei, ru, ry⟩ := vals2 rv
    subst ei
    cases (show u = Value.ref e.1.1 from ru)
    refine ⟨(nkey e.1.2, e.1.1, y) :: xs, .cons ⟨rfl, rfl, ry⟩ r, by rw [List.length_cons, List.length_cons, hl], fun j q e' => ?_⟩
    cases j with
    | zero =>
      have e' : p = q := Option.some.inj e'
      subst e'
      obtain ⟨o, a1, a2, a3, a4⟩ := ht
      exact ⟨_, rfl, o, a1, a2, _, a4⟩
    | succ j =>
      obtain ⟨x, e1, e2⟩ := hp j q (by simpa using e')
      exact ⟨x, by simpa using e1, e2⟩
def rDictN (K : PySem.W.Frag) (w : World) : List V → Hp → VK → Prop := fun vs H Q => ∃ (l : Addr) (ps : List Addr) (E : List DRow), vs = [.ref l] ∧ SqL K H l (ps.map V.ref) ∧ Paired (fun (p : Addr) (e : DRow) => H p = some (.tup [.ref e.1.1, e.2])) ps E ∧ KeysAt H E ∧
  (E.map fun e => nkey e.1.2).Nodup ∧ ∀ b, H b = none → Q (.ref b) (upd H b (DnO w b E))
theorem call_dictN (hc : X.calm = true) (hu : X.A.units + 16 < cLine) : CallR X (.type "dict") (rDictN X.K X.w) := by
  intro pins s σ H vs us Q I r h
  obtain ⟨l, ps, E, rfl, hq, pr, kk, nd, q⟩ := h
  rw [Vals.ref1 r]
  obtain ⟨its, rv, pl, hz⟩ := I.list hq
  have ei := refs_at rv
  subst ei
  obtain ⟨o, n, ho, hcl, hd, hdat⟩ := pl
  obtain ⟨xs, rel, lx, hx⟩ := kn_pairs I pr
  have lE : E.length = xs.length := Paired.length rel
  have ex : xs.map (·.1) = E.map fun e => nkey e.1.2 := by
    clear hx lx lE nd kk pr q
    induction rel with
    | nil => rfl
    | cons h t ih => rw [List.map_cons, List.map_cons, h.1, ih]
  have ok : PlainSeq "list" s.heap l (ps.map Value.ref).toArray ∧ PairItems s.heap (ps.map Value.ref).toArray (fun j => ps[j]?.getD 0) (xs.map fun x => (Value.ref x.2.1, x.2.2)) := by
    refine ⟨⟨o, n, ho, hcl, hd, hdat⟩, ?_, fun j k v hj => ?_⟩
    · simp [lx]
    · rw [List.getElem?_map] at hj
      obtain ⟨x, hx1, e⟩ := Option.map_eq_some_iff.mp hj
      cases e
      have jl : j < ps.length := by rw [← lx]; exact (List.getElem?_eq_some_iff.mp hx1).1
      obtain ⟨x', h1, h2⟩ := hx j ps[j] (List.getElem?_eq_getElem jl)
      rw [hx1] at h1
      cases h1
      refine ⟨by simp [jl], ?_⟩
      show PairAt _ (ps[j]?.getD 0) _ _
      rw [List.getElem?_eq_getElem jl]
      exact .inl h2
  refine call_dict_pairsH (knd := nestedKind X.prog X.w) (ps := xs) (PairArg.list l _ _ _) (I.ok.hd hc) (show X.A.in1.in1.units + 8 < cLine by simp only [Around.in1_units]; omega) ok ⟨by rw [List.length_map], fun i key v hr => ?_⟩ (fun h' hk x hx' => ?_) ?_ fun h' tk hd' hk => ?_
  · unfold PairRel at hr
    rw [List.getElem?_map] at hr
    obtain ⟨x, hx1, e⟩ := Option.map_eq_some_iff.mp hr
    cases e
    exact ⟨x.1, x.2.1, hx1, rfl⟩
  · have z := kn_keys I.hok rel kk x hx'
    exact nestedKind_stays.all h' (fun b o' _ e => hk b o' (Nat.ne_of_lt (Heap.lt_size e)) (by simp) e) _ _ z
  · rw [List.length_map, lx]
    rw [List.length_map] at hz
    exact hz
  · rw [storedAllH_nil_of_nodup xs (by rw [ex]; exact nd)] at hd'
    obtain ⟨o', es, ep, h1, h2, h3, h4, _, h5⟩ := hd'
    have hm : (s.heap.objs.size == sysModules) = false := beq_eq_false_iff_ne.mpr (Nat.ne_of_gt I.big)
    rw [List.length_map] at hz
    exact ⟨.ref s.heap.objs.size, upd H s.heap.objs.size (DnO X.w s.heap.objs.size E), I.laid (t' := tk) (fun b o e => hk b o (by simp) e) (Nat.le_refl _) (dn_ok ⟨xs, o', es, ep, rel, h1, h2, h3, h4, h5, by omega, hm⟩), rfl, q _ (I.hok.fresh (Nat.le_refl _))⟩
end
end L2

set_option Elab.async false
set_option linter.all false
set_option maxRecDepth 100000
set_option maxHeartbeats 4000000
/-! clauses of two letters put to a saying -/
namespace S1
open PySem PySem.W PySem.Spec PyProof.Rows L2
theorem other_of {a r n : Int} (h0 : 0 ≤ a) (h1 : a < n) (h2 : 0 ≤ r) (h3 : r < n - 1) : 0 ≤ (a + 1 + r) % n ∧ (a + 1 + r) % n < n ∧ (a + 1 + r) % n ≠ a := by
  by_cases h : a + 1 + r < n
  · rw [Int.emod_eq_of_lt (by omega) h]
    omega
  · have e : a + 1 + r = (a + 1 + r - n) + n := by omega
    have e2 : (a + 1 + r) % n = a + 1 + r - n := by
      rw [e, Int.add_emod_right, Int.emod_eq_of_lt (by omega) (by omega)]
      omega
    rw [e2]
    omega
theorem SayOk.le {a b c d a' b' c' d' : Nat} {s : Say} (h : SayOk a b c d s) (ha : a ≤ a') (hb : b ≤ b') (hc : c ≤ c') (hd : d ≤ d') : SayOk a' b' c' d' s := ⟨h.pu, h.pn, Nat.le_trans h.pl ha, h.ou, h.on, Nat.le_trans h.ol hb, Nat.le_trans h.oc hc, h.cu, h.ck, Nat.le_trans h.cl hd⟩
theorem SayOk.fr {a b c d : Nat} {s : Say} (h : SayOk a b c d s) : FrOk a b c s.picks s.owns := ⟨h.pu, h.pn, h.pl, h.ou, h.on, h.ol, h.oc⟩
theorem ite_te {c : Prop} [Decidable c] {ta tb : TE} {σ : L2.St} {H : Hp} {Q : VK} (I : V → Hp → Prop) (R : ∀ v H', I v H' → Q v H') (h1 : c → (∀ v H', I v H' → Q v H') → ta σ H Q) (h2 : ¬ c → (∀ v H', I v H' → Q v H') → tb σ H Q) : if c then ta σ H Q else tb σ H Q := by
  by_cases h : c
  · rw [if_pos h]; exact h1 h R
  · rw [if_neg h]; exact h2 h R
theorem paired_snoc {α β : Type} {G : α → β → Prop} : ∀ {l₁ : List α} {l₂ : List β} {a : α} {b : β}, Paired G l₁ l₂ → G a b → Paired G (l₁ ++ [a]) (l₂ ++ [b])
  | _, _, _, _, .nil, h => .cons h .nil
  | _, _, _, _, .cons r t, h => .cons r (paired_snoc t h)
theorem paired_mono {α β : Type} {G G' : α → β → Prop} (k : ∀ a b, G a b → G' a b) : ∀ {l₁ : List α} {l₂ : List β}, Paired G l₁ l₂ → Paired G' l₁ l₂
  | _, _, .nil => .nil
  | _, _, .cons r t => .cons (k _ _ r) (paired_mono k t)
theorem cls_nodup {cs : List (List Ltr)} (h : cs.Pairwise fun x y => dataLt (clD x) (clD y) = true) : cs.Nodup := h.imp fun {a b} z e => by
  rw [e, dataLt_irrefl] at z
  cases z
theorem nofix_tup {H G : Hp} {p a : Addr} {c c1 : Nat} {xs : List V} (hs : Src H p c) (d : Dr H p c1 G) (e : H a = some (.tup xs)) : G a = some (.tup xs) := d.keep e fun z => by
  obtain ⟨ys, hy⟩ := hs.lst
  rw [z, hy] at e
  cases e
def spChained : Sp := fun vs H Q _ => ∃ (p : Addr) (v : V) (c a b m d : Nat) (sy : Say), vs = [.ref p, v] ∧ Src H p c ∧ c ≤ 30000 ∧ DatF H v sy ∧ SayOk a b m d sy ∧ a ≤ 6 ∧ b ≤ 8 ∧ d ≤ 40 ∧
  ∀ (v' : V) (sy' : Say) (H' : Hp), DatF H' v' sy' → SayOk a b m 40 sy' → Dr H p (c + 200) H' → Q v' H'
abbrev nCh : List Str := ["pot", "saying", "picks", "owns", "clauses", "found", "names", "turn", "at", "other", "letters", "clause", "name", "sight"]
section
variable {P : Program} {w : World} {K : PySem.W.Frag} {mg : Str → Option Value} {base : Heap}
theorem scCh : FnScope nCh ["pot", "saying"] (defScope sLChained) := ⟨rfl, rfl, rfl, by decide +kernel, rfl, by decide +kernel, by decide +kernel⟩
theorem ok_chained {f fP : Addr} {fd fdP : FuncData} (F : Fun K "_law_chained" "_law_chained" sLChained f fd) (Pk : Has K mg "_law_draw" sDraw ["pot", "top"] fP fdP) (B : Blt mg) : FnOk P w K mg base CX0 2 f fd ["pot", "saying"] spChained := by
  have GP : FnOk P w K mg base CX0 1 fP fdP ["pot", "top"] spPick := ok_pick Pk.F B
  refine F.ok scCh (fun vs H Q E h => ?_) (fun cdv A outer s H vs Q E hr h => ?_)
  · obtain ⟨p, v, c, a, b, m, d, sy, rfl, _⟩ := h
    rfl
  · obtain ⟨p, v, c, a, b, m, d, sy, rfl, hs, hc, D, ok, ha, hb, hd, q⟩ := h
    have hu : (A.deeper (envOfC "_law_chained" (defScope sLChained) s.heap.objs.size f cdv)).units + 64 < cLine := hr.units
    have hu16 : (A.deeper (envOfC "_law_chained" (defScope sLChained) s.heap.objs.size f cdv)).units + 16 < cLine := by omega
    refine ⟨_, pss_cons (ps_asg (pv 1) (pg_tup rfl (pgs_cons (pg_name (i := 2) scCh.nd rfl (.inl rfl)) (pgs_cons (pg_name (i := 3) scCh.nd rfl (.inl rfl)) (pgs_cons (pg_name (i := 4) scCh.nd rfl (.inl rfl)) pgs_nil)))))
      (pss_cons (ps_par (i := 5) (j := 6) rfl scCh.nd rfl rfl (by decide) rfl rfl
          (pa_cons (pe_callTy (call_dictN rfl (by exact hu16)) (by rfl) B.dict (by decide +kernel) (pa_cons (pe_lc (own := [("clause", 11)]) (g := gName 11) (tt := tYes) (te := tTup (tCons (tVar 11) (tCons (tC (V.bl true)) tNil))) rfl scCh.nd (pi_tup (pv 4)) (blkOk_by (N := nCh) (sc := defScope sLChained) (by decide +kernel))
              (fun _ _ _ _ _ => pg_name (i := 11) scCh.nd rfl (Or.inl rfl)) (fun _ _ _ _ _ => pts_nil) (fun _ _ _ _ _ => by exact pe_tup (pa_cons (pv 11) (pa_cons pe_bl pa_nil)))) pa_nil))
            (pa_cons (pe_op op_cat (pe_callTy call_list_of (by rfl) B.list (by decide +kernel) (pa_cons (pv 2) pa_nil))
              (pe_lc (own := [("name", 12), ("sight", 13)]) (g := gTup K 2 (gCons (gName 12) (gCons (gName 13) gNil))) (tt := tYes) (te := tVar 12) rfl scCh.nd (pi_tup (pv 3)) (blkOk_by (N := nCh) (sc := defScope sLChained) (by decide +kernel))
                (fun _ _ _ _ _ => by exact pg_tup rfl (pgs_cons (pg_name (i := 12) scCh.nd rfl (.inl rfl)) (pgs_cons (pg_name (i := 13) scCh.nd rfl (.inl rfl)) pgs_nil))) (fun _ _ _ _ _ => pts_nil) (fun _ _ _ _ _ => by exact pv 12))) pa_nil)) (by with_unfolding_all rfl))
      (pss_cons (ps_for PassesOwn.never rfl (pi_range1 rfl B.range (pa_cons (pe_ifExp (pt_cmpR op_gt (pe_callB call_len_seq (by rfl) B.len (by decide +kernel) (pa_cons (pv 6) pa_nil)) pe_int (nomark _)) (pe_call GP hr rfl Pk.g Pk.F.kp Pk.b .nil pass0 (pa_cons (pv 0) (pa_cons pe_int pa_nil))) pe_int) pa_nil)) (pg_name (i := 7) scCh.nd rfl (.inl rfl))
        (pss_cons (ps_set (i := 8) scCh.nd rfl (.inl rfl) (pe_call GP hr rfl Pk.g Pk.F.kp Pk.b .nil pass0 (pa_cons (pv 0) (pa_cons (pe_callB call_len_seq (by rfl) B.len (by decide +kernel) (pa_cons (pv 6) pa_nil)) pa_nil))))
        (pss_cons (ps_set (i := 9) scCh.nd rfl (.inl rfl) (pe_op op_mod (pe_callTy call_int1 (by rfl) B.int (by decide +kernel) (pa_cons (pe_op op_add (pe_op op_add (pv 8) pe_int)
            (pe_call GP hr rfl Pk.g Pk.F.kp Pk.b .nil pass0 (pa_cons (pv 0) (pa_cons (pe_op op_sub (pe_callB call_len_seq (by rfl) B.len (by decide +kernel) (pa_cons (pv 6) pa_nil)) pe_int) pa_nil)))) pa_nil)) (pe_callB call_len_seq (by rfl) B.len (by decide +kernel) (pa_cons (pv 6) pa_nil))))
        (pss_cons (ps_set (i := 10) scCh.nd rfl (.inl rfl) (pe_lst (pa_cons (pe_tup (pa_cons (pe_ix ix_list (pv 6) (pv 8) (fun _ _ => rfl)) (pa_cons (pe_cmpR op_eq (pe_call GP hr rfl Pk.g Pk.F.kp Pk.b .nil pass0 (pa_cons (pv 0) (pa_cons pe_int pa_nil))) pe_int (nomark _)) pa_nil)))
            (pa_cons (pe_tup (pa_cons (pe_ix ix_list (pv 6) (pv 9) (fun _ _ => rfl)) (pa_cons (pe_cmpR op_eq (pe_call GP hr rfl Pk.g Pk.F.kp Pk.b .nil pass0 (pa_cons (pv 0) (pa_cons pe_int pa_nil))) pe_int (nomark _)) pa_nil))) pa_nil))))
        (pss_one (ps_if (pt_cmpR op_lt (pe_callB call_lenN (by rfl) B.len (by decide +kernel) (pa_cons (pv 5) pa_nil)) pe_int (nomark _))
          (pss_one (ps_nput (by exact hu16) (pv 5) (pe_tupleOf rfl B.tuple (pe_callB (cr_sortL (by exact hu)) (by rfl) B.sorted (by decide +kernel) (pa_cons (pv 10) pa_nil))) pe_bl (by rfl))) pss_nil))))))
      (pss_one (ps_ret (pe_tup (pa_cons (pv 2) (pa_cons (pv 3) (pa_cons (pe_tupleOf rfl B.tuple (pe_callB (cr_sortL (by exact hu)) (by rfl) B.sorted (by decide +kernel) (pa_cons (pe_callTy (call_listDn rfl) (by rfl) B.list (by decide +kernel) (pa_cons (pv 5) pa_nil)) pa_nil))) pa_nil)))))))), ?_⟩
    obtain ⟨a0, v1, v2, v3, rfl, e0, D1, D2, D3⟩ := D
    obtain ⟨a1, rfl, e1⟩ := nms_at D1
    obtain ⟨a2, us, rfl, fz, Du⟩ := D2
    have D2 : DatZ H (.ref a2) sy.owns := ⟨a2, us, rfl, fz, Du⟩
    obtain ⟨a3, cs, rfl, e3, h3⟩ := dat_tup D3
    obtain ⟨T, rfl, eT, hT⟩ := rows_of_dat h3 fun d hd => by
      obtain ⟨cl, _, rfl⟩ := List.mem_map.mp hd
      exact ⟨_, rfl⟩
    have lT : T.length = sy.cls.length := by
      have := congrArg List.length eT
      simpa using this.symm
    have lc := ok.cl
    refine ⟨_, rfl, a0, _, rfl, SqT.of e0, rfl, _, _, rfl, _, _, rfl, _, _, rfl, rfl, ?_⟩
    have W0 : Wk H p c [] ([(V.ref a1, nmsD sy.picks)] ++ rowR T) H := (Wk.start hs).rows fun x hx => .inr (by
      rcases List.mem_append.mp hx with h | h
      · cases List.mem_singleton.mp h
        exact ⟨keyable_nms _, D1⟩
      · obtain ⟨q', hq', rfl⟩ := rowR_mem h
        have m : q'.2 ∈ sy.cls.map clD := eT ▸ List.mem_map_of_mem hq'
        obtain ⟨cl, _, ec⟩ := List.mem_map.mp m
        exact ⟨by rw [← ec]; exact keyable_cl cl, hT q' hq'⟩)
    refine ⟨_, rfl, a3, rfl, ⟨_, SqT.of e3⟩, fun Dl hDl => ?_⟩
    have hDl0 := W0.free hDl
    have D3k : ∀ {G : Hp} {c1 : Nat}, Dr H p c1 G → G a3 = some (.tup (T.map TRow.v)) := fun d => nofix_tup hs d e3
    refine lc_tup (K := K) (a := a3) (xs := T.map TRow.v) (fun j H4 => ∃ ps : List Addr, ps.length = j ∧ Paired (fun (p : Addr) (e : DRow) => H4 p = some (.tup [.ref e.1.1, e.2])) ps ((T.take j).map fun q => (q, V.bl true)) ∧ Wk H p c [(Dl, .lst (ps.map V.ref))] ([(V.ref a1, nmsD sy.picks)] ++ rowR T) H4)
      ⟨[], rfl, .nil, W0.new hDl⟩ (fun j H4 _ ⟨ps, _, _, W⟩ => SqT.of (D3k W.d)) ?_ ?_
    · rintro j x H4 hx ⟨ps, lp, pr, W⟩
      rw [List.getElem?_map] at hx
      obtain ⟨y, hy, rfl⟩ := Option.map_eq_some_iff.mp hx
      have jl : j < T.length := (List.getElem?_eq_some_iff.mp hy).1
      refine ⟨rfl, yes_of ⟨_, rfl, (by show 2 ≤ sizeLine; decide), fun t ht => ?_⟩⟩
      have W5 := W.new (o := .tup [.ref y.1, .bl true]) ht
      refine ⟨_, W5.at 1 rfl, by rw [List.length_map, lp]; exact small1000 (by omega), ps ++ [t], by rw [List.length_append, lp]; rfl, ?_, ?_⟩
      · have K5 : ∀ b xs, upd H4 t (.tup [.ref y.1, .bl true]) b = some (.tup xs) → upd (upd H4 t (.tup [.ref y.1, .bl true])) Dl (.lst (ps.map V.ref ++ [V.ref t])) b = some (.tup xs) := tk_put fun xs z => by rw [W5.at 1 rfl] at z; cases z
        rw [take_next hy, List.map_append]
        refine paired_snoc (paired_mono (fun b e z => K5 _ _ ?_) pr) (K5 _ _ upd_same)
        rw [upd_ne (ne_of_none z ht)]
        exact z
      · have W6 := (W5.sub (F' := [(Dl, .lst (ps.map V.ref))]) (.cons _ (.refl _))).put (o' := .lst (ps.map V.ref ++ [V.ref t])) 0 rfl hDl0 lst_nt
        rw [List.map_append]
        exact W6
    · rintro H5 ⟨ps, lp, pr, W⟩
      rw [List.length_map, List.take_length] at pr
      have eD : ((T.map fun q => (q, V.bl true)).map Prod.fst) = T := by
        rw [List.map_map]
        exact List.map_id _
      have cd0 : CD (T.map fun q => (q, V.bl true)) sy.cls (sy.picks ++ sy.owns.map Prod.fst) := ⟨by rw [eD, eT], cls_nodup ok.cu, ok.ck⟩
      have kk0 : KeysAt H5 (T.map fun q => (q, V.bl true)) := cd0.keys (by rw [eD]; exact W.rr)
      have nd0 : ((T.map fun q => (q, V.bl true)).map fun e => nkey e.1.2).Nodup := by
        have z : ((T.map fun q => (q, V.bl true)).map fun e => nkey e.1.2) = (sy.cls.map clD).map nkey := by
          rw [eT, List.map_map, List.map_map]
          rfl
        rw [z, List.map_map]
        exact List.pairwise_map.mpr (cd0.nd.imp fun {a b} ne z => ne (nkey_cl.mp z))
      refine ⟨Dl, ps, _, rfl, SqL.of (W.at 0 rfl), pr, kk0, nd0, fun aF hF => ?_⟩
      have hF0 := W.free hF
      have W1 := (W.sub (F' := []) (.cons _ .slnil)).new (o := DnO w aF (T.map fun q => (q, V.bl true))) hF
      refine ⟨_, rfl, a1, _, rfl, .inr (SqT.of (nms_get (W1.row 0 rfl))), fun l0 hl0 => ?_⟩
      have W2 := W1.new (o := .lst (sy.picks.map V.str)) hl0
      obtain ⟨b22, us2, eb22, fz22, Do⟩ := dz_dr W2.d hs D2
      cases eb22
      have e22 := fz22.ft
      refine ⟨_, rfl, a2, rfl, ⟨_, FT.sq e22⟩, fun Dn hDn => ?_⟩
      have lO := ok.ol
      refine lc_names (K := K) e22 Do hDn (by omega) (fun _ _ => rfl) (fun _ _ => rfl) fun H6 eL S6 => ?_
      have W3 := (W2.same S6).know eL (W2.d.ne hDn) (W2.no hDn)
      refine ⟨_, _, _, _, rfl, rfl, W3.at 1 rfl, W3.at 0 rfl, ?_, fun l hl => ?_⟩
      · have := ok.pl
        rw [List.length_map, List.length_map, List.length_map]
        exact Nat.le_of_lt (small1000 (by omega))
      rw [← List.map_append]
      have W4 := (W3.new (o := .lst ((sy.picks ++ sy.owns.map Prod.fst).map V.str)) hl).sub (F' := [(l, .lst ((sy.picks ++ sy.owns.map Prod.fst).map V.str)), (aF, DnO w aF (T.map fun q => (q, V.bl true)))]) (.cons₂ _ (.cons _ (.cons _ (.refl _))))
      refine ⟨_, _, rfl, ?_⟩
      have nsl : (sy.picks ++ sy.owns.map Prod.fst).length ≤ 14 := by have := ok.fr.len; omega
      have nsn : (sy.picks ++ sy.owns.map Prod.fst).Nodup := ok.fr.nd
      refine gen_hp (F := fun G => Wk H p c [(l, .lst ((sy.picks ++ sy.owns.map Prod.fst).map V.str)), (aF, DnO w aF (T.map fun q => (q, V.bl true)))] ([(V.ref a1, nmsD sy.picks)] ++ rowR T) G) W4 (fun G W => ?_)
      clear W1 W2 W3 W4
      generalize hns : sy.picks ++ sy.owns.map Prod.fst = ns at W nsl nsn cd0 ⊢
      refine ⟨_, rfl, _, _, rfl, .inl (SqL.of (W.at 0 rfl)), _, _, rfl, rfl, _, rfl, ?_⟩
      refine ite_te (fun v G => ∃ k : Int, v = .int k ∧ 0 ≤ k ∧ k ≤ 24 ∧ (0 < k → 1 < ns.length) ∧ Wk H p (c + 1) [(l, .lst (ns.map V.str)), (aF, DnO w aF (T.map fun q => (q, V.bl true)))] ([(V.ref a1, nmsD sy.picks)] ++ rowR T) G)
        (fun v G ⟨k, hv, k0, k1, kn, W⟩ => ?_) (fun hgt R => ?_) (fun _ R => R _ _ ⟨0, rfl, by decide, by decide, fun z => absurd z (by decide), W.up (by omega)⟩)
      · subst hv
        refine ⟨k, rfl, by omega, by omega, ?_⟩
        refine for_range (lo := 0) (n := k.toNat) (fun i σ H' => ∃ (cls : List (List Ltr)) (D : List DRow) (o : HO) (o7 o8 o9 o10 : Option V), σ = [some (.ref p), some (.ref a0), some (.ref a1), some (.ref a2), some (.ref a3), some (.ref aF), some (.ref l), o7, o8, o9, o10, none, none, none] ∧
          DnS w aF D o ∧ CD D cls ns ∧ cls.length ≤ 40 ∧ Wk H p (c + 1 + 4 * i) [(l, .lst (ns.map V.str)), (aF, o)] ([(V.ref a1, nmsD sy.picks)] ++ rowR (D.map Prod.fst)) H') ?_ ?_ ?_
        · exact ⟨sy.cls, _, _, _, _, _, _, rfl, .inl rfl, cd0, by omega, by rw [eD]; exact W⟩
        · rintro i σ H' hi ⟨cls, D, o, o7, o8, o9, o10, rfl, hD, cd, lcs, W⟩
          have n2 : 1 < ns.length := kn (by omega)
          have i24 : i ≤ 24 := by omega
          refine ⟨_, rfl, _, rfl, _, _, rfl, .inl (SqL.of (W.at 0 rfl)), p, _, _, rfl, W.s, by omega, by rw [List.length_map]; omega, by rw [List.length_map]; omega, fun r1 u1 r10 r11 hp1 => ?_⟩
          rw [List.length_map] at r11
          have W1 := W.src hp1
          refine ⟨_, rfl, _, _, rfl, rfl, _, rfl, _, rfl, _, _, rfl, .inl (SqL.of (W1.at 0 rfl)), _, _, rfl, rfl, p, _, _, rfl, W1.s, by omega, by rw [List.length_map]; omega, by rw [List.length_map]; omega, fun r2 u2 r20 r21 hp2 => ?_⟩
          rw [List.length_map] at r21
          have W2 := W1.src hp2
          refine ⟨_, _, rfl, rfl, .inl ⟨_, rfl, _, rfl, _, _, rfl, .inl (SqL.of (W2.at 0 rfl)), _, _, rfl, rfl, by rw [List.length_map]; omega, ?_⟩⟩
          rw [List.length_map]
          obtain ⟨q0, q1, qne⟩ := other_of r10 r11 r20 r21
          generalize upd (upd H' p u1) p u2 = H2 at W2 ⊢
          clear W W1
          have l1 : r1.toNat < ns.length := by omega
          have l2 : ((r1 + 1 + r2) % (ns.length : Int)).toNat < ns.length := by omega
          have hat : ∀ {z : Int} (z0 : 0 ≤ z) (zl : z.toNat < ns.length), atI (ns.map V.str) z = some (V.str ns[z.toNat]) := fun {z} z0 zl => by
            have h := atI_nat (xs := ns.map V.str) (j := z.toNat) (v := V.str ns[z.toNat]) (by rw [List.getElem?_map, List.getElem?_eq_getElem zl]; rfl)
            rwa [Int.toNat_of_nonneg z0] at h
          have xne : ns[r1.toNat] ≠ ns[((r1 + 1 + r2) % (ns.length : Int)).toNat] := fun z => by
            have := (List.getElem_inj nsn).mp z
            omega
          have hat1 := hat r10 l1
          have hat2 := hat q0 l2
          have m1 : ns[r1.toNat] ∈ ns := List.getElem_mem _
          have m2 : ns[((r1 + 1 + r2) % (ns.length : Int)).toNat] ∈ ns := List.getElem_mem _
          generalize ns[r1.toNat] = x1 at hat1 xne m1
          generalize ns[((r1 + 1 + r2) % (ns.length : Int)).toNat] = x2 at hat2 xne m2
          refine ⟨_, rfl, _, rfl, l, _, r1, _, rfl, rfl, SqL.of (W2.at 0 rfl), hat1, _, rfl, p, _, 2, rfl, W2.s, by omega, by decide, by decide, fun r3 u3 _ _ hp3 => ⟨rfl, (by show 2 ≤ sizeLine; decide), fun t1 ht1 => ?_⟩⟩
          have W3 := W2.src hp3
          have W4 := W3.new (o := .tup [.str x1, .bl (decide (V.int r3 = V.int 0))]) ht1
          have W5 := ((W4.addR (v := V.ref t1) (d := ltD (x1, decide (V.int r3 = V.int 0))) rfl (.tup (W4.at 0 rfl) (.cons (.str _) (.cons (.bl _) .nil)))).sub (F' := [(l, .lst (ns.map V.str)), (aF, o)]) (.cons _ (.refl _)))
          refine gen_hp (F := fun G => Wk H p (c + 1 + 4 * i + 1 + 1 + 1) [(l, .lst (ns.map V.str)), (aF, o)] ((V.ref t1, ltD (x1, decide (V.int r3 = V.int 0))) :: ([(V.ref a1, nmsD sy.picks)] ++ rowR (D.map Prod.fst))) G) W5 (fun G W => ?_)
          clear W5 W4 W3 W2
          generalize decide (V.int r3 = V.int 0) = b1 at W
          refine ⟨_, rfl, _, rfl, l, _, _, _, rfl, rfl, SqL.of (W.at 0 rfl), hat2, _, rfl, p, _, 2, rfl, W.s, by omega, by decide, by decide, fun r4 u4 _ _ hp4 => ⟨rfl, (by show 2 ≤ sizeLine; decide), fun t2 ht2 => ⟨(by show 2 ≤ sizeLine; decide), fun lL hlL => ?_⟩⟩⟩
          have W3 := W.src hp4
          have W4 := W3.new (o := .tup [.str x2, .bl (decide (V.int r4 = V.int 0))]) ht2
          have W5 := ((W4.addR (v := V.ref t2) (d := ltD (x2, decide (V.int r4 = V.int 0))) rfl (.tup (W4.at 0 rfl) (.cons (.str _) (.cons (.bl _) .nil)))).sub (F' := [(l, .lst (ns.map V.str)), (aF, o)]) (.cons _ (.refl _)))
          have W6 := W5.new (o := .lst [.ref t1, .ref t2]) hlL
          refine gen_hp (F := fun G => Wk H p (c + 1 + 4 * i + 4) [(lL, .lst [.ref t1, .ref t2]), (l, .lst (ns.map V.str)), (aF, o)] ((V.ref t2, ltD (x2, decide (V.int r4 = V.int 0))) :: (V.ref t1, ltD (x1, b1)) :: ([(V.ref a1, nmsD sy.picks)] ++ rowR (D.map Prod.fst))) G) W6 (fun G W => ?_)
          clear W6 W5 W4 W3
          generalize decide (V.int r4 = V.int 0) = b2 at W
          have hDat : ∀ {G : Hp} {c1 : Nat} {F1 : List (Addr × HO)} {R1 : List (V × PyData)}, Wk H p c1 F1 (R1 ++ ([(V.ref a1, nmsD sy.picks)] ++ rowR (D.map Prod.fst))) G → ∀ q ∈ D.map Prod.fst, Dat G q.v q.2 := fun W q hq => (W.r (q.v, q.2) (List.mem_append_right _ (List.mem_append_right _ (List.mem_map.mpr ⟨q, hq, rfl⟩)))).2
          refine ⟨_, rfl, aF, D, rfl, hD.at (W.at 2 rfl), cd.keys (hDat (R1 := [_, _]) W), _, _, rfl, rfl, _, rfl, ?_⟩
          refine ite2 (fun hlt => ?_) (fun _ => ?_)
          · have hlt2 := of_decide_eq_true hlt
            have l40 : cls.length < 40 := by rw [← cd.len]; omega
            refine ⟨_, rfl, _, rfl, lL, [(t1, ltD (x1, b1)), (t2, ltD (x2, b2))], rfl, SqL.of (W.at 0 rfl), fun q hq => ?_, sorty_of (f := ltD) (l := [(x1, b1), (x2, b2)]) rfl alike_lt (fun x => ⟨_, rfl⟩) (fun x => by have := depth_lt x; omega), fun T' b9 pm _ up hb9 => .inl ⟨b9, _, rfl, SqL.of upd_same, fun t ht => ?_⟩⟩
            · rcases List.mem_cons.mp hq with rfl | hq
              · exact W.row 1 rfl
              · cases List.mem_singleton.mp hq
                exact W.row 0 rfl
            · have W2 := W.new' (o := .lst (T'.map TRow.v)) hb9
              have W3 := W2.new (o := .tup (T'.map TRow.v)) ht
              obtain ⟨cl', Dc, ck⟩ := clause_of (cl := [(x1, b1), (x2, b2)]) (ws := ns) rfl (by simp [xne]) (fun l hl => by
                rcases List.mem_cons.mp hl with rfl | hl
                · exact m1
                · cases List.mem_singleton.mp hl
                  exact m2) pm up (fun q hq => by
                rcases List.mem_cons.mp hq with rfl | hq
                · exact W3.row 1 rfl
                · cases List.mem_singleton.mp hq
                  exact W3.row 0 rfl) (W3.at 0 rfl)
              obtain ⟨cls', cd', lc', mem'⟩ := cd.put (r := t) (v := V.bl true) ck
              refine ⟨aF, t, D, clD cl', rfl, rfl, hD.at (W3.at 3 rfl), cd.keys (hDat (R1 := [_, _]) W3), Dc, keyable_cl cl', by have := depth_cl cl'; omega, by rw [cd.len]; exact small1000 (by omega), ?_⟩
              refine ⟨cls', _, _, _, _, _, _, rfl, .inl rfl, cd', by omega, ?_⟩
              have W4 := ((W3.addR (keyable_cl cl') Dc).sub (F' := [(l, .lst (ns.map V.str)), (aF, o)]) (.cons _ (.cons _ (.refl _)))).put (o' := DnO w aF (putN D (t, clD cl') (V.bl true))) 1 rfl hF0 hD.nt
              refine (W4.rows fun x hx => .inl ?_).up (by omega)
              rcases List.mem_append.mp hx with y | y
              · exact List.mem_cons_of_mem _ (List.mem_cons_of_mem _ (List.mem_cons_of_mem _ (List.mem_append_left _ y)))
              · obtain ⟨q', hq', rfl⟩ := rowR_mem y
                rcases mem' q' hq' with y | rfl
                · exact List.mem_cons_of_mem _ (List.mem_cons_of_mem _ (List.mem_cons_of_mem _ (List.mem_append_right _ (List.mem_map.mpr ⟨q', y, rfl⟩))))
                · exact List.mem_cons_self
          · exact ⟨cls, D, o, _, _, _, _, rfl, hD, cd, lcs, ((W.sub (F' := [(l, .lst (ns.map V.str)), (aF, o)]) (.cons _ (.refl _))).rows fun x hx => .inl (List.mem_cons_of_mem _ (List.mem_cons_of_mem _ hx))).up (by omega)⟩
        · rintro σ H' ⟨cls, D, o, o7, o8, o9, o10, rfl, hD, cd, lcs, W⟩
          refine ⟨_, rfl, _, rfl, _, rfl, aF, D, rfl, hD.at (W.at 1 rfl), cd.keys W.rr, fun bL hbL => ?_⟩
          have W2 := W.new (o := .lst ((D.map Prod.fst).map TRow.v)) hbL
          refine ⟨bL, D.map Prod.fst, rfl, SqL.of (W2.at 0 rfl), W2.rr, cd.sorty, fun T' b9 pm2 _ up2 hb9 => .inl ⟨b9, _, rfl, SqL.of upd_same, fun t ht => ⟨(by show 3 ≤ sizeLine; decide), fun t3 ht3 => ?_⟩⟩⟩
          have W3 := W2.new' (o := .lst (T'.map TRow.v)) hb9
          have W4 := W3.new (o := .tup (T'.map TRow.v)) ht
          have W5 := W4.new (o := .tup [.ref a1, .ref a2, .ref t]) ht3
          obtain ⟨cls', e', up', ok', len'⟩ := cd.sorted pm2 up2
          have Dcs : Dat (upd (upd (upd (upd H' bL (.lst ((D.map Prod.fst).map TRow.v))) b9 (.lst (T'.map TRow.v))) t (.tup (T'.map TRow.v))) t3 (.tup [.ref a1, .ref a2, .ref t])) (.ref t) (.tuple (cls'.map clD)) := by
            rw [← e']
            exact .tup (W5.at 1 rfl) (dats_rows fun q' hq' => W5.rr q' (pm2.mem_iff.mp hq'))
          refine q _ ⟨sy.picks, sy.owns, cls'⟩ _ ⟨_, _, _, _, rfl, W5.at 0 rfl, W5.row 0 rfl, dz_dr W5.d hs D2, Dcs⟩ ⟨ok.pu, ok.pn, ok.pl, ok.ou, ok.on, ok.ol, ok.oc, up', fun cl hc => by have z := ok' cl hc; rw [← hns] at z; exact z, ?_⟩ (W5.d.up (by omega))
          show cls'.length ≤ 40
          omega
      · have h2 := of_decide_eq_true hgt
        rw [List.length_map] at h2
        refine ⟨_, rfl, p, _, 25, rfl, W.s, by omega, by decide, by decide, fun r o r0 r1 hp1 => R _ _ ⟨r, rfl, r0, by omega, fun _ => by omega, W.src hp1⟩⟩
end
end S1

set_option Elab.async false
set_option linter.all false
set_option maxRecDepth 100000
set_option maxHeartbeats 4000000
/-! all that is reached, as the program finds it -/
namespace S1
open PySem PySem.W PySem.Spec PyProof.Rows L2
def ltLt (a b : Ltr) : Prop := dataLt (ltD a) (ltD b) = true
/-- sorted letters, each that is reached -/
structure RchOk (s : Say) (ws : List Str) (l0 : Ltr) (L : List Ltr) : Prop where
  up : L.Pairwise ltLt
  mem : ∀ m, m ∈ L ↔ Reach s ws l0 m
def spAllReached : Sp := fun vs H Q _ => ∃ (v : V) (s : Say) (x : Str) (t : Bool), vs = [v, .str x, .bl t] ∧ DatS H v s ∧ SayOk 6 8 120 40 s ∧
  ∀ (u : V) (L : List Ltr) (H' : Hp), Same H H' → Dat H' u (clD L) → RchOk s (vw s x) (x, t) L → Q u H'
theorem lookN_lt {D : List DRow} {F : List Ltr} (e : (D.map Prod.fst).map Prod.snd = F.map ltD) (l : Ltr) : (lookN D (ltD l)).isSome = decide (l ∈ F) := by
  have z : lookN D (ltD l) = none ↔ l ∉ F := by
    rw [lookN_none]
    constructor
    · intro h hl
      have m : ltD l ∈ (D.map Prod.fst).map Prod.snd := e ▸ List.mem_map_of_mem hl
      obtain ⟨r, hr, e2⟩ := List.mem_map.mp m
      obtain ⟨p, hp, rfl⟩ := List.mem_map.mp hr
      exact h p hp (by rw [e2])
    · intro h p hp e2
      have m : p.1.2 ∈ F.map ltD := e ▸ List.mem_map_of_mem (List.mem_map_of_mem hp)
      obtain ⟨o, ho, e3⟩ := List.mem_map.mp m
      rw [← e3] at e2
      exact h (nkey_lt.mp e2 ▸ ho)
  by_cases h : l ∈ F
  · rw [decide_eq_true h]
    cases hh : lookN D (ltD l) with
    | none => exact absurd h (z.mp hh)
    | some y => rfl
  · rw [decide_eq_false h, z.mpr h]
    rfl
structure AInv (w : World) (H0 : Hp) (lv fD wL : Addr) (s : Say) (x : Str) (t : Bool) (H' : Hp) (Tw : List TRow) (D : List DRow) (A F : List Ltr) : Prop where
  S : Same H0 H'
  v : H' lv = some (.lst ((vw s x).map V.str))
  wl : H' wL = some (.lst (Tw.map TRow.v))
  wd : Tw.map Prod.snd = A.map ltD
  wD : ∀ q ∈ Tw, Dat H' q.v q.2
  f : DnAt w H' fD D
  fd : (D.map Prod.fst).map Prod.snd = F.map ltD
  fD : ∀ p ∈ D, Dat H' p.1.v p.1.2
  i : WInv s (vw s x) (x, t) A F
section
variable {w : World} {H0 H' : Hp} {lv fD wL : Addr} {s : Say} {x : Str} {t : Bool} {Tw : List TRow} {D : List DRow} {A F : List Ltr}
theorem AInv.keys (a : AInv w H0 lv fD wL s x t H' Tw D A F) : KeysAt H' D := fun p hp => by
  have m : p.1.2 ∈ F.map ltD := a.fd ▸ List.mem_map_of_mem (List.mem_map_of_mem hp)
  obtain ⟨o, _, e⟩ := List.mem_map.mp m
  exact ⟨a.fD p hp, by rw [← e]; exact keyable_lt o, by rw [← e]; have := depth_lt o; omega⟩
theorem dn_not_tup (h : DnAt w H' fD D) : ∀ xs, H' fD ≠ some (.tup xs) := fun xs e => by
  rcases h with h | ⟨h, _⟩ <;> rw [h] at e <;> cases e
theorem dn_not_lst (h : DnAt w H' fD D) : ∀ xs, H' fD ≠ some (.lst xs) := fun xs e => by
  rcases h with h | ⟨h, _⟩ <;> rw [h] at e <;> cases e
theorem dnAt_put {l : Addr} {o : HO} (h : DnAt w H' fD D) (n : fD ≠ l) : DnAt w (upd H' l o) fD D := by
  rcases h with h | ⟨h, e⟩
  · exact .inl (by rw [upd_ne n]; exact h)
  · exact .inr ⟨by rw [upd_ne n]; exact h, e⟩
theorem AInv.pop {p : TRow} {l : Ltr} (a : AInv w H0 lv fD wL s x t H' (Tw ++ [p]) D (A ++ [l]) F) (h0 : H0 wL = none) (nl : lv ≠ wL) : p.2 = ltD l ∧
    Same H0 (upd H' wL (.lst (Tw.map TRow.v))) ∧ (upd H' wL (.lst (Tw.map TRow.v))) lv = some (.lst ((vw s x).map V.str)) ∧ (upd H' wL (.lst (Tw.map TRow.v))) wL = some (.lst (Tw.map TRow.v)) ∧ Tw.map Prod.snd = A.map ltD ∧ (∀ q ∈ Tw ++ [p], Dat (upd H' wL (.lst (Tw.map TRow.v))) q.v q.2) ∧
    DnAt w (upd H' wL (.lst (Tw.map TRow.v))) fD D ∧ (∀ p ∈ D, Dat (upd H' wL (.lst (Tw.map TRow.v))) p.1.v p.1.2) := by
  have e := a.wd
  rw [List.map_append, List.map_append] at e
  have e2 := List.append_inj' e rfl
  have ep : p.2 = ltD l := by
    have z := e2.2
    injection z
  have nf : fD ≠ wL := fun z => dn_not_lst a.f _ (by rw [z]; exact a.wl)
  have K : ∀ b xs, H' b = some (.tup xs) → upd H' wL (.lst (Tw.map TRow.v)) b = some (.tup xs) := tk_put fun xs z => by rw [a.wl] at z; cases z
  refine ⟨ep, same_upd a.S h0, by rw [upd_ne nl]; exact a.v, upd_same, e2.1, fun q hq => ?_, dnAt_put a.f nf, fun p hp => dat_tk K _ _ (a.keys p hp).2.1 (a.fD p hp)⟩
  have m : q.2 ∈ (A ++ [l]).map ltD := a.wd ▸ List.mem_map_of_mem hq
  obtain ⟨o, _, eo⟩ := List.mem_map.mp m
  exact dat_tk K _ _ (by rw [← eo]; exact keyable_lt o) (a.wD q hq)
end
abbrev nAR : List Str := ["saying", "pick", "truth", "viewers", "found", "waiting", "letter"]
section
variable {P : Program} {w : World} {K : PySem.W.Frag} {mg : Str → Option Value} {base : Heap}
theorem scAR : FnScope nAR ["saying", "pick", "truth"] (defScope sAllReached) := ⟨rfl, rfl, rfl, by decide +kernel, rfl, by decide +kernel, by decide +kernel⟩
theorem ok_allReached {f fV fB : Addr} {fd fdV fdB : FuncData} (F : Fun K "all_reached" "all_reached" sAllReached f fd) (B : Blt mg) (Vw : Has K mg "viewers_of" sViewersOf ["saying", "pick"] fV fdV) (Bs : Has K mg "letters_beside" sBeside ["saying", "viewers", "letter"] fB fdB) :
    FnOk P w K mg base CX0 2 f fd ["saying", "pick", "truth"] spAllReached := by
  have GV : FnOk P w K mg base CX0 1 fV fdV ["saying", "pick"] spViewers := ok_viewersOf Vw.F
  have GB : FnOk P w K mg base CX0 1 fB fdB ["saying", "viewers", "letter"] spBeside := ok_beside Bs.F
  refine F.ok scAR (fun vs H Q E h => ?_) (fun cdv A outer s H vs Q E hr h => ?_)
  · obtain ⟨v, sy, x, t, rfl, _⟩ := h
    rfl
  · obtain ⟨v, sy, x, t, rfl, D, ok, q⟩ := h
    have hu : (A.deeper (envOfC "all_reached" (defScope sAllReached) s.heap.objs.size f cdv)).units + 64 < cLine := hr.units
    have hu2 : (A.deeper (envOfC "all_reached" (defScope sAllReached) s.heap.objs.size f cdv)).units + 16 < cLine := by omega
    refine ⟨_, pss_cons (ps_set (i := 3) scAR.nd rfl (.inl rfl) (pe_call GV hr rfl Vw.g Vw.F.kp Vw.b .nil pass0 (pa_cons (pv 0) (pa_cons (pv 1) pa_nil))))
      (pss_cons (ps_set (i := 4) scAR.nd rfl (.inl rfl) pe_dnewK)
      (pss_cons (ps_set (i := 5) scAR.nd rfl (.inl rfl) (pe_call GB hr rfl Bs.g Bs.F.kp Bs.b .nil pass0 (pa_cons (pv 0) (pa_cons (pv 3) (pa_cons (pe_tup (pa_cons (pv 1) (pa_cons (pv 2) pa_nil))) pa_nil)))))
      (pss_cons (ps_while PassesOwn.never (pt_truth (pv 5) (fun _ => rfl))
        (pss_cons (ps_set (i := 6) scAR.nd rfl (.inl rfl) (pe_bm0 PySem.F.plainAttrs_list PySem.F.slot_list_pop PySem.F.type_list_pop mt_pop (pv 5)))
        (pss_one (ps_if (pt_cmpR (op_notInN (by exact hu2)) (pv 6) (pv 4) (by with_unfolding_all rfl))
          (pss_cons (ps_nput (by exact hu2) (pv 4) (pv 6) pe_bl (by rfl))
          (pss_one (ps_expr (pe_bm PySem.F.plainAttrs_list PySem.F.slot_list_extend PySem.F.type_list_extend mt_extend (pv 5) (pa_cons (pe_call GB hr rfl Bs.g Bs.F.kp Bs.b .nil pass0 (pa_cons (pv 0) (pa_cons (pv 3)
            (pa_cons (pe_tup (pa_cons (pe_ix ix_tup (pv 6) pe_int (fun _ _ => rfl)) (pa_cons (pe_not (pe_ix ix_tup (pv 6) pe_int (fun _ _ => rfl))) pa_nil))) pa_nil)))) pa_nil))))) pss_nil))))
      (pss_one (ps_ret (pe_tupleOf rfl B.tuple (pe_callB (cr_sortDn rfl (by exact hu)) (by rfl) B.sorted (by decide +kernel) (pa_cons (pv 4) pa_nil)))))))), ?_⟩
    have s2 : 2 ≤ sizeLine := by decide
    refine ⟨_, rfl, _, rfl, v, sy, x, rfl, D, ok, fun lv H1 S1 hlv ev => fun fD hfD => ?_⟩
    have S2 := S1.trans (same_new (o := .dK []) hfD)
    have nvf : lv ≠ fD := ne_of_none ev hfD
    have ev2 : upd H1 fD (.dK []) lv = some (.lst ((vw sy x).map V.str)) := by rw [upd_ne nvf]; exact ev
    have ef2 : upd H1 fD (.dK []) fD = some (.dK []) := upd_same
    have hfD0 : H fD = none := S1.free hfD
    generalize upd H1 fD (.dK []) = H2 at S2 ev2 ef2 ⊢
    refine ⟨_, rfl, _, rfl, _, rfl, _, rfl, s2, fun tt htt => ?_⟩
    have S3 := same_new (o := .tup [V.str x, .bl t]) htt
    have e3 : upd H2 tt (.tup [V.str x, .bl t]) tt = some (.tup [V.str x, .bl t]) := upd_same
    refine ⟨v, lv, tt, sy, vw sy x, (x, t), rfl, (D.same S2).same S3, ok, S3 _ _ ev2, .tup e3 (.cons (.str x) (.cons (.bl t) .nil)), fun wL Tw H4 S4 hwL eW dW DW => ?_⟩
    have SA := S2.trans (S3.trans S4)
    have nvw : lv ≠ wL := ne_of_none (S3 _ _ ev2) hwL
    have hwL0 : H wL = none := (S2.trans S3).free hwL
    refine ⟨fun m σ H' => ∃ (o6 : Option V) (Tw : List TRow) (D : List DRow) (A F : List Ltr), σ = [some v, some (.str x), some (.bl t), some (.ref lv), some (.ref fD), some (.ref wL), o6] ∧ AInv w H lv fD wL sy x t H' Tw D A F ∧ m = (28 - F.length) * 2000 + A.length,
      ⟨_, none, Tw, [], _, [], rfl, ⟨SA, S4 _ _ (S3 _ _ ev2), eW, dW, DW, .inr ⟨S4 _ _ (S3 _ _ ef2), rfl⟩, rfl, fun p hp => absurd hp (by simp), WInv.start ok⟩, rfl⟩, ?_⟩
    rintro m σ H5 ⟨o6, Tw5, D5, A5, F5, rfl, a, rfl⟩
    refine ⟨_, rfl, _, .inl ⟨_, SqL.of a.wl, rfl⟩, ?_⟩
    have few := a.i.few ok
    rcases List.eq_nil_or_concat Tw5 with rfl | ⟨Tw6, p, rfl⟩
    · have eA : A5 = [] := by
        have z := a.wd
        cases A5 with
        | nil => rfl
        | cons y l => cases z
      subst eA
      show if false = true then _ else _
      rw [if_neg (by decide)]
      refine ⟨_, rfl, fD, D5, rfl, a.f, a.keys, sorty_of a.fd alike_lt (fun o => ⟨_, rfl⟩) (fun o => by have := depth_lt o; omega), fun T' b pm _ up hb => ?_⟩
      have Sb := same_new (o := .lst (T'.map TRow.v)) hb
      refine .inl ⟨b, _, rfl, SqL.of upd_same, fun tt2 htt2 => ?_⟩
      have St := same_new (o := .tup (T'.map TRow.v)) htt2
      obtain ⟨L, pL, eL⟩ := perm_back (f := ltD) ((pm.map Prod.snd).trans (.of_eq a.fd)) F5 rfl
      have nT : ((D5.map Prod.fst).map Prod.snd).Nodup := by
        rw [a.fd]
        exact List.pairwise_map.mpr (a.i.nd.imp fun {x y} ne z => ne (ltD_inj z))
      refine q _ L _ (a.S.trans (Sb.trans St)) (.tup upd_same ?_) ⟨?_, fun m => ?_⟩
      · rw [← eL]
        refine dats_rows fun r hr => ?_
        have m := pm.mem_iff.mp hr
        obtain ⟨p, hp, rfl⟩ := List.mem_map.mp m
        exact ((a.fD p hp).same Sb).same St
      · have u1 : (T'.map Prod.snd).Pairwise fun d e => dataLt d e = true := List.pairwise_map.mpr (up nT)
        rw [eL] at u1
        have u2 : L.Pairwise fun x y => dataLt (ltD x) (ltD y) = true := List.pairwise_map.mp u1
        exact u2
      · rw [pL.mem_iff]
        exact a.i.done m
    · rw [List.concat_eq_append] at a ⊢
      obtain ⟨A6, l, rfl⟩ : ∃ A6 l, A5 = A6 ++ [l] := by
        rcases List.eq_nil_or_concat A5 with rfl | ⟨A6, l, rfl⟩
        · have z := a.wd
          rw [List.map_append] at z
          simp at z
        · exact ⟨A6, l, List.concat_eq_append⟩
      obtain ⟨ep, S6, v6, w6, d6, D6, f6, k6⟩ := a.pop hwL0 nvw
      rw [show (!((Tw6 ++ [p]).map TRow.v).isEmpty) = true by rw [List.map_append]; simp]
      show if true = true then _ else _
      rw [if_pos rfl]
      refine ⟨_, fun σ' H' z => z, ?_⟩
      refine ⟨_, rfl, .inl ⟨rfl, _, SqL.of a.wl⟩, wL, _, p.v, rfl, rfl, a.wl, by simp, ?_⟩
      rw [show ((Tw6 ++ [p]).map TRow.v).dropLast = Tw6.map TRow.v by rw [List.map_append]; simp]
      have mp : p ∈ Tw6 ++ [p] := List.mem_append_right _ List.mem_cons_self
      have Dp := D6 p mp
      rw [ep] at Dp
      have kk6 : KeysAt (upd H5 wL (.lst (Tw6.map TRow.v))) D5 := fun r hr => ⟨k6 r hr, (a.keys r hr).2⟩
      have nfw : fD ≠ wL := fun z => dn_not_lst a.f _ (by rw [z]; exact a.wl)
      generalize upd H5 wL (.lst (Tw6.map TRow.v)) = H6 at S6 v6 w6 D6 f6 k6 Dp kk6 ⊢
      refine ⟨_, rfl, _, rfl, p.1, fD, D5, ltD l, rfl, rfl, f6, kk6, Dp, keyable_lt l, by have := depth_lt l; omega, _, rfl, ?_⟩
      show if (!(lookN D5 (ltD l)).isSome) = true then _ else _
      rw [lookN_lt a.fd]
      have lenA : (A6 ++ [l]).length = A6.length + 1 := by rw [List.length_append]; rfl
      have lT6 : Tw6.length = A6.length := by
        have z := congrArg List.length d6
        rw [List.length_map, List.length_map] at z
        exact z
      by_cases hl : l ∈ F5
      · rw [if_neg (by rw [decide_eq_true hl]; decide)]
        have iv := a.i.skip hl
        exact ⟨_, by rw [lenA]; exact Nat.add_lt_add_left (Nat.lt_succ_self _) _, _, Tw6, D5, A6, F5, rfl, ⟨S6, v6, w6, d6, fun q hq => D6 q (List.mem_append_left _ hq), f6, a.fd, k6, iv⟩, rfl⟩
      · rw [if_pos (by rw [decide_eq_false hl]; rfl)]
        have hnone : lookN D5 (ltD l) = none := by
          have z := lookN_lt a.fd l
          rw [decide_eq_false hl] at z
          cases hh : lookN D5 (ltD l) with
          | none => rfl
          | some y => rw [hh] at z; cases z
        have lD : D5.length = F5.length := by
          have z := congrArg List.length a.fd
          rw [List.length_map, List.length_map, List.length_map] at z
          exact z
        refine ⟨_, rfl, _, rfl, fD, p.1, D5, ltD l, rfl, rfl, f6, kk6, Dp, keyable_lt l, by have := depth_lt l; omega, Nat.lt_of_le_of_lt (show D5.length ≤ 28 by omega) (by decide), ?_⟩
        rw [putN_new (r := (p.1, ltD l)) hnone]
        have hw : (cxOf CX0 P w K mg base nAR "all_reached" (defScope sAllReached) f cdv A outer s H E).nox.w = w := rfl
        rw [hw]
        have K7 := tk_put (o := DnO w fD (D5 ++ [((p.1, ltD l), .bl true)])) (dn_not_tup f6)
        have S7 : Same H (upd H6 fD (DnO w fD (D5 ++ [((p.1, ltD l), .bl true)]))) := same_upd S6 hfD0
        have v7 : upd H6 fD (DnO w fD (D5 ++ [((p.1, ltD l), .bl true)])) lv = some (.lst ((vw sy x).map V.str)) := by rw [upd_ne nvf]; exact v6
        have w7 : upd H6 fD (DnO w fD (D5 ++ [((p.1, ltD l), .bl true)])) wL = some (.lst (Tw6.map TRow.v)) := by rw [upd_ne nfw.symm]; exact w6
        have f7 : DnAt w (upd H6 fD (DnO w fD (D5 ++ [((p.1, ltD l), .bl true)]))) fD (D5 ++ [((p.1, ltD l), .bl true)]) := .inl upd_same
        have D7 : ∀ q ∈ Tw6, Dat (upd H6 fD (DnO w fD (D5 ++ [((p.1, ltD l), .bl true)]))) q.v q.2 := fun q hq => by
          have m : q.2 ∈ A6.map ltD := d6 ▸ List.mem_map_of_mem hq
          obtain ⟨o, _, eo⟩ := List.mem_map.mp m
          exact dat_tk K7 _ _ (by rw [← eo]; exact keyable_lt o) (D6 q (List.mem_append_left _ hq))
        have p7 : Dat (upd H6 fD (DnO w fD (D5 ++ [((p.1, ltD l), .bl true)]))) (.ref p.1) (ltD l) := dat_tk K7 _ _ (keyable_lt l) Dp
        have k7 : ∀ r ∈ D5 ++ [((p.1, ltD l), V.bl true)], Dat (upd H6 fD (DnO w fD (D5 ++ [((p.1, ltD l), .bl true)]))) r.1.v r.1.2 := fun r hr => by
          rcases List.mem_append.mp hr with m | m
          · exact dat_tk K7 _ _ (kk6 r m).2.1 (k6 r m)
          · cases List.mem_singleton.mp m
            exact p7
        generalize upd H6 fD (DnO w fD (D5 ++ [((p.1, ltD l), .bl true)])) = H7 at S7 v7 w7 f7 D7 p7 k7 ⊢
        obtain ⟨pt, pl, ept, ept2, Dpl⟩ := dat_tup (ds := [.str l.1, .bool l.2]) p7
        have ept' : p.1 = pt := by injection ept
        subst ept'
        cases Dpl with
        | cons h1 t1 =>
        cases t1 with
        | cons h2 t2 =>
        cases t2
        cases h1
        cases h2
        refine ⟨_, rfl, .inl ⟨rfl, _, SqL.of w7⟩, _, rfl, _, rfl, _, rfl, p.1, _, 0, _, rfl, rfl, SqT.of ept2, rfl, _, rfl, p.1, _, 1, _, rfl, rfl, SqT.of ept2, rfl, _, rfl, s2, fun t8 ht8 => ?_⟩
        have S8 := same_new (o := .tup [V.str l.1, .bl (!l.2)]) ht8
        have e8 : upd H7 t8 (.tup [V.str l.1, .bl (!l.2)]) t8 = some (.tup [V.str l.1, .bl (!l.2)]) := upd_same
        refine ⟨v, lv, t8, sy, vw sy x, neg l, rfl, (D.same S7).same S8, ok, S8 _ _ v7, .tup e8 (.cons (.str l.1) (.cons (.bl _) .nil)), fun lB TB H9 S9 hB eB dB DB => ?_⟩
        have S79 := S8.trans S9
        have iv := a.i.add ok hl
        have lTB : TB.length ≤ 560 := by
          have z := congrArg List.length dB
          rw [List.length_map, List.length_map] at z
          rw [z]
          exact bes_max ok _ _
        have lAl := a.i.len
        refine ⟨wL, lB, _, _, rfl, rfl, S79 _ _ w7, eB, ?_, ?_⟩
        · rw [List.length_map, List.length_map]
          exact Nat.le_trans (show _ ≤ 100000 by omega) (by decide)
        have K9 : ∀ b xs, H9 b = some (.tup xs) → upd H9 wL (.lst (Tw6.map TRow.v ++ TB.map TRow.v)) b = some (.tup xs) := tk_put fun xs z => by rw [S79 _ _ w7] at z; cases z
        have few2 := iv.few ok
        rw [List.length_append] at few2
        have few3 : F5.length + 1 ≤ 28 := few2
        refine ⟨_, ?_, _, Tw6 ++ TB, D5 ++ [((p.1, ltD l), .bl true)], A6 ++ bes sy (vw sy x) (neg l), F5 ++ [l], rfl, ⟨same_upd (S7.trans S79) hwL0, by rw [upd_ne nvw]; exact S79 _ _ v7, by rw [upd_same, List.map_append], by rw [List.map_append, List.map_append, d6, dB], fun q hq => ?_, dnAt_put (DnAt.same f7 S79) nfw, ?_, fun r hr => ?_, iv⟩, rfl⟩
        · have z := bes_max ok (vw sy x) (neg l)
          rw [lenA, List.length_append, List.length_append]
          show (28 - (F5.length + 1)) * 2000 + (A6.length + _) < (28 - F5.length) * 2000 + (A6.length + 1)
          omega
        · rcases List.mem_append.mp hq with m | m
          · have m2 : q.2 ∈ A6.map ltD := d6 ▸ List.mem_map_of_mem m
            obtain ⟨o, _, eo⟩ := List.mem_map.mp m2
            exact dat_tk K9 _ _ (by rw [← eo]; exact keyable_lt o) ((D7 q m).same S79)
          · have m2 : q.2 ∈ (bes sy (vw sy x) (neg l)).map ltD := dB ▸ List.mem_map_of_mem m
            obtain ⟨o, _, eo⟩ := List.mem_map.mp m2
            exact dat_tk K9 _ _ (by rw [← eo]; exact keyable_lt o) (DB q m)
        · rw [List.map_append, List.map_append, a.fd, List.map_append]
          rfl
        · have kr : keyable r.1.2 = true := by
            rcases List.mem_append.mp hr with m | m
            · exact (kk6 r m).2.1
            · cases List.mem_singleton.mp m
              exact keyable_lt l
          exact dat_tk K9 _ _ kr ((k7 r hr).same S79)
end
end S1

set_option Elab.async false
set_option linter.all false
set_option maxRecDepth 100000
set_option maxHeartbeats 4000000
/-! papers, what hangs by them, idle owns -/
namespace S1
open PySem PySem.W PySem.Spec PyProof.Rows L2
def hangB (L1 L2 : List Ltr) (n : Str) : Bool := (decide ((n, false) ∈ L1) && decide ((n, true) ∈ L2)) || (decide ((n, true) ∈ L1) && decide ((n, false) ∈ L2))
/-- a paper: what a pick's True reaches, and what its False -/
def Pap (H : Hp) (a : Addr) (s : Say) (x : Str) (L1 L2 : List Ltr) : Prop := ∃ u1 u2, H a = some (.tup [u1, u2]) ∧ _root_.L2.Dat H u1 (clD L1) ∧ _root_.L2.Dat H u2 (clD L2) ∧ RchOk s (vw s x) (x, true) L1 ∧ RchOk s (vw s x) (x, false) L2
def spPaper : Sp := fun vs H Q _ => ∃ (v : V) (s : Say) (x : Str), vs = [v, .str x] ∧ DatS H v s ∧ SayOk 6 8 120 40 s ∧ ∀ (a : Addr) (M N : List Ltr) (H' : Hp), Same H H' → Pap H' a s x M N → Q (.ref a) H'
def spHangsBy : Sp := fun vs H Q _ => ∃ (a : Addr) (n : Str) (M N : List Ltr) (u1 u2 : V), vs = [.ref a, .str n] ∧ H a = some (.tup [u1, u2]) ∧ _root_.L2.Dat H u1 (clD M) ∧ _root_.L2.Dat H u2 (clD N) ∧ ∀ H', Same H H' → Q (.bl (hangB M N n)) H'
section
variable {P : Program} {w : World} {K : PySem.W.Frag} {mg : Str → Option Value} {base : Heap}
theorem scPa : FnScope ["saying", "pick"] ["saying", "pick"] (defScope sPaperOf) := ⟨rfl, rfl, rfl, by decide +kernel, rfl, by decide +kernel, by decide +kernel⟩
theorem scHb : FnScope ["paper", "name", "truth"] ["paper", "name"] (defScope sHangsBy) := ⟨rfl, rfl, rfl, by decide +kernel, rfl, by decide +kernel, by decide +kernel⟩
theorem ok_paperOf {f fA : Addr} {fd fdA : FuncData} (F : Fun K "paper_of" "paper_of" sPaperOf f fd) (Ar : Has K mg "all_reached" sAllReached ["saying", "pick", "truth"] fA fdA) (GA : FnOk P w K mg base CX0 2 fA fdA ["saying", "pick", "truth"] spAllReached) : FnOk P w K mg base CX0 3 f fd ["saying", "pick"] spPaper := by
  refine F.ok scPa (fun vs H Q E h => ?_) (fun cdv A outer s H vs Q E hr h => ?_)
  · obtain ⟨v, sy, x, rfl, _⟩ := h
    rfl
  · obtain ⟨v, sy, x, rfl, D, ok, q⟩ := h
    refine ⟨_, pss_one (ps_ret (pe_tup (pa_cons (pe_call GA hr rfl Ar.g Ar.F.kp Ar.b .nil pass0 (pa_cons (pv 0) (pa_cons (pv 1) (pa_cons pe_bl pa_nil)))) (pa_cons (pe_call GA hr rfl Ar.g Ar.F.kp Ar.b .nil pass0 (pa_cons (pv 0) (pa_cons (pv 1) (pa_cons pe_bl pa_nil)))) pa_nil)))), ?_⟩
    refine ⟨_, rfl, _, rfl, v, sy, x, true, rfl, D, ok, fun u1 M H1 S1 D1 r1 => ⟨_, rfl, _, rfl, v, sy, x, false, rfl, D.same S1, ok, fun u2 N H2 S2 D2 r2 => ⟨(by show 2 ≤ sizeLine; decide), fun a ha => ?_⟩⟩⟩
    have S3 := same_new (o := .tup [u1, u2]) ha
    exact q a M N _ (S1.trans (S2.trans S3)) ⟨u1, u2, upd_same, (D1.same S2).same S3, D2.same S3, r1, r2⟩
theorem cl_rows {H : Hp} {u : V} {L : List Ltr} (D : Dat H u (clD L)) : ∃ (a : Addr) (T : List TRow), u = .ref a ∧ H a = some (.tup (T.map TRow.v)) ∧ T.map Prod.snd = L.map ltD ∧ ∀ p ∈ T, Dat H p.v p.2 ∧ keyable p.2 = true ∧ p.2.depth ≤ 8 := by
  obtain ⟨a, xs, rfl, e, Da⟩ := dat_tup (ds := L.map ltD) D
  obtain ⟨T, eT, dT, DT⟩ := rows_of_dat Da (fun d hd => by obtain ⟨o, _, rfl⟩ := List.mem_map.mp hd; exact ⟨_, rfl⟩)
  refine ⟨a, T, rfl, by rw [← eT]; exact e, dT.symm, fun p hp => ?_⟩
  have m : p.2 ∈ L.map ltD := dT ▸ List.mem_map_of_mem hp
  obtain ⟨o, _, ho⟩ := List.mem_map.mp m
  exact ⟨DT p hp, by rw [← ho]; exact keyable_lt o, by rw [← ho]; have := depth_lt o; omega⟩
theorem ok_hangsBy {f : Addr} {fd : FuncData} (F : Fun K "hangs_by" "hangs_by" sHangsBy f fd) (an : mg "any" = none) : FnOk P w K mg base CX0 1 f fd ["paper", "name"] spHangsBy := by
  refine F.ok scHb (fun vs H Q E h => ?_) (fun cdv A outer s H vs Q E hr h => ?_)
  · obtain ⟨a, n, M, N, u1, u2, rfl, _⟩ := h
    rfl
  · obtain ⟨a, n, M, N, u1, u2, rfl, ea, D1, D2, q⟩ := h
    have hu : (A.deeper (envOfC "hangs_by" (defScope sHangsBy) s.heap.objs.size f cdv)).units + 64 < cLine := hr.units
    have hu2 : (A.deeper (envOfC "hangs_by" (defScope sHangsBy) s.heap.objs.size f cdv)).units + 16 < cLine := by omega
    refine ⟨_, pss_one (ps_ret (pe_callB (cr_any rfl) (by rfl) an (by decide +kernel) (pa_cons (pe_lc (own := [("truth", 2)]) (g := gName 2) (tt := tYes)
        (te := tAndV (tOp (rInT K false) (tTup (tCons (tVar 1) (tCons (tVar 2) tNil))) (tOp (rIxT K) (tVar 0) (tC (V.int 0)))) (tOp (rInT K false) (tTup (tCons (tVar 1) (tCons (tNotV (tVar 2)) tNil))) (tOp (rIxT K) (tVar 0) (tC (V.int 1)))))
        rfl scHb.nd (pi_tup (pe_tup (pa_cons pe_bl (pa_cons pe_bl pa_nil)))) (blkOk_by (N := ["paper", "name", "truth"]) (sc := defScope sHangsBy) (by decide +kernel))
        (fun _ _ _ _ _ => pg_name (i := 2) scHb.nd rfl (Or.inl rfl)) (fun _ _ _ _ _ => pts_nil)
        (fun _ _ _ _ _ => by
          refine pe_and ?_ ?_
          · exact pe_cmpR (op_inT (by exact hu2)) (pe_tup (pa_cons (pv 1) (pa_cons (pv 2) pa_nil))) (pe_ix ix_tup (pv 0) pe_int (fun _ _ => rfl)) (by with_unfolding_all rfl)
          · refine pe_one ?_
            exact pe_cmpR (op_inT (by exact hu2)) (pe_tup (pa_cons (pv 1) (pa_cons (pe_not (pv 2)) pa_nil))) (pe_ix ix_tup (pv 0) pe_int (fun _ _ => rfl)) (by with_unfolding_all rfl))) pa_nil))), ?_⟩
    have s2 : 2 ≤ sizeLine := by decide
    obtain ⟨a1, T1, rfl, e1, d1, K1⟩ := cl_rows D1
    obtain ⟨a2, T2, rfl, e2, d2, K2⟩ := cl_rows D2
    refine ⟨s2, fun tt htt => ⟨tt, rfl, ⟨_, SqT.of upd_same⟩, fun D0 hD0 => ?_⟩⟩
    have S1 := same_new (o := .tup [V.bl false, .bl true]) htt
    have et : upd H tt (.tup [V.bl false, .bl true]) tt = some (.tup [V.bl false, .bl true]) := upd_same
    generalize upd H tt (.tup [V.bl false, .bl true]) = H1 at S1 et hD0 ⊢
    refine lc_tup (K := K) (a := tt) (xs := [V.bl false, .bl true]) (fun j H4 => H4 D0 = some (.lst ((([false, true].take j).map fun c => decide ((n, c) ∈ M) && decide ((n, !c) ∈ N)).map V.bl)) ∧ Same H1 H4) ⟨upd_same, same_new hD0⟩ (fun j H4 _ h => SqT.of (h.2 _ _ et)) ?_ ?_
    · rintro j y H4 hy ⟨e4, S4⟩
      obtain ⟨c, rfl, hc, jl⟩ : ∃ c : Bool, y = .bl c ∧ [false, true][j]? = some c ∧ j < 2 := by
        match j, hy with
        | 0, h => exact ⟨false, (Option.some.inj h).symm, rfl, by decide⟩
        | 1, h => exact ⟨true, (Option.some.inj h).symm, rfl, by decide⟩
        | j + 2, h => simp at h
      have S14 := S1.trans S4
      have fin : ∀ (b : Bool) (H5 : Hp), Same H4 H5 → b = (decide ((n, c) ∈ M) && decide ((n, !c) ∈ N)) → ∃ acc, H5 D0 = some (.lst acc) ∧ acc.length < sizeLine ∧ (upd H5 D0 (.lst (acc ++ [V.bl b]))) D0 = some (.lst ((([false, true].take (j + 1)).map fun c => decide ((n, c) ∈ M) && decide ((n, !c) ∈ N)).map V.bl)) ∧ Same H1 (upd H5 D0 (.lst (acc ++ [V.bl b]))) := fun b H5 S5 eb =>
        ⟨_, S5 _ _ e4, by rw [List.length_map, List.length_map, List.length_take]; exact Nat.lt_of_le_of_lt (show _ ≤ 2 by simp; omega) (by decide), by rw [upd_same, take_next hc, List.map_append, List.map_append, eb]; rfl, same_upd (S4.trans S5) hD0⟩
      refine ⟨rfl, yes_of ?_⟩
      refine ⟨_, rfl, _, rfl, s2, fun t1 ht1 => ?_⟩
      have S5 := same_new (o := .tup [V.str n, .bl c]) ht1
      have e5 : upd H4 t1 (.tup [V.str n, .bl c]) t1 = some (.tup [V.str n, .bl c]) := upd_same
      have S15 := S14.trans S5
      generalize upd H4 t1 (.tup [V.str n, .bl c]) = H5 at S5 e5 S15 ⊢
      refine ⟨_, rfl, a, _, 0, _, rfl, rfl, SqT.of (S15 _ _ ea), rfl, t1, a1, ltD (n, c), T1, rfl, rfl, .inr (SqT.of (S15 _ _ e1)), fun p hp => ⟨(K1 p hp).1.same S15, (K1 p hp).2⟩, .tup e5 (.cons (.str n) (.cons (.bl c) .nil)), keyable_lt _, by have := depth_lt (n, c); omega, _, rfl, ?_⟩
      show if inT (ltD (n, c)) T1 = true then _ else _
      rw [inT_lt d1]
      by_cases h1 : (n, c) ∈ M
      · rw [if_pos (decide_eq_true h1)]
        refine ⟨_, rfl, _, rfl, c, rfl, s2, fun t2 ht2 => ?_⟩
        have S6 := same_new (o := .tup [V.str n, .bl (!c)]) ht2
        have e6 : upd H5 t2 (.tup [V.str n, .bl (!c)]) t2 = some (.tup [V.str n, .bl (!c)]) := upd_same
        have S16 := S15.trans S6
        refine ⟨_, rfl, a, _, 1, _, rfl, rfl, SqT.of (S16 _ _ ea), rfl, t2, a2, ltD (n, !c), T2, rfl, rfl, .inr (SqT.of (S16 _ _ e2)), fun p hp => ⟨(K2 p hp).1.same S16, (K2 p hp).2⟩, .tup e6 (.cons (.str n) (.cons (.bl _) .nil)), keyable_lt _, by have := depth_lt (n, !c); omega, ?_⟩
        refine fin _ _ (S5.trans S6) ?_
        show inT (ltD (n, !c)) T2 = _
        rw [inT_lt d2, decide_eq_true h1, Bool.true_and]
      · rw [if_neg (by rw [decide_eq_false h1]; decide)]
        exact fin _ _ S5 (by rw [decide_eq_false h1]; rfl)
    · rintro H4 ⟨e4, S4⟩
      refine ⟨D0, _, rfl, SqL.of e4, ?_⟩
      have eq : ((([false, true].take 2).map fun c => decide ((n, c) ∈ M) && decide ((n, !c) ∈ N)).any id) = hangB M N n := by
        show ((decide ((n, false) ∈ M) && decide ((n, true) ∈ N)) || ((decide ((n, true) ∈ M) && decide ((n, false) ∈ N)) || false)) = _
        rw [Bool.or_false]
        rfl
      show Q (.bl ((([false, true].take 2).map fun c => decide ((n, c) ∈ M) && decide ((n, !c) ∈ N)).any id)) H4
      rw [eq]
      exact q H4 (S1.trans S4)
end
end S1

set_option Elab.async false
set_option linter.all false
set_option maxRecDepth 100000
set_option maxHeartbeats 4000000
/-! idle owns; reached, hangs -/
namespace S1
open PySem PySem.W PySem.Spec PyProof.Rows L2
def hangR (s : Say) (x n : Str) : Prop := (Reach s (vw s x) (x, true) (n, false) ∧ Reach s (vw s x) (x, false) (n, true)) ∨ (Reach s (vw s x) (x, true) (n, true) ∧ Reach s (vw s x) (x, false) (n, false))
theorem hangB_iff {s : Say} {x n : Str} {M N : List Ltr} (h1 : RchOk s (vw s x) (x, true) M) (h2 : RchOk s (vw s x) (x, false) N) : hangB M N n = true ↔ hangR s x n := by
  unfold hangB hangR
  rw [Bool.or_eq_true, Bool.and_eq_true, Bool.and_eq_true, decide_eq_true_eq, decide_eq_true_eq, decide_eq_true_eq, decide_eq_true_eq, h1.mem, h2.mem, h1.mem, h2.mem]
/-- names of owns that are idle at a pick -/
def IdlOk (s : Say) (x : Str) (L : List Str) : Prop := ∃ M N, RchOk s (vw s x) (x, true) M ∧ RchOk s (vw s x) (x, false) N ∧ L = (vw s x).filter fun n => !hangB M N n
def spIdleOwns : Sp := fun vs H Q _ => ∃ (v : V) (s : Say) (x : Str), vs = [v, .str x] ∧ DatS H v s ∧ SayOk 6 8 120 40 s ∧ ∀ (l : Addr) (L : List Str) (H' : Hp), Same H H' → H l = none → H' l = some (.lst (L.map V.str)) → IdlOk s x L → Q (.ref l) H'
def spReached : Sp := fun vs H Q _ => ∃ (v : V) (s : Say) (x : Str) (t : Bool), vs = [v, .str x, .bl t] ∧ DatS H v s ∧ SayOk 6 8 120 40 s ∧ x ∈ s.picks ∧
  ∀ (u : V) (L : List Ltr) (H' : Hp), Same H H' → Dat H' u (clD L) → RchOk s (vw s x) (x, t) L → Q u H'
def spHangs : Sp := fun vs H Q _ => ∃ (v : V) (s : Say) (o : Own) (x : Str), vs = [v, .str o.1, .str x] ∧ DatS H v s ∧ SayOk 6 8 120 40 s ∧ o ∈ s.owns ∧ x ∈ s.picks ∧ ∀ (b : Bool) (H' : Hp), Same H H' → (b = true ↔ hangR s x o.1) → Q (.bl b) H'
section
variable {P : Program} {w : World} {K : PySem.W.Frag} {mg : Str → Option Value} {base : Heap}
theorem scIo : FnScope ["saying", "pick", "paper", "name"] ["saying", "pick"] (defScope sIdleOwns) := ⟨rfl, rfl, rfl, by decide +kernel, rfl, by decide +kernel, by decide +kernel⟩
theorem scHg : FnScope ["saying", "name", "pick"] ["saying", "name", "pick"] (defScope sHangs) := ⟨rfl, rfl, rfl, by decide +kernel, rfl, by decide +kernel, by decide +kernel⟩
theorem ok_idleOwns {f fP fV fH : Addr} {fd fdP fdV fdH : FuncData} (F : Fun K "idle_owns" "idle_owns" sIdleOwns f fd) (Pa : Has K mg "paper_of" sPaperOf ["saying", "pick"] fP fdP) (Vw : Has K mg "viewers_of" sViewersOf ["saying", "pick"] fV fdV) (Hb : Has K mg "hangs_by" sHangsBy ["paper", "name"] fH fdH)
    (GP : FnOk P w K mg base CX0 3 fP fdP ["saying", "pick"] spPaper) (an : mg "any" = none) : FnOk P w K mg base CX0 4 f fd ["saying", "pick"] spIdleOwns := by
  have GV : FnOk P w K mg base CX0 1 fV fdV ["saying", "pick"] spViewers := ok_viewersOf Vw.F
  have GH : FnOk P w K mg base CX0 1 fH fdH ["paper", "name"] spHangsBy := ok_hangsBy Hb.F an
  refine F.ok scIo (fun vs H Q E h => ?_) (fun cdv A outer s H vs Q E hr h => ?_)
  · obtain ⟨v, sy, x, rfl, _⟩ := h
    rfl
  · obtain ⟨v, sy, x, rfl, D, ok, q⟩ := h
    have hr1 := hr.mono (show 1 ≤ 3 by decide)
    refine ⟨_, pss_cons (ps_set (i := 2) scIo.nd rfl (.inr rfl) (pe_call GP hr rfl Pa.g Pa.F.kp Pa.b .nil pass0 (pa_cons (pv 0) (pa_cons (pv 1) pa_nil))))
      (pss_one (ps_ret (pe_lc (own := [("name", 3)]) (g := gName 3) (tt := tNot (tB (tCall spHangsBy [] E0 (tCons (tVar 2) (tCons (tVar 3) tNil))))) (te := tVar 3) rfl scIo.nd (pi_list (pe_call GV hr1 rfl Vw.g Vw.F.kp Vw.b .nil pass0 (pa_cons (pv 0) (pa_cons (pv 1) pa_nil))))
        (blkOk_by (N := ["saying", "pick", "paper", "name"]) (sc := defScope sIdleOwns) (by decide +kernel)) (fun _ _ _ _ _ => pg_name (i := 3) scIo.nd rfl (Or.inl rfl))
        (fun _ _ _ _ _ => by exact pts_one (pt_not (pt_val (pe_call GH (by exact hr1) (by rfl) Hb.g Hb.F.kp Hb.b .nil pass0 (pa_cons (pv 2) (pa_cons (pv 3) pa_nil)))))) (fun _ _ _ _ _ => by exact pv 3)))), ?_⟩
    refine ⟨_, rfl, _, rfl, v, sy, x, rfl, D, ok, fun a M N H1 S1 pap => ?_⟩
    refine ⟨_, rfl, _, rfl, v, sy, x, rfl, D.same S1, ok, fun lv H2 S2 hlv ev => ⟨lv, rfl, ⟨_, SqL.of ev⟩, fun D0 hD0 => ?_⟩⟩
    obtain ⟨u1, u2, ea, p1, p2, r1, r2⟩ := pap
    have hD0' : H D0 = none := (S1.trans S2).free hD0
    have lvw : (vw sy x).length ≤ 8 := by
      unfold vw
      rw [List.length_map]
      exact Nat.le_trans (List.length_filter_le _ _) ok.ol
    refine lc_list (K := K) (a := lv) (xs := (vw sy x).map V.str) (fun j H4 => H4 D0 = some (.lst ((((vw sy x).take j).filter fun n => !hangB M N n).map V.str)) ∧ Same H2 H4) ⟨upd_same, same_new hD0⟩ (fun j H4 _ h => SqL.of (h.2 _ _ ev)) ?_ ?_
    · rintro j y H4 hy ⟨e4, S4⟩
      rw [List.getElem?_map] at hy
      obtain ⟨n, hn, rfl⟩ := Option.map_eq_some_iff.mp hy
      have S24 := S2.trans S4
      refine ⟨rfl, _, rfl, _, rfl, a, n, M, N, u1, u2, rfl, S24 _ _ ea, p1.same S24, p2.same S24, fun H5 S5 => ⟨hangB M N n, rfl, ?_⟩⟩
      have z := List.length_filter_le (fun n => !hangB M N n) ((vw sy x).take j)
      rw [List.length_take] at z
      by_cases hh : hangB M N n = true
      · rw [hh]
        show if false = true then _ else _
        rw [if_neg (by decide)]
        refine ⟨?_, S4.trans S5⟩
        have eo : [n].filter (fun n => !hangB M N n) = [] := by simp [hh]
        rw [take_next hn, List.filter_append, eo, List.append_nil]
        exact S5 _ _ e4
      · have hf : hangB M N n = false := by cases h : hangB M N n <;> simp_all
        rw [hf]
        show if true = true then _ else _
        rw [if_pos rfl]
        refine ⟨_, rfl, _, S5 _ _ e4, by rw [List.length_map]; exact small1000 (by omega), ?_, same_upd (S4.trans S5) hD0⟩
        have eo : [n].filter (fun n => !hangB M N n) = [n] := by simp [hf]
        rw [upd_same, take_next hn, List.filter_append, eo, List.map_append]
        rfl
    · rintro H4 ⟨e4, S4⟩
      rw [List.length_map, List.take_length] at e4
      exact q D0 _ H4 (S1.trans (S2.trans S4)) hD0' e4 ⟨M, N, r1, r2, rfl⟩
theorem ok_hangs {f fP fH : Addr} {fd fdP fdH : FuncData} (F : Fun K "hangs" "hangs" sHangs f fd) (e : Env1 K mg) (Wn : Wnt K mg) (W2 : Wnt2 K mg) (Pa : Has K mg "paper_of" sPaperOf ["saying", "pick"] fP fdP) (Hb : Has K mg "hangs_by" sHangsBy ["paper", "name"] fH fdH)
    (GP : FnOk P w K mg base CX0 3 fP fdP ["saying", "pick"] spPaper) (an : mg "any" = none) : FnOk P w K mg base CX0 8 f fd ["saying", "name", "pick"] spHangs := by
  have GH : FnOk P w K mg base CX0 1 fH fdH ["paper", "name"] spHangsBy := ok_hangsBy Hb.F an
  obtain ⟨fS, fdS, Ws, GS⟩ := g_wantSaying (P := P) (w := w) (base := base) e Wn
  obtain ⟨fO, fdO, Wo, GO⟩ := g_wantOwn (P := P) (w := w) (base := base) e W2
  obtain ⟨fK, fdK, Wk, GK⟩ := g_wantPick (P := P) (w := w) (base := base) e W2
  refine F.ok scHg (fun vs H Q E h => ?_) (fun cdv A outer s H vs Q E hr h => ?_)
  · obtain ⟨v, sy, o, x, rfl, _⟩ := h
    rfl
  · obtain ⟨v, sy, o, x, rfl, D, ok, ho, hx, q⟩ := h
    refine ⟨_, pss_cons (ps_expr (pe_call GS hr rfl Ws.g Ws.F.kp Ws.b .nil pass0 (pa_cons (pv 0) pa_nil)))
      (pss_cons (ps_expr (pe_call GO (hr.mono (by decide)) rfl Wo.g Wo.F.kp Wo.b .nil pass0 (pa_cons (pv 0) (pa_cons (pv 1) pa_nil))))
      (pss_cons (ps_expr (pe_call GK (hr.mono (by decide)) rfl Wk.g Wk.F.kp Wk.b .nil pass0 (pa_cons (pv 0) (pa_cons (pv 2) pa_nil))))
      (pss_one (ps_ret (pe_call GH (hr.mono (by decide)) rfl Hb.g Hb.F.kp Hb.b .nil pass0 (pa_cons (pe_call GP (hr.mono (by decide)) rfl Pa.g Pa.F.kp Pa.b .nil pass0 (pa_cons (pv 0) (pa_cons (pv 2) pa_nil))) (pa_cons (pv 1) pa_nil))))))), ?_⟩
    refine ⟨_, rfl, v, sy, rfl, D, ok, fun H1 S1 => ⟨_, rfl, _, rfl, v, sy, o, rfl, D.same S1, ok, ho, fun H2 S2 => ⟨_, rfl, _, rfl, v, sy, x, rfl, D.same (S1.trans S2), ok, hx, fun H3 S3 => ?_⟩⟩⟩
    have S13 := S1.trans (S2.trans S3)
    refine ⟨_, rfl, _, rfl, v, sy, x, rfl, D.same S13, ok, fun a M N H4 S4 pap => ?_⟩
    obtain ⟨u1, u2, ea, p1, p2, r1, r2⟩ := pap
    refine ⟨_, rfl, a, o.1, M, N, u1, u2, rfl, ea, p1, p2, fun H5 S5 => ?_⟩
    exact q _ H5 (S13.trans (S4.trans S5)) (hangB_iff r1 r2)
end
end S1

set_option Elab.async false
set_option linter.all false
set_option maxRecDepth 100000
set_option maxHeartbeats 4000000
/-! all that is idle -/
namespace S1
open PySem PySem.W PySem.Spec PyProof.Rows L2
abbrev Pr := Str × Str
def prD (q : Pr) : PyData := .tuple [.str q.1, .str q.2]
theorem prD_inj {a b : Pr} (h : prD a = prD b) : a = b := by
  unfold prD at h
  injection h with h
  injection h with h1 h2
  injection h1 with h1
  injection h2 with h2 _
  injection h2 with h2
  exact Prod.ext h1 h2
theorem alike_pr (a b : Pr) : alike (prD a) (prD b) = true := by simp [prD, alike, alikeAll]
theorem depth_pr (l : Pr) : (prD l).depth ≤ 1 := by simp [prD, PyData.depth, PyData.depthAll]
theorem keyable_pr (l : Pr) : keyable (prD l) = true := rfl
def prLt (a b : Pr) : Prop := dataLt (prD a) (prD b) = true
/-- all idle: sorted, each one -/
structure IdleAll (s : Say) (L : List Pr) : Prop where
  up : L.Pairwise prLt
  mem : ∀ q, q ∈ L ↔ (q.2 ∈ s.picks ∧ q.1 ∈ vw s q.2 ∧ ¬ hangR s q.2 q.1)
/-- .. so far, in any order -/
structure IdleTo (s : Say) (xs : List Str) (L : List Pr) : Prop where
  nd : L.Nodup
  mem : ∀ q, q ∈ L ↔ (q.2 ∈ xs ∧ q.1 ∈ vw s q.2 ∧ ¬ hangR s q.2 q.1)
  len : L.length ≤ 8 * xs.length
theorem vw_nodup {s : Say} (ok : SayOk 6 8 120 40 s) (x : Str) : (vw s x).Nodup := by
  unfold vw
  have z : (s.owns.filter fun o => decide (x ∈ o.2)).Pairwise fun a b => tlt a.1 b.1 := ok.ou.sublist List.filter_sublist
  exact nodup_tlt (List.pairwise_map.mpr z)
theorem vw_len {s : Say} (ok : SayOk 6 8 120 40 s) (x : Str) : (vw s x).length ≤ 8 := by
  unfold vw
  rw [List.length_map]
  exact Nat.le_trans (List.length_filter_le _ _) ok.ol
theorem IdlOk.mem {s : Say} {x : Str} {L : List Str} (h : IdlOk s x L) (n : Str) : n ∈ L ↔ n ∈ vw s x ∧ ¬ hangR s x n := by
  obtain ⟨M, N, r1, r2, rfl⟩ := h
  rw [List.mem_filter]
  have z := hangB_iff (n := n) r1 r2
  constructor
  · rintro ⟨a, b⟩
    refine ⟨a, fun c => ?_⟩
    rw [z.mpr c] at b
    exact absurd b (by decide)
  · rintro ⟨a, b⟩
    refine ⟨a, ?_⟩
    cases h : hangB M N n with
    | true => exact absurd (z.mp h) b
    | false => rfl
theorem IdlOk.nd {s : Say} (ok : SayOk 6 8 120 40 s) {x : Str} {L : List Str} (h : IdlOk s x L) : L.Nodup ∧ L.length ≤ 8 := by
  obtain ⟨M, N, r1, r2, rfl⟩ := h
  exact ⟨(vw_nodup ok x).sublist List.filter_sublist, Nat.le_trans (List.length_filter_le _ _) (vw_len ok x)⟩
theorem IdleTo.next {s : Say} (ok : SayOk 6 8 120 40 s) {xs : List Str} {x : Str} {L : List Pr} {N : List Str} (h : IdleTo s xs L) (hx : x ∉ xs) (hn : IdlOk s x N) : IdleTo s (xs ++ [x]) (L ++ N.map fun n => (n, x)) := by
  obtain ⟨nn, nl⟩ := hn.nd ok
  refine ⟨?_, fun q => ?_, ?_⟩
  · rw [List.nodup_append]
    refine ⟨h.nd, List.pairwise_map.mpr (nn.imp fun {a b} ne z => ne (by injection z)), fun a ha b hb e => ?_⟩
    obtain ⟨n, _, rfl⟩ := List.mem_map.mp hb
    subst e
    exact hx ((h.mem _).mp ha).1
  · rw [List.mem_append, List.mem_append, h.mem]
    constructor
    · rintro (⟨a, b, c⟩ | z)
      · exact ⟨.inl a, b, c⟩
      · obtain ⟨n, hn2, rfl⟩ := List.mem_map.mp z
        obtain ⟨a, b⟩ := (hn.mem n).mp hn2
        exact ⟨.inr List.mem_cons_self, a, b⟩
    · rintro ⟨a | a, b, c⟩
      · exact .inl ⟨a, b, c⟩
      · have e := List.mem_singleton.mp a
        refine .inr (List.mem_map.mpr ⟨q.1, (hn.mem q.1).mpr ?_, ?_⟩)
        · rw [← e]; exact ⟨b, c⟩
        · rw [← e]
  · rw [List.length_append, List.length_map, List.length_append]
    have := h.len
    show _ ≤ 8 * (xs.length + 1)
    omega
def spAllIdle : Sp := fun vs H Q _ => ∃ (v : V) (s : Say), vs = [v] ∧ DatS H v s ∧ SayOk 6 8 120 40 s ∧ ∀ (l : Addr) (T : List TRow) (L : List Pr) (H' : Hp), Same H H' → H l = none → H' l = some (.lst (T.map TRow.v)) → T.map Prod.snd = L.map prD → (∀ q ∈ T, Dat H' q.v q.2) → IdleAll s L → Q (.ref l) H'
section
variable {P : Program} {w : World} {K : PySem.W.Frag} {mg : Str → Option Value} {base : Heap}
theorem scAi : FnScope ["saying", "pick", "name"] ["saying"] (defScope sAllIdle) := ⟨rfl, rfl, rfl, by decide +kernel, rfl, by decide +kernel, by decide +kernel⟩
theorem scId : FnScope ["saying"] ["saying"] (defScope sIdle) := ⟨rfl, rfl, rfl, by decide +kernel, rfl, by decide +kernel, by decide +kernel⟩
theorem ok_allIdle {f fI : Addr} {fd fdI : FuncData} (F : Fun K "all_idle" "all_idle" sAllIdle f fd) (B : Blt mg) (Io : Has K mg "idle_owns" sIdleOwns ["saying", "pick"] fI fdI) (GI : FnOk P w K mg base CX0 4 fI fdI ["saying", "pick"] spIdleOwns) : FnOk P w K mg base CX0 5 f fd ["saying"] spAllIdle := by
  refine F.ok scAi (fun vs H Q E h => ?_) (fun cdv A outer s H vs Q E hr h => ?_)
  · obtain ⟨v, sy, rfl, _⟩ := h
    rfl
  · obtain ⟨v, sy, rfl, D, ok, q⟩ := h
    have hu : (A.deeper (envOfC "all_idle" (defScope sAllIdle) s.heap.objs.size f cdv)).units + 64 < cLine := hr.units
    refine ⟨_, pss_one (ps_ret (pe_callB (cr_sortL (by exact hu)) (by rfl) B.sorted (by decide +kernel) (pa_cons (pe_lc2 (own := [("pick", 1), ("name", 2)]) (vs1 := [2]) (g := gName 1) (tt := tYes) (g1 := gName 2) (tt1 := tYes) (wi1 := iList K (tCall spIdleOwns [] E0 (tCons (tVar 0) (tCons (tVar 1) tNil)))) (te := tTup (tCons (tVar 2) (tCons (tVar 1) tNil)))
        rfl scAi.nd (pi_tup (pe_ix ix_tup (pv 0) pe_int (fun _ _ => rfl))) (blkOk_by (N := ["saying", "pick", "name"]) (sc := defScope sAllIdle) (by decide +kernel)) (by decide)
        (fun _ _ _ _ _ => pg_name (i := 1) scAi.nd rfl (Or.inl rfl)) (fun _ _ _ _ _ => pts_nil) (fun _ _ _ _ _ => by exact pi_list (pe_call GI (by exact hr) (by rfl) Io.g Io.F.kp Io.b .nil pass0 (pa_cons (pv 0) (pa_cons (pv 1) pa_nil))))
        (fun _ _ _ _ _ => pg_name (i := 2) scAi.nd rfl (Or.inl rfl)) (fun _ _ _ _ _ => pts_nil) (fun _ _ _ _ _ => by exact pe_tup (pa_cons (pv 2) (pa_cons (pv 1) pa_nil)))) pa_nil))), ?_⟩
    obtain ⟨a, pk, ow, c, rfl, ea, Dp, Do, Dc⟩ := say_row D
    obtain ⟨b, us, rfl, eb, Db⟩ := dat_tup (ds := sy.picks.map PyData.str) Dp
    cases dats_strs_eq Db
    have lp := ok.pl
    refine ⟨_, rfl, a, _, 0, _, rfl, rfl, SqT.of ea, rfl, b, rfl, ⟨_, SqT.of eb⟩, fun D0 hD0 => ?_⟩
    refine turns_tup (K := K) (a := b) (xs := sy.picks.map V.str) (fun j H4 => ∃ (T4 : List TRow) (L : List Pr), H4 D0 = some (.lst (T4.map TRow.v)) ∧ T4.map Prod.snd = L.map prD ∧ (∀ q' ∈ T4, Dat H4 q'.v q'.2) ∧ IdleTo sy (sy.picks.take j) L ∧ Same H H4)
      ⟨[], [], upd_same, rfl, fun q' hq' => absurd hq' (by simp), ⟨List.nodup_nil, fun q => by simp, Nat.zero_le _⟩, same_new hD0⟩ (fun j H4 _ ⟨_, _, _, _, _, _, S4⟩ => SqT.of (S4 _ _ eb)) ?_ ?_
    · rintro j x4 H4 hx4 ⟨T4, L, e4, d4, D4, i4, S4⟩
      rw [List.getElem?_map] at hx4
      obtain ⟨x, hx, rfl⟩ := Option.map_eq_some_iff.mp hx4
      have jl : j < sy.picks.length := (List.getElem?_eq_some_iff.mp hx).1
      refine ⟨rfl, yes_of ?_⟩
      refine ⟨_, rfl, _, rfl, .ref a, sy, x, rfl, D.same S4, ok, fun lI N H5 S5 hlI eN iN => ⟨lI, rfl, ⟨_, SqL.of eN⟩, ?_⟩⟩
      obtain ⟨nn, nl⟩ := iN.nd ok
      have len4 : T4.length ≤ 48 := by
        have z := congrArg List.length d4
        rw [List.length_map, List.length_map] at z
        have y := i4.len
        rw [List.length_take] at y
        omega
      have nD : lI ≠ D0 := fun z => by rw [z] at hlI; rw [hlI] at e4; cases e4
      have S45 := S4.trans S5
      refine turns_list (K := K) (a := lI) (xs := N.map V.str) (fun k H6 => ∃ T5 : List TRow, H6 D0 = some (.lst (T5.map TRow.v)) ∧ T5.map Prod.snd = (L ++ (N.take k).map fun n => (n, x)).map prD ∧ (∀ q' ∈ T5, Dat H6 q'.v q'.2) ∧ Same H H6 ∧ H6 lI = some (.lst (N.map V.str)))
        ⟨T4, S5 _ _ e4, by simpa using d4, fun q' hq' => (D4 q' hq').same S5, S45, eN⟩ (fun k H6 _ ⟨_, _, _, _, _, e⟩ => SqL.of e) ?_ ?_
      · rintro k y H6 hy ⟨T5, e6, d6, D6, S6, n6⟩
        rw [List.getElem?_map] at hy
        obtain ⟨n, hn, rfl⟩ := Option.map_eq_some_iff.mp hy
        have kl : k < N.length := (List.getElem?_eq_some_iff.mp hn).1
        refine ⟨rfl, yes_of ?_⟩
        refine ⟨_, rfl, _, rfl, (by show 2 ≤ sizeLine; decide), fun t ht => ?_⟩
        have S7 := same_new (o := .tup [V.str n, .str x]) ht
        have e7 := S7 _ _ e6
        have len5 : T5.length ≤ 60 := by
          have z := congrArg List.length d6
          rw [List.length_map, List.length_map, List.length_append, List.length_map, List.length_take] at z
          have y := congrArg List.length d4
          rw [List.length_map, List.length_map] at y
          omega
        have kq : ∀ q' ∈ T5, keyable q'.2 = true := fun q' hq' => by
          have m2 : q'.2 ∈ (L ++ (N.take k).map fun n => (n, x)).map prD := d6 ▸ List.mem_map_of_mem hq'
          obtain ⟨z, _, hz⟩ := List.mem_map.mp m2
          rw [← hz]
          exact keyable_pr z
        refine ⟨_, e7, by rw [List.length_map]; exact small1000 (by omega), T5 ++ [(t, prD (n, x))], by rw [upd_same, List.map_append]; rfl, ?_, fun q' hq' => ?_, same_upd (S6.trans S7) hD0, by rw [upd_ne nD]; exact S7 _ _ n6⟩
        · rw [List.map_append, d6, take_next hn, List.map_append, List.map_append, List.map_append, List.map_append, List.append_assoc]
          rfl
        · rcases List.mem_append.mp hq' with m | m
          · exact dat_upd e7 (kq q' m) ((D6 q' m).same S7)
          · cases List.mem_singleton.mp m
            exact dat_upd e7 (keyable_pr _) (.tup upd_same (.cons (.str n) (.cons (.str x) .nil)))
      · rintro H6 ⟨T5, e6, d6, D6, S6, n6⟩
        rw [List.length_map, List.take_length] at d6
        refine ⟨T5, _, e6, d6, D6, ?_, S6⟩
        rw [take_next hx]
        refine i4.next ok (fun z => ?_) iN
        have nd := nodup_tlt ok.pu
        obtain ⟨i, hi, e⟩ := List.mem_take_iff_getElem.mp z
        have h1 := (List.getElem?_eq_some_iff.mp hx)
        obtain ⟨hj, ej⟩ := h1
        have := (List.getElem_inj nd).mp (e.trans ej.symm)
        omega
    · rintro H4 ⟨T4, L, e4, d4, D4, i4, S4⟩
      rw [List.length_map, List.take_length] at i4
      refine ⟨D0, T4, rfl, SqL.of e4, D4, sorty_of d4 alike_pr (fun x => ⟨_, rfl⟩) (fun x => by have := depth_pr x; omega), fun T' b' pm _ up hb => ?_⟩
      have Sb := same_new (o := .lst (T'.map TRow.v)) hb
      obtain ⟨L', pL, eL⟩ := perm_back (f := prD) ((pm.map Prod.snd).trans (.of_eq d4)) L rfl
      have nT : (T4.map Prod.snd).Nodup := by
        rw [d4]
        exact List.pairwise_map.mpr (i4.nd.imp fun {x y} ne z => ne (prD_inj z))
      refine q b' T' L' _ (S4.trans Sb) (S4.free hb) upd_same eL (fun q' hq' => (D4 q' (pm.mem_iff.mp hq')).same Sb) ⟨?_, fun q' => ?_⟩
      · have u1 : (T'.map Prod.snd).Pairwise fun d e => dataLt d e = true := List.pairwise_map.mpr (up nT)
        rw [eL] at u1
        have u2 : L'.Pairwise fun x y => dataLt (prD x) (prD y) = true := List.pairwise_map.mp u1
        exact u2
      · rw [pL.mem_iff]
        exact i4.mem q'
def spIdle : Sp := spAllIdle
theorem ok_idle {f fA : Addr} {fd fdA : FuncData} (F : Fun K "idle" "idle" sIdle f fd) (e : Env1 K mg) (Wn : Wnt K mg) (Ai : Has K mg "all_idle" sAllIdle ["saying"] fA fdA) (GA : FnOk P w K mg base CX0 5 fA fdA ["saying"] spAllIdle) : FnOk P w K mg base CX0 8 f fd ["saying"] spAllIdle := by
  obtain ⟨fS, fdS, Ws, GS⟩ := g_wantSaying (P := P) (w := w) (base := base) e Wn
  refine F.ok scId (fun vs H Q E h => ?_) (fun cdv A outer s H vs Q E hr h => ?_)
  · obtain ⟨v, sy, rfl, _⟩ := h
    rfl
  · obtain ⟨v, sy, rfl, D, ok, q⟩ := h
    refine ⟨_, pss_cons (ps_expr (pe_call GS hr rfl Ws.g Ws.F.kp Ws.b .nil pass0 (pa_cons (pv 0) pa_nil)))
      (pss_one (ps_ret (pe_call GA (hr.mono (by decide)) rfl Ai.g Ai.F.kp Ai.b .nil pass0 (pa_cons (pv 0) pa_nil)))), ?_⟩
    exact ⟨_, rfl, v, sy, rfl, D, ok, fun H1 S1 => ⟨_, rfl, v, sy, rfl, D.same S1, ok, fun l T L H2 S2 hl el eL DT i => q l T L H2 (S1.trans S2) (S1.free hl) el eL DT i⟩⟩
end
end S1

set_option Elab.async false
set_option linter.all false
set_option maxRecDepth 100000
set_option maxHeartbeats 4000000
/-! all that is reached, as the law finds it -/
namespace S1
open PySem PySem.W PySem.Spec PyProof.Rows L2
/-- letters to be opened O, letters found F; e: the one that is being opened, its clauses up to some done -/
structure OInv (s : Say) (ws : List Str) (l0 : Ltr) (O F : List Ltr) : Prop where
  nd : F.Nodup
  rf : ∀ m ∈ F, Reach s ws l0 m
  ro : ∀ o ∈ O, o = l0 ∨ ∃ f ∈ F, o = neg f
  c0 : l0 ∈ O ∨ ∀ m ∈ bes s ws l0, m ∈ F
  c1 : ∀ f ∈ F, neg f ∈ O ∨ ∀ m ∈ bes s ws (neg f), m ∈ F
  len : O.length ≤ F.length + 1
/-- .. while e is opened -/
structure EInv (s : Say) (ws : List Str) (l0 e : Ltr) (O F : List Ltr) : Prop where
  nd : F.Nodup
  rf : ∀ m ∈ F, Reach s ws l0 m
  ro : ∀ o ∈ O, o = l0 ∨ ∃ f ∈ F, o = neg f
  re : e = l0 ∨ ∃ f ∈ F, e = neg f
  c0 : l0 = e ∨ l0 ∈ O ∨ ∀ m ∈ bes s ws l0, m ∈ F
  c1 : ∀ f ∈ F, neg f = e ∨ neg f ∈ O ∨ ∀ m ∈ bes s ws (neg f), m ∈ F
  len : O.length ≤ F.length
section
variable {s : Say} {ws : List Str} {l0 e : Ltr} {O F : List Ltr}
theorem OInv.start : OInv s ws l0 [l0] [] := ⟨List.nodup_nil, fun m h => absurd h (by simp), fun o h => .inl (List.mem_singleton.mp h), .inl List.mem_cons_self, fun f h => absurd h (by simp), Nat.le_refl _⟩
theorem OInv.pop (h : OInv s ws l0 (O ++ [e]) F) : EInv s ws l0 e O F := by
  have back : ∀ o, o ∈ O ++ [e] → o = e ∨ o ∈ O := fun o z => by
    rcases List.mem_append.mp z with z | z
    · exact .inr z
    · exact .inl (List.mem_singleton.mp z)
  refine ⟨h.nd, h.rf, fun o ho => h.ro o (List.mem_append_left _ ho), h.ro e (List.mem_append_right _ List.mem_cons_self), ?_, fun f hf => ?_, by have := h.len; rw [List.length_append] at this; simpa using this⟩
  · rcases h.c0 with z | z
    · rcases back _ z with z | z
      · exact .inl z
      · exact .inr (.inl z)
    · exact .inr (.inr z)
  · rcases h.c1 f hf with z | z
    · rcases back _ z with z | z
      · exact .inl z
      · exact .inr (.inl z)
    · exact .inr (.inr z)
theorem EInv.add {m : Ltr} (h : EInv s ws l0 e O F) (hm : m ∈ bes s ws e) (hn : m ∉ F) : EInv s ws l0 e (O ++ [neg m]) (F ++ [m]) := by
  have rm : Reach s ws l0 m := by
    rcases h.re with z | ⟨f, hf, z⟩
    · rw [z] at hm; exact .start hm
    · rw [z] at hm; exact .step (h.rf f hf) hm
  refine ⟨?_, fun k hk => ?_, fun o ho => ?_, ?_, ?_, fun f hf => ?_, by rw [List.length_append, List.length_append]; exact Nat.succ_le_succ h.len⟩
  · rw [List.nodup_append]
    exact ⟨h.nd, by simp, fun a ha b hb e => by rw [List.mem_singleton.mp hb] at e; rw [e] at ha; exact hn ha⟩
  · rcases List.mem_append.mp hk with z | z
    · exact h.rf k z
    · rw [List.mem_singleton.mp z]; exact rm
  · rcases List.mem_append.mp ho with z | z
    · rcases h.ro o z with y | ⟨f, hf, y⟩
      · exact .inl y
      · exact .inr ⟨f, List.mem_append_left _ hf, y⟩
    · exact .inr ⟨m, List.mem_append_right _ List.mem_cons_self, List.mem_singleton.mp z⟩
  · rcases h.re with z | ⟨f, hf, z⟩
    · exact .inl z
    · exact .inr ⟨f, List.mem_append_left _ hf, z⟩
  · rcases h.c0 with z | z | z
    · exact .inl z
    · exact .inr (.inl (List.mem_append_left _ z))
    · exact .inr (.inr fun k hk => List.mem_append_left _ (z k hk))
  · rcases List.mem_append.mp hf with z | z
    · rcases h.c1 f z with y | y | y
      · exact .inl y
      · exact .inr (.inl (List.mem_append_left _ y))
      · exact .inr (.inr fun k hk => List.mem_append_left _ (y k hk))
    · rw [List.mem_singleton.mp z]
      exact .inr (.inl (List.mem_append_right _ List.mem_cons_self))
theorem EInv.close (h : EInv s ws l0 e O F) (all : ∀ m ∈ bes s ws e, m ∈ F) : OInv s ws l0 O F := by
  refine ⟨h.nd, h.rf, h.ro, ?_, fun f hf => ?_, Nat.le_succ_of_le h.len⟩
  · rcases h.c0 with z | z | z
    · exact .inr (by rw [z]; exact all)
    · exact .inl z
    · exact .inr z
  · rcases h.c1 f hf with z | z | z
    · exact .inr (by rw [z]; exact all)
    · exact .inl z
    · exact .inr z
theorem OInv.done (h : OInv s ws l0 [] F) (m : Ltr) : m ∈ F ↔ Reach s ws l0 m := by
  refine ⟨h.rf m, fun r => ?_⟩
  induction r with
  | start hm => exact (h.c0.resolve_left (by simp)) _ hm
  | step _ hm ih => exact ((h.c1 _ ih).resolve_left (by simp)) _ hm
theorem EInv.few (h : EInv s ws l0 e O F) (ok : SayOk 6 8 120 40 s) : F.length ≤ 28 := by
  have z := nodup_le h.nd fun x hx => reach_univ ok (h.rf x hx)
  have y := univ_len s.names
  have x := ok.nlen
  have e : (univ s).length = 2 * s.names.length := y
  omega
end
structure LInv (H0 : Hp) (lv oL fL : Addr) (ws : List Str) (H' : Hp) (To Tf : List TRow) (O F : List Ltr) : Prop where
  S : Same H0 H'
  v : H' lv = some (.lst (ws.map V.str))
  o : H' oL = some (.lst (To.map TRow.v))
  od : To.map Prod.snd = O.map ltD
  oD : ∀ q ∈ To, Dat H' q.v q.2
  f : H' fL = some (.lst (Tf.map TRow.v))
  fd : Tf.map Prod.snd = F.map ltD
  fD : ∀ q ∈ Tf, Dat H' q.v q.2
theorem key_lts {T : List TRow} {F : List Ltr} (e : T.map Prod.snd = F.map ltD) : ∀ q ∈ T, keyable q.2 = true ∧ q.2.depth ≤ 8 := fun q hq => by
  have m : q.2 ∈ F.map ltD := e ▸ List.mem_map_of_mem hq
  obtain ⟨o, _, eo⟩ := List.mem_map.mp m
  exact ⟨by rw [← eo]; exact keyable_lt o, by rw [← eo]; have := depth_lt o; omega⟩
section
variable {H0 H' H'' : Hp} {lv oL fL : Addr} {ws : List Str} {To Tf : List TRow} {O F : List Ltr}
theorem LInv.same (a : LInv H0 lv oL fL ws H' To Tf O F) (S : Same H' H'') : LInv H0 lv oL fL ws H'' To Tf O F := ⟨a.S.trans S, S _ _ a.v, S _ _ a.o, a.od, fun q hq => (a.oD q hq).same S, S _ _ a.f, a.fd, fun q hq => (a.fD q hq).same S⟩
theorem LInv.setO {To2 : List TRow} {O2 : List Ltr} (a : LInv H0 lv oL fL ws H' To Tf O F) (h0 : H0 oL = none) (n1 : lv ≠ oL) (n2 : fL ≠ oL) (e : To2.map Prod.snd = O2.map ltD) (d : ∀ q ∈ To2, Dat H' q.v q.2) : LInv H0 lv oL fL ws (upd H' oL (.lst (To2.map TRow.v))) To2 Tf O2 F := by
  have K : ∀ b xs, H' b = some (.tup xs) → upd H' oL (.lst (To2.map TRow.v)) b = some (.tup xs) := tk_put fun xs z => by rw [a.o] at z; cases z
  exact ⟨same_upd a.S h0, by rw [upd_ne n1]; exact a.v, upd_same, e, fun q hq => dat_tk K _ _ (key_lts e q hq).1 (d q hq), by rw [upd_ne n2]; exact a.f, a.fd, fun q hq => dat_tk K _ _ (key_lts a.fd q hq).1 (a.fD q hq)⟩
theorem LInv.setF {Tf2 : List TRow} {F2 : List Ltr} (a : LInv H0 lv oL fL ws H' To Tf O F) (h0 : H0 fL = none) (n1 : lv ≠ fL) (n2 : oL ≠ fL) (e : Tf2.map Prod.snd = F2.map ltD) (d : ∀ q ∈ Tf2, Dat H' q.v q.2) : LInv H0 lv oL fL ws (upd H' fL (.lst (Tf2.map TRow.v))) To Tf2 O F2 := by
  have K : ∀ b xs, H' b = some (.tup xs) → upd H' fL (.lst (Tf2.map TRow.v)) b = some (.tup xs) := tk_put fun xs z => by rw [a.f] at z; cases z
  exact ⟨same_upd a.S h0, by rw [upd_ne n1]; exact a.v, by rw [upd_ne n2]; exact a.o, a.od, fun q hq => dat_tk K _ _ (key_lts a.od q hq).1 (a.oD q hq), upd_same, e, fun q hq => dat_tk K _ _ (key_lts e q hq).1 (d q hq)⟩
end
def spLReached : Sp := fun vs H Q _ => ∃ (v : V) (s : Say) (x : Str) (t : Bool), vs = [v, .str x, .bl t] ∧ DatS H v s ∧ SayOk 6 8 120 40 s ∧
  ∀ (l : Addr) (T : List TRow) (L : List Ltr) (H' : Hp), Same H H' → H l = none → H' l = some (.lst (T.map TRow.v)) → T.map Prod.snd = L.map ltD → (∀ q ∈ T, Dat H' q.v q.2) → RchOk s (vw s x) (x, t) L → Q (.ref l) H'
abbrev nLR : List Str := ["saying", "pick", "truth", "viewers", "open_letters", "found", "letter", "clause", "other"]
section
variable {P : Program} {w : World} {K : PySem.W.Frag} {mg : Str → Option Value} {base : Heap}
theorem scLV : FnScope ["saying", "pick", "name", "sight"] ["saying", "pick"] (defScope sLViewers) := ⟨rfl, rfl, rfl, by decide +kernel, rfl, by decide +kernel, by decide +kernel⟩
theorem scLR : FnScope nLR ["saying", "pick", "truth"] (defScope sLReached) := ⟨rfl, rfl, rfl, by decide +kernel, rfl, by decide +kernel, by decide +kernel⟩
theorem ok_lViewers {f : Addr} {fd : FuncData} (F : Fun K "_law_viewers" "_law_viewers" sLViewers f fd) : FnOk P w K mg base CX0 1 f fd ["saying", "pick"] spViewers := by
  refine F.ok scLV (fun vs H Q E h => ?_) (fun cdv A outer s H vs Q E hr h => ?_)
  · obtain ⟨v, sy, x, rfl, _⟩ := h
    rfl
  · obtain ⟨v, sy, x, rfl, D, ok, q⟩ := h
    refine ⟨_, pss_one (ps_ret (pe_lc (own := [("name", 2), ("sight", 3)]) (g := gTup K 2 (gCons (gName 2) (gCons (gName 3) gNil))) (tt := tTest (tOp (rIn K false) (tVar 1) (tVar 3))) (te := tVar 2) rfl scLV.nd (pi_tup (pe_ix ix_tup (pv 0) pe_int (fun _ _ => rfl))) (blkOk_by (N := ["saying", "pick", "name", "sight"]) (sc := defScope sLViewers) (by decide +kernel))
        (fun _ _ _ _ _ => by exact pg_tup rfl (pgs_cons (pg_name (i := 2) scLV.nd rfl (.inl rfl)) (pgs_cons (pg_name (i := 3) scLV.nd rfl (.inl rfl)) pgs_nil))) (fun _ _ _ _ _ => by exact pts_one (pt_cmpR op_in_seq (pv 1) (pv 3) (by with_unfolding_all rfl))) (fun _ _ _ _ _ => by exact pv 2))), ?_⟩
    obtain ⟨a, pk, ow, c, rfl, ea, Dp, Do, Dc⟩ := say_row D
    obtain ⟨b, us, rfl, eb, Db⟩ := Do
    have lu : us.length = sy.owns.length := by rw [Db.len, List.length_map]
    have lo := ok.ol
    refine ⟨_, rfl, a, _, 1, _, rfl, rfl, SqT.of ea, rfl, b, rfl, ⟨_, FT.sq eb⟩, fun D0 hD0 => ?_⟩
    refine lc_tup (K := K) (a := b) (xs := us) (fun j H4 => H4 D0 = some (.lst ((((sy.owns.take j).filter fun o => decide (x ∈ o.2)).map Prod.fst).map V.str)) ∧ Same H H4) ⟨upd_same, same_new hD0⟩ (fun j H4 _ h => FT.sq (FT.same eb h.2)) ?_ ?_
    · rintro j y H4 hy ⟨e4, S4⟩
      obtain ⟨d, hd, Dx⟩ := dats_get' Db j y hy
      obtain ⟨o, ho, rfl⟩ := get_map hd
      obtain ⟨to, rfl⟩ := tuple_ref (ds := [.str o.1, nmsD o.2]) Dx
      obtain ⟨t', g1, g2⟩ := own_row (q := (to, ownD o)) rfl Dx
      have jl : j < sy.owns.length := (List.getElem?_eq_some_iff.mp ho).1
      refine ⟨to, _, rfl, SqT.of (S4 _ _ g1), rfl, _, _, rfl, _, _, rfl, rfl, rfl, ?_⟩
      refine ⟨_, rfl, _, rfl, t', _, rfl, .inr (SqT.of (S4 _ _ g2)), rfl, flat_strs _, _, rfl, ?_⟩
      show if inV (V.str x) (o.2.map V.str) = true then _ else _
      rw [inV_str]
      have len : ((((sy.owns.take j).filter fun o => decide (x ∈ o.2)).map Prod.fst).map V.str).length < sizeLine := by
        rw [List.length_map, List.length_map]
        have z := List.length_filter_le (fun o : Own => decide (x ∈ o.2)) (sy.owns.take j)
        rw [List.length_take] at z
        exact small1000 (by omega)
      by_cases hx : x ∈ o.2
      · rw [if_pos (decide_eq_true hx)]
        refine ⟨_, rfl, _, e4, len, ?_, same_upd S4 hD0⟩
        have eo : [o].filter (fun o : Own => decide (x ∈ o.2)) = [o] := by simp [hx]
        rw [upd_same, take_next ho, List.filter_append, List.map_append, List.map_append, eo]
        rfl
      · rw [if_neg (by rw [decide_eq_false hx]; decide)]
        refine ⟨?_, S4⟩
        have eo : [o].filter (fun o : Own => decide (x ∈ o.2)) = [] := by simp [hx]
        rw [take_next ho, List.filter_append, eo, List.append_nil]
        exact e4
    · rintro H4 ⟨e4, S4⟩
      rw [lu, List.take_length] at e4
      exact q D0 H4 S4 hD0 e4
theorem ok_lReached {f fV : Addr} {fd fdV : FuncData} (F : Fun K "_law_reached" "_law_reached" sLReached f fd) (B : Blt mg) (Vw : Has K mg "_law_viewers" sLViewers ["saying", "pick"] fV fdV) : FnOk P w K mg base CX0 2 f fd ["saying", "pick", "truth"] spLReached := by
  have GV : FnOk P w K mg base CX0 1 fV fdV ["saying", "pick"] spViewers := ok_lViewers Vw.F
  refine F.ok scLR (fun vs H Q E h => ?_) (fun cdv A outer s H vs Q E hr h => ?_)
  · obtain ⟨v, sy, x, t, rfl, _⟩ := h
    rfl
  · obtain ⟨v, sy, x, t, rfl, D, ok, q⟩ := h
    have hu : (A.deeper (envOfC "_law_reached" (defScope sLReached) s.heap.objs.size f cdv)).units + 64 < cLine := hr.units
    have hu2 : (A.deeper (envOfC "_law_reached" (defScope sLReached) s.heap.objs.size f cdv)).units + 16 < cLine := by omega
    refine ⟨_, pss_cons (ps_par3 (i := 3) (j := 4) (l := 5) rfl scLR.nd rfl rfl rfl (by decide) (by decide) (by decide) rfl rfl rfl
        (pa_cons (pe_call GV hr rfl Vw.g Vw.F.kp Vw.b .nil pass0 (pa_cons (pv 0) (pa_cons (pv 1) pa_nil))) (pa_cons (pe_lst (pa_cons (pe_tup (pa_cons (pv 1) (pa_cons (pv 2) pa_nil))) pa_nil)) (pa_cons (pe_lst pa_nil) pa_nil))) (by with_unfolding_all rfl))
      (pss_cons (ps_while PassesOwn.never (pt_cmpR (op_neP (by exact hu)) (pv 4) (pe_lst pa_nil) (by with_unfolding_all rfl))
        (pss_cons (ps_set (i := 6) scLR.nd rfl (.inl rfl) (pe_bm0 PySem.F.plainAttrs_list PySem.F.slot_list_pop PySem.F.type_list_pop mt_pop (pv 4)))
        (pss_one (ps_for PassesOwn.never rfl (pi_tup (pe_ix ix_tup (pv 0) pe_int (fun _ _ => rfl))) (pg_name (i := 7) scLR.nd rfl (.inl rfl))
          (pss_one (ps_for PassesOwn.never rfl (pi_tup (pv 7)) (pg_name (i := 8) scLR.nd rfl (.inl rfl))
            (pss_one (ps_if (PW.pt (pw_and (pt_cmpR (op_inT (by exact hu2)) (pv 6) (pv 7) (by with_unfolding_all rfl)) (pw_and (pt_cmpR (op_neP (by exact hu)) (pv 8) (pv 6) (by with_unfolding_all rfl))
                (pw_and (pt_cmpR op_in_seq (pe_ix ix_tup (pv 8) pe_int (fun _ _ => rfl)) (pv 3) (by with_unfolding_all rfl)) (pw_and1 (pt_cmpR (op_notInT (by exact hu2)) (pv 8) (pv 5) (by with_unfolding_all rfl)))))))
              (pss_cons (ps_expr (pe_bm PySem.F.plainAttrs_list PySem.F.slot_list_append PySem.F.type_list_append mt_append (pv 5) (pa_cons (pv 8) pa_nil)))
              (pss_one (ps_expr (pe_bm PySem.F.plainAttrs_list PySem.F.slot_list_append PySem.F.type_list_append mt_append (pv 4) (pa_cons (pe_tup (pa_cons (pe_ix ix_tup (pv 8) pe_int (fun _ _ => rfl)) (pa_cons (pe_not (pe_ix ix_tup (pv 8) pe_int (fun _ _ => rfl))) pa_nil))) pa_nil)))))
              pss_nil))))))))
      (pss_one (ps_ret (pe_callB (cr_sortL (by exact hu)) (by rfl) B.sorted (by decide +kernel) (pa_cons (pv 5) pa_nil))))), ?_⟩
    have s2 : 2 ≤ sizeLine := by decide
    obtain ⟨a, pk, ow, cc, rfl, ea, Dp, Do, Dc⟩ := say_row D
    obtain ⟨b, us, rfl, eb, Db⟩ := dat_tup (ds := sy.cls.map clD) Dc
    have lu : us.length = sy.cls.length := by rw [Db.len, List.length_map]
    have lc := ok.cl
    refine ⟨_, rfl, _, rfl, .ref a, sy, x, rfl, D, ok, fun lv H1 S1 hlv ev => ?_⟩
    refine ⟨_, rfl, _, rfl, s2, fun tt htt => ⟨(by show 1 ≤ sizeLine; decide), fun oL hoL => ⟨Nat.zero_le _, fun fL hfL => ⟨_, _, _, rfl, ?_⟩⟩⟩⟩
    have S2 := same_new (o := .tup [V.str x, .bl t]) htt
    have S3 := same_new (o := .lst [V.ref tt]) hoL
    have S4 := same_new (o := .lst []) hfL
    have nvo : lv ≠ oL := ne_of_none (S2 _ _ ev) hoL
    have nof : oL ≠ fL := ne_of_none upd_same hfL
    have nvf : lv ≠ fL := ne_of_none (S3 _ _ (S2 _ _ ev)) hfL
    have hoL0 : H oL = none := (S1.trans S2).free hoL
    have hfL0 : H fL = none := (S1.trans (S2.trans S3)).free hfL
    have L0 : LInv H lv oL fL (vw sy x) (upd (upd (upd H1 tt (.tup [V.str x, .bl t])) oL (.lst [V.ref tt])) fL (.lst [])) [(tt, ltD (x, t))] [] [(x, t)] [] := by
      have e0 := S4 _ _ (S3 _ _ (show upd H1 tt (.tup [V.str x, .bl t]) tt = _ from upd_same))
      refine ⟨S1.trans (S2.trans (S3.trans S4)), S4 _ _ (S3 _ _ (S2 _ _ ev)), S4 _ _ upd_same, rfl, fun q hq => ?_, upd_same, rfl, fun q hq => absurd hq (by simp)⟩
      cases List.mem_singleton.mp hq
      exact .tup e0 (.cons (.str x) (.cons (.bl t) .nil))
    generalize upd (upd (upd H1 tt (.tup [V.str x, .bl t])) oL (.lst [V.ref tt])) fL (.lst []) = H4 at L0 ⊢
    refine ⟨fun m σ H' => ∃ (o6 o7 o8 : Option V) (To Tf : List TRow) (O F : List Ltr), σ = [some (.ref a), some (.str x), some (.bl t), some (.ref lv), some (.ref oL), some (.ref fL), o6, o7, o8] ∧ LInv H lv oL fL (vw sy x) H' To Tf O F ∧ OInv sy (vw sy x) (x, t) O F ∧ m = (28 - F.length) * 2 + O.length,
      ⟨_, none, none, none, _, _, _, _, rfl, L0, OInv.start, rfl⟩, ?_⟩
    rintro m σ H5 ⟨o6, o7, o8, To, Tf, O, F, rfl, L5, i5, rfl⟩
    have DO : Dat H5 (.ref oL) (.list (O.map ltD)) := by rw [← L5.od]; exact .lst L5.o (dats_rows L5.oD)
    refine ⟨_, rfl, Nat.zero_le _, fun te hte => ⟨.list (O.map ltD), .list [], DO.same (same_new hte), .lst upd_same .nil, ?_, rfl, ?_, _, rfl, ?_⟩⟩
    · simp only [PyData.plain]
      clear DO i5 L5
      induction O with
      | nil => rfl
      | cons o O ih => rw [List.map_cons, PyData.plainAll, ih]; rfl
    · have := depths_map ltD 1 depth_lt O
      simp only [PyData.depth]
      omega
    have L6 := L5.same (same_new (o := .lst []) hte)
    generalize upd H5 te (.lst []) = H6 at L6 ⊢
    rcases List.eq_nil_or_concat O with rfl | ⟨O6, l, rfl⟩
    · show if false = true then _ else _
      rw [if_neg (by decide)]
      refine ⟨_, rfl, fL, Tf, rfl, SqL.of L6.f, L6.fD, sorty_of L6.fd alike_lt (fun o => ⟨_, rfl⟩) (fun o => by have := depth_lt o; omega), fun T' b' pm _ up hb => ?_⟩
      have Sb := same_new (o := .lst (T'.map TRow.v)) hb
      obtain ⟨L, pL, eL⟩ := perm_back (f := ltD) ((pm.map Prod.snd).trans (.of_eq L6.fd)) F rfl
      have nT : (Tf.map Prod.snd).Nodup := by
        rw [L6.fd]
        exact List.pairwise_map.mpr (i5.nd.imp fun {x y} ne z => ne (ltD_inj z))
      refine q b' T' L _ (L6.S.trans Sb) (L6.S.free hb) upd_same eL (fun q' hq' => (L6.fD q' (pm.mem_iff.mp hq')).same Sb) ⟨?_, fun m => ?_⟩
      · have u1 : (T'.map Prod.snd).Pairwise fun d e => dataLt d e = true := List.pairwise_map.mpr (up nT)
        rw [eL] at u1
        have u2 : L.Pairwise fun x y => dataLt (ltD x) (ltD y) = true := List.pairwise_map.mp u1
        exact u2
      · rw [pL.mem_iff]
        exact i5.done m
    · rw [List.concat_eq_append] at L6 i5 ⊢
      obtain ⟨To6, p, rfl⟩ : ∃ To6 p, To = To6 ++ [p] := by
        rcases List.eq_nil_or_concat To with rfl | ⟨A6, l', rfl⟩
        · have z := L6.od
          rw [List.map_append] at z
          simp at z
        · exact ⟨A6, l', List.concat_eq_append⟩
      have eod := L6.od
      rw [List.map_append, List.map_append] at eod
      have e2 := List.append_inj' eod rfl
      have ep : p.2 = ltD l := by
        have z := e2.2
        injection z
      have hne : (PyData.eqv (.list ((O6 ++ [l]).map ltD)) (.list [])) = false := by
        rw [List.map_append]
        cases O6 <;> rfl
      rw [hne]
      show if true = true then _ else _
      rw [if_pos rfl]
      refine ⟨_, fun σ' H' z => z, ?_⟩
      refine ⟨_, rfl, .inl ⟨rfl, _, SqL.of L6.o⟩, oL, _, p.v, rfl, rfl, L6.o, by simp, ?_⟩
      rw [show ((To6 ++ [p]).map TRow.v).dropLast = To6.map TRow.v by rw [List.map_append]; simp]
      have Dp6 := L6.oD p (List.mem_append_right _ List.mem_cons_self)
      have K7 : ∀ b xs, H6 b = some (.tup xs) → upd H6 oL (.lst (To6.map TRow.v)) b = some (.tup xs) := tk_put fun xs z => by rw [L6.o] at z; cases z
      have Dl7 : Dat (upd H6 oL (.lst (To6.map TRow.v))) (.ref p.1) (ltD l) := by
        have z := dat_tk K7 _ _ (by rw [ep]; exact keyable_lt l) Dp6
        rw [ep] at z
        exact z
      have L7 := L6.setO (To2 := To6) (O2 := O6) hoL0 nvo nof.symm e2.1 (fun q hq => L6.oD q (List.mem_append_left _ hq))
      have i7 := i5.pop
      generalize upd H6 oL (.lst (To6.map TRow.v)) = H7 at Dl7 L7 ⊢
      have eb7 := L7.S _ _ eb
      refine ⟨_, rfl, a, _, 2, _, rfl, rfl, SqT.of (L7.S _ _ ea), rfl, b, rfl, ⟨_, SqT.of eb7⟩, ?_⟩
      have lO6 : (O6 ++ [l]).length = O6.length + 1 := by rw [List.length_append]; rfl
      have m0 : (28 - F.length) * 2 + O6.length < (28 - F.length) * 2 + (O6 ++ [l]).length := by rw [lO6]; omega
      generalize (28 - F.length) * 2 + (O6 ++ [l]).length = M0 at m0 ⊢
      refine for_tup (K := K) (a := b) (xs := us) (fun j σ H' => ∃ (o7 o8 : Option V) (To Tf : List TRow) (O F : List Ltr), σ = [some (.ref a), some (.str x), some (.bl t), some (.ref lv), some (.ref oL), some (.ref fL), some p.v, o7, o8] ∧ LInv H lv oL fL (vw sy x) H' To Tf O F ∧ EInv sy (vw sy x) (x, t) l O F ∧ Dat H' (.ref p.1) (ltD l) ∧ (∀ m ∈ (sy.cls.take j).flatMap (besC (vw sy x) l), m ∈ F) ∧ (28 - F.length) * 2 + O.length < M0)
        ⟨_, _, _, _, _, _, rfl, L7, i7, Dl7, fun m hm => absurd hm (by simp), m0⟩ (fun j σ H' _ ⟨_, _, _, _, _, _, _, L, _⟩ => SqT.of (L.S _ _ eb)) ?_ ?_
      · rintro j x4 σ H8 hx4 ⟨o7', o8', To8, Tf8, O8, F8, rfl, L8, i8, Dl8, all8, m8⟩
        obtain ⟨d, hd, Dx⟩ := dats_get' Db j x4 hx4
        obtain ⟨cl, hc, rfl⟩ := get_map hd
        have mc := List.mem_of_getElem? hc
        obtain ⟨tc, ls, rfl, etc, Dls⟩ := dat_tup (ds := cl.map ltD) Dx
        have ll : ls.length = cl.length := by rw [Dls.len, List.length_map]
        obtain ⟨Tc, eT, dT, DT⟩ := rows_of_dat Dls (fun d hd => by obtain ⟨o, _, rfl⟩ := List.mem_map.mp hd; exact ⟨_, rfl⟩)
        refine ⟨_, rfl, tc, rfl, ⟨_, SqT.of (L8.S _ _ etc)⟩, ?_⟩
        refine for_tup (K := K) (a := tc) (xs := ls) (fun k σ H' => ∃ (o8 : Option V) (To Tf : List TRow) (O F : List Ltr), σ = [some (.ref a), some (.str x), some (.bl t), some (.ref lv), some (.ref oL), some (.ref fL), some p.v, some (.ref tc), o8] ∧ LInv H lv oL fL (vw sy x) H' To Tf O F ∧ EInv sy (vw sy x) (x, t) l O F ∧ Dat H' (.ref p.1) (ltD l) ∧ (∀ m ∈ (sy.cls.take j).flatMap (besC (vw sy x) l), m ∈ F) ∧ (l ∈ cl → ∀ m ∈ cl.take k, m ≠ l → m.1 ∈ vw sy x → m ∈ F) ∧ (28 - F.length) * 2 + O.length < M0)
          ⟨_, _, _, _, _, rfl, L8, i8, Dl8, all8, fun _ m hm => absurd hm (by simp), m8⟩ (fun k σ H' _ ⟨_, _, _, _, _, _, L, _⟩ => SqT.of (L.S _ _ etc)) ?_ ?_
        · rintro k y σ H9 hy ⟨o8', To9, Tf9, O9, F9, rfl, L9, i9, Dl9, all9, in9, m9⟩
          rw [eT, List.getElem?_map] at hy
          obtain ⟨r, hr, rfl⟩ := Option.map_eq_some_iff.mp hy
          have er : (cl.map ltD)[k]? = some r.2 := by rw [dT, List.getElem?_map, hr]; rfl
          obtain ⟨o, ho, eo⟩ := get_map er
          have Dr := (DT r (List.mem_of_getElem? hr)).same L9.S
          rw [eo] at Dr
          have mo := List.mem_of_getElem? ho
          have KT : ∀ p ∈ Tc, Dat H9 p.v p.2 ∧ keyable p.2 = true ∧ p.2.depth ≤ 8 := fun p hp => ⟨(DT p hp).same L9.S, key_lts dT.symm p hp⟩
          have few := i9.few ok
          have lT9 : Tf9.length = F9.length := by
            have z := congrArg List.length L9.fd
            rw [List.length_map, List.length_map] at z
            exact z
          have lO9 : To9.length = O9.length := by
            have z := congrArg List.length L9.od
            rw [List.length_map, List.length_map] at z
            exact z
          have lO9' := i9.len
          have skip : (l ∈ cl → o ≠ l → o.1 ∈ vw sy x → o ∈ F9) → ∃ (o8 : Option V) (To Tf : List TRow) (O F : List Ltr), [some (.ref a), some (.str x), some (.bl t), some (.ref lv), some (.ref oL), some (.ref fL), some p.v, some (.ref tc), some r.v] = [some (.ref a), some (.str x), some (.bl t), some (.ref lv), some (.ref oL), some (.ref fL), some p.v, some (.ref tc), o8] ∧ LInv H lv oL fL (vw sy x) H9 To Tf O F ∧ EInv sy (vw sy x) (x, t) l O F ∧ Dat H9 (.ref p.1) (ltD l) ∧ (∀ m ∈ (sy.cls.take j).flatMap (besC (vw sy x) l), m ∈ F) ∧ (l ∈ cl → ∀ m ∈ cl.take (k + 1), m ≠ l → m.1 ∈ vw sy x → m ∈ F) ∧ (28 - F.length) * 2 + O.length < M0 := fun z =>
            ⟨_, To9, Tf9, O9, F9, rfl, L9, i9, Dl9, all9, fun hl m hm n1 n2 => by
              rw [take_next ho] at hm
              rcases List.mem_append.mp hm with y | y
              · exact in9 hl m y n1 n2
              · rw [List.mem_singleton.mp y] at n1 n2 ⊢
                exact z hl n1 n2, m9⟩
          refine ⟨_, rfl, _, rfl, p.1, tc, ltD l, Tc, rfl, rfl, .inr (SqT.of (by rw [← eT]; exact L9.S _ _ etc)), KT, Dl9, keyable_lt l, by have := depth_lt l; omega, _, rfl, ?_⟩
          show if inT (ltD l) Tc = true then _ else _
          rw [inT_lt dT.symm]
          by_cases h1 : ¬ l ∈ cl
          · rw [if_neg (by rw [decide_eq_false h1]; decide)]
            show if false = true then _ else _
            rw [if_neg (by decide)]
            exact skip fun z => absurd z h1
          replace h1 := Classical.not_not.mp h1
          rw [if_pos (decide_eq_true h1)]
          refine ⟨_, rfl, _, rfl, ltD o, ltD l, Dr, Dl9, rfl, rfl, by have := depth_lt o; omega, _, rfl, ?_⟩
          show if (!PyData.eqv (ltD o) (ltD l)) = true then _ else _
          rw [eqv_lt]
          by_cases h2 : o = l
          · rw [if_neg (by rw [decide_eq_true h2]; decide)]
            show if false = true then _ else _
            rw [if_neg (by decide)]
            exact skip fun _ z => absurd h2 z
          rw [if_pos (by rw [decide_eq_false h2]; rfl)]
          obtain ⟨ot, ol, eov, eot, Dol⟩ := dat_tup (ds := [.str o.1, .bool o.2]) Dr
          have eov' : r.1 = ot := by injection eov
          subst eov'
          cases Dol with
          | cons z1 t1 =>
          cases t1 with
          | cons z2 t2 =>
          cases t2
          cases z1
          cases z2
          refine ⟨_, rfl, r.1, _, 0, _, rfl, rfl, SqT.of eot, rfl, _, rfl, lv, _, rfl, .inl (SqL.of L9.v), rfl, flat_strs _, _, rfl, ?_⟩
          show if inV (V.str o.1) ((vw sy x).map V.str) = true then _ else _
          rw [inV_str]
          by_cases h3 : ¬ o.1 ∈ vw sy x
          · rw [if_neg (by rw [decide_eq_false h3]; decide)]
            show if false = true then _ else _
            rw [if_neg (by decide)]
            exact skip fun _ _ z => absurd z h3
          replace h3 := Classical.not_not.mp h3
          rw [if_pos (decide_eq_true h3)]
          refine ⟨_, rfl, _, rfl, r.1, fL, ltD o, Tf9, rfl, rfl, .inl (SqL.of L9.f), fun q' hq' => ⟨L9.fD q' hq', key_lts L9.fd q' hq'⟩, Dr, keyable_lt o, by have := depth_lt o; omega, _, rfl, ?_⟩
          show if (!inT (ltD o) Tf9) = true then _ else _
          rw [inT_lt L9.fd]
          by_cases h4 : o ∈ F9
          · rw [if_neg (by rw [decide_eq_true h4]; decide)]
            exact skip fun _ _ _ => h4
          rw [if_pos (by rw [decide_eq_false h4]; rfl)]
          have mb : o ∈ bes sy (vw sy x) l := bes_of mc h1 mo h2 h3
          have i10 := i9.add mb h4
          refine ⟨_, rfl, .inl ⟨rfl, _, SqL.of L9.f⟩, _, rfl, fL, _, _, rfl, rfl, L9.f, by rw [List.length_map]; exact small1000 (by omega), ?_⟩
          rw [show Tf9.map TRow.v ++ [r.v] = (Tf9 ++ [(r.1, ltD o)]).map TRow.v by rw [List.map_append]; rfl]
          have L10 := L9.setF (Tf2 := Tf9 ++ [(r.1, ltD o)]) (F2 := F9 ++ [o]) hfL0 nvf nof (by rw [List.map_append, List.map_append, L9.fd]; rfl) (fun q' hq' => by
            rcases List.mem_append.mp hq' with y | y
            · exact L9.fD q' y
            · cases List.mem_singleton.mp y; exact Dr)
          have K10 : ∀ b xs, H9 b = some (.tup xs) → upd H9 fL (.lst ((Tf9 ++ [(r.1, ltD o)]).map TRow.v)) b = some (.tup xs) := tk_put fun xs z => by rw [L9.f] at z; cases z
          have eot10 := K10 _ _ eot
          have Dl10 := dat_tk K10 _ _ (keyable_lt l) Dl9
          generalize upd H9 fL (.lst ((Tf9 ++ [(r.1, ltD o)]).map TRow.v)) = H10 at L10 eot10 Dl10 ⊢
          refine ⟨_, rfl, .inl ⟨rfl, _, SqL.of L10.o⟩, _, rfl, r.1, _, 0, _, rfl, rfl, SqT.of eot10, rfl, _, rfl, r.1, _, 1, _, rfl, rfl, SqT.of eot10, rfl, _, rfl, s2, fun t9 ht9 => ?_⟩
          have S11 := same_new (o := .tup [V.str o.1, .bl (!o.2)]) ht9
          have e11 : upd H10 t9 (.tup [V.str o.1, .bl (!o.2)]) t9 = some (.tup [V.str o.1, .bl (!o.2)]) := upd_same
          have L11 := L10.same S11
          have Dl11 := Dl10.same S11
          generalize upd H10 t9 (.tup [V.str o.1, .bl (!o.2)]) = H11 at e11 L11 Dl11 ⊢
          refine ⟨oL, _, _, rfl, rfl, L11.o, by rw [List.length_map]; exact small1000 (by omega), ?_⟩
          rw [show To9.map TRow.v ++ [V.ref t9] = (To9 ++ [(t9, ltD (neg o))]).map TRow.v by rw [List.map_append]; rfl]
          have L12 := L11.setO (To2 := To9 ++ [(t9, ltD (neg o))]) (O2 := O9 ++ [neg o]) hoL0 nvo nof.symm (by rw [List.map_append, List.map_append, L11.od]; rfl) (fun q' hq' => by
            rcases List.mem_append.mp hq' with y | y
            · exact L11.oD q' y
            · cases List.mem_singleton.mp y
              exact .tup e11 (.cons (.str o.1) (.cons (.bl _) .nil)))
          have K12 : ∀ b xs, H11 b = some (.tup xs) → upd H11 oL (.lst ((To9 ++ [(t9, ltD (neg o))]).map TRow.v)) b = some (.tup xs) := tk_put fun xs z => by rw [L11.o] at z; cases z
          have few10 := i10.few ok
          rw [List.length_append] at few10
          have few11 : F9.length + 1 ≤ 28 := few10
          refine ⟨_, _, _, _, _, rfl, L12, i10, dat_tk K12 _ _ (keyable_lt l) Dl11, fun m hm => List.mem_append_left _ (all9 m hm), fun hl m hm n1 n2 => ?_, ?_⟩
          · rw [take_next ho] at hm
            rcases List.mem_append.mp hm with y | y
            · exact List.mem_append_left _ (in9 hl m y n1 n2)
            · rw [List.mem_singleton.mp y]
              exact List.mem_append_right _ List.mem_cons_self
          · rw [List.length_append, List.length_append]
            show (28 - (F9.length + 1)) * 2 + (O9.length + 1) < M0
            omega
        · rintro σ H9 ⟨o8', To9, Tf9, O9, F9, rfl, L9, i9, Dl9, all9, in9, m9⟩
          rw [ll, List.take_length] at in9
          refine ⟨_, _, To9, Tf9, O9, F9, rfl, L9, i9, Dl9, fun m hm => ?_, m9⟩
          rw [take_next hc, List.flatMap_append] at hm
          rcases List.mem_append.mp hm with y | y
          · exact all9 m y
          · rw [List.flatMap_cons, List.flatMap_nil, List.append_nil] at y
            unfold besC at y
            by_cases hl : l ∈ cl
            · rw [if_pos hl] at y
              obtain ⟨y1, y2⟩ := List.mem_filter.mp y
              rw [Bool.and_eq_true, decide_eq_true_eq, decide_eq_true_eq] at y2
              exact in9 hl m y1 y2.1 y2.2
            · rw [if_neg hl] at y
              exact absurd y (by simp)
      · rintro σ H9 ⟨o7', o8', To9, Tf9, O9, F9, rfl, L9, i9, Dl9, all9, m9⟩
        rw [lu, List.take_length] at all9
        exact ⟨_, m9, _, _, _, _, _, _, _, rfl, L9, i9.close all9, rfl⟩
end
end S1

set_option Elab.async false
set_option linter.all false
set_option maxRecDepth 100000
set_option maxHeartbeats 4000000
/-! what hangs, as the law finds it -/
namespace S1
open PySem PySem.W PySem.Spec PyProof.Rows L2
theorem reach_ws {s : Say} {ws : List Str} {l0 m : Ltr} (h : Reach s ws l0 m) : m.1 ∈ ws := by
  cases h with
  | start h => exact (bes_mem h).choose_spec.2.2.2.2
  | step _ h => exact (bes_mem h).choose_spec.2.2.2.2
theorem hangR_vw {s : Say} {x n : Str} (h : hangR s x n) : n ∈ vw s x := by
  rcases h with ⟨h, _⟩ | ⟨h, _⟩
  · exact reach_ws h
  · exact reach_ws h
def metB (M N : List Ltr) (n : Str) : Bool := (decide ((n, true) ∈ M) && decide ((n, false) ∈ N)) || (decide ((n, false) ∈ M) && decide ((n, true) ∈ N))
theorem metB_iff {s : Say} {x n : Str} {M N : List Ltr} (h1 : RchOk s (vw s x) (x, true) M) (h2 : RchOk s (vw s x) (x, false) N) : metB M N n = true ↔ hangR s x n := by
  rw [← hangB_iff h1 h2]
  unfold metB hangB
  rw [Bool.or_comm]
def spLHangs : Sp := fun vs H Q _ => ∃ (v : V) (s : Say) (n x : Str), vs = [v, .str n, .str x] ∧ DatS H v s ∧ SayOk 6 8 120 40 s ∧ ∀ (b : Bool) (H' : Hp), Same H H' → (b = true ↔ hangR s x n) → Q (.bl b) H'
/-- a list of reached letters -/
structure RL (H : Hp) (l : Addr) (T : List TRow) (M : List Ltr) : Prop where
  e : H l = some (.lst (T.map TRow.v))
  d : T.map Prod.snd = M.map ltD
  D : ∀ q ∈ T, Dat H q.v q.2
theorem RL.same {H H' : Hp} {l : Addr} {T : List TRow} {M : List Ltr} (h : RL H l T M) (S : Same H H') : RL H' l T M := ⟨S _ _ h.e, h.d, fun q hq => (h.D q hq).same S⟩
section
variable {P : Program} {w : World} {K : PySem.W.Frag} {mg : Str → Option Value} {base : Heap}
/-- (name, truth) in letters -/
theorem in_lst {H : Hp} {l : Addr} {T : List TRow} {M : List Ltr} {Q : VK} (h : RL H l T M) (n : Str) (b : Bool) (k : ∀ H', Same H H' → Q (.bl (decide ((n, b) ∈ M))) H') : 2 ≤ sizeLine ∧ ∀ t, H t = none → rInT K false (.ref t) (.ref l) (upd H t (.tup [.str n, .bl b])) Q := by
  refine ⟨by decide, fun t ht => ?_⟩
  have S := same_new (o := .tup [V.str n, .bl b]) ht
  have h2 := h.same S
  refine ⟨t, l, ltD (n, b), T, rfl, rfl, .inl (SqL.of h2.e), fun p hp => ⟨h2.D p hp, key_lts h2.d p hp⟩, .tup upd_same (.cons (.str n) (.cons (.bl b) .nil)), keyable_lt _, by have := depth_lt (n, b); omega, ?_⟩
  show Q (.bl (inT (ltD (n, b)) T)) _
  rw [inT_lt h2.d]
  exact k _ S
/-- what a reading evaluates to, whatever has been written beside -/
def SEv (t : TE) (σ : L2.St) (H : Hp) (x : V) : Prop := ∀ H1, Same H H1 → ∀ Q : VK, (∀ H2, Same H1 H2 → Q x H2) → t σ H1 Q
theorem sv_and {ta tb : TE} {σ : L2.St} {H : Hp} {a b : Bool} (h1 : SEv ta σ H (.bl a)) (h2 : SEv tb σ H (.bl b)) : SEv (tAndV ta tb) σ H (.bl (a && b)) := fun H1 e Q q => h1 H1 e _ fun H2 e2 => ⟨a, rfl, by
  cases a with
  | true =>
    show tb σ H2 Q
    exact h2 H2 (e.trans e2) Q fun H3 e3 => q H3 (e2.trans e3)
  | false =>
    show Q (.bl false) H2
    exact q H2 e2⟩
theorem sv_or {ta tb : TE} {σ : L2.St} {H : Hp} {a b : Bool} (h1 : SEv ta σ H (.bl a)) (h2 : SEv tb σ H (.bl b)) : SEv (tOrV ta tb) σ H (.bl (a || b)) := fun H1 e Q q => h1 H1 e _ fun H2 e2 => ⟨a, rfl, by
  cases a with
  | true =>
    show Q (.bl true) H2
    exact q H2 e2
  | false =>
    show tb σ H2 Q
    exact h2 H2 (e.trans e2) Q fun H3 e3 => q H3 (e2.trans e3)⟩
theorem sv_in {H : Hp} {l : Addr} {T : List TRow} {M : List Ltr} {σ : L2.St} {n : Str} {i j : Nat} (h : RL H l T M) (b : Bool) (e1 : σ[j]? = some (some (V.str n))) (ei : σ[i]? = some (some (V.ref l))) : SEv (tOp (rInT K false) (tTup (tCons (tVar j) (tCons (tC (V.bl b)) tNil))) (tVar i)) σ H (.bl (decide ((n, b) ∈ M))) := fun H1 S Q q => by
  obtain ⟨hs, k⟩ := in_lst (K := K) (h.same S) n b q
  exact ⟨_, e1, hs, fun t ht => ⟨_, ei, k t ht⟩⟩
theorem scLH : FnScope ["saying", "name", "pick", "yes", "no", "met"] ["saying", "name", "pick"] (defScope sLHangs) := ⟨rfl, rfl, rfl, by decide +kernel, rfl, by decide +kernel, by decide +kernel⟩
theorem ok_lHangs {f fV fR : Addr} {fd fdV fdR : FuncData} (F : Fun K "_law_hangs" "_law_hangs" sLHangs f fd) (Vw : Has K mg "_law_viewers" sLViewers ["saying", "pick"] fV fdV) (Lr : Has K mg "_law_reached" sLReached ["saying", "pick", "truth"] fR fdR) (GR : FnOk P w K mg base CX0 2 fR fdR ["saying", "pick", "truth"] spLReached) :
    FnOk P w K mg base CX0 3 f fd ["saying", "name", "pick"] spLHangs := by
  have GV : FnOk P w K mg base CX0 1 fV fdV ["saying", "pick"] spViewers := ok_lViewers Vw.F
  refine F.ok scLH (fun vs H Q E h => ?_) (fun cdv A outer s H vs Q E hr h => ?_)
  · obtain ⟨v, sy, n, x, rfl, _⟩ := h
    rfl
  · obtain ⟨v, sy, n, x, rfl, D, ok, q⟩ := h
    have hu : (A.deeper (envOfC "_law_hangs" (defScope sLHangs) s.heap.objs.size f cdv)).units + 64 < cLine := hr.units
    have hu2 : (A.deeper (envOfC "_law_hangs" (defScope sLHangs) s.heap.objs.size f cdv)).units + 16 < cLine := by omega
    refine ⟨_, pss_cons (ps_par (i := 3) (j := 4) rfl scLH.nd rfl rfl (by decide) rfl rfl
        (pa_cons (pe_call GR hr rfl Lr.g Lr.F.kp Lr.b .nil pass0 (pa_cons (pv 0) (pa_cons (pv 2) (pa_cons pe_bl pa_nil)))) (pa_cons (pe_call GR hr rfl Lr.g Lr.F.kp Lr.b .nil pass0 (pa_cons (pv 0) (pa_cons (pv 2) (pa_cons pe_bl pa_nil)))) pa_nil)) (by with_unfolding_all rfl))
      (pss_cons (ps_set (i := 5) scLH.nd rfl (.inl rfl) (pe_or (pe_and (pe_cmpR (op_inT (by exact hu2)) (pe_tup (pa_cons (pv 1) (pa_cons pe_bl pa_nil))) (pv 3) (by with_unfolding_all rfl)) (pe_one (pe_cmpR (op_inT (by exact hu2)) (pe_tup (pa_cons (pv 1) (pa_cons pe_bl pa_nil))) (pv 4) (by with_unfolding_all rfl))))
          (pe_one (pe_and (pe_cmpR (op_inT (by exact hu2)) (pe_tup (pa_cons (pv 1) (pa_cons pe_bl pa_nil))) (pv 3) (by with_unfolding_all rfl)) (pe_one (pe_cmpR (op_inT (by exact hu2)) (pe_tup (pa_cons (pv 1) (pa_cons pe_bl pa_nil))) (pv 4) (by with_unfolding_all rfl)))))))
      (pss_one (ps_ret (pe_and (pe_cmpR op_in_seq (pv 1) (pe_call GV (hr.mono (by decide)) rfl Vw.g Vw.F.kp Vw.b .nil pass0 (pa_cons (pv 0) (pa_cons (pv 2) pa_nil))) (by with_unfolding_all rfl)) (pe_one (pv 5)))))), ?_⟩
    refine ⟨_, rfl, _, rfl, v, sy, x, true, rfl, D, ok, fun ly T1 M H1 S1 hly ey dy Dy ry => ?_⟩
    refine ⟨_, rfl, _, rfl, v, sy, x, false, rfl, D.same S1, ok, fun ln T2 N H2 S2 hln en dn Dn rn => ⟨_, _, rfl, ?_⟩⟩
    have RY : RL H2 ly T1 M := (RL.mk ey dy Dy).same S2
    have RN : RL H2 ln T2 N := ⟨en, dn, Dn⟩
    have em := sv_or (sv_and (sv_in (K := K) (σ := [some v, some (V.str n), some (V.str x), some (V.ref ly), some (V.ref ln), none]) (n := n) (i := 3) (j := 1) RY true rfl rfl) (sv_in (K := K) (n := n) (i := 4) (j := 1) RN false rfl rfl)) (sv_and (sv_in (K := K) (n := n) (i := 3) (j := 1) RY false rfl rfl) (sv_in (K := K) (n := n) (i := 4) (j := 1) RN true rfl rfl))
    refine em H2 (Same.refl _) _ fun H3 S3 => ?_
    have S13 := S1.trans (S2.trans S3)
    show ∃ x, _
    refine ⟨_, rfl, _, rfl, _, rfl, v, sy, x, rfl, D.same S13, ok, fun l H4 S4 _ e4 => ⟨l, _, rfl, .inl (SqL.of e4), rfl, flat_strs _, ?_⟩⟩
    have iff : (decide ((n, true) ∈ M) && decide ((n, false) ∈ N) || decide ((n, false) ∈ M) && decide ((n, true) ∈ N)) = true ↔ hangR sy x n := metB_iff ry rn
    have S14 := S13.trans S4
    refine ⟨_, rfl, ?_⟩
    show if inV (V.str n) ((vw sy x).map V.str) = true then _ else _
    rw [inV_str]
    by_cases hn : n ∈ vw sy x
    · rw [if_pos (decide_eq_true hn)]
      exact ⟨_, rfl, q _ _ S14 iff⟩
    · rw [if_neg (by simp [hn])]
      exact q _ _ S14 ⟨fun h => (nomatch h), fun h => absurd (hangR_vw h) hn⟩
end
end S1

set_option Elab.async false
set_option linter.all false
set_option maxRecDepth 100000
set_option maxHeartbeats 4000000
/-! all that is idle, as the law finds it -/
namespace S1
open PySem PySem.W PySem.Spec PyProof.Rows L2
theorem metB_hangB (M N : List Ltr) (n : Str) : metB M N n = hangB M N n := by
  unfold metB hangB
  rw [Bool.or_comm]
theorem RL.put {H : Hp} {l fl : Addr} {T : List TRow} {M : List Ltr} {zs ys : List V} (h : RL H l T M) (e : H fl = some (.lst zs)) (n : l ≠ fl) : RL (upd H fl (.lst ys)) l T M :=
  ⟨by rw [upd_ne n]; exact h.e, h.d, fun q hq => dat_tk (tk_put fun xs z => by rw [e] at z; cases z) _ _ (key_lts h.d q hq).1 (h.D q hq)⟩
/-- what a test tells, whatever has been written beside -/
def STt (t : TT) (σ : L2.St) (H : Hp) (b : Bool) : Prop := ∀ H1, Same H H1 → ∀ Q : Bool → Hp → Prop, (∀ H2, Same H1 H2 → Q b H2) → t σ H1 Q
theorem st_and {ta tb : TT} {σ : L2.St} {H : Hp} {a b : Bool} (h1 : STt ta σ H a) (h2 : STt tb σ H b) : STt (tAnd ta tb) σ H (a && b) := fun H1 e Q q => h1 H1 e _ fun H2 e2 => by
  cases a with
  | true =>
    show tb σ H2 Q
    exact h2 H2 (e.trans e2) Q fun H3 e3 => q H3 (e2.trans e3)
  | false =>
    show Q false H2
    exact q H2 e2
theorem st_or {ta tb : TT} {σ : L2.St} {H : Hp} {a b : Bool} (h1 : STt ta σ H a) (h2 : STt tb σ H b) : STt (tOr ta tb) σ H (a || b) := fun H1 e Q q => h1 H1 e _ fun H2 e2 => by
  cases a with
  | true =>
    show Q true H2
    exact q H2 e2
  | false =>
    show tb σ H2 Q
    exact h2 H2 (e.trans e2) Q fun H3 e3 => q H3 (e2.trans e3)
theorem st_not {t : TT} {σ : L2.St} {H : Hp} {a : Bool} (h : STt t σ H a) : STt (tNot t) σ H (!a) := fun H1 e _ q => h H1 e _ fun H2 e2 => q H2 e2
theorem st_in {K : PySem.W.Frag} {H : Hp} {l : Addr} {T : List TRow} {M : List Ltr} {σ : L2.St} {n : Str} {i j : Nat} (h : RL H l T M) (b : Bool) (e1 : σ[j]? = some (some (V.str n))) (ei : σ[i]? = some (some (V.ref l))) : STt (tTest (tOp (rInT K false) (tTup (tCons (tVar j) (tCons (tC (V.bl b)) tNil))) (tVar i))) σ H (decide ((n, b) ∈ M)) := fun H1 S Q q =>
  sv_in (K := K) (i := i) (j := j) h b e1 ei H1 S _ fun H2 S2 => ⟨_, rfl, q H2 S2⟩
theorem ifS_of {c : TT} {t u : TS} {D : _} {σ : L2.St} {H : Hp} (h : c σ H fun b H1 => if b = true then t D σ H1 else u D σ H1) : tIfS c t u D σ H := h
abbrev nLI : List Str := ["saying", "found", "pick", "yes", "no", "name"]
section
variable {P : Program} {w : World} {K : PySem.W.Frag} {mg : Str → Option Value} {base : Heap}
theorem scLI : FnScope nLI ["saying"] (defScope sLIdle) := ⟨rfl, rfl, rfl, by decide +kernel, rfl, by decide +kernel, by decide +kernel⟩
theorem ok_lIdle {f fV fR : Addr} {fd fdV fdR : FuncData} (F : Fun K "_law_idle" "_law_idle" sLIdle f fd) (B : Blt mg) (Vw : Has K mg "_law_viewers" sLViewers ["saying", "pick"] fV fdV) (Lr : Has K mg "_law_reached" sLReached ["saying", "pick", "truth"] fR fdR) (GR : FnOk P w K mg base CX0 2 fR fdR ["saying", "pick", "truth"] spLReached) :
    FnOk P w K mg base CX0 3 f fd ["saying"] spAllIdle := by
  have GV : FnOk P w K mg base CX0 1 fV fdV ["saying", "pick"] spViewers := ok_lViewers Vw.F
  refine F.ok scLI (fun vs H Q E h => ?_) (fun cdv A outer s H vs Q E hr h => ?_)
  · obtain ⟨v, sy, rfl, _⟩ := h
    rfl
  · obtain ⟨v, sy, rfl, D, ok, q⟩ := h
    have hu : (A.deeper (envOfC "_law_idle" (defScope sLIdle) s.heap.objs.size f cdv)).units + 64 < cLine := hr.units
    have hu2 : (A.deeper (envOfC "_law_idle" (defScope sLIdle) s.heap.objs.size f cdv)).units + 16 < cLine := by omega
    refine ⟨_, pss_cons (ps_set (i := 1) scLI.nd rfl (.inl rfl) (pe_lst pa_nil))
      (pss_cons (ps_for PassesOwn.never rfl (pi_tup (pe_ix ix_tup (pv 0) pe_int (fun _ _ => rfl))) (pg_name (i := 2) scLI.nd rfl (.inl rfl))
        (pss_cons (ps_par (i := 3) (j := 4) rfl scLI.nd rfl rfl (by decide) rfl rfl
            (pa_cons (pe_call GR hr rfl Lr.g Lr.F.kp Lr.b .nil pass0 (pa_cons (pv 0) (pa_cons (pv 2) (pa_cons pe_bl pa_nil)))) (pa_cons (pe_call GR hr rfl Lr.g Lr.F.kp Lr.b .nil pass0 (pa_cons (pv 0) (pa_cons (pv 2) (pa_cons pe_bl pa_nil)))) pa_nil)) (by with_unfolding_all rfl))
        (pss_one (ps_for PassesOwn.never rfl (pi_list (pe_call GV (hr.mono (by decide)) rfl Vw.g Vw.F.kp Vw.b .nil pass0 (pa_cons (pv 0) (pa_cons (pv 2) pa_nil)))) (pg_name (i := 5) scLI.nd rfl (.inl rfl))
          (pss_one (ps_if (pt_not (PW.pt (pw_or (PW.pt (pw_and (pt_cmpR (op_inT (by exact hu2)) (pe_tup (pa_cons (pv 5) (pa_cons pe_bl pa_nil))) (pv 3) (by with_unfolding_all rfl)) (pw_and1 (pt_cmpR (op_inT (by exact hu2)) (pe_tup (pa_cons (pv 5) (pa_cons pe_bl pa_nil))) (pv 4) (by with_unfolding_all rfl)))))
              (pw_or1 (PW.pt (pw_and (pt_cmpR (op_inT (by exact hu2)) (pe_tup (pa_cons (pv 5) (pa_cons pe_bl pa_nil))) (pv 3) (by with_unfolding_all rfl)) (pw_and1 (pt_cmpR (op_inT (by exact hu2)) (pe_tup (pa_cons (pv 5) (pa_cons pe_bl pa_nil))) (pv 4) (by with_unfolding_all rfl)))))))))
            (pss_one (ps_expr (pe_bm PySem.F.plainAttrs_list PySem.F.slot_list_append PySem.F.type_list_append mt_append (pv 1) (pa_cons (pe_tup (pa_cons (pv 5) (pa_cons (pv 2) pa_nil))) pa_nil))))
            pss_nil))))))
      (pss_one (ps_ret (pe_callB (cr_sortL (by exact hu)) (by rfl) B.sorted (by decide +kernel) (pa_cons (pv 1) pa_nil))))), ?_⟩
    have s2 : 2 ≤ sizeLine := by decide
    have D' := D
    obtain ⟨a, pk, ow, cc, rfl, ea, Dp, Do, Dc⟩ := say_row D
    obtain ⟨b, us, rfl, eb, Db⟩ := dat_tup (ds := sy.picks.map PyData.str) Dp
    cases dats_strs_eq Db
    have lp := ok.pl
    refine ⟨Nat.zero_le _, fun D0 hD0 => ?_⟩
    refine ⟨_, rfl, a, _, 0, _, rfl, rfl, SqT.of (same_new hD0 _ _ ea), rfl, b, rfl, ⟨_, SqT.of (same_new hD0 _ _ eb)⟩, ?_⟩
    refine for_tup (K := K) (a := b) (xs := sy.picks.map V.str) (fun j σ H4 => ∃ (o2 o3 o4 o5 : Option V) (T4 : List TRow) (L : List Pr), σ = [some (.ref a), some (.ref D0), o2, o3, o4, o5] ∧ H4 D0 = some (.lst (T4.map TRow.v)) ∧ T4.map Prod.snd = L.map prD ∧ (∀ q' ∈ T4, Dat H4 q'.v q'.2) ∧ IdleTo sy (sy.picks.take j) L ∧ Same H H4)
      ⟨_, _, _, _, [], [], rfl, upd_same, rfl, fun q' hq' => absurd hq' (by simp), ⟨List.nodup_nil, fun q => by simp, Nat.zero_le _⟩, same_new hD0⟩ (fun j σ H4 _ ⟨_, _, _, _, _, _, _, _, _, _, _, S4⟩ => SqT.of (S4 _ _ eb)) ?_ ?_
    · rintro j x4 σ H4 hx4 ⟨o2, o3, o4, o5, T4, L, rfl, e4, d4, D4, i4, S4⟩
      rw [List.getElem?_map] at hx4
      obtain ⟨x, hx, rfl⟩ := Option.map_eq_some_iff.mp hx4
      have jl : j < sy.picks.length := (List.getElem?_eq_some_iff.mp hx).1
      refine ⟨_, rfl, _, rfl, .ref a, sy, x, true, rfl, D.same S4, ok, fun ly T1 M H5 S5 hly ey dy Dy ry => ?_⟩
      refine ⟨_, rfl, _, rfl, .ref a, sy, x, false, rfl, D.same (S4.trans S5), ok, fun ln T2 N H6 S6 hln en dn Dn rn => ⟨_, _, rfl, ?_⟩⟩
      refine ⟨_, rfl, _, rfl, .ref a, sy, x, rfl, D.same (S4.trans (S5.trans S6)), ok, fun lv H7 S7 hlv ev => ⟨lv, rfl, ⟨_, SqL.of ev⟩, ?_⟩⟩
      have RY : RL H7 ly T1 M := (RL.mk ey dy Dy).same (S6.trans S7)
      have RN : RL H7 ln T2 N := (RL.mk en dn Dn).same S7
      have S57 := S5.trans (S6.trans S7)
      have ny : ly ≠ D0 := fun z => by rw [z] at hly; rw [hly] at e4; cases e4
      have nn : ln ≠ D0 := fun z => by rw [z] at hln; rw [S5 _ _ e4] at hln; cases hln
      have nv : lv ≠ D0 := fun z => by rw [z] at hlv; rw [S6 _ _ (S5 _ _ e4)] at hlv; cases hlv
      have lw := vw_len ok x
      have len4 : T4.length ≤ 48 := by
        have z := congrArg List.length d4
        rw [List.length_map, List.length_map] at z
        have y := i4.len
        rw [List.length_take] at y
        omega
      refine for_list (K := K) (a := lv) (xs := (vw sy x).map V.str) (fun k σ H8 => ∃ (o5 : Option V) (T5 : List TRow), σ = [some (.ref a), some (.ref D0), some (.str x), some (.ref ly), some (.ref ln), o5] ∧ H8 D0 = some (.lst (T5.map TRow.v)) ∧ T5.map Prod.snd = (L ++ (((vw sy x).take k).filter fun n => !metB M N n).map fun n => (n, x)).map prD ∧ (∀ q' ∈ T5, Dat H8 q'.v q'.2) ∧ Same H H8 ∧ H8 lv = some (.lst ((vw sy x).map V.str)) ∧ RL H8 ly T1 M ∧ RL H8 ln T2 N)
        ⟨_, T4, rfl, S57 _ _ e4, by simpa using d4, fun q' hq' => (D4 q' hq').same S57, S4.trans S57, ev, RY, RN⟩ (fun k σ H8 _ ⟨_, _, _, _, _, _, _, e, _⟩ => SqL.of e) ?_ ?_
      · rintro k y σ H8 hy ⟨o5', T5, rfl, e8, d8, D8, S8, v8, y8, n8⟩
        rw [List.getElem?_map] at hy
        obtain ⟨n, hn, rfl⟩ := Option.map_eq_some_iff.mp hy
        have kl : k < (vw sy x).length := (List.getElem?_eq_some_iff.mp hn).1
        have em := st_not (st_or (st_and (st_in (K := K) (σ := [some (.ref a), some (.ref D0), some (.str x), some (.ref ly), some (.ref ln), some (.str n)]) (n := n) (i := 3) (j := 5) y8 true rfl rfl) (st_in (K := K) (n := n) (i := 4) (j := 5) n8 false rfl rfl)) (st_and (st_in (K := K) (n := n) (i := 3) (j := 5) y8 false rfl rfl) (st_in (K := K) (n := n) (i := 4) (j := 5) n8 true rfl rfl)))
        refine ifS_of ?_
        refine em H8 (Same.refl _) _ fun H9 S9 => ?_
        have em2 : (!(decide ((n, true) ∈ M) && decide ((n, false) ∈ N) || decide ((n, false) ∈ M) && decide ((n, true) ∈ N))) = !metB M N n := rfl
        rw [em2]
        have e9 := S9 _ _ e8
        have len5 : T5.length ≤ 60 := by
          have z := congrArg List.length d8
          rw [List.length_map, List.length_map, List.length_append, List.length_map] at z
          have z2 := List.length_filter_le (fun n => !metB M N n) ((vw sy x).take k)
          rw [List.length_take] at z2
          have y := congrArg List.length d4
          rw [List.length_map, List.length_map] at y
          omega
        have kq : ∀ q' ∈ T5, keyable q'.2 = true := fun q' hq' => by
          have m2 : q'.2 ∈ (L ++ (((vw sy x).take k).filter fun n => !metB M N n).map fun n => (n, x)).map prD := d8 ▸ List.mem_map_of_mem hq'
          obtain ⟨z, _, hz⟩ := List.mem_map.mp m2
          rw [← hz]
          exact keyable_pr z
        cases hm : metB M N n with
        | true =>
          show if false = true then _ else _
          rw [if_neg (by decide)]
          refine ⟨_, T5, rfl, e9, ?_, fun q' hq' => (D8 q' hq').same S9, S8.trans S9, S9 _ _ v8, y8.same S9, n8.same S9⟩
          have eo : [n].filter (fun n => !metB M N n) = [] := by simp [hm]
          rw [take_next hn, List.filter_append, eo, List.append_nil]
          exact d8
        | false =>
          show if true = true then _ else _
          rw [if_pos rfl]
          refine ⟨_, rfl, .inl ⟨rfl, _, SqL.of e9⟩, _, rfl, _, rfl, s2, fun t ht => ?_⟩
          have S10 := same_new (o := .tup [V.str n, .str x]) ht
          have e10 := S10 _ _ e9
          refine ⟨D0, _, _, rfl, rfl, e10, by rw [List.length_map]; exact small1000 (by omega), ?_⟩
          have S910 := S9.trans S10
          refine ⟨_, T5 ++ [(t, prD (n, x))], rfl, by rw [upd_same, List.map_append]; rfl, ?_, fun q' hq' => ?_, same_upd (S8.trans S910) hD0, by rw [upd_ne nv]; exact S910 _ _ v8, (y8.same S910).put e10 ny, (n8.same S910).put e10 nn⟩
          · have eo : [n].filter (fun n => !metB M N n) = [n] := by simp [hm]
            rw [List.map_append, d8, take_next hn, List.filter_append, eo, List.map_append, List.map_append, List.map_append, List.map_append, List.append_assoc]
            rfl
          · rcases List.mem_append.mp hq' with m | m
            · exact dat_upd e10 (kq q' m) ((D8 q' m).same S910)
            · cases List.mem_singleton.mp m
              exact dat_upd e10 (keyable_pr _) (.tup upd_same (.cons (.str n) (.cons (.str x) .nil)))
      · rintro σ H8 ⟨o5', T5, rfl, e8, d8, D8, S8, v8, y8, n8⟩
        rw [List.length_map, List.take_length] at d8
        refine ⟨_, _, _, _, T5, _, rfl, e8, d8, D8, ?_, S8⟩
        rw [take_next hx]
        refine i4.next ok (fun z => ?_) ⟨M, N, ry, rn, List.filter_congr fun n _ => by rw [metB_hangB]⟩
        have nd := nodup_tlt ok.pu
        obtain ⟨i, hi, e⟩ := List.mem_take_iff_getElem.mp z
        have h1 := (List.getElem?_eq_some_iff.mp hx)
        obtain ⟨hj, ej⟩ := h1
        have := (List.getElem_inj nd).mp (e.trans ej.symm)
        omega
    · rintro σ H4 ⟨o2, o3, o4, o5, T4, L, rfl, e4, d4, D4, i4, S4⟩
      rw [List.length_map, List.take_length] at i4
      refine ⟨_, rfl, D0, T4, rfl, SqL.of e4, D4, sorty_of d4 alike_pr (fun x => ⟨_, rfl⟩) (fun x => by have := depth_pr x; omega), fun T' b' pm _ up hb => ?_⟩
      have Sb := same_new (o := .lst (T'.map TRow.v)) hb
      obtain ⟨L', pL, eL⟩ := perm_back (f := prD) ((pm.map Prod.snd).trans (.of_eq d4)) L rfl
      have nT : (T4.map Prod.snd).Nodup := by
        rw [d4]
        exact List.pairwise_map.mpr (i4.nd.imp fun {x y} ne z => ne (prD_inj z))
      refine q b' T' L' _ (S4.trans Sb) (S4.free hb) upd_same eL (fun q' hq' => (D4 q' (pm.mem_iff.mp hq')).same Sb) ⟨?_, fun q' => ?_⟩
      · have u1 : (T'.map Prod.snd).Pairwise fun d e => dataLt d e = true := List.pairwise_map.mpr (up nT)
        rw [eL] at u1
        have u2 : L'.Pairwise fun x y => dataLt (prD x) (prD y) = true := List.pairwise_map.mp u1
        exact u2
      · rw [pL.mem_iff]
        exact i4.mem q'
end
end S1

set_option Elab.async false
set_option linter.all false
set_option maxRecDepth 100000
set_option maxHeartbeats 4000000
namespace L2
open PySem PySem.Spec PyProof.Rows
section
variable {X : Cx}
def rReprV : List V → Hp → VK → Prop := fun xs H Q => ∃ v d Hv, xs = [v] ∧ (∀ (P : Program) (w : World) (h : Heap), HOk P w H h → HOk P w Hv h) ∧ Dat Hv v d ∧ d.showable = true ∧ d.depth ≤ 50 ∧ d.shown.length ≤ sizeLine ∧ Q (.str d.shown) H
theorem call_reprV (hg : X.A.guards = some []) (hu : X.A.units + 64 < cLine) : CallR X (.builtin "repr") rReprV := by
  intro pins s σ H xs us Q I r h
  obtain ⟨v, d, Hv, rfl, th, D, hs, hd, hz, q⟩ := h
  have hk0 := th X.prog X.w s.heap I.hok
  obtain ⟨u, rfl, ru⟩ := vals1 r
  have fin : ∀ (h' : Heap) (tk tk' : Tok), (∀ b o, s.heap.get? b = some o → h'.get? b = some o) → EP X pins σ Q (.str d.shown tk') { s with heap := h', toks := tk } := fun h' tk tk' k => ⟨.str d.shown, H, I.kept (t' := tk) k, ⟨_, rfl⟩, q⟩
  have nl : ∀ {b : Addr}, Clear ([] : List Code) b := fun {b} => Clear.nil b
  cases D with
  | non =>
    cases (show _ = Value.none from ru)
    simp only [PyData.shown] at fin
    exact PySem.P.repr_of_none (fin s.heap _ _ fun _ _ e => e)
  | bl b =>
    cases (show _ = Value.bool b from ru)
    simp only [PyData.shown] at fin
    exact PySem.P.repr_of_bool (fin s.heap _ _ fun _ _ e => e)
  | int i =>
    obtain ⟨t, rfl⟩ := ru
    simp only [PyData.shown] at fin
    exact PySem.P.repr_of_int (by simpa [PyData.showable] using hs) (fin s.heap _ _ fun _ _ e => e)
  | str x =>
    obtain ⟨t, rfl⟩ := ru
    simp only [PyData.shown] at fin
    exact PySem.P.repr_of_str (fin s.heap _ _ fun _ _ e => e) (by simpa only [PyData.shown] using hz)
  | @lst a xs ds e hh =>
    obtain ⟨as, R0⟩ := reads_of_dat hk0 (Dat.lst e hh) ru
    cases (show _ = Value.ref a from ru)
    obtain ⟨_, its, n, rv, e1⟩ := (show ObjOk X.prog X.w Hv s.heap a (.lst _) from hk0 a _ e)
    have hz' : (listText (PyData.shownAll ds)).length ≤ sizeLine := by simpa only [PyData.shown] using hz
    obtain ⟨bs, hb, hk⟩ := reprAllK_of_dat hk0 hh rv (by simpa [PyData.showable] using hs) (fun t ht => Nat.le_trans (listText_mem_le ht) hz')
    have hna : a ∉ bs := not_mem_of_deeper R0 (by simp only [PyData.depth]; omega) hb
    simp only [PyData.shown] at fin
    simp only [PyData.depth] at hd
    refine call_repr_slot (by omega) ⟨_, e1, rfl⟩ F.slot_list_repr.toG ?_
    cases its with
    | nil =>
      cases rv
      cases hh
      simp only [PyData.shownAll, listText_nil] at fin
      exact call_list_repr_empty ⟨_, e1, rfl⟩ e1 rfl ⟨_, _, rfl, fin s.heap _ _ fun _ _ e => e⟩
    | cons x l =>
      exact call_list_reprK (h₀ := s.heap) e1 rfl rfl hna (by simpa using hk.length_eq) (fun i y e => hk.item i y (by simpa using e)) hg (fun b _ => Clear.nil b) (by show X.A.units + 1 + _ < cLine; omega) (fun _ _ e => e) (fun h' u tk k => ⟨_, _, rfl, fin h' tk u k⟩) hz'
  | @tup a xs ds e hh =>
    obtain ⟨as, R0⟩ := reads_of_dat hk0 (Dat.tup e hh) ru
    cases (show _ = Value.ref a from ru)
    obtain ⟨_, its, rv, o, e1, e2, n, e3⟩ := (show ObjOk X.prog X.w Hv s.heap a (.tup _) from hk0 a _ e)
    have hz' : (tupleText (PyData.shownAll ds)).length ≤ sizeLine := by simpa only [PyData.shown] using hz
    obtain ⟨bs, hb, hk⟩ := reprAllK_of_dat hk0 hh rv (by simpa [PyData.showable] using hs) (fun t ht => Nat.le_trans (tupleText_mem_le ht) hz')
    have hna : a ∉ bs := not_mem_of_deeper R0 (by simp only [PyData.depth]; omega) hb
    simp only [PyData.shown] at fin
    simp only [PyData.depth] at hd
    refine call_repr_slot (by omega) ⟨_, e1, e2⟩ F.slot_tuple_repr ?_
    exact call_tuple_reprK (h₀ := s.heap) e1 e2 e3 hna (by simpa using hk) hg (fun b _ => Clear.nil b) (by show X.A.units + 1 + _ < cLine; omega) (fun _ _ e => e) (fun h' u tk k => ⟨_, _, rfl, fin h' tk u k⟩) hz'
  | @dct a kvs ds e hh =>
    obtain ⟨as, R0⟩ := reads_of_dat hk0 (Dat.dct e hh) ru
    cases (show _ = Value.ref a from ru)
    obtain ⟨_, hsys, vs, rv, o, es, ep, e1, e2, e3, e4, e5, e6⟩ := (show ObjOk X.prog X.w Hv s.heap a (.dK _) from hk0 a _ e)
    have hz' : (dictText (PyData.shownKv ds)).length ≤ sizeLine := by simpa only [PyData.shown] using hz
    obtain ⟨hs1, hs2⟩ := PyData.showableKv_split ds (by simpa [PyData.showable] using hs)
    have k1 : ReprAllK X.prog X.w [] s.heap (PyData.depthKv ds) (es.toList.map (·.key)) (PyData.shownAll (ds.map (·.1))) := reprKeys_of hh rv e5 hs1 (fun t ht => let ⟨p, hp, hl⟩ := PyData.shownKv_key_le ds t ht; Nat.le_trans hl (Nat.le_trans (dictText_mem_le hp) hz'))
    obtain ⟨b2, hb2, k2⟩ := reprVals_of_dat hk0 hh rv e5 hs2 (fun t ht => let ⟨p, hp, hl⟩ := PyData.shownKv_val_le ds t ht; Nat.le_trans hl (Nat.le_trans (dictText_mem_le hp) hz'))
    have hb : ReadAtMost s.heap (PyData.depthKv ds) b2 := hb2.mono (PyData.depthAll_vals_le ds)
    have hna : a ∉ b2 := not_mem_of_deeper R0 (by simp only [PyData.depth]; omega) hb
    simp only [PyData.shown, PyData.shownKv_eq] at fin
    simp only [PyData.depth] at hd
    refine call_repr_slot (by omega) ⟨_, e1, e2.1⟩ F.slot_dict_repr ?_
    exact call_dict_reprK (h₀ := s.heap) e1 e2.1 e3 hsys hna (ReprEntriesK.of_two es.toList _ _ (k1.more_le (fun b hb => absurd hb (by simp)) (Nat.le_refl _)) (k2.more_le (fun b hb => hb) (PyData.depthAll_vals_le ds)))
      hg (fun b _ => Clear.nil b) (by show X.A.units + 1 + _ < cLine; omega) (fun _ _ e => e) (fun h' u tk k => ⟨_, _, rfl, fin h' tk u k⟩) (by rw [← PyData.shownKv_eq]; exact hz')
end
end L2
/-! what is the same is told to be the same, by its text -/
namespace S1
open PySem PySem.W PySem.Spec PyProof.Rows L2
/-- may be shown -/
structure Rpr (e : PyData) : Prop where
  s : e.showable = true
  d : e.depth ≤ 50
  z : e.shown.length ≤ sizeLine
/-- a datum, some of whose tuples may be known to the last -/
def DatV (H : Hp) (v : V) (d : PyData) : Prop := ∃ Hv : Hp, (∀ (P : Program) (w : World) (h : Heap), HOk P w H h → HOk P w Hv h) ∧ Dat Hv v d
theorem DatV.of {H : Hp} {v : V} {d : PyData} (h : Dat H v d) : DatV H v d := ⟨H, fun _ _ _ z => z, h⟩
theorem thaw_ok {H : Hp} {b : Addr} {us : List V} (z : FZ H b us) (P : Program) (w : World) (h : Heap) (ok : HOk P w H h) : HOk P w (upd H b (.tup us)) h := fun a o e => by
  obtain ⟨ob, hd, eb⟩ := z
  by_cases n : a = b
  · subst n
    rw [upd_same] at e
    cases e
    have x := ok a _ eb
    exact ObjOk.stay (show ObjOk P w H h a (.tup us) from x.2) (fun _ _ _ e => e) (fun c ec => by rw [upd_ne (fun q => by rw [q, eb] at ec; cases ec)]; exact ec) (fun c xs ec => by rw [upd_ne (fun q => by rw [q, eb] at ec; cases ec)]; exact ec)
  · rw [upd_ne n] at e
    exact ObjOk.stay (ok a o e) (fun _ _ _ e => e) (fun c ec => by rw [upd_ne (fun q => by rw [q, eb] at ec; cases ec)]; exact ec) (fun c xs ec => by rw [upd_ne (fun q => by rw [q, eb] at ec; cases ec)]; exact ec)
theorem datF_v {H : Hp} {v : V} {s : Say} (D : DatF H v s) : DatV H v s.d := by
  obtain ⟨a, p, o, c, rfl, ea, Dp, ⟨b, us, rfl, z, Du⟩, Dc⟩ := D
  have K : ∀ x xs, H x = some (.tup xs) → upd H b (.tup us) x = some (.tup xs) := fun x xs e => by
    obtain ⟨ob, hd, eb⟩ := z
    rw [upd_ne (fun q => by rw [q, eb] at e; cases e)]
    exact e
  exact ⟨upd H b (.tup us), thaw_ok z, .tup (K _ _ ea) (.cons (dat_tk K _ _ (keyable_nms _) Dp) (.cons (.tup upd_same (dats_tk K _ _ (keyables_map ownD keyable_own s.owns) Du)) (.cons (dat_tk K _ _ (keyables_map clD keyable_cl s.cls) Dc) .nil)))⟩
def spLSame : Sp := fun vs H Q _ => ∃ (x y : V) (d : PyData), vs = [x, y] ∧ DatV H x d ∧ DatV H y d ∧ Rpr d ∧ Q (.bl true) H
section
variable {P : Program} {w : World} {K : PySem.W.Frag} {mg : Str → Option Value} {base : Heap}
theorem scLSm : FnScope ["told", "due"] ["told", "due"] (defScope sLSame) := ⟨rfl, rfl, rfl, by decide +kernel, rfl, by decide +kernel, by decide +kernel⟩
theorem ok_lSame {f : Addr} {fd : FuncData} (F : Fun K "_law_same" "_law_same" sLSame f fd) (zr : mg "repr" = none) : FnOkG P w K mg base 1 f fd ["told", "due"] spLSame := by
  refine F.okG scLSm (fun vs H Q E h => ?_) (fun cdv A outer s H vs Q E hG0 hr h => ?_)
  · obtain ⟨x, y, d, rfl, _⟩ := h
    rfl
  · obtain ⟨x, y, d, rfl, D1, D2, r, q⟩ := h
    have hG : (A.deeper (envOfC "_law_same" (defScope sLSame) s.heap.objs.size f cdv)).guards = some [] := hG0
    have hu : (A.deeper (envOfC "_law_same" (defScope sLSame) s.heap.objs.size f cdv)).units + 64 < cLine := hr.units
    refine ⟨_, pss_one (ps_ret (pe_cmpR op_eq (pe_callB (call_reprV hG (by exact hu)) (by rfl) zr (by decide +kernel) (pa_cons (pv 0) pa_nil)) (pe_callB (call_reprV hG (by exact hu)) (by rfl) zr (by decide +kernel) (pa_cons (pv 1) pa_nil)) (nomark _))), ?_⟩
    obtain ⟨H1, t1, D1⟩ := D1
    obtain ⟨H2, t2, D2⟩ := D2
    refine ⟨_, rfl, x, d, H1, rfl, t1, D1, r.s, r.d, r.z, _, rfl, y, d, H2, rfl, t2, D2, r.s, r.d, r.z, ?_⟩
    refine (show rEq (V.str d.shown) (V.str d.shown) H Q from ⟨rfl, ?_⟩)
    rw [decide_eq_true rfl]
    exact q
end
end S1

set_option Elab.async false
set_option linter.all false
set_option maxRecDepth 100000
set_option maxHeartbeats 1000000
/-! how long a shown saying is -/
namespace S1
open PySem PySem.W PySem.Spec PyProof.Rows L2
theorem listText_le : ∀ ts : List Str, (listText ts).length ≤ piled ts + 2
  | [] => by decide
  | t :: r => by
    have h := textFrom_length_pos r 1 (("[" : Str) ++ (if (0 : Nat) > 0 then ", " else "" : String) ++ t) (Nat.succ_pos 0)
    have e1 : (("[" : Str) ++ (if (0 : Nat) > 0 then ", " else "" : String) ++ t).length = 1 + t.length := by
      rw [strLen_append, strLen_append]
      rfl
    have e2 : (listText (t :: r)).length = (textFrom 1 (("[" : Str) ++ (if (0 : Nat) > 0 then ", " else "" : String) ++ t) r).length + 1 := by
      show (textFrom 1 _ r ++ "]").length = _
      rw [strLen_append]
      rfl
    rw [piled_cons]
    omega
theorem join_le (ts : List Str) : (Str.join ", " ts).length ≤ piled ts := by
  by_cases h : ts = []
  · subst h
    decide
  · have := join_length_add ts h
    omega
theorem tupleText_le (ts : List Str) : (tupleText ts).length ≤ piled ts + 3 := by
  have h := join_le ts
  unfold tupleText
  rw [strLen_append, strLen_append]
  have e1 : ((("(" : String) : Str)).length = 1 := rfl
  have e3 : (((if ts.length == 1 then ",)" else ")" : String) : Str)).length ≤ 2 := by split <;> decide
  omega
theorem piled_le {b : Nat} : ∀ ts : List Str, (∀ t ∈ ts, t.length ≤ b) → piled ts ≤ ts.length * (b + 2)
  | [], _ => Nat.zero_le _
  | t :: r, h => by
    have h1 := h t (List.mem_cons_self ..)
    have h2 := piled_le r fun u hu => h u (List.mem_cons_of_mem _ hu)
    rw [piled_cons, List.length_cons, Nat.succ_mul]
    omega
/-- it can be shown, in a text of at most b signs, k deep -/
structure Shw (b k : Nat) (d : PyData) : Prop where
  s : d.showable = true
  z : d.shown.length ≤ b
  d : d.depth ≤ k
theorem Shw.up {b b' k k' : Nat} {d : PyData} (h : Shw b k d) (hb : b ≤ b') (hk : k ≤ k') : Shw b' k' d := ⟨h.s, Nat.le_trans h.z hb, Nat.le_trans h.d hk⟩
theorem shw_all {b k : Nat} : ∀ ds : List PyData, (∀ d ∈ ds, Shw b k d) → PyData.showableAll ds = true ∧ PyData.depthAll ds ≤ k ∧ (∀ t ∈ PyData.shownAll ds, t.length ≤ b) ∧ (PyData.shownAll ds).length = ds.length
  | [], _ => ⟨by simp only [PyData.showableAll], by simp only [PyData.depthAll]; omega, (fun t h => by simp only [PyData.shownAll] at h; exact nomatch h), by simp only [PyData.shownAll]; rfl⟩
  | d :: ds, h => by
    have h1 := h d (List.mem_cons_self ..)
    obtain ⟨a, b, c, e⟩ := shw_all ds fun x hx => h x (List.mem_cons_of_mem _ hx)
    refine ⟨by simp only [PyData.showableAll, h1.s, a, Bool.and_self], ?_, fun t ht => ?_, ?_⟩
    · simp only [PyData.depthAll]
      exact Nat.max_le.mpr ⟨h1.d, b⟩
    · simp only [PyData.shownAll, List.mem_cons] at ht
      rcases ht with rfl | ht
      · exact h1.z
      · exact c t ht
    · simp only [PyData.shownAll, List.length_cons, e]
theorem shw_tup {b k n : Nat} {ds : List PyData} (h : ∀ d ∈ ds, Shw b k d) (hl : ds.length ≤ n) : Shw (n * (b + 2) + 3) (k + 1) (.tuple ds) := by
  obtain ⟨a, dd, c, e⟩ := shw_all ds h
  refine ⟨by simp only [PyData.showable, a], ?_, by simp only [PyData.depth]; omega⟩
  simp only [PyData.shown]
  have h1 := tupleText_le (PyData.shownAll ds)
  have h2 := piled_le _ c
  have h3 : (PyData.shownAll ds).length * (b + 2) ≤ n * (b + 2) := Nat.mul_le_mul_right _ (by omega)
  omega
theorem shw_lst {b k n : Nat} {ds : List PyData} (h : ∀ d ∈ ds, Shw b k d) (hl : ds.length ≤ n) : Shw (n * (b + 2) + 3) (k + 1) (.list ds) := by
  obtain ⟨a, dd, c, e⟩ := shw_all ds h
  refine ⟨by simp only [PyData.showable, a], ?_, by simp only [PyData.depth]; omega⟩
  simp only [PyData.shown]
  have h1 := listText_le (PyData.shownAll ds)
  have h2 := piled_le _ c
  have h3 : (PyData.shownAll ds).length * (b + 2) ≤ n * (b + 2) := Nat.mul_le_mul_right _ (by omega)
  omega
theorem shw_map {α : Type} {b k n : Nat} {f : α → PyData} {l : List α} (h : ∀ x ∈ l, Shw b k (f x)) (hl : l.length ≤ n) : Shw (n * (b + 2) + 3) (k + 1) (.tuple (l.map f)) := shw_tup (fun d hd => by
  obtain ⟨x, hx, rfl⟩ := List.mem_map.mp hd
  exact h x hx) (by rw [List.length_map]; exact hl)
theorem shw_bl (b : Bool) : Shw 5 0 (.bool b) := by cases b <;> exact ⟨rfl, by decide, Nat.le_refl _⟩
theorem shw_nm {x : Str} (h : Nm x) : Shw 82 0 (.str x) := by
  refine ⟨rfl, ?_, Nat.le_refl _⟩
  simp only [PyData.shown]
  have := StrLaws.reprText_len x fun c hc => Nat.lt_of_le_of_lt (h.az c hc).2 (by decide)
  have := h.hi
  omega
theorem shw_nms {xs : List Str} (h : ∀ x ∈ xs, Nm x) (hl : xs.length ≤ 6) : Shw 507 1 (nmsD xs) := shw_map (n := 6) (fun x hx => shw_nm (h x hx)) hl
theorem shw_say {c : Nat} {s : Say} (ok : SayOk 6 8 c 40 s) : Shw 300000 5 s.d := by
  have hp : Shw 507 1 (nmsD s.picks) := shw_nms ok.pn ok.pl
  have ho : Shw 8187 3 (.tuple (s.owns.map ownD)) := shw_map (b := 1021) (k := 2) (n := 8) (fun o m => by
    have og := ok.own m
    refine shw_tup (b := 507) (k := 1) (n := 2) (ds := [.str o.1, nmsD o.2]) (fun d hd => ?_) (Nat.le_refl _)
    rcases List.mem_cons.mp hd with rfl | hd
    · exact (shw_nm (ok.on o m).1).up (by decide) (by decide)
    · cases List.mem_singleton.mp hd
      exact shw_nms (fun x hx => ok.pn x ((ok.on o m).2.2.2 x hx)) (Nat.le_trans og.le ok.pl)) ok.ol
  have hn : ∀ x ∈ s.names, Nm x := fun x hx => by
    rcases List.mem_append.mp hx with m | m
    · exact ok.pn x m
    · obtain ⟨o, mo, rfl⟩ := List.mem_map.mp m
      exact (ok.on o mo).1
  have hc : Shw 97083 3 (.tuple (s.cls.map clD)) := shw_map (b := 2425) (k := 2) (n := 40) (fun cl m => by
    have ck := ok.ck cl m
    have lc : cl.length ≤ 14 := Nat.le_trans (cl_len ck) ok.nlen
    refine shw_map (b := 171) (k := 1) (n := 14) (fun l ml => ?_) lc
    refine shw_tup (b := 82) (k := 0) (n := 2) (ds := [.str l.1, .bool l.2]) (fun d hd => ?_) (Nat.le_refl _)
    rcases List.mem_cons.mp hd with rfl | hd
    · exact shw_nm (hn _ (ck.mem l ml))
    · cases List.mem_singleton.mp hd
      exact (shw_bl _).up (by decide) (by decide)) ok.cl
  exact (shw_tup (b := 97083) (k := 3) (n := 3) (ds := [nmsD s.picks, .tuple (s.owns.map ownD), .tuple (s.cls.map clD)]) (fun d hd => by
    rcases List.mem_cons.mp hd with rfl | hd
    · exact hp.up (by decide) (by decide)
    rcases List.mem_cons.mp hd with rfl | hd
    · exact ho.up (by decide) (by decide)
    · cases List.mem_singleton.mp hd
      exact hc) (Nat.le_refl _)).up (by decide) (by decide)
end S1

set_option Elab.async false
set_option linter.all false
set_option maxRecDepth 100000
set_option maxHeartbeats 4000000
/-! a call of a def by keywords alone -/
namespace S1
open PySem PySem.W PySem.Spec PyProof.Rows L2
/-- how a call by keywords alone binds: g puts their values in the parameters' order -/
structure KB0 (K : PySem.W.Frag) (fd : FuncData) (ps ks : List Str) (g : List Value → List Value) (gV : List V → List V) : Prop where
  to : ∀ (s : Shared) (ws : List Value), K.In s.heap → ws.length = ks.length → BindsTo s fd ⟨[], ks.zip ws⟩ (ps.zip (g ws))
  rel : ∀ {zs : List V} {ws : List Value}, Vals zs ws → Vals (gV zs) (g ws)
def tCallK0 (sp : Sp) (gV : List V → List V) (n : Nat) (E : XK) (tk : TA) : TE := fun σ H Q => tk σ H fun zs H2 => zs.length = n ∧ sp (gV zs) H2 Q E
section
variable {X : Cx} {CX : CXT} {k : Nat} {f : Addr} {fd : FuncData} {ps ks : List Str} {sp : Sp} {E : XK} {x : Str} {p pos : Pos} {kws : List Keyword} {tk : TA} {g : List Value → List Value} {gV : List V → List V}
theorem run_fnk0 {pins : List (Addr × Obj)} {σ : L2.St} {H : Hp} {s : Shared} {Q : VK} {ws : List Value} {zs : List V} (F : FnOk X.prog X.w X.K X.mg X.base CX k f fd ps sp) (hr : Room k X.A) (hb : KB0 X.K fd ps ks g gV) (hx : Passes CX X E)
    (I : Inv X pins σ H s) (rz : Vals zs ws) (hn : zs.length = ks.length) (h : sp (gV zs) H Q E) : wpAny (model X.prog X.w) X.A (call (.ref f) [] (ks.zip ws)) (EP X pins σ Q) X.xe s := by
  have r2 := hb.rel rz
  have hl : ws.length = ks.length := by rw [← rz.length]; exact hn
  refine wpAny_call (codeAny_mono (F.run X.A X.stack s H ⟨[], ks.zip ws⟩ (g ws) (gV zs) Q E hr I.env0 (hb.to s ws I.kIn hl) r2 h) fun r s' hq => ?_)
  cases r with
  | error e => exact hx pins σ H s e s' I hq
  | ok fl =>
    cases fl with
    | ret u => exact I.after hq
    | next => exact False.elim hq
    | brk => exact False.elim hq
    | cont => exact False.elim hq
/-- f(k = v, ..) -/
theorem pe_callK0 (F : FnOk X.prog X.w X.K X.mg X.base CX k f fd ps sp) (hr : Room k X.A) (hg : Gl X x) (hm : X.mg x = some (.ref f)) (hk : PySem.W.keepIn X.K (.ref f) = true) (hb : KB0 X.K fd ps ks g gV) (hx : Passes CX X E)
    (hkw : PK X kws tk) (hall : (backToKw pos (keywordEach kws X.env)).all (·.1.isSome) = true := by rfl) (hks : (backToKw pos (keywordEach kws X.env)).filterMap (·.1) = ks := by rfl)
    (hdb : (x == ("__debug__" : Str)) = false := by decide)
    (hpl : ((backTo pos (starEach [] X.env)).any (·.1) || (backToKw pos (keywordEach kws X.env)).any (·.1.isNone)) = false := by rfl) :
    PE X (.Call (.Name x p) [] kws pos) (tCallK0 sp gV ks.length E tk) := by
  refine ⟨fun pins s σ H Q I h => ?_⟩
  refine wpAny_Call_Name_kw (ld_glob I hg hm ?_ hdb)
  refine PySem.W.callWith_KW0 (h₀ := X.base) I.ok.mod.kin hk hall (thn (hkw.run pos pins s σ H _ I h) fun ws s2 ⟨zs, H2, I2, rz, hn, q2⟩ => ⟨I2.kIn, ?_⟩) hpl
  rw [hks]
  exact run_fnk0 F hr hb hx I2 rz hn q2
end
section
variable {K : PySem.W.Frag}
theorem vals_rev {zs : List V} {ws : List Value} (h : Vals zs ws) : Vals zs.reverse ws.reverse := by
  induction h with
  | nil => exact .nil
  | cons a b ih =>
    rw [List.reverse_cons, List.reverse_cons]
    exact Vals.append ih (.cons a .nil)
/-- the keywords in the parameters' order -/
theorem Fun.kb1 {x qual a : Str} {st : Stmt} {f : Addr} {fd : FuncData} (F : Fun K x qual st f fd)
    (h : ∀ (kV doc pm : Value) (an : Option Addr) (cdv ct u : Value), bindArgs (PySem.W.fnOf x qual (defArgs st) (defBody st) (defScope st) .none kV doc pm an cdv ct) ⟨[], [(a, u)]⟩ = pure [(a, u)]) : KB0 K fd [a] [a] id id := by
  obtain ⟨oc, od, kV, doc, pm, an, cdv, ct, osl, rfl, lk, hcd⟩ := F.ex
  refine ⟨fun s ws X l => ?_, fun r => r⟩
  match ws, l with
  | [u], _ => exact .of_eq (h kV doc pm an cdv ct u)
/-- three keywords, the last first -/
theorem Fun.kb3 {x qual a b c : Str} {st : Stmt} {f : Addr} {fd : FuncData} (F : Fun K x qual st f fd)
    (h : ∀ (kV doc pm : Value) (an : Option Addr) (cdv ct u v z : Value), bindArgs (PySem.W.fnOf x qual (defArgs st) (defBody st) (defScope st) .none kV doc pm an cdv ct) ⟨[], [(c, u), (b, v), (a, z)]⟩ = pure [(a, z), (b, v), (c, u)]) : KB0 K fd [a, b, c] [c, b, a] List.reverse List.reverse := by
  obtain ⟨oc, od, kV, doc, pm, an, cdv, ct, osl, rfl, lk, hcd⟩ := F.ex
  refine ⟨fun s ws X l => ?_, fun r => ?_⟩
  · match ws, l with
    | [u, v, z], _ => exact .of_eq (h kV doc pm an cdv ct u v z)
  · exact vals_rev r
end
end S1

set_option Elab.async false
set_option linter.all false
set_option maxRecDepth 100000
set_option maxHeartbeats 4000000
/-! what is told, and what is due, are alike; it may be shown -/
namespace S1
open PySem PySem.W PySem.Spec PyProof.Rows L2
theorem rise_unique {α : Type} {r : α → α → Prop} (irr : ∀ x, ¬ r x x) (tr : ∀ {x y z}, r x y → r y z → r x z) : ∀ {xs ys : List α}, xs.Pairwise r → ys.Pairwise r → (∀ x, x ∈ xs ↔ x ∈ ys) → xs = ys
  | [], [], _, _, _ => rfl
  | [], y :: ys, _, _, h => absurd ((h y).mpr List.mem_cons_self) (by simp)
  | x :: xs, [], _, _, h => absurd ((h x).mp List.mem_cons_self) (by simp)
  | x :: xs, y :: ys, h1, h2, h => by
    obtain ⟨a1, a2⟩ := List.pairwise_cons.mp h1
    obtain ⟨b1, b2⟩ := List.pairwise_cons.mp h2
    have e : x = y := by
      rcases List.mem_cons.mp ((h x).mp List.mem_cons_self) with z | z
      · exact z
      · rcases List.mem_cons.mp ((h y).mpr List.mem_cons_self) with w | w
        · exact w.symm
        · exact absurd (tr (b1 x z) (a1 y w)) (irr y)
    subst e
    congr 1
    refine rise_unique irr tr a2 b2 fun z => ⟨fun hz => ?_, fun hz => ?_⟩
    · rcases List.mem_cons.mp ((h z).mp (List.mem_cons_of_mem _ hz)) with w | w
      · subst w
        exact absurd (a1 z hz) (irr z)
      · exact w
    · rcases List.mem_cons.mp ((h z).mpr (List.mem_cons_of_mem _ hz)) with w | w
      · subst w
        exact absurd (b1 z hz) (irr z)
      · exact w
theorem RchOk.uniq {s : Say} {ws : List Str} {l0 : Ltr} {L M : List Ltr} (h1 : RchOk s ws l0 L) (h2 : RchOk s ws l0 M) : L = M :=
  rise_unique (r := ltLt) (fun x z => by unfold ltLt at z; rw [dataLt_irrefl] at z; cases z) (fun {x y z} a b => dataLt_trans a b) h1.up h2.up fun m => (h1.mem m).trans (h2.mem m).symm
theorem IdleAll.uniq {s : Say} {L M : List Pr} (h1 : IdleAll s L) (h2 : IdleAll s M) : L = M :=
  rise_unique (r := prLt) (fun x z => by unfold prLt at z; rw [dataLt_irrefl] at z; cases z) (fun {x y z} a b => dataLt_trans a b) h1.up h2.up fun m => (h1.mem m).trans (h2.mem m).symm
theorem Reach.univ {s : Say} (ok : SayOk 6 8 120 40 s) {ws : List Str} {l0 m : Ltr} (h : Reach s ws l0 m) : m ∈ univ s := by
  cases h with
  | start h => exact bes_univ ok h
  | step _ h => exact bes_univ ok h
theorem rpr_of {b k : Nat} {d : PyData} (h : Shw b k d) (hb : b ≤ 16000000) (hk : k ≤ 50) : Rpr d := ⟨h.s, Nat.le_trans h.d hk, Nat.le_trans h.z (Nat.le_trans hb (by decide))⟩
theorem ltLt_nd {L : List Ltr} (h : L.Pairwise ltLt) : L.Nodup := h.imp fun {a b} z e => by
  unfold ltLt at z
  rw [e, dataLt_irrefl] at z
  cases z
theorem RchOk.len {s : Say} (ok : SayOk 6 8 120 40 s) {ws : List Str} {l0 : Ltr} {L : List Ltr} (h : RchOk s ws l0 L) : L.length ≤ 28 := by
  have z := nodup_le (m := S1.univ s) (ltLt_nd h.up) fun m hm => ((h.mem m).mp hm).univ ok
  have y := univ_len s.names
  have x := ok.nlen
  unfold S1.univ at z
  omega
theorem RchOk.nm {s : Say} (ok : SayOk 6 8 120 40 s) {ws : List Str} {l0 : Ltr} {L : List Ltr} (h : RchOk s ws l0 L) {m : Ltr} (hm : m ∈ L) : Nm m.1 := by
  have z := ((h.mem m).mp hm).univ ok
  unfold S1.univ at z
  obtain ⟨n, hn, hz⟩ := List.mem_flatMap.mp z
  have e : m.1 = n := by
    rcases List.mem_cons.mp hz with rfl | hz
    · rfl
    · cases List.mem_singleton.mp hz
      rfl
  rw [e]
  exact ok.nm n hn
theorem RchOk.rpr {s : Say} (ok : SayOk 6 8 120 40 s) {ws : List Str} {l0 : Ltr} {L : List Ltr} (h : RchOk s ws l0 L) : Rpr (clD L) := by
  refine rpr_of (shw_map (b := 171) (k := 1) (n := 28) (f := ltD) (fun l ml => ?_) (h.len ok)) (by decide) (by decide)
  refine shw_tup (b := 82) (k := 0) (n := 2) (ds := [.str l.1, .bool l.2]) (fun d hd => ?_) (Nat.le_refl _)
  rcases List.mem_cons.mp hd with rfl | hd
  · exact shw_nm (h.nm ok ml)
  · cases List.mem_singleton.mp hd
    exact (shw_bl _).up (by decide) (by decide)
theorem rpr_bl (b : Bool) : Rpr (.bool b) := rpr_of (shw_bl b) (by decide) (by decide)
theorem prLt_nd {L : List Pr} (h : L.Pairwise prLt) : L.Nodup := h.imp fun {a b} z e => by
  unfold prLt at z
  rw [e, dataLt_irrefl] at z
  cases z
theorem vw_sub {s : Say} {x n : Str} (h : n ∈ vw s x) : n ∈ s.owns.map Prod.fst := by
  unfold vw at h
  obtain ⟨o, ho, rfl⟩ := List.mem_map.mp h
  exact List.mem_map_of_mem (List.mem_filter.mp ho).1
theorem pairs_len : ∀ (ps ns : List Str), (ps.flatMap fun x => ns.map fun n => ((n, x) : Pr)).length = ps.length * ns.length
  | [], ns => by simp
  | p :: ps, ns => by
    rw [List.flatMap_cons, List.length_append, pairs_len ps ns, List.length_map, List.length_cons, Nat.succ_mul]
    omega
theorem IdleAll.len {s : Say} (ok : SayOk 6 8 120 40 s) {L : List Pr} (h : IdleAll s L) : L.length ≤ 48 := by
  have z := nodup_le (m := s.picks.flatMap fun x => (s.owns.map Prod.fst).map fun n => (n, x)) (prLt_nd h.up) fun q hq => by
    obtain ⟨a, b, _⟩ := (h.mem q).mp hq
    exact List.mem_flatMap.mpr ⟨q.2, a, List.mem_map.mpr ⟨q.1, vw_sub b, rfl⟩⟩
  rw [pairs_len, List.length_map] at z
  have h1 := ok.pl
  have h2 := ok.ol
  have : s.picks.length * s.owns.length ≤ 6 * 8 := Nat.mul_le_mul h1 h2
  omega
theorem IdleAll.rpr {s : Say} (ok : SayOk 6 8 120 40 s) {L : List Pr} (h : IdleAll s L) : Rpr (.list (L.map prD)) := by
  refine rpr_of (shw_lst (b := 171) (k := 1) (n := 48) (fun d hd => ?_) (by rw [List.length_map]; exact h.len ok)) (by decide) (by decide)
  obtain ⟨q, hq, rfl⟩ := List.mem_map.mp hd
  obtain ⟨a, b, _⟩ := (h.mem q).mp hq
  refine shw_tup (b := 82) (k := 0) (n := 2) (ds := [.str q.1, .str q.2]) (fun d hd => ?_) (Nat.le_refl _)
  rcases List.mem_cons.mp hd with rfl | hd
  · obtain ⟨o, ho, e⟩ := List.mem_map.mp (vw_sub b)
    rw [← e]
    exact shw_nm (ok.on o ho).1
  · cases List.mem_singleton.mp hd
    exact shw_nm (ok.pn _ a)
end S1

set_option Elab.async false
set_option linter.all false
set_option maxRecDepth 100000
set_option maxHeartbeats 4000000
/-! zip of a tuple and a list -/
namespace L2
open PySem PySem.Spec PyProof.Rows
def ItzM (K : PySem.W.Frag) (a b : Addr) : It :=
  ⟨fun i H => ∃ (xs ys : List V) (x y : V), SqT K H a xs ∧ SqL K H b ys ∧ xs[i]? = some x ∧ ys[i]? = some y,
    fun i H v H' => ∃ T x y, v = .ref T ∧ H T = none ∧ H' = upd H T (.tup [x, y]) ∧ (∀ xs, SqT K H a xs → xs[i]? = some x) ∧ ∀ ys, SqL K H b ys → ys[i]? = some y,
    fun i H => ∃ xs ys : List V, SqT K H a xs ∧ SqL K H b ys ∧ xs.length = i ∧ ys.length = i⟩
theorem sep_of {z TI TO i1 i2 a b : Addr} (D : ZipApart z TI TO i1 i2 a b) : ZipSep2 z TI TO i1 i2 [i1, a] [i2, b] where
  TIz := D.TIz
  TOz := D.TOz
  TITO := D.TITO
  TIi1 := D.TIi1
  mem1 := by simp
  zf1 := by simp [D.i1z.symm, D.l1z.symm]
  Tf1 := by simp [D.TOi1, D.l1TO.symm]
  TIi2 := D.TIi2
  mem2 := by simp
  zf2 := by simp [D.i2z.symm, D.l2z.symm]
  Tf2 := by simp [D.TOi2, D.l2TO.symm]
  sep1_2 := by simp [D.i12, D.l2i1.symm]
  sep2_1 := by simp [D.i12.symm, D.l1i2.symm]
theorem turn_zipM {P : Program} {w : World} {K : PySem.W.Frag} {elts : List Expr} {kk : Nat} {tpos : Pos} {a b z TI TO i1 i2 : Addr} (D : ZipApart z TI TO i1 i2 a b) :
    Turn P w K (.Tuple elts kk tpos) (ItzM K a b) [z, TI, TO, i1, i2] z (fun i h => IsZip h z TI TO .none ∧ IsPair h TI (.ref i1) (.ref i2) ∧ (∃ x y, IsPair h TO x y) ∧ h.IsTupleIter i1 a i ∧ h.IsListIter i2 b i) where
  mem := by simp
  obj := fun i h st c hc => by
    obtain ⟨hz, hTI, ⟨x, y, hTO⟩, ⟨o1, e1, _, d1⟩, ⟨o2, e2, _, d2⟩⟩ := st
    have e' : c = z ∨ c = TI ∨ c = TO ∨ c = i1 ∨ c = i2 := by simpa using hc
    rcases e' with q | q | q | q | q
    · rw [q]; exact ⟨_, hz, fun v q => nomatch q⟩
    · rw [q]; exact ⟨_, hTI, fun v q => nomatch q⟩
    · rw [q]; exact ⟨_, hTO, fun v q => nomatch q⟩
    · rw [q]; exact ⟨o1, e1, fun v q => by rw [d1] at q; cases q⟩
    · rw [q]; exact ⟨o2, e2, fun v q => by rw [d2] at q; cases q⟩
  keep := fun i h h' st k => by
    obtain ⟨hz, hTI, ⟨x, y, hTO⟩, h1, h2⟩ := st
    exact ⟨k z (by simp) _ hz, k TI (by simp) _ hTI, ⟨x, y, k TO (by simp) _ hTO⟩, h1.at fun o q => k i1 (by simp) o q, h2.at fun o q => k i2 (by simp) o q⟩
  item := by
    intro X hP hw hK hc i pins s σ H E I hf st hg
    subst hP hw hK
    obtain ⟨hz, hTI, ⟨x0, y0, hTO⟩, h1, h2⟩ := st
    obtain ⟨xs, ys, x, y, hqx, hqy, hx, hy⟩ := hg
    obtain ⟨its, rv, p, _⟩ := I.tuple hqx
    obtain ⟨its2, rv2, p2, _⟩ := I.list hqy
    obtain ⟨u, hu, ru⟩ := rv.get hx
    obtain ⟨u2, hu2, ru2⟩ := rv2.get hy
    have hzl : z < s.heap.objs.size := Heap.lt_size hz
    have l1 : i < its.toArray.size := by
      have := (List.getElem?_eq_some_iff.mp hu).1
      simpa using this
    have l2 : i < its2.toArray.size := by
      have := (List.getElem?_eq_some_iff.mp hu2).1
      simpa using this
    have hh : X.A.in1.handled = none := I.ok.hd hc
    refine wpAny_pyNext_zipD2_item (sep_of D) (Draws.tuple hh i1 a D.l1i1 its.toArray) (Draws.list hh i2 b D.l2i2 its2.toArray) hz hTI hTO ⟨h1, p⟩ ⟨h2, p2.isList⟩ l1 l2 fun u' u2' h' tk pu pu2 z' TO' h1' h2' hT hsz hk => ?_
    have eu : u' = u := by
      have pu' : its.toArray[i]? = some u' := pu
      rw [List.getElem?_toArray, hu] at pu'
      exact (Option.some.inj pu').symm
    have eu2 : u2' = u2 := by
      have pu' : its2.toArray[i]? = some u2' := pu2
      rw [List.getElem?_toArray, hu2] at pu'
      exact (Option.some.inj pu').symm
    subst eu
    subst eu2
    refine ⟨_, rfl, wpAny_letOwnedTupleGo_zip (s := { s with heap := h', toks := tk }) z' fun h'' z'' sb => ?_⟩
    have hT2 : h''.get? s.heap.objs.size = some { cls := .type "tuple", data := .seq #[u', u2'] } := (sb.2 _ (Nat.ne_of_gt hzl)).trans hT
    have new : ObjOk X.prog X.w (upd H s.heap.objs.size (.tup [x, y])) h'' s.heap.objs.size (.tup [x, y]) :=
      ⟨by show 2 ≤ sizeLine; decide, [u', u2'], .cons ru (.cons ru2 .nil), ⟨_, hT2, rfl, _, rfl⟩⟩
    have I1 : Inv X pins σ (upd H s.heap.objs.size (.tup [x, y])) { s with heap := h'', toks := tk } :=
      I.turnedNew (t' := tk) (ch := [z, TI, TO, i1, i2]) (fun c o hb q => (sb.2 c (fun q' => hb (by simp [q']))).trans (hk c o (fun q' => hb (by simp [q'])) (fun q' => hb (by simp [q'])) (fun q' => hb (by simp [q'])) (fun q' => hb (by simp [q'])) q)) hf (Nat.le_refl _) new
    refine ⟨.ref s.heap.objs.size, _, I1, rfl, ⟨_, x, y, rfl, I.hok.fresh (Nat.le_refl _), rfl, fun l hl => by rw [I.tuple_inj hl hqx]; exact hx, fun l hl => by rw [I.list_inj hl hqy]; exact hy⟩, ⟨z'', ?_, ⟨u', u2', ?_⟩, ?_, ?_⟩, fun c hcm => ?_⟩
    · exact (sb.2 _ D.TIz).trans (hk _ _ D.TIz D.TITO D.TIi1 D.TIi2 hTI)
    · exact (sb.2 _ D.TOz).trans TO'
    · exact h1'.1.at fun o q => (sb.2 _ D.i1z).trans q
    · exact h2'.1.at fun o q => (sb.2 _ D.i2z).trans q
    · have hlt : c < s.heap.objs.size := by
        have e' : c = z ∨ c = TI ∨ c = TO ∨ c = i1 ∨ c = i2 := by simpa using hcm
        rcases e' with q | q | q | q | q
        · rw [q]; exact hzl
        · rw [q]; exact Heap.lt_size hTI
        · rw [q]; exact Heap.lt_size hTO
        · rw [q]; obtain ⟨_, e1, _⟩ := h1; exact Heap.lt_size e1
        · rw [q]; obtain ⟨_, e2, _⟩ := h2; exact Heap.lt_size e2
      rw [upd_ne (Nat.ne_of_lt hlt)]
      exact (hf c hcm).1
  done := by
    intro X hP hw hK hc i pins s σ H E I hf st hg
    subst hP hw hK
    obtain ⟨hz, hTI, ⟨x0, y0, hTO⟩, h1, h2⟩ := st
    obtain ⟨xs, ys, hqx, hqy, e1, e2⟩ := hg
    obtain ⟨its, rv, p, _⟩ := I.tuple hqx
    obtain ⟨its2, rv2, p2, _⟩ := I.list hqy
    have l1 := rv.length
    have l2 := rv2.length
    have hh : X.A.in1.handled = none := I.ok.hd hc
    exact wpAny_pyNext_zipD2_end (sep_of D) (Draws.tuple hh i1 a D.l1i1 its.toArray) (Draws.list hh i2 b D.l2i2 its2.toArray) hz hTI hTO ⟨h1, p⟩ ⟨h2, p2.isList⟩ (by simp; omega) (by simp; omega) (.inl (by simp; omega)) fun h' tk hk => ⟨rfl, I.turnedL (t' := tk) (ch := [z, TI, TO, i1, i2]) (fun c o hb q =>
      hk c o (fun q' => hb (by simp [q'])) (fun q' => hb (by simp [q'])) (fun q' => hb (by simp [q'])) (fun q' => hb (by simp [q'])) q) hf⟩
  self := fun A i s Q E st h => wpAny_pyIter_zip st.1 h
def iZipM (K : PySem.W.Frag) (ta : TA) : TI := fun σ H R => ta σ H fun vs H1 => ∃ a b xs ys, vs = [.ref a, .ref b] ∧ SqT K H1 a xs ∧ SqL K H1 b ys ∧ R (ItzM K a b) H1
theorem pi_zipM {X : Cx} {e e2 : Expr} {ta : TA} {p pos tpos : Pos} {elts : List Expr} {kk : Nat} (hg : Gl X "zip") (hm : X.mg "zip" = none) (ha : PA X [e, e2] ta)
    (hs : starEach [e, e2] X.env = (false, eval e X.env) :: starEach [e2] X.env := by rfl) (hpl : (backTo pos (starEach [e2] X.env)).any (·.1) = false := by rfl) :
    PI X (.Tuple elts kk tpos) (.Call (.Name "zip" p) [e, e2] [] pos) (iZipM X.K ta) := by
  refine ⟨fun pins s σ H R I h => ?_⟩
  refine Call_ (ld_blt I hg hm PyProof.Rows.boot_zip (PyProof.Rows.callWith_type1 (thn (ha.run pos pins s σ H _ I h) fun us s1 ⟨vs, H1, I1, r1, q1⟩ => ?_) hs hpl))
  obtain ⟨a, b, xs, ys, ex, hqx, hqy, q⟩ := q1
  subst ex
  cases r1 with
  | cons r rr =>
    cases rr with
    | cons r' rr =>
      cases rr
      cases r
      cases r'
      obtain ⟨its, rv, p1, _⟩ := I1.tuple hqx
      obtain ⟨its2, rv2, p2, _⟩ := I1.list hqy
      have la : a < s1.heap.objs.size := p1.lt
      have lb : b < s1.heap.objs.size := p2.lt
      refine zip_begins2 (begins_tuple a its.toArray) (begins_list b its2.toArray) p1 p2.isList fun h' hz hTI hTO h1 h2 hsz hk => wpAny_pyIter_zip hz ?_
      have I2 : Inv X pins σ H1 { s1 with heap := h' } := I1.kept (t' := s1.toks) hk
      refine ⟨s1.heap.objs.size + 4, [s1.heap.objs.size + 4, s1.heap.objs.size + 2, s1.heap.objs.size + 3, s1.heap.objs.size, s1.heap.objs.size + 1], _, _, H1, rfl, I2, turn_zipM (PySem.W.ktu_apart s1.heap.objs.size a b la lb), ⟨hz, hTI, ⟨_, _, hTO⟩, ⟨_, h1, rfl, rfl⟩, ⟨_, h2, rfl, rfl⟩⟩, fun c hcm => ?_, q⟩
      have e' : c = s1.heap.objs.size + 4 ∨ c = s1.heap.objs.size + 2 ∨ c = s1.heap.objs.size + 3 ∨ c = s1.heap.objs.size ∨ c = s1.heap.objs.size + 1 := by simpa using hcm
      have hle : s1.heap.objs.size ≤ c := by
        rcases e' with z | z | z | z | z
        · rw [z]; exact Nat.le_add_right _ _
        · rw [z]; exact Nat.le_add_right _ _
        · rw [z]; exact Nat.le_add_right _ _
        · rw [z]; exact Nat.le_refl _
        · rw [z]; exact Nat.le_add_right _ _
      exact I1.fpOk hle (I1.hok.fresh hle)
theorem walk_zipM {K : PySem.W.Frag} {a b : Addr} {xs ys : List V} {n : Nat} (h1 : xs.length = n) (h2 : ys.length = n) : Walk (ItzM K a b) n (fun H => SqT K H a xs ∧ SqL K H b ys) (YPair (fun i => xs[i]?) (fun i => ys[i]?)) := by
  refine ⟨fun i H hi q => ⟨xs, ys, _, _, q.1, q.2, List.getElem?_eq_getElem (by omega), List.getElem?_eq_getElem (by omega)⟩, fun H q => ⟨xs, ys, q.1, q.2, h1, h2⟩, fun i H x H' hi q y => ?_⟩
  obtain ⟨T, x, y, rfl, hT, rfl, f1, f2⟩ := y
  exact ⟨T, x, y, rfl, hT, rfl, f1 xs q.1, f2 ys q.2⟩
end L2

set_option Elab.async false
set_option linter.all false
set_option maxRecDepth 100000
set_option maxHeartbeats 4000000
/-! sights made less, made more: the sayings that come of it -/
namespace S1
open PySem PySem.W PySem.Spec PyProof.Rows L2
def sgh (ps : List Str) (x : Str) (t : Bool) (o : List Str) : List Str := ps.filter fun y => (decide (y ∈ o) && !decide (y = x)) || (decide (y = x) && t)
def seenF (ps : List Str) (n x : Str) (t : Bool) (o : Own) : List Str := if o.1 = n then sgh ps x t o.2 else o.2
def withF (s : Say) (f : Own → List Str) : Say := ⟨s.picks, s.owns.map fun o => (o.1, f o), s.cls⟩
def seen (s : Say) (n x : Str) (t : Bool) : Say := withF s (seenF s.picks n x t)
theorem tlt_trans {x y z : Str} (a : tlt x y) (b : tlt y z) : tlt x z := List.lt_trans a b
theorem tlt_uniq {xs ys : List Str} (h1 : xs.Pairwise tlt) (h2 : ys.Pairwise tlt) (h : ∀ x, x ∈ xs ↔ x ∈ ys) : xs = ys := rise_unique (r := tlt) tlt_irrefl (fun a b => tlt_trans a b) h1 h2 h
theorem sgh_up {ps o : List Str} {x : Str} {t : Bool} (h : ps.Pairwise tlt) : (sgh ps x t o).Pairwise tlt := h.sublist List.filter_sublist
theorem sgh_mem {ps o : List Str} {x y : Str} {t : Bool} : y ∈ sgh ps x t o ↔ y ∈ ps ∧ ((y ∈ o ∧ y ≠ x) ∨ (y = x ∧ t = true)) := by
  unfold sgh
  rw [List.mem_filter]
  simp
theorem less_eq {ps : List Str} {n x : Str} {o : Own} (hp : ps.Pairwise tlt) (ho : OwnOk ps o) : (o.2.filter fun y => decide (o.1 ≠ n) || decide (y ≠ x)) = seenF ps n x false o := by
  unfold seenF
  by_cases h : o.1 = n
  · rw [if_pos h]
    refine tlt_uniq (ho.up.sublist List.filter_sublist) (sgh_up hp) fun y => ?_
    rw [sgh_mem, List.mem_filter]
    have := ho.sub y
    simp [h]
    exact fun a _ => this a
  · rw [if_neg h]
    simp [h]
theorem more_same {ps : List Str} {n x : Str} {o : Own} (hp : ps.Pairwise tlt) (ho : OwnOk ps o) (h : ¬ (o.1 = n ∧ x ∉ o.2)) : seenF ps n x true o = o.2 := by
  unfold seenF
  by_cases hn : o.1 = n
  · rw [if_pos hn]
    have hx : x ∈ o.2 := Classical.byContradiction fun z => h ⟨hn, z⟩
    refine tlt_uniq (sgh_up hp) ho.up fun y => ?_
    rw [sgh_mem]
    constructor
    · rintro ⟨_, ⟨a, _⟩ | ⟨rfl, _⟩⟩
      · exact a
      · exact hx
    · intro a
      refine ⟨ho.sub y a, ?_⟩
      by_cases e : y = x
      · exact .inr ⟨e, rfl⟩
      · exact .inl ⟨a, e⟩
  · rw [if_neg hn]
theorem more_new {ps ys : List Str} {n x : Str} {o : Own} (hp : ps.Pairwise tlt) (ho : OwnOk ps o) (h : o.1 = n ∧ x ∉ o.2) (hx : x ∈ ps) (pm : ys.Perm (o.2 ++ [x])) (up : (o.2 ++ [x]).Nodup → ys.Pairwise tlt) : seenF ps n x true o = ys := by
  unfold seenF
  rw [if_pos h.1]
  have nd : (o.2 ++ [x]).Nodup := List.nodup_append.mpr ⟨nodup_tlt ho.up, by simp, fun a ha b hb e => h.2 (by rw [← List.mem_singleton.mp hb, ← e]; exact ha)⟩
  refine tlt_uniq (sgh_up hp) (up nd) fun y => ?_
  rw [sgh_mem, pm.mem_iff, List.mem_append, List.mem_singleton]
  constructor
  · rintro ⟨_, ⟨a, _⟩ | ⟨a, _⟩⟩
    · exact .inl a
    · exact .inr a
  · rintro (a | rfl)
    · exact ⟨ho.sub y a, .inl ⟨a, fun e => h.2 (e ▸ a)⟩⟩
    · exact ⟨hx, .inr ⟨rfl, rfl⟩⟩
theorem sgh_len {ps o : List Str} {x : Str} (hp : ps.Pairwise tlt) : (sgh ps x false o).length ≤ o.length ∧ (x ∈ o → (sgh ps x false o).length < o.length) ∧ (sgh ps x true o).length ≤ o.length + 1 := by
  refine ⟨nodup_le (nodup_tlt (sgh_up hp)) fun y hy => ?_, fun hx => ?_, ?_⟩
  · obtain ⟨_, ⟨a, _⟩ | ⟨_, b⟩⟩ := sgh_mem.mp hy
    · exact a
    · cases b
  · have z := nodup_le (l := x :: sgh ps x false o) (m := o) (List.nodup_cons.mpr ⟨fun hy => ?_, nodup_tlt (sgh_up hp)⟩) fun y hy => ?_
    · exact z
    · obtain ⟨_, ⟨_, b⟩ | ⟨_, b⟩⟩ := sgh_mem.mp hy
      · exact b rfl
      · cases b
    · rcases List.mem_cons.mp hy with rfl | hy
      · exact hx
      · obtain ⟨_, ⟨a, _⟩ | ⟨_, b⟩⟩ := sgh_mem.mp hy
        · exact a
        · cases b
  · have z := nodup_le (m := x :: o) (nodup_tlt (sgh_up (x := x) (t := true) (o := o) hp)) fun y hy => ?_
    · exact z
    · obtain ⟨_, ⟨a, _⟩ | ⟨a, _⟩⟩ := sgh_mem.mp hy
      · exact List.mem_cons_of_mem _ a
      · exact a ▸ List.mem_cons_self
theorem copies_le {f : Own → List Str} : ∀ os : List Own, (∀ o ∈ os, (f o).length ≤ o.2.length) → copies (os.map fun o => (o.1, f o)) ≤ copies os
  | [], _ => Nat.le_refl _
  | o :: os, h => by
    have h1 : 2 ^ (f o).length ≤ 2 ^ o.2.length := Nat.pow_le_pow_right (by decide) (h o List.mem_cons_self)
    have h2 := copies_le (f := f) os fun o ho => h o (List.mem_cons_of_mem _ ho)
    unfold copies at h2 ⊢
    simp only [List.map_cons, List.sum_cons]
    omega
theorem copies_le2 {f : Own → List Str} : ∀ os : List Own, (∀ o ∈ os, (f o).length ≤ o.2.length + 1) → copies (os.map fun o => (o.1, f o)) ≤ 2 * copies os
  | [], _ => Nat.zero_le _
  | o :: os, h => by
    have h1 : 2 ^ (f o).length ≤ 2 ^ (o.2.length + 1) := Nat.pow_le_pow_right (by decide) (h o List.mem_cons_self)
    have h2 := copies_le2 (f := f) os fun o ho => h o (List.mem_cons_of_mem _ ho)
    have h3 : 2 ^ (o.2.length + 1) = 2 * 2 ^ o.2.length := by rw [Nat.pow_succ]; omega
    unfold copies at h2 ⊢
    simp only [List.map_cons, List.sum_cons]
    omega
/-- how much is seen -/
def seeN (s : Say) : Nat := (s.owns.map fun o => o.2.length).sum
theorem see_le {f : Own → List Str} : ∀ os : List Own, (∀ o ∈ os, (f o).length ≤ o.2.length) → ((os.map fun o => (o.1, f o)).map fun o => o.2.length).sum ≤ (os.map fun o => o.2.length).sum
  | [], _ => Nat.le_refl _
  | o :: os, h => by
    have h1 := h o List.mem_cons_self
    have h2 := see_le (f := f) os fun o ho => h o (List.mem_cons_of_mem _ ho)
    simp only [List.map_cons, List.sum_cons]
    omega
theorem see_lt {f : Own → List Str} : ∀ os : List Own, (∀ o ∈ os, (f o).length ≤ o.2.length) → (∃ o ∈ os, (f o).length < o.2.length) → ((os.map fun o => (o.1, f o)).map fun o => o.2.length).sum < (os.map fun o => o.2.length).sum
  | [], _, ⟨o, ho, _⟩ => by simp at ho
  | o :: os, h, ⟨u, hu, lt⟩ => by
    have h1 := h o List.mem_cons_self
    have h3 := see_le (f := f) os fun o ho => h o (List.mem_cons_of_mem _ ho)
    simp only [List.map_cons, List.sum_cons]
    rcases List.mem_cons.mp hu with rfl | hu
    · omega
    · have h2 := see_lt (f := f) os (fun o ho => h o (List.mem_cons_of_mem _ ho)) ⟨u, hu, lt⟩
      omega
theorem seenF_len {s : Say} {a b c d : Nat} (ok : SayOk a b c d s) (n x : Str) (o : Own) : (seenF s.picks n x false o).length ≤ o.2.length ∧ (seenF s.picks n x true o).length ≤ o.2.length + 1 := by
  obtain ⟨h1, _, h3⟩ := sgh_len (o := o.2) (x := x) ok.pu
  unfold seenF
  by_cases h : o.1 = n
  · rw [if_pos h, if_pos h]
    exact ⟨h1, h3⟩
  · rw [if_neg h, if_neg h]
    exact ⟨Nat.le_refl _, Nat.le_succ _⟩
theorem withF_names (s : Say) (f : Own → List Str) : (withF s f).names = s.names := by
  show s.picks ++ (s.owns.map fun o => (o.1, f o)).map Prod.fst = s.picks ++ s.owns.map Prod.fst
  rw [List.map_map]
  rfl
theorem withF_ok {s : Say} {a b c c' d : Nat} (ok : SayOk a b c d s) (f : Own → List Str) (h : ∀ o ∈ s.owns, (f o).Pairwise tlt ∧ ∀ x ∈ f o, x ∈ s.picks) (hc : copies (withF s f).owns ≤ c') : SayOk a b c' d (withF s f) where
  pu := ok.pu
  pn := ok.pn
  pl := ok.pl
  ou := List.pairwise_map.mpr ok.ou
  on := fun o ho => by
    obtain ⟨u, hu, rfl⟩ := List.mem_map.mp ho
    obtain ⟨h1, h2, _, _⟩ := ok.on u hu
    exact ⟨h1, h2, (h u hu).1, (h u hu).2⟩
  ol := by
    show (s.owns.map _).length ≤ b
    rw [List.length_map]
    exact ok.ol
  oc := hc
  cu := ok.cu
  ck := fun cl hcl => by
    rw [withF_names]
    exact ok.ck cl hcl
  cl := ok.cl
theorem seenF_good {s : Say} {a b c d : Nat} (ok : SayOk a b c d s) (n x : Str) (t : Bool) : ∀ o ∈ s.owns, (seenF s.picks n x t o).Pairwise tlt ∧ ∀ y ∈ seenF s.picks n x t o, y ∈ s.picks := fun o ho => by
  unfold seenF
  by_cases h : o.1 = n
  · rw [if_pos h]
    exact ⟨sgh_up ok.pu, fun y hy => (sgh_mem.mp hy).1⟩
  · rw [if_neg h]
    exact ⟨(ok.on o ho).2.2.1, (ok.on o ho).2.2.2⟩
theorem less_ok {s : Say} {a b c d : Nat} (ok : SayOk a b c d s) (n x : Str) : SayOk a b c d (seen s n x false) :=
  withF_ok ok _ (seenF_good ok n x false) (Nat.le_trans (copies_le s.owns fun o _ => (seenF_len ok n x o).1) ok.oc)
theorem more_ok {s : Say} {a b d : Nat} (ok : SayOk a b 120 d s) (n x : Str) : SayOk a b 1024 d (seen s n x true) :=
  withF_ok ok _ (seenF_good ok n x true) (by
    have h1 := copies_le2 s.owns fun o _ => (seenF_len ok n x o).2
    have h2 := ok.oc
    show copies (s.owns.map _) ≤ 1024
    omega)
theorem less_lt {s : Say} {a b c d : Nat} (ok : SayOk a b c d s) {n x : Str} (h : n ∈ vw s x) : seeN (seen s n x false) < seeN s := by
  unfold vw at h
  obtain ⟨o, ho, rfl⟩ := List.mem_map.mp h
  obtain ⟨hm, hx⟩ := List.mem_filter.mp ho
  refine see_lt s.owns (fun o _ => (seenF_len ok _ x o).1) ⟨o, hm, ?_⟩
  unfold seenF
  rw [if_pos rfl]
  exact (sgh_len ok.pu).2.1 (of_decide_eq_true hx)
/-- fewer copies are good enough -/
theorem SayOk.fit {s : Say} {a b c c' d : Nat} (ok : SayOk a b c d s) (h : copies s.owns ≤ c') : SayOk a b c' d s := { ok with oc := h }
end S1

set_option Elab.async false
set_option linter.all false
set_option maxRecDepth 100000
set_option maxHeartbeats 4000000
/-! with_sights -/
namespace S1
open PySem PySem.W PySem.Spec PyProof.Rows L2
def spWithSights : Sp := fun vs H Q _ => ∃ (v : V) (l : Addr) (s : Say) (f : Own → List Str) (T : List TRow), vs = [v, .ref l] ∧ DatS H v s ∧ s.owns.length ≤ 8 ∧ H l = some (.lst (T.map TRow.v)) ∧ T.map Prod.snd = s.owns.map (fun o => nmsD (f o)) ∧ (∀ q ∈ T, Dat H q.v q.2) ∧
  ∀ (v' : V) (H' : Hp), Same H H' → DatF H' v' (withF s f) → Q v' H'
/-- a saying, laid out -/
theorem say_at {H : Hp} {v : V} {s : Say} (D : DatS H v s) : ∃ (a b : Addr) (p c : V) (us : List V), v = .ref a ∧ H a = some (.tup [p, .ref b, c]) ∧ Dat H p (nmsD s.picks) ∧ DatO H (.ref b) s.owns ∧ FT H b us ∧ DatAll H us (s.owns.map ownD) ∧ Dat H c (.tuple (s.cls.map clD)) := by
  obtain ⟨a, p, o, c, rfl, e, h1, ⟨b, us, rfl, eb, hb⟩, h3⟩ := D
  exact ⟨a, b, _, _, us, rfl, e, h1, ⟨b, us, rfl, eb, hb⟩, eb, hb, h3⟩
theorem say_mk {H : Hp} {a : Addr} {p o c : V} {s : Say} (e : H a = some (.tup [p, o, c])) (D1 : Dat H p (nmsD s.picks)) (D2 : Dat H o (.tuple (s.owns.map ownD))) (D3 : Dat H c (.tuple (s.cls.map clD))) : Dat H (.ref a) s.d := .tup e (.cons D1 (.cons D2 (.cons D3 .nil)))
section
variable {P : Program} {w : World} {K : PySem.W.Frag} {mg : Str → Option Value} {base : Heap}
abbrev nWs : List Str := ["saying", "sights", "owns", "own", "sight"]
theorem scWs : FnScope nWs ["saying", "sights"] (defScope sWithSights) := ⟨rfl, rfl, rfl, by decide +kernel, rfl, by decide +kernel, by decide +kernel⟩
theorem ok_withSights {f : Addr} {fd : FuncData} (F : Fun K "with_sights" "with_sights" sWithSights f fd) (B : Blt mg) : FnOk P w K mg base CX0 1 f fd ["saying", "sights"] spWithSights := by
  refine F.ok scWs (fun vs H Q E h => ?_) (fun cdv A outer s H vs Q E hr h => ?_)
  · obtain ⟨v, l, sy, g, T, rfl, _⟩ := h
    rfl
  · obtain ⟨v, l, sy, g, T, rfl, D, lo, el, eT, DT, q⟩ := h
    refine ⟨_, pss_cons (ps_setLc (i := 2) (own := [("own", 3), ("sight", 4)]) (g := gTup K 2 (gCons (gName 3) (gCons (gName 4) gNil))) (tt := tYes) (te := tTup (tCons (tOp (rIxT K) (tVar 3) (tC (V.int 0))) (tCons (tVar 4) tNil))) rfl scWs.nd rfl rfl (by with_unfolding_all rfl)
        (pi_zipM rfl B.zip (pa_cons (pe_ix ix_tup (pv 0) pe_int (fun _ _ => rfl)) (pa_cons (pv 1) pa_nil))) (blkOk_by (N := nWs) (sc := defScope sWithSights) (by decide +kernel))
        (fun _ _ _ _ _ => by exact pg_tup rfl (pgs_cons (pg_name (i := 3) scWs.nd rfl (.inl rfl)) (pgs_cons (pg_name (i := 4) scWs.nd rfl (.inl rfl)) pgs_nil))) (fun _ _ _ _ _ => pts_nil)
        (fun _ _ _ _ _ => by exact pe_tup (pa_cons (pe_ix ix_tup (pv 3) pe_int (fun _ _ => rfl)) (pa_cons (pv 4) pa_nil))))
      (pss_one (ps_ret (pe_tup (pa_cons (pe_ix ix_tup (pv 0) pe_int (fun _ _ => rfl)) (pa_cons (pe_tupleF rfl B.tuple (pv 2)) (pa_cons (pe_ix ix_tup (pv 0) pe_int (fun _ _ => rfl)) pa_nil)))))), ?_⟩
    obtain ⟨a, b, p, c, us, rfl, ea, Dp, Do, eb, Db, Dc⟩ := say_at D
    have lu : us.length = sy.owns.length := by rw [Db.len, List.length_map]
    have lT : (T.map TRow.v).length = sy.owns.length := by
      have z := congrArg List.length eT
      rw [List.length_map, List.length_map] at z
      rw [List.length_map, z]
    refine ⟨_, rfl, a, _, 1, _, rfl, rfl, SqT.of ea, rfl, _, rfl, b, l, us, T.map TRow.v, rfl, FT.sq eb, SqL.of el, fun D0 hD0 => ?_⟩
    refine lc_it (walk_zipM (K := K) (a := b) (b := l) lu lT) (fun i H4 => ∃ T4 : List TRow, H4 D0 = some (.lst (T4.map TRow.v)) ∧ T4.map Prod.snd = (sy.owns.take i).map (fun o => ownD (o.1, g o)) ∧ (∀ q' ∈ T4, Dat H4 q'.v q'.2) ∧ Same H H4) ?_ ?_ ?_ ?_
    · exact ⟨[], upd_same, rfl, fun q' hq' => absurd hq' (by simp), same_new hD0⟩
    · rintro i H4 _ ⟨T4, e4, d4, D4, S4⟩
      exact ⟨FT.sq (eb.same S4), SqL.of (S4 _ _ el)⟩
    · rintro i x H4 H5 hi ⟨T4, e4, d4, D4, S4⟩ ⟨T0, y, z, rfl, hT0, rfl, fy, fz⟩
      obtain ⟨o, t, t', ho, rfl, g1⟩ := own_names Db fy
      have fz : (T.map TRow.v)[i]? = some z := fz
      rw [List.getElem?_map] at fz
      obtain ⟨q1, hq1, rfl⟩ := Option.map_eq_some_iff.mp fz
      have e1 : q1.2 = nmsD (g o) := by
        have z1 : (T.map Prod.snd)[i]? = some q1.2 := by rw [List.getElem?_map, hq1]; rfl
        rw [eT, List.getElem?_map, ho] at z1
        exact (Option.some.inj z1).symm
      have S5 := same_new (o := .tup [.ref t, q1.v]) hT0
      refine ⟨T0, _, rfl, SqT.of upd_same, rfl, _, _, rfl, _, _, rfl, rfl, rfl, yes_of ?_⟩
      refine ⟨_, rfl, t, _, 0, _, rfl, rfl, SqT.of (S5 _ _ (S4 _ _ g1)), rfl, _, rfl, (by show 2 ≤ sizeLine; decide), fun t2 ht2 => ?_⟩
      have S6 := S5.trans (same_new (o := .tup [.str o.1, q1.v]) ht2)
      have e6 := S6 _ _ e4
      have l4 : T4.length = i := by
        have z1 := congrArg List.length d4
        rw [List.length_map, List.length_map, List.length_take] at z1
        omega
      refine ⟨_, e6, by rw [List.length_map]; exact small1000 (by omega), T4 ++ [(t2, ownD (o.1, g o))], by rw [upd_same, List.map_append]; rfl, by rw [List.map_append, d4, take_next ho, List.map_append]; rfl, fun q' hq' => ?_, same_upd (S4.trans S6) hD0⟩
      have kq : keyable q'.2 = true := by
        rcases List.mem_append.mp hq' with m | m
        · have m2 : q'.2 ∈ (sy.owns.take i).map (fun o => ownD (o.1, g o)) := d4 ▸ List.mem_map_of_mem m
          obtain ⟨u, _, hu⟩ := List.mem_map.mp m2
          rw [← hu]
          exact keyable_own _
        · cases List.mem_singleton.mp m
          exact keyable_own _
      refine dat_upd e6 kq ?_
      rcases List.mem_append.mp hq' with m | m
      · exact (D4 q' m).same S6
      · cases List.mem_singleton.mp m
        have D1 := ((DT q1 (List.mem_of_getElem? hq1)).same S4).same S6
        rw [e1] at D1
        exact .tup upd_same (.cons (.str o.1) (.cons D1 .nil))
    · rintro H4 ⟨T4, e4, d4, D4, S4⟩
      rw [List.take_length] at d4
      refine ⟨_, rfl, a, _, 0, _, rfl, rfl, SqT.of (S4 _ _ ea), rfl, _, rfl, D0, _, rfl, SqL.of e4, fun tt ob htt hob => ?_⟩
      have S5 := same_new (o := .frz ob (.tup (T4.map TRow.v))) htt
      have S45 := S4.trans S5
      refine ⟨_, rfl, a, _, 2, _, rfl, rfl, SqT.of (S45 _ _ ea), rfl, (by show 3 ≤ sizeLine; decide), fun t3 ht3 => ?_⟩
      have S6 := same_new (o := .tup [p, .ref tt, c]) ht3
      have S := S45.trans S6
      have e : (withF sy g).owns.map ownD = T4.map Prod.snd := by
        rw [d4]
        show (sy.owns.map fun o => (o.1, g o)).map ownD = _
        rw [List.map_map]
        rfl
      refine q _ _ S ⟨t3, _, _, _, rfl, upd_same, Dp.same S, ⟨tt, _, rfl, ⟨ob, hob, S6 _ _ upd_same⟩, ?_⟩, Dc.same S⟩
      rw [e]
      exact dats_rows fun r hr => ((D4 r hr).same S5).same S6
end
end S1

set_option Elab.async false
set_option linter.all false
set_option maxRecDepth 100000
set_option maxHeartbeats 4000000
/-! less seen, more seen -/
namespace S1
open PySem PySem.W PySem.Spec PyProof.Rows L2
section
variable {X : Cx}
def rSortWT (K : PySem.W.Frag) : List V → Hp → VK → Prop := fun vs H Q => ∃ (l : Addr) (xs : List Str), vs = [V.ref l] ∧ SqT K H l (xs.map V.str) ∧
  ∀ (ys : List Str) (b : Addr), ys.Perm xs → (xs.Nodup → ys.Pairwise tlt) → H b = none → Q (.ref b) (upd H b (.lst (ys.map V.str)))
theorem cr_sortWT (hu : X.A.units + 64 < cLine) : CallR X (.builtin "sorted") (rSortWT X.K) := by
  intro pins s σ H vs us Q I r h
  obtain ⟨l, xs, rfl, hl, q⟩ := h
  rw [Vals.ref1 r]
  obtain ⟨its, rv, pl, hz⟩ := I.tuple hl
  have e0 := each_strs rv
  have hzl : its.length ≤ sizeLine := by
    rw [List.length_map] at hz
    rw [e0.length]
    exact hz
  obtain ⟨o, ho, hc, n, hdd⟩ := pl
  refine Calls.call_function_entry PyProof.Rows.kind_sorted PyProof.Rows.plain_sorted PyProof.Rows.entry_sorted (PyProof.Rows.args_sorted1 _) ?_
  unfold Builtin.«sorted»
  refine wpAny_bind (m := checkCount "sorted" 1 1 _) (wpAny_pure ?_)
  refine wpAny_bind (wpAny_collect_seq l (.inr rfl) ho hc hdd (fun h' hk => ?_) (by rw [List.size_toArray]; exact hzl))
  have I1 : Inv X pins σ H { s with heap := h' } := I.kept (t' := s.toks) hk
  refine wpAny_bind (wpAny_newList ?_ (by exact hzl))
  have hoL : (h'.push (seqObj "list" its.toArray 0)).get? h'.objs.size = some (seqObj "list" its.toArray 0) := Heap.get?_push_size _ rfl
  show wpAny _ _ _ _ _ { s with heap := h'.push (seqObj "list" its.toArray 0) }
  have old : ∀ {b : Addr} {u : Obj}, h'.get? b = some u → (h'.push (seqObj "list" its.toArray 0)).get? b = some u := fun e => Heap.get?_push_of_some _ e
  have rd := each_reads (h := sortingHeap (h'.push (seqObj "list" its.toArray 0)) h'.objs.size its) e0
  have al : AllAlike (xs.map PyData.str) := AllAlike.of fun b b' => by simp [alike]
  have un : ∀ d, d ∈ xs.map PyData.str → X.A.in1.in1.units + d.depth < cLine := fun d z => by
    obtain ⟨p, _, rfl⟩ := List.mem_map.mp z
    simp only [Around.in1_units, PyData.depth]
    omega
  have srt := SortsAt.data (prog := X.prog) (w := X.w) (A := X.A.in1.in1) (s := { s with heap := sortingHeap (h'.push (seqObj "list" its.toArray 0)) h'.objs.size its }) (each_map (R := fun v d => ∃ as, Reads _ v d as) PyData.str rd) al
    (Sortable.others fun b => ⟨fun z => (nomatch z), fun _ z => (nomatch z)⟩) un
  have out := strs_each (sortVals_data (R := RS) (enc := PyData.str) false e0 rd al)
  refine wpAny_bind (wpAny_holding (wpAny_call_entry PyProof.Rows.slot_list_sort ⟨_, hoL, rfl⟩ PyProof.Rows.entry_list_sort
    (list_sort_vals (s := { s with heap := h'.push (seqObj "list" its.toArray 0) }) hoL srt hzl ⟨_, rfl, ?_⟩) (PyProof.Rows.args_list_sort _)))
  obtain ⟨e', he'⟩ := PyProof.Rows.sortedHeap_at (vs := its) (out := (sortVals (dataKind (sortingHeap (h'.push (seqObj "list" its.toArray 0)) h'.objs.size its) (xs.map PyData.str)) false its its).toArray) hoL
  have pm : (sortW xs).Perm xs := List.mergeSort_perm _ _
  refine wpAny_pure ⟨_, rfl, .ref h'.objs.size, upd H h'.objs.size (.lst ((sortW xs).map V.str)), I1.laid (t' := s.toks) (fun b u e => ?_) (Nat.le_refl _)
    ⟨by rw [List.length_map, pm.length_eq]; rw [List.length_map] at hz; exact hz, _, e', out, he'⟩, rfl, q (sortW xs) _ pm sortW_up (I1.hok.fresh (Nat.le_refl _))⟩
  have hb : b < h'.objs.size := Heap.lt_size e
  rw [PyProof.Rows.sortedHeap_old (Nat.ne_of_lt hb) (by rw [size_push']; exact Nat.lt_succ_of_lt hb)]
  exact old e
end

theorem or_ne {i j k l : Nat} {σ : L2.St} {H : Hp} {Q : Bool → Hp → Prop} {a b c d : Str} (h1 : σ[i]? = some (some (.str a))) (h2 : σ[j]? = some (some (.str b))) (h3 : σ[k]? = some (some (.str c))) (h4 : σ[l]? = some (some (.str d)))
    (q : Q (decide (a ≠ b) || decide (c ≠ d)) H) : tOr (tTest (tOp rNe (tVar i) (tVar j))) (tTest (tOp rNe (tVar k) (tVar l))) σ H Q := by
  refine ⟨_, h1, _, h2, rfl, _, rfl, ?_⟩
  have e : ∀ x y : Str, (!decide (V.str x = V.str y)) = decide (x ≠ y) := fun x y => by
    by_cases z : x = y
    · rw [z]; simp
    · rw [decide_eq_true z, decide_eq_false (fun w => z (by injection w))]; rfl
  rw [e]
  by_cases z : a = b
  · rw [decide_eq_false (fun w => w z)] at q ⊢
    show if false = true then _ else _
    rw [if_neg (by decide)]
    refine ⟨_, h3, _, h4, rfl, _, rfl, ?_⟩
    rw [e]
    rwa [Bool.false_or] at q
  · rw [decide_eq_true z] at q ⊢
    show if true = true then _ else _
    rw [if_pos rfl]
    rwa [Bool.true_or] at q
/-- a row of sights made of the owns -/
theorem lc_own {K : PySem.W.Frag} {σ : L2.St} {H : Hp} {D b : Addr} {us : List V} {owns : List Own} {f : Own → List Str} {Qd : Hp → Prop} {i j : Nat} {ws : List Nat} {te : TE} (eb : FT H b us) (Db : DatAll H us (owns.map ownD)) (hD : H D = none) (len : owns.length ≤ 8)
    (hw : ∀ (x y : V), wipe (((wipe σ ws).set i (some x)).set j (some y)) ws = wipe σ ws)
    (step : ∀ (n : Nat) (o : Own) (t' : Addr) (H4 : Hp) (Qe : VK), owns[n]? = some o → Same H H4 → H4 t' = some (.tup (o.2.map V.str)) → (∀ (t2 : Addr) (H5 : Hp), Same H4 H5 → Dat H5 (.ref t2) (nmsD (f o)) → Qe (.ref t2) H5) → te (((wipe σ ws).set i (some (.str o.1))).set j (some (.ref t'))) H4 Qe)
    (hd : ∀ (T : List TRow) (H5 : Hp), H5 D = some (.lst (T.map TRow.v)) → T.map Prod.snd = owns.map (fun o => nmsD (f o)) → (∀ q ∈ T, Dat H5 q.v q.2) → Same H H5 → Qd H5) :
    ∃ W : Nat → Nat → Hp → Prop, (∃ m, W 0 m (upd H D (.lst []))) ∧ ∀ n m H, W n m H →
      ((Itt K b).stop n H ∧ Qd H) ∨ ((Itt K b).go n H ∧ ∃ Nx : Hp → Prop, (∀ H', Nx H' → ∃ m', m' < m ∧ W (n + 1) m' H') ∧ ∀ x H', (Itt K b).yld n H x H' → gTup K 2 (gCons (gName i) (gCons (gName j) gNil)) x (wipe σ ws) H' fun σ2 H2 => wipe σ2 ws = wipe σ ws ∧ tYes σ2 H2 fun b H3 =>
        if b = true then te σ2 H3 fun y H4 => ∃ acc, H4 D = some (.lst acc) ∧ acc.length < sizeLine ∧ Nx (upd H4 D (.lst (acc ++ [y]))) else Nx H3) := by
  have lu : us.length = owns.length := by rw [Db.len, List.length_map]
  refine lc_tup (K := K) (a := b) (xs := us) (fun n H4 => ∃ T4 : List TRow, H4 D = some (.lst (T4.map TRow.v)) ∧ T4.map Prod.snd = (owns.take n).map (fun o => nmsD (f o)) ∧ (∀ q' ∈ T4, Dat H4 q'.v q'.2) ∧ Same H H4)
    ⟨[], upd_same, rfl, fun q' hq' => absurd hq' (by simp), same_new hD⟩ (fun n H4 _ ⟨_, _, _, _, S4⟩ => FT.sq (eb.same S4)) ?_ ?_
  · rintro n x H4 hx ⟨T4, e4, d4, D4, S4⟩
    obtain ⟨d, hd2, Dx⟩ := dats_get' Db n x hx
    obtain ⟨o, ho, rfl⟩ := get_map hd2
    obtain ⟨t, rfl⟩ := tuple_ref (ds := [.str o.1, nmsD o.2]) Dx
    obtain ⟨t', g1, g2⟩ := own_row (q := (t, ownD o)) rfl Dx
    have il : n < owns.length := (List.getElem?_eq_some_iff.mp ho).1
    refine ⟨t, _, rfl, SqT.of (S4 _ _ g1), rfl, _, _, rfl, _, _, rfl, rfl, hw _ _, yes_of (step n o t' H4 _ ho S4 (S4 _ _ g2) fun t2 H5 S5 D5 => ?_)⟩
    have e6 := S5 _ _ e4
    have l4 : T4.length = n := by
      have z1 := congrArg List.length d4
      rw [List.length_map, List.length_map, List.length_take] at z1
      omega
    refine ⟨_, e6, by rw [List.length_map]; exact small1000 (by omega), T4 ++ [(t2, nmsD (f o))], by rw [upd_same, List.map_append]; rfl, by rw [List.map_append, d4, take_next ho, List.map_append]; rfl, fun q' hq' => ?_, same_upd (S4.trans S5) hD⟩
    have kq : keyable q'.2 = true := by
      rcases List.mem_append.mp hq' with m | m
      · have m2 : q'.2 ∈ (owns.take n).map (fun o => nmsD (f o)) := d4 ▸ List.mem_map_of_mem m
        obtain ⟨u, _, hu⟩ := List.mem_map.mp m2
        rw [← hu]
        exact keyable_nms _
      · cases List.mem_singleton.mp m
        exact keyable_nms _
    refine dat_upd e6 kq ?_
    rcases List.mem_append.mp hq' with m | m
    · exact (D4 q' m).same S5
    · cases List.mem_singleton.mp m
      exact D5
  · rintro H4 ⟨T4, e4, d4, D4, S4⟩
    rw [lu, List.take_length] at d4
    exact hd T4 H4 e4 d4 D4 S4
def spLess : Sp := fun vs H Q _ => ∃ (v : V) (s : Say) (n x : Str), vs = [v, .str n, .str x] ∧ DatS H v s ∧ SayOk 6 8 120 40 s ∧ ∀ (v' : V) (H' : Hp), Same H H' → DatF H' v' (seen s n x false) → Q v' H'
def spMore : Sp := fun vs H Q _ => ∃ (v : V) (s : Say) (n x : Str), vs = [v, .str n, .str x] ∧ DatS H v s ∧ SayOk 6 8 120 40 s ∧ x ∈ s.picks ∧ ∀ (v' : V) (H' : Hp), Same H H' → DatF H' v' (seen s n x true) → Q v' H'
theorem withF_eq {s : Say} {f g : Own → List Str} (h : ∀ o ∈ s.owns, f o = g o) : withF s f = withF s g := by
  unfold withF
  congr 1
  exact List.map_congr_left fun o ho => by rw [h o ho]
abbrev nLe : List Str := ["saying", "name", "pick", "own", "sight", "other"]
abbrev nMo : List Str := ["saying", "name", "pick", "own", "sight"]
def lcSc : Expr → Scope
  | .ListComp _ _ sc _ => sc
  | _ => defScope sLess
def retArg2 : List Stmt → Expr
  | [.Return (some (.Call _ [_, e] _ _)) _] => e
  | _ => .Constant .none 0 ⟨0, 0, 0, 0⟩
abbrev scLeO : Scope := lcSc (retArg2 (defBody sLess))
def envLe : Env := { scope := defScope sLess, locals := 0, globals := 0, cells := [], qual := "", func := none, code := .none, frame := .none, builtins := 0 }
abbrev scLeR : Scope := relabel scLeO envLe
section
variable {P : Program} {w : World} {K : PySem.W.Frag} {mg : Str → Option Value} {base : Heap}
theorem scLe : FnScope nLe ["saying", "name", "pick"] (defScope sLess) := ⟨rfl, rfl, rfl, by decide +kernel, rfl, by decide +kernel, by decide +kernel⟩
theorem scMo : FnScope nMo ["saying", "name", "pick"] (defScope sMore) := ⟨rfl, rfl, rfl, by decide +kernel, rfl, by decide +kernel, by decide +kernel⟩
theorem ok_less {f fW : Addr} {fd fdW : FuncData} (F : Fun K "less_seen" "less_seen" sLess f fd) (B : Blt mg) (Ws : Has K mg "with_sights" sWithSights ["saying", "sights"] fW fdW) : FnOk P w K mg base CX0 2 f fd ["saying", "name", "pick"] spLess := by
  have GW : FnOk P w K mg base CX0 1 fW fdW ["saying", "sights"] spWithSights := ok_withSights Ws.F B
  refine F.ok scLe (fun vs H Q E h => ?_) (fun cdv A outer s H vs Q E hr h => ?_)
  · obtain ⟨v, sy, n, x, rfl, _⟩ := h
    rfl
  · obtain ⟨v, sy, n, x, rfl, D, ok, q⟩ := h
    refine ⟨_, pss_one (ps_ret (pe_call GW hr rfl Ws.g Ws.F.kp Ws.b .nil pass0 (pa_cons (pv 0) (pa_cons (pe_lc (own := [("own", 3), ("sight", 4)]) (g := gTup K 2 (gCons (gName 3) (gCons (gName 4) gNil))) (tt := tYes)
        (te := tThen (tLc (iTup K (tVar 4)) (gName 5) (tOr (tTest (tOp rNe (tVar 3) (tVar 1))) (tTest (tOp rNe (tVar 5) (tVar 2)))) (tVar 5) [5]) (kTup K))
        rfl scLe.nd (pi_tup (pe_ix ix_tup (pv 0) pe_int (fun _ _ => rfl))) (blkOk_by (N := nLe) (sc := defScope sLess) (by decide +kernel))
        (fun _ _ _ _ _ => by exact pg_tup rfl (pgs_cons (pg_name (i := 3) scLe.nd rfl (.inr rfl)) (pgs_cons (pg_name (i := 4) scLe.nd rfl (.inl rfl)) pgs_nil))) (fun _ _ _ _ _ => pts_nil)
        (fun _ _ _ _ _ => by exact pe_tupleOf rfl B.tuple (pe_lc (own := [("other", 5)]) rfl scLe.nd (pi_tup (pv 4))
          (by show BlkOk nLe scLeR _ _; exact blkOk_by (by decide +kernel)) (fun _ _ _ _ _ => pg_name (i := 5) scLe.nd rfl (.inl rfl)) (fun _ _ _ _ _ => by exact pts_one (PW.pt (pw_or (pt_cmpR op_ne (pv 3) (pv 1) (nomark _)) (pw_or1 (pt_cmpR op_ne (pv 5) (pv 2) (nomark _))))))
          (fun _ _ _ _ _ => by exact pv 5)))) pa_nil)))), ?_⟩
    obtain ⟨a, b, p, c, us, rfl, ea, Dp, Do, eb, Db, Dc⟩ := say_at D
    have lo := ok.ol
    refine ⟨_, rfl, _, rfl, a, _, 1, _, rfl, rfl, SqT.of ea, rfl, b, rfl, ⟨_, FT.sq eb⟩, fun D0 hD0 => ?_⟩
    refine lc_own (K := K) (f := fun o => o.2.filter fun y => decide (o.1 ≠ n) || decide (y ≠ x)) eb Db hD0 lo (fun _ _ => rfl) (fun j o t' H4 Qe ho S4 e4 k => ?_) (fun T H5 e5 d5 D5 S5 => ?_)
    · have og := ok.own (List.mem_of_getElem? ho)
      have lp := ok.pl
      have le := og.le
      refine ⟨_, rfl, t', rfl, ⟨_, SqT.of e4⟩, fun D1 hD1 => ?_⟩
      refine lc_tup (K := K) (a := t') (xs := o.2.map V.str) (fun m H6 => H6 D1 = some (.lst (((o.2.take m).filter fun y => decide (o.1 ≠ n) || decide (y ≠ x)).map V.str)) ∧ Same H4 H6) ⟨upd_same, same_new hD1⟩ (fun m H6 _ h => SqT.of (h.2 _ _ e4)) ?_ ?_
      · rintro m y H6 hy ⟨e6, S6⟩
        rw [List.getElem?_map] at hy
        obtain ⟨z, hz, rfl⟩ := Option.map_eq_some_iff.mp hy
        refine ⟨rfl, or_ne (a := o.1) (b := n) (c := z) (d := x) rfl rfl rfl rfl ?_⟩
        have fl := List.length_filter_le (fun y => decide (o.1 ≠ n) || decide (y ≠ x)) (o.2.take m)
        rw [List.length_take] at fl
        refine ite2 (fun h => ?_) (fun h => ?_)
        · refine ⟨_, rfl, _, e6, by rw [List.length_map]; exact small1000 (by omega), ?_, same_upd S6 hD1⟩
          have eo : [z].filter (fun y => decide (o.1 ≠ n) || decide (y ≠ x)) = [z] := by rw [List.filter_cons, if_pos h]; rfl
          rw [upd_same, take_next hz, List.filter_append, eo, List.map_append]
          rfl
        · refine ⟨?_, S6⟩
          have eo : [z].filter (fun y => decide (o.1 ≠ n) || decide (y ≠ x)) = [] := by rw [List.filter_cons, if_neg h]; rfl
          rw [take_next hz, List.filter_append, eo, List.append_nil]
          exact e6
      · rintro H6 ⟨e6, S6⟩
        rw [List.length_map, List.take_length] at e6
        refine .inl ⟨D1, _, rfl, SqL.of e6, fun t2 ht2 => ?_⟩
        exact k t2 _ (S6.trans (same_new ht2)) (.tup upd_same (dats_strs _))
    · refine ⟨.ref a, D0, sy, _, T, rfl, D.same S5, lo, e5, d5, D5, fun v' H6 S6 D6 => q v' H6 (S5.trans S6) ?_⟩
      unfold seen
      rw [← withF_eq fun o ho => less_eq (n := n) (x := x) ok.pu (ok.own ho)]
      exact D6
theorem ok_more {f fW : Addr} {fd fdW : FuncData} (F : Fun K "more_seen" "more_seen" sMore f fd) (B : Blt mg) (Ws : Has K mg "with_sights" sWithSights ["saying", "sights"] fW fdW) : FnOk P w K mg base CX0 2 f fd ["saying", "name", "pick"] spMore := by
  have GW : FnOk P w K mg base CX0 1 fW fdW ["saying", "sights"] spWithSights := ok_withSights Ws.F B
  refine F.ok scMo (fun vs H Q E h => ?_) (fun cdv A outer s H vs Q E hr h => ?_)
  · obtain ⟨v, sy, n, x, rfl, _⟩ := h
    rfl
  · obtain ⟨v, sy, n, x, rfl, D, ok, hx, q⟩ := h
    have hu : (A.deeper (envOfC "more_seen" (defScope sMore) s.heap.objs.size f cdv)).units + 64 < cLine := hr.units
    refine ⟨_, pss_one (ps_ret (pe_call GW hr rfl Ws.g Ws.F.kp Ws.b .nil pass0 (pa_cons (pv 0) (pa_cons (pe_lc (own := [("own", 3), ("sight", 4)]) (g := gTup K 2 (gCons (gName 3) (gCons (gName 4) gNil))) (tt := tYes)
        (te := tIf (tAnd (tTest (tOp rEq (tVar 3) (tVar 1))) (tTest (tOp (rIn K true) (tVar 2) (tVar 4)))) (tThen (tCB (rSortWT K) (tCons (tOp (rCatA K) (tVar 4) (tTup (tCons (tVar 2) tNil))) tNil)) (kTup K)) (tVar 4))
        rfl scMo.nd (pi_tup (pe_ix ix_tup (pv 0) pe_int (fun _ _ => rfl))) (blkOk_by (N := nMo) (sc := defScope sMore) (by decide +kernel))
        (fun _ _ _ _ _ => by exact pg_tup rfl (pgs_cons (pg_name (i := 3) scMo.nd rfl (.inl rfl)) (pgs_cons (pg_name (i := 4) scMo.nd rfl (.inl rfl)) pgs_nil))) (fun _ _ _ _ _ => pts_nil)
        (fun _ _ _ _ _ => by
          refine pe_ifExp ?_ ?_ ?_
          · exact PW.pt (pw_and (pt_cmpR op_eq (pv 3) (pv 1) (nomark _)) (pw_and1 (pt_cmpR op_notIn_seq (pv 2) (pv 4) (by with_unfolding_all rfl))))
          · exact pe_tupleOf (by rfl) B.tuple (pe_callB (cr_sortWT (by exact hu)) (by rfl) B.sorted (by decide +kernel) (pa_cons (pe_op op_catA (pv 4) (pe_tup (pa_cons (pv 2) pa_nil))) pa_nil))
          · exact pv 4)) pa_nil)))), ?_⟩
    obtain ⟨a, b, p, c, us, rfl, ea, Dp, Do, eb, Db, Dc⟩ := say_at D
    have lo := ok.ol
    refine ⟨_, rfl, _, rfl, a, _, 1, _, rfl, rfl, SqT.of ea, rfl, b, rfl, ⟨_, FT.sq eb⟩, fun D0 hD0 => ?_⟩
    refine lc_own (K := K) (f := seenF sy.picks n x true) eb Db hD0 lo (fun _ _ => rfl) (fun j o t' H4 Qe ho S4 e4 k => ?_) (fun T H5 e5 d5 D5 S5 => ?_)
    · have og := ok.own (List.mem_of_getElem? ho)
      have lp := ok.pl
      have le := og.le
      have keep : ¬ (o.1 = n ∧ x ∉ o.2) → Qe (.ref t') H4 := fun h => k t' H4 (Same.refl _) (by rw [more_same ok.pu og h]; exact .tup e4 (dats_strs _))
      refine ⟨_, rfl, _, rfl, rfl, _, rfl, ?_⟩
      show if decide (V.str o.1 = V.str n) = true then _ else _
      by_cases h1 : o.1 = n
      · rw [if_pos (by rw [h1]; exact decide_eq_true rfl)]
        refine ⟨_, rfl, _, rfl, t', _, rfl, .inr (SqT.of e4), rfl, flat_strs _, _, rfl, ?_⟩
        show if (!inV (V.str x) (o.2.map V.str)) = true then _ else _
        rw [inV_str]
        by_cases h2 : x ∈ o.2
        · rw [decide_eq_true h2, if_neg (by decide)]
          exact ⟨_, rfl, keep fun z => z.2 h2⟩
        · rw [decide_eq_false h2, if_pos (by decide)]
          have main : ∀ (tc : Addr) (H5 : Hp), Same H4 H5 → H5 tc = some (.tup ((o.2 ++ [x]).map V.str)) → rSortWT K [.ref tc] H5 fun y H6 => kTup K y H6 Qe := fun tc H5 S5 e5 => by
            refine ⟨tc, o.2 ++ [x], rfl, SqT.of e5, fun ys l2 pm up hl2 => .inl ⟨l2, _, rfl, SqL.of upd_same, fun t2 ht2 => ?_⟩⟩
            have S6 := (S5.trans (same_new (o := .lst (ys.map V.str)) hl2)).trans (same_new (o := .tup (ys.map V.str)) ht2)
            exact k t2 _ S6 (by rw [more_new ok.pu og ⟨h1, h2⟩ hx pm up]; exact .tup upd_same (dats_strs _))
          refine ⟨_, rfl, _, rfl, (by show 1 ≤ sizeLine; decide), fun t1 ht1 => ?_⟩
          have S5 := same_new (o := .tup [V.str x]) ht1
          refine ⟨t', t1, _, _, rfl, rfl, SqT.of (S5 _ _ e4), SqT.of upd_same, ?_, fun h0 => ?_, fun _ h0 => (by cases h0), fun _ _ tc htc => ?_⟩
          · rw [List.length_map]
            exact Nat.le_of_lt (small1000 (by show o.2.length + 1 ≤ 1000; omega))
          · refine main t1 _ S5 ?_
            have z : o.2 = [] := List.map_eq_nil_iff.mp h0
            rw [upd_same, z]
            rfl
          · refine main tc _ (S5.trans (same_new htc)) ?_
            rw [upd_same, List.map_append]
            rfl
      · rw [if_neg (by intro z; exact h1 (by have := of_decide_eq_true z; injection this))]
        show if false = true then _ else _
        rw [if_neg (by decide)]
        exact ⟨_, rfl, keep fun z => h1 z.1⟩
    · exact ⟨.ref a, D0, sy, _, T, rfl, D.same S5, lo, e5, d5, D5, fun v' H6 S6 D6 => q v' H6 (S5.trans S6) D6⟩
end
end S1

set_option Elab.async false
set_option linter.all false
set_option maxRecDepth 100000
set_option maxHeartbeats 4000000
/-! an exception that is caught, and kept under another name -/
namespace L2
open PySem PySem.Spec PyProof.Rows
/-- at a: a caught exception of the class cls, its dict d -/
def exq (a : Addr) (cls : Value) (d : Option Addr) : HO := .ext fun h => ∃ (oe : Obj) (vs : Array Value), h.get? a = some oe ∧ Zc cls d oe ∧ oe.data = .fields vs
theorem exq_ok {P : Program} {w : World} {H : Hp} {h : Heap} {a : Addr} {cls : Value} {d : Option Addr} {oe : Obj} {vs : Array Value} (e : h.get? a = some oe) (z : Zc cls d oe) (dd : oe.data = .fields vs) : ObjOk P w H h a (exq a cls d) :=
  ⟨⟨oe, vs, e, z, dd⟩, ⟨oe, e⟩, fun h1 h2 ⟨oe, vs, a1, a2, a3⟩ k => ⟨oe, vs, k _ a1, a2, a3⟩⟩
theorem exq_at {P : Program} {w : World} {H : Hp} {h : Heap} {a : Addr} {cls : Value} {d : Option Addr} (hok : HOk P w H h) (e : H a = some (exq a cls d)) : ∃ (oe : Obj) (vs : Array Value), h.get? a = some oe ∧ Zc cls d oe ∧ oe.data = .fields vs := by
  have x : ObjOk P w H h a (.ext fun h => ∃ (oe : Obj) (vs : Array Value), h.get? a = some oe ∧ Zc cls d oe ∧ oe.data = .fields vs) := hok a _ e
  exact x.1
theorem Inv.track {X : Cx} {pins : List (Addr × Obj)} {σ : St} {H : Hp} {s : Shared} {a : Addr} {oe : Obj} {vs : Array Value} {cls : Value} {d : Option Addr} (I : Inv X pins σ H s) (ha : s.heap.get? a = some oe) (hz : Zc cls d oe) (hd : oe.data = .fields vs) (na : H a = none)
    (nL : a ≠ X.env.locals) (nP : ∀ p ∈ X.pn ++ pins, p.1 ≠ a) (n0 : X.s_0.heap.get? a = none) : Inv X pins σ (upd H a (exq a cls d)) s where
  ok := I.ok
  os := I.os
  bare := I.bare
  base := {
    keep := I.base.keep
    slot := I.base.slot
    free := fun b o e n hx => by
      rw [upd_ne (fun z => by rw [z, n0] at e; cases e)]
      exact I.base.free b o e n hx
    there := I.base.there
    tups := fun b xs e => by
      have q := I.base.tups b xs e
      rw [upd_ne (ne_of_none q na)]
      exact q
    frzs := fun b o u e => by
      have q := I.base.frzs b o u e
      rw [upd_ne (ne_of_none q na)]
      exact q
    tbls := fun b ps e => by
      obtain ⟨m, q⟩ := I.base.tbls b ps e
      exact ⟨m, by rw [upd_ne (ne_of_none q na)]; exact q⟩ }
  loc := I.loc
  cell := I.cell
  free := by rw [upd_ne nL.symm]; exact I.free
  freeC := fun x c e => by
    have ne : c ≠ a := fun z => by
      obtain ⟨v, o, h1, h2⟩ := I.cell x c e
      rw [z, ha] at h1
      cases h1
      rw [hd] at h2
      simp at h2
    rw [upd_ne ne]
    exact I.freeC x c e
  pin := fun p hp => by
    obtain ⟨a1, a2, a3⟩ := I.pin p hp
    exact ⟨a1, by rw [upd_ne (nP p hp)]; exact a2, a3⟩
  hok := I.hok.laidN (fun _ _ e => e) na (exq_ok ha hz hd)
  len := I.len
/-- what the clause 'except x as n' wishes, where the exception stays known behind the suite -/
def wAsT (K : PySem.W.Frag) (c : Value) (i : Nat) (ts : Addr → Value → Option Addr → TS) (Wout : WX) (D : Ends) : WX := fun cls d σ H =>
  ∃ b, PySem.W.exmOne K cls c = some b ∧ (b = true → ∀ a, H a = none → ts a cls d { nx := fun σ' H' => D.nx (σ'.set i none) (upd H' a (exq a cls d)), rt := fun v H' => D.rt v (upd H' a (exq a cls d)), bk := fun σ' H' => D.bk (σ'.set i none) (upd H' a (exq a cls d)), ct := fun σ' H' => D.ct (σ'.set i none) (upd H' a (exq a cls d)) } (σ.set i (some (.ref a))) H) ∧
    (b = false → Wout cls d σ H)
section
variable {X : Cx} {x n : Str} {c : Value} {i : Nat} {body suite : List Stmt} {b₀ : Stmt} {np pos pos' : Pos} {tb : WX → TS} {ts : Addr → Value → Option Addr → TS} {Wout : WX}
theorem ps_try_asT (hex : X.ex = []) (hs : X.stack = X.env :: X.outer) (hf : X.env.frame = some X.env.locals) (hN : X.N.Nodup) (hi : X.N[i]? = some n) (hln : X.env.kindOf n = some .local) (hc : Names X x c) (tk : Takes X Wout)
    (hb : ∀ (W : WX) (pn : List (Addr × Obj)) (xe : Value → Shared → Prop), Takes (X.tr pn xe) W → PassesOwn (model X.prog X.w) X.A X.env xe → PSs (X.tr pn xe) body (tb W))
    (hsu : ∀ (a : Addr) (oe : Obj) (cls : Value) (d : Option Addr) (pn : List (Addr × Obj)), Zc cls d oe → (∃ vs, oe.data = .fields vs) → PSs (X.suite a ((a, oe) :: pn)) (b₀ :: suite) (ts a cls d)) :
    PS X (.Try body [.ExceptHandler (some (.Name x np)) (some n) (b₀ :: suite) pos'] [] [] pos) (fun D σ H => tb (wAsT X.K c i ts Wout D) D σ H) := by
  refine ⟨fun pins s σ H D I h => ?_⟩
  have ok := I.ok
  have hfr : X.A.frames = some (X.env :: X.outer) := by rw [ok.frames, hs]
  have hloc : Loc X.env.scope n := .inl hln
  refine wpAny_Try_except ?_
  refine wpAny_mono ((hb (wAsT X.K c i ts Wout D) (X.pn ++ pins) (fun e s₁ => wpAny (model X.prog X.w) X.A (noteFrame e X.env) (fun _ s₂ => wpAny (model X.prog X.w) X.A (setFlight e none) (fun _ s₃ =>
    wpAny (model X.prog X.w) X.A (handleBy e X.env [.ExceptHandler (some (.Name x np)) (some n) (b₀ :: suite) pos']) (SP X pins D) X.xe s₃) X.xe s₂) X.xe s₁) (fun u s' xx => ?_) PassesOwn.looking).run [] s σ H D (I.toTry _) h) (fun f s1 hsp => ?_) (fun e s1 he => he)
  · -- the catch
    obtain ⟨a, B, sI, pins', σ', H', cls, d, rfl, J', nb, up, sky, na, os, ag, b, hb1, hyes, hno⟩ := xx
    have J : Inv X pins σ' H' sI := J'.ofTry ok
    have sky' : Sky B (X.env :: X.outer) a (Zc cls d) X.env.locals s'.heap := by rw [← hs]; exact sky
    show wpAny (model X.prog X.w) X.A (noteFrame (.ref a) X.env) _ _ _
    refine Sky.land Zc.steady hfr hf sky' fun h3 fl3 up3 => ?_
    have J3 : Inv X pins σ' H' { s' with heap := h3 } := J.landed nb fl3.1 (up.trans up3) os ag
    obtain ⟨oe3, vs3, he3, hz3, hd3⟩ := fl3.there
    have notFr : ∀ {h : Heap} {o : Obj} {vs : Array Value}, h.FunFrames B (X.env :: X.outer) → h.get? a = some o → o.data = .fields vs → a ∉ frs (X.env :: X.outer) := fun {h o vs} ff e dd hm => by
      obtain ⟨_, o', e', hnf⟩ := ff.mem hm
      rw [e] at e'; cases e'
      exact hnf _ dd
    have nfr := notFr fl3.2.2.1 he3 hd3
    have nL : a ≠ X.env.locals := fun z => nfr (List.mem_filterMap.mpr ⟨X.env, List.mem_cons_self, by rw [hf, z]⟩)
    have nF : a ∉ X.fs := fun hm => by
      obtain ⟨e, he, q⟩ := List.mem_filterMap.mp hm
      exact nfr (List.mem_filterMap.mpr ⟨e, List.mem_cons_of_mem _ he, q⟩)
    have hBa : B.get? a = none := fl3.2.1
    have nsI : ∀ o, sI.heap.get? a ≠ some o := fun o e => by
      have z := nb a o e (by rw [hs]; exact nfr)
      rw [hBa] at z
      cases z
    have nP : ∀ p ∈ X.pn ++ pins, p.1 ≠ a := fun p hp z => nsI p.2 (by rw [← z]; exact (J.pin p hp).1)
    have n0 : X.s_0.heap.get? a = none := by
      cases e : X.s_0.heap.get? a with
      | none => rfl
      | some o =>
        obtain ⟨o', e'⟩ := J.base.there a o e (by rw [hex]; simp)
        exact absurd e' (nsI o')
    have S3 := J3.suite he3 hd3 na nL nF
    refine wpAny_handleBy_cons (codeAny_handlers_test ?_) (by intro q; cases q)
    have LT : PySem.W.Looks (model X.prog X.w) h3 (typeOf (.ref a)) cls := fun A Q E s k q => wpAny_typeOf_ref (k _ _ he3) (by rw [hz3.1]; exact q)
    have LM := PySem.W.exm_one (M := model X.prog X.w) (J3.kIn) LT hb1
    have test : ∀ {Q : Value → Shared → Prop} {E : Value → Shared → Prop}, Q c { s' with heap := h3 } → wpAny (model X.prog X.w) (X.A.mark (some (.ref a))) (eval (.Name x np) X.env) Q E { s' with heap := h3 } := fun {Q E} q => by
      obtain ⟨hg, hdbg, hm | ⟨hm, hv, hnn⟩⟩ := hc
      · exact ld_glob (X := X.suite a ((a, oe3) :: (X.pn ++ pins))) S3 hg hm q hdbg
      · exact ld_blt (X := X.suite a ((a, oe3) :: (X.pn ++ pins))) S3 hg hm hv q hnn hdbg
    refine test (LM.here ?_)
    cases b with
    | true =>
      refine codeAny_handlers_suite_as ?_
      refine HandSPX.lands_againZ fl3 fun h4 fl4 up4 => ?_
      have J4 : Inv X pins σ' H' { s' with heap := h4 } := J.landed nb fl4.1 ((up.trans up3).trans up4) os ag
      obtain ⟨oe4, vs4, he4, hz4, hd4⟩ := fl4.there
      have S4 := J4.suite he4 hd4 na nL nF
      refine store_ok (X := X.suite a ((a, oe4) :: (X.pn ++ pins))) (v := .ref a) S4 hN hi hloc rfl (fun s5 S5 => ?_) (.inr hln)
      refine wpAny_mono ((hsu a oe4 cls d (X.pn ++ pins) hz4 ⟨_, hd4⟩).run [] s5 _ H' _ S5 (hyes rfl a na)) (fun f s6 hsp => ?_) (fun _ _ z => False.elim z)
      have end_ : ∀ {σ6 : St} {H6 : Hp} {Q : Shared → Prop}, Inv (X.suite a ((a, oe4) :: (X.pn ++ pins))) [] σ6 H6 s6 → (∀ s7, Inv X pins (σ6.set i none) (upd H6 a (exq a cls d)) s7 → Q s7) →
          wpAny (model X.prog X.w) X.A (do bindName X.env n .none; unbindBehindTheSuite X.env n pos') (fun _ s7 => Q s7) X.xe s6 := fun {σ6 H6 Q} S6 hq => by
        obtain ⟨p1, p2, _⟩ := S6.pin (a, oe4) (List.mem_append_left _ List.mem_cons_self)
        exact gone_ok ((S6.unsuite ok).track p1 hz4 hd4 p2 nL nP n0) hN hi hln hq
      cases f with
      | next =>
        obtain ⟨σ6, H6, S6, q6⟩ := hsp
        exact end_ S6 fun s7 J7 => ⟨_, _, J7, q6⟩
      | brk =>
        obtain ⟨σ6, H6, S6, q6⟩ := hsp
        exact end_ S6 fun s7 J7 => ⟨_, _, J7, q6⟩
      | cont =>
        obtain ⟨σ6, H6, S6, q6⟩ := hsp
        exact end_ S6 fun s7 J7 => ⟨_, _, J7, q6⟩
      | ret u =>
        obtain ⟨v6, σ6, H6, S6, r6, q6⟩ := hsp
        exact end_ S6 fun s7 J7 => ⟨_, _, _, J7, r6, q6⟩
    | false =>
      show wpAny _ X.A (handleBy (.ref a) X.env []) _ _ _
      refine wpAny_handleBy_nil ?_
      obtain ⟨k1, k2, k3, oe, vs, T, oT, ts', he, hz, hd, h1, hr⟩ := id fl3
      unfold PySem.passOn
      refine wpAny_bind (wpAny_field he hd h1 ?_)
      rw [if_neg (show ¬ ((Value.ref T == Value.none) = true) from by simp)]
      have fin : wpAny (model X.prog X.w) X.A (setFlight (.ref a) X.env.frame) (fun _ s4 => wpAny (model X.prog X.w) X.A (throw (.ref a) : Sem Flow) (SP X pins D) X.xe s4) X.xe { s' with heap := h3 } := by
        rw [hf]
        refine HandSPX.setFlight_upZ fl3 fun h4 hh4 up4 => wpAny_throw (tk _ _ ?_)
        exact ⟨a, B, sI, pins, σ', H', cls, d, rfl, J, nb, (up.trans up3).trans up4, .inr (.inr (by rw [hs]; exact hh4)), na, os, ag, hno rfl⟩
      first
        | exact wpAny_bind (wpAny_pure (wpAny_bind fin))
        | exact wpAny_bind fin
  · cases f with
    | next =>
      obtain ⟨σ', H', J', q⟩ := hsp
      exact wpAny_execs_nil ⟨σ', H', J'.ofTry ok, q⟩
    | brk =>
      obtain ⟨σ', H', J', q⟩ := hsp
      exact ⟨σ', H', J'.ofTry ok, q⟩
    | cont =>
      obtain ⟨σ', H', J', q⟩ := hsp
      exact ⟨σ', H', J'.ofTry ok, q⟩
    | ret u =>
      obtain ⟨v, σ', H', J', r, q⟩ := hsp
      exact ⟨v, σ', H', J'.ofTry ok, r, q⟩
end
end L2

set_option Elab.async false
set_option linter.all false
set_option maxRecDepth 100000
set_option maxHeartbeats 4000000
/-! raising an error of the program; its value, and isinstance, of one that is kept -/
namespace L2
open PySem PySem.Spec PyProof.Rows
def tMkX (H0 : Hp) (C : Addr) (te : TE) : St → Hp → XK → Prop := fun σ H Q => te σ H fun v H1 => ∀ (a d : Addr) (H2 : Hp), H1 a = none → H1 d = none → d ≠ a → Same H1 H2 → H2 a = none → H2 d = some (exd d [(("value" : Str), v)]) → H0 a = none ∧ Q (.ref C) (some d) H2
section
variable {X : Cx} {fI C : Addr} {k : Nat} {fd : FuncData} {x : Str} {e : Expr} {te : TE} {p pos kp : Pos}
theorem pmk_err (hx : X.ex = []) (T : ErrC X.K fI C) (tI : PySem.W.typeIn X.K (.ref fI) = some (.type "function")) (F1 : FnOk X.prog X.w X.K X.mg X.base CX0 k fI fd ["self", "value"] (spInit X.K)) (hr : Room (k + 1) X.A)
    (hb : ∀ (s : Shared) (a u : Value), BindsTo s fd ⟨[a, u], []⟩ ((["self", "value"] : List Str).zip [a, u])) (hg : Gl X x) (hm : X.mg x = some (.ref C)) (he : PE X e te)
    (hdb : (x == ("__debug__" : Str)) = false := by decide) (hs : starEach [e] X.env = (false, eval e X.env) :: starEach [] X.env := by rfl) : PMk X (.Call (.Name x p) [e] [] pos) (tMkX X.H_0 C te) := by
  intro pins s σ H Q I h
  obtain ⟨nm, q, N, bs, bm, sn, sub, ab, col, dd, k0, k1, k2, k3, k5, hC, hbm⟩ := T.o.cls
  refine wpAny_Call_Name_kw (ld_glob I hg hm ?_ hdb)
  refine PySem.W.callWith_K (h₀ := X.base) I.ok.mod.kin T.o.kC ?_ hs (by rfl)
  rw [hs]
  show wpAny _ _ (spliced ((false, eval e X.env) :: backTo pos (starEach [] X.env))) _ _ s
  refine Calls.spliced_cons (thn (he.run pins s σ H _ I h) fun u s1 ⟨v, H1, I1, r1, q1⟩ => ?_)
  refine Calls.spliced_nil ⟨I1.kIn, ?_⟩
  show wpAny _ _ (call (.ref C) [u]) _ _ _
  obtain ⟨hp, g, dr, tk, os⟩ := s1
  refine wpAny_call (codeAny_mono (PySem.HandSPX.call_own F.excBase_ValueError (fun Y => PySem.HandSPX.refsVE_contains Y bm hbm) (I1.kIn _ _ hC) (PySem.W.looks_findIn I1.kIn T.iC) (fun self => PySem.W.bind_fn I1.kIn self tI) (by show 1 ≤ sizeLine; rw [sizeLine_eq]; omega)
    (run_err (kw := []) (us := [u]) (args := ⟨[], []⟩) (Q := fun y H2 => ∃ (a d : Addr) (v : V), y = .ref a ∧ Err H2 a d C v ∧ X.H_0 a = none ∧ Q (.ref C) (some d) (delH H2 a)) T F1 hr I1 r1 (fun s => hb s _ u) fun a d H2 na nd ne er S => ?_)) fun r s' hq => ?_)
  · obtain ⟨z1, z2⟩ := q1 a d (delH H2 a) na nd ne (fun b u e => by rw [delH_ne (ne_of_none e na)]; exact S _ _ e) delH_same (by rw [delH_ne ne]; exact er.2)
    exact ⟨a, d, v, rfl, er, z1, z2⟩
  · obtain ⟨y, rfl, ep⟩ := hq
    obtain ⟨y', H3, I3, r3, a, d, v', rfl, ⟨e1, e2⟩, h0, q⟩ := ep
    cases r3
    obtain ⟨t1, ho⟩ := exo_at I3.hok e1
    obtain ⟨G, gs, ga, J⟩ := I3.untrack e1 (fr0_none h0) hx
    exact ⟨a, _, _, { s' with heap := G }, delH H3 a, .ref C, some d, rfl, J, gs, ga, ho, ⟨rfl, rfl⟩, rfl, rfl, delH_same, rfl, I3.bare, raises_own T.o.exC T.o.tyC, q⟩
end
/-- an error that is kept -/
def ErrQ (H : Hp) (a d C : Addr) (v : V) : Prop := H a = some (exq a (.ref C) (some d)) ∧ H d = some (exd d [(("value" : Str), v)])
theorem ErrQ.same {H H' : Hp} {a d C : Addr} {v : V} (h : ErrQ H a d C v) (S : Same H H') : ErrQ H' a d C v := ⟨S _ _ h.1, S _ _ h.2⟩
section
variable {X : Cx} {fI C : Addr} {k : Nat} {e : Expr} {te : TE} {pos : Pos}
theorem errq_inst {pins : List (Addr × Obj)} {σ : St} {H : Hp} {s : Shared} {a d : Addr} {v : V} (I : Inv X pins σ H s) (h : ErrQ H a d C v) :
    ∃ (oe od : Obj) (mA : Str → Option Value), PySem.W.InstAt s.heap a oe C (some od) ∧ (∀ f, RelO (([(("value" : Str), v)] : List (Str × V)).lookup f) (mA f)) ∧ ∀ name, PySem.W.lookIn name od = some (mA name) := by
  obtain ⟨e1, e2⟩ := h
  obtain ⟨oe, vs, ho, hz, hd⟩ := exq_at I.hok e1
  obtain ⟨mA, hns, hr⟩ := exd_at I.hok e2
  obtain ⟨od, hod, hl⟩ := lookIn_ns hns
  exact ⟨oe, od, mA, ⟨ho, hz.1, by unfold PySem.W.notCls; rw [hd] <;> rfl, by rw [hz.2]; exact hod⟩, hr, hl⟩
/-- e.value, e an error that is kept -/
def tQV (K : PySem.W.Frag) (fI : Addr) (te : TE) : TE := fun σ H Q => te σ H fun x H1 => ∃ (a d C : Addr) (v : V), x = .ref a ∧ ErrC K fI C ∧ ErrQ H1 a d C v ∧ Q v H1
theorem pe_qv (he : PE X e te) (hb : attributeBase e "value" X.env (eval e X.env) = eval e X.env := by rfl) : PE X (.Attribute e "value" pos) (tQV X.K fI te) := by
  refine ⟨fun pins s σ H Q I h => ?_⟩
  refine attr_of hb (thn (he.run pins s σ H _ I h) fun u s1 hh => ?_)
  obtain ⟨x, H1, I1, rx, a, d, C, v, rfl, T, eq, q⟩ := hh
  obtain rfl : u = Value.ref a := rx
  obtain ⟨oe, od, mA, J, hr, hl⟩ := errq_inst I1 eq
  obtain ⟨w, hu, ru⟩ := RelO.some_of (v := v) (o := mA "value") (by have z := hr "value"; rw [lookup_put, if_pos rfl] at z; exact z)
  exact HandSPX.exc_get I1.kIn J T.ga T.gg T.o.exC (PySem.W.findObj_own T.hd T.no rfl (by rw [hl, hu])) (handed_of ru) ⟨v, H1, I1.tok _, ru, q⟩
/-- isinstance(e, c), e an error that is kept -/
def rIsQ (K : PySem.W.Frag) (fI : Addr) : List V → Hp → VK → Prop := fun xs H Q => ∃ (a d C : Addr) (v c : V) (cv : Value) (b : Bool), xs = [.ref a, c] ∧ ErrC K fI C ∧ ErrQ H a d C v ∧ (∀ u, RelV c u → u = cv) ∧ PySem.W.kitOne K (.ref C) cv = some b ∧ Q (.bl b) H
theorem call_isQ (hn : PySem.W.specialIn X.K (.builtin "object.__class__") "__get__" = some (some (.builtin "getset_descriptor.__get__"))) (htk : PySem.W.takesIn X.K (.builtin "object.__class__") = some true) : CallR X (.builtin "isinstance") (rIsQ X.K fI) := by
  intro pins s σ H xs us Q I r h
  obtain ⟨a, d, C, v, c, cv, b, rfl, T, eq, hcv, e, q⟩ := h
  obtain ⟨u1, u2, rfl, r1, r2⟩ := vals2 r
  have ec := hcv _ r2
  subst ec
  cases (show u1 = Value.ref a from r1)
  obtain ⟨oe, od, mA, J, hr, hl⟩ := errq_inst I eq
  exact PySem.W.kia_one (PySem.W.kitx_exc (by obtain ⟨cd, hc, _⟩ := PySem.W.any_some T.hd; rw [hc]; rfl) T.ga T.gg T.o.exC T.cl hn htk T.mo) I.kIn J e (fun z => nomatch z) fun tk => ⟨.bl b, H, I.kept (t' := tk) fun _ _ z => z, rfl, q⟩
end
end L2
namespace S1
open PySem PySem.W PySem.Spec PyProof.Rows L2
def tCallK0S (sp : Sp) (gV : List V → List V) (n : Nat) (E : L2.St → XK) (tk : TA) : TE := fun σ H Q => tk σ H fun zs H2 => zs.length = n ∧ sp (gV zs) H2 Q (E σ)
section
variable {X : Cx} {CX : CXT} {k : Nat} {f : Addr} {fd : FuncData} {ps ks : List Str} {sp : Sp} {E : L2.St → XK} {x : Str} {p pos : Pos} {kws : List Keyword} {tk : TA} {g : List Value → List Value} {gV : List V → List V}
theorem run_fnk0S {pins : List (Addr × Obj)} {σ : L2.St} {H : Hp} {s : Shared} {Q : VK} {ws : List Value} {zs : List V} (F : FnOk X.prog X.w X.K X.mg X.base CX k f fd ps sp) (hr : Room k X.A) (hb : KB0 X.K fd ps ks g gV) (hx : PassesAt CX X σ (E σ))
    (I : Inv X pins σ H s) (rz : Vals zs ws) (hn : zs.length = ks.length) (h : sp (gV zs) H Q (E σ)) : wpAny (model X.prog X.w) X.A (call (.ref f) [] (ks.zip ws)) (EP X pins σ Q) X.xe s := by
  have r2 := hb.rel rz
  have hl : ws.length = ks.length := by rw [← rz.length]; exact hn
  refine wpAny_call (codeAny_mono (F.run X.A X.stack s H ⟨[], ks.zip ws⟩ (g ws) (gV zs) Q (E σ) hr I.env0 (hb.to s ws I.kIn hl) r2 h) fun r s' hq => ?_)
  cases r with
  | error e => exact hx pins H s e s' I hq
  | ok fl =>
    cases fl with
    | ret u => exact I.after hq
    | next => exact False.elim hq
    | brk => exact False.elim hq
    | cont => exact False.elim hq
/-- f(k = v, ..), f may raise, within a try -/
theorem pe_callK0S (F : FnOk X.prog X.w X.K X.mg X.base CX k f fd ps sp) (hr : Room k X.A) (hg : Gl X x) (hm : X.mg x = some (.ref f)) (hk : PySem.W.keepIn X.K (.ref f) = true) (hb : KB0 X.K fd ps ks g gV) (hx : ∀ σ, PassesAt CX X σ (E σ))
    (hkw : PK X kws tk) (hall : (backToKw pos (keywordEach kws X.env)).all (·.1.isSome) = true := by rfl) (hks : (backToKw pos (keywordEach kws X.env)).filterMap (·.1) = ks := by rfl)
    (hdb : (x == ("__debug__" : Str)) = false := by decide)
    (hpl : ((backTo pos (starEach [] X.env)).any (·.1) || (backToKw pos (keywordEach kws X.env)).any (·.1.isNone)) = false := by rfl) :
    PE X (.Call (.Name x p) [] kws pos) (tCallK0S sp gV ks.length E tk) := by
  refine ⟨fun pins s σ H Q I h => ?_⟩
  refine wpAny_Call_Name_kw (ld_glob I hg hm ?_ hdb)
  refine PySem.W.callWith_KW0 (h₀ := X.base) I.ok.mod.kin hk hall (thn (hkw.run pos pins s σ H _ I h) fun ws s2 ⟨zs, H2, I2, rz, hn, q2⟩ => ⟨I2.kIn, ?_⟩) hpl
  rw [hks]
  exact run_fnk0S F hr hb (hx σ) I2 rz hn q2
end
end S1

set_option Elab.async false
set_option linter.all false
set_option maxRecDepth 100000
set_option maxHeartbeats 4000000
/-! renewed -/
namespace S1
open PySem PySem.W PySem.Spec PyProof.Rows L2
/-- what renewed copies: texts and truths in tuples, so deep -/
def renOk : Nat → PyData → Prop
  | 0, d => (∃ x, d = .str x) ∨ ∃ b, d = .bool b
  | n + 1, d => (∃ x, d = .str x) ∨ (∃ b, d = .bool b) ∨ ∃ ds, d = .tuple ds ∧ ds.length ≤ 900 ∧ ∀ e ∈ ds, renOk n e
theorem ren_key : ∀ {n : Nat} {d : PyData}, renOk n d → keyable d = true
  | 0, _, h => by
    rcases h with ⟨x, rfl⟩ | ⟨b, rfl⟩ <;> rfl
  | n + 1, _, h => by
    rcases h with ⟨x, rfl⟩ | ⟨b, rfl⟩ | ⟨ds, rfl, _, h⟩
    · rfl
    · rfl
    · show keyables ds = true
      have z : ∀ l : List PyData, (∀ e ∈ l, renOk n e) → keyables l = true := fun l => by
        induction l with
        | nil => intro _; rfl
        | cons a l ih =>
          intro hl
          rw [keyables, ren_key (hl a List.mem_cons_self), ih fun e he => hl e (List.mem_cons_of_mem _ he)]
          rfl
      exact z ds h
theorem keyables_mem : ∀ {l : List PyData}, (∀ e ∈ l, keyable e = true) → keyables l = true
  | [], _ => rfl
  | a :: l, h => by
    rw [keyables, h a List.mem_cons_self, keyables_mem fun e he => h e (List.mem_cons_of_mem _ he)]
    rfl
theorem dats_snoc {H : Hp} {x : V} {d : PyData} (D : Dat H x d) : ∀ {xs : List V} {ds : List PyData}, DatAll H xs ds → DatAll H (xs ++ [x]) (ds ++ [d])
  | _, _, .nil => .cons D .nil
  | _, _, .cons a t => .cons a (dats_snoc D t)
def spRen : Nat → Sp
  | 0 => fun _ _ _ _ => False
  | n + 1 => fun vs H Q _ => ∃ (v : V) (d : PyData), vs = [v] ∧ Dat H v d ∧ renOk n d ∧ ∀ (v' : V) (H' : Hp), Same H H' → Dat H' v' d → Q v' H'
section
variable {P : Program} {w : World} {K : PySem.W.Frag} {mg : Str → Option Value} {base : Heap}
abbrev nRn : List Str := ["value", "part"]
theorem scRn : FnScope nRn ["value"] (defScope sRenewed) := ⟨rfl, rfl, rfl, by decide +kernel, rfl, by decide +kernel, by decide +kernel⟩
theorem ok_ren_of {j n : Nat} {f : Addr} {fd : FuncData} (R : Has K mg "renewed" sRenewed ["value"] f fd) (B : Blt mg) (G : FnOk P w K mg base CX0 j f fd ["value"] (spRen n)) : FnOk P w K mg base CX0 (j + 1) f fd ["value"] (spRen (n + 1)) := by
  refine R.F.ok scRn (fun vs H Q E h => ?_) (fun cdv A outer s H vs Q E hr h => ?_)
  · obtain ⟨v, d, rfl, _⟩ := h
    rfl
  · obtain ⟨v, d, rfl, D, ok, q⟩ := h
    refine ⟨_, pss_cons (ps_if (pt_val (pe_callB call_isi (by rfl) B.isi (by decide +kernel) (pa_cons (pv 0) (pa_cons (pe_bltn (v := V.ty "list") (by rfl) B.list (by decide +kernel) rfl) pa_nil)))) pss_never pss_nil)
      (pss_cons (ps_if (pt_val (pe_callB call_isi (by rfl) B.isi (by decide +kernel) (pa_cons (pv 0) (pa_cons (pe_bltn (v := V.ty "tuple") (by rfl) B.tuple (by decide +kernel) rfl) pa_nil))))
        (pss_one (ps_ret (pe_tupleOf rfl B.tuple (pe_lc (own := [("part", 1)]) (g := gName 1) (tt := tYes) (te := tCall (spRen n) [] E0 (tCons (tVar 1) tNil)) rfl scRn.nd (pi_tup (pv 0)) (blkOk_by (N := nRn) (sc := defScope sRenewed) (by decide +kernel))
          (fun _ _ _ _ _ => pg_name (i := 1) scRn.nd rfl (Or.inl rfl)) (fun _ _ _ _ _ => pts_nil) (fun _ _ _ _ _ => by exact pe_call G (by exact hr) (by rfl) R.g R.F.kp R.b .nil pass0 (pa_cons (pv 1) pa_nil)))))) pss_nil)
      (pss_one (ps_ret (pv 0)))), ?_⟩
    have alt : (∃ t : String, TyOf K H v (.type t) ∧ kitB t "list" = some false ∧ kitB t "tuple" = some false) ∨ (∃ (m : Nat) (ds : List PyData), n = m + 1 ∧ d = .tuple ds ∧ ds.length ≤ 900 ∧ ∀ e ∈ ds, renOk m e) := by
      have lf : ((∃ x, d = .str x) ∨ ∃ b, d = .bool b) → ∃ t : String, TyOf K H v (.type t) ∧ kitB t "list" = some false ∧ kitB t "tuple" = some false := by
        rintro (⟨x, rfl⟩ | ⟨b, rfl⟩)
        · cases D
          exact ⟨"str", .str x, by decide +kernel, by decide +kernel⟩
        · cases D
          exact ⟨"bool", .bl b, by decide +kernel, by decide +kernel⟩
      match n, ok with
      | 0, ok => exact .inl (lf ok)
      | m + 1, .inl h => exact .inl (lf (.inl h))
      | m + 1, .inr (.inl h) => exact .inl (lf (.inr h))
      | m + 1, .inr (.inr ⟨ds, h1, h2, h3⟩) => exact .inr ⟨m, ds, rfl, h1, h2, h3⟩
    rcases alt with ⟨t, ty, k1, k2⟩ | ⟨m, ds, rfl, rfl, hl, hd⟩
    · refine ⟨_, rfl, _, _, _, _, false, rfl, .ty _, .base ty, kit_ty k1, false, rfl, ?_⟩
      show if false = true then _ else _
      rw [if_neg (by decide)]
      refine ⟨_, rfl, _, _, _, _, false, rfl, .ty _, .base ty, kit_ty k2, false, rfl, ?_⟩
      show if false = true then _ else _
      rw [if_neg (by decide)]
      exact ⟨_, rfl, q _ _ (Same.refl _) D⟩
    · obtain ⟨a, us, rfl, ea, Da⟩ := dat_tup D
      have lu : us.length = ds.length := Da.len
      have kd : ∀ e ∈ ds, keyable e = true := fun e he => ren_key (hd e he)
      refine ⟨_, rfl, _, _, _, _, false, rfl, .ty _, .base (.tup ea), kit_ty (by decide +kernel), false, rfl, ?_⟩
      show if false = true then _ else _
      rw [if_neg (by decide)]
      refine ⟨_, rfl, _, _, _, _, true, rfl, .ty _, .base (.tup ea), kit_ty (by decide +kernel), true, rfl, ?_⟩
      show if true = true then _ else _
      rw [if_pos rfl]
      refine ⟨_, rfl, a, rfl, ⟨_, SqT.of ea⟩, fun D0 hD0 => ?_⟩
      refine lc_tup (K := K) (a := a) (xs := us) (fun j H4 => ∃ xs : List V, H4 D0 = some (.lst xs) ∧ xs.length = j ∧ DatAll H4 xs (ds.take j) ∧ Same H H4) ⟨[], upd_same, rfl, .nil, same_new hD0⟩ (fun j H4 _ ⟨_, _, _, _, S4⟩ => SqT.of (S4 _ _ ea)) ?_ ?_
      · rintro j x H4 hx ⟨xs, e4, lx, D4, S4⟩
        obtain ⟨e, he, Dx⟩ := dats_get' Da j x hx
        have jl : j < ds.length := (List.getElem?_eq_some_iff.mp he).1
        have me := List.mem_of_getElem? he
        refine ⟨rfl, yes_of ⟨_, rfl, x, e, rfl, Dx.same S4, hd e me, fun v' H5 S5 D5 => ?_⟩⟩
        have e5 := S5 _ _ e4
        refine ⟨xs, e5, small1000 (by omega), xs ++ [v'], upd_same, by rw [List.length_append, lx]; rfl, ?_, same_upd (S4.trans S5) hD0⟩
        rw [take_next he]
        refine dats_snoc (dat_upd e5 (kd e me) D5) (dats_del e5 (sd_at (Same.refl _)) (keyables_mem fun u hu => kd u (List.mem_of_mem_take hu)) (DatAll.same S5 D4))
      · rintro H4 ⟨xs, e4, lx, D4, S4⟩
        rw [lu, List.take_length] at D4
        refine .inl ⟨D0, xs, rfl, SqL.of e4, fun t ht => ?_⟩
        have St := same_new (o := .tup xs) ht
        exact q _ _ (S4.trans St) (.tup upd_same (DatAll.same St D4))
theorem ok_ren {f : Addr} {fd : FuncData} (R : Has K mg "renewed" sRenewed ["value"] f fd) (B : Blt mg) : ∀ n : Nat, FnOk P w K mg base CX0 (n + 1) f fd ["value"] (spRen (n + 1))
  | 0 => ok_ren_of (j := 0) (n := 0) R B ⟨fun _ _ _ _ h => h.elim, fun _ _ _ _ _ _ _ _ _ _ _ _ _ h => h.elim⟩
  | n + 1 => ok_ren_of R B (ok_ren R B n)
end
theorem ren_str {n : Nat} (x : Str) : renOk n (.str x) := by
  cases n
  · exact .inl ⟨x, rfl⟩
  · exact .inl ⟨x, rfl⟩
theorem ren_bl {n : Nat} (b : Bool) : renOk n (.bool b) := by
  cases n
  · exact .inr ⟨b, rfl⟩
  · exact .inr (.inl ⟨b, rfl⟩)
theorem ren_tup {n : Nat} {ds : List PyData} (h : ∀ e ∈ ds, renOk n e) (hl : ds.length ≤ 900) : renOk (n + 1) (.tuple ds) := .inr (.inr ⟨ds, rfl, hl, h⟩)
theorem ren_nms {n : Nat} {xs : List Str} (hl : xs.length ≤ 900) : renOk (n + 1) (nmsD xs) := ren_tup (fun e he => by obtain ⟨x, _, rfl⟩ := List.mem_map.mp he; exact ren_str x) (by rw [List.length_map]; exact hl)
theorem ren_say {c : Nat} {s : Say} (ok : SayOk 6 8 c 40 s) : renOk 4 s.d := by
  have lp := ok.pl
  have lo := ok.ol
  have lc := ok.cl
  refine ren_tup (fun e he => ?_) (by simp)
  rcases List.mem_cons.mp he with rfl | he
  · exact ren_nms (by omega)
  rcases List.mem_cons.mp he with rfl | he
  · refine ren_tup (fun e he => ?_) (by rw [List.length_map]; omega)
    obtain ⟨o, ho, rfl⟩ := List.mem_map.mp he
    have og := (ok.own ho).le
    refine ren_tup (fun e he => ?_) (by simp)
    rcases List.mem_cons.mp he with rfl | he
    · exact ren_str _
    · cases List.mem_singleton.mp he
      exact ren_nms (by omega)
  · cases List.mem_singleton.mp he
    refine ren_tup (fun e he => ?_) (by rw [List.length_map]; omega)
    obtain ⟨cl, hcl, rfl⟩ := List.mem_map.mp he
    have ll := cl_len (ok.ck cl hcl)
    have nl := ok.nlen
    refine ren_tup (fun e he => ?_) (by rw [List.length_map]; omega)
    obtain ⟨l, _, rfl⟩ := List.mem_map.mp he
    refine ren_tup (fun e he => ?_) (by simp)
    rcases List.mem_cons.mp he with rfl | he
    · exact ren_str _
    · cases List.mem_singleton.mp he
      exact ren_bl _
end S1

set_option Elab.async false
set_option linter.all false
set_option maxRecDepth 100000
set_option maxHeartbeats 4000000
/-! with_sight, without_sight -/
namespace S1
open PySem PySem.W PySem.Spec PyProof.Rows L2
/-- InvalidSaying and SightError, as the text leaves them -/
structure ErrS (K : PySem.W.Frag) (mg : Str → Option Value) (fI : Addr) (fdI : FuncData) (C S : Addr) : Prop where
  c : ErrC K fI C
  gC : mg "InvalidSaying" = some (.ref C)
  gS : mg "SightError" = some (.ref S)
  F : Fun K "__init__" "SightError.__init__" sInit fI fdI
  t : PySem.W.typeIn K (.ref fI) = some (.type "function")
  hn : PySem.W.specialIn K (.builtin "object.__class__") "__get__" = some (some (.builtin "getset_descriptor.__get__"))
  ht : PySem.W.takesIn K (.builtin "object.__class__") = some true
  iC : PySem.W.kitOne K (.ref C) (.ref C) = some true
  iS : PySem.W.exmOne K (.ref C) (.ref S) = some true
def spWithout : Sp := fun vs H Q _ => ∃ (v : V) (s : Say) (o : Own) (x : Str), vs = [v, .str o.1, .str x] ∧ DatS H v s ∧ SayOk 6 8 120 40 s ∧ o ∈ s.owns ∧ x ∈ s.picks ∧ ∀ (v' : V) (H' : Hp), Same H H' → DatF H' v' (seen s o.1 x false) → Q v' H'
def spMore1 : Sp := fun vs H Q _ => ∃ (v : V) (s : Say) (o : Own) (x : Str), vs = [v, .str o.1, .str x] ∧ DatS H v s ∧ SayOk 6 8 120 40 s ∧ o ∈ s.owns ∧ x ∈ s.picks ∧ copies (seen s o.1 x true).owns ≤ 120 ∧
  ∀ (v' : V) (H' : Hp), Same H H' → DatF H' v' (seen s o.1 x true) → Q v' H'
section
variable {P : Program} {w : World} {K : PySem.W.Frag} {mg : Str → Option Value} {base : Heap}
theorem scI : FnScope ["self", "value"] ["self", "value"] (defScope sInit) := ⟨rfl, rfl, rfl, by decide +kernel, rfl, by decide +kernel, by decide +kernel⟩
theorem ok_init {fI : Addr} {fdI : FuncData} (F : Fun K "__init__" "SightError.__init__" sInit fI fdI) : FnOk P w K mg base CX0 1 fI fdI ["self", "value"] (spInit K) := by
  refine F.ok scI (fun vs H Q E h => ?_) (fun cdv A outer s H vs Q E hr h => ?_)
  · obtain ⟨a, C, v, rfl, _⟩ := h
    rfl
  · obtain ⟨a, C, v, rfl, T, no, ha, q⟩ := h
    exact ⟨_, pss_one (ps_ost (pv 0) (pv 1)), ⟨_, rfl, _, rfl, a, C, rfl, T, no, .inl ⟨ha, q⟩⟩⟩
theorem init_pos {fI : Addr} {fdI : FuncData} (F : Fun K "__init__" "SightError.__init__" sInit fI fdI) (s : Shared) (a u : Value) : BindsTo s fdI ⟨[a, u], []⟩ ((["self", "value"] : List Str).zip [a, u]) := by
  obtain ⟨oc, od, kV, doc, pm, an, cdv, ct, osl, rfl, lk, hcd⟩ := F.ex
  exact .of_eq rfl
theorem scWo : FnScope ["saying", "name", "pick"] ["saying", "name", "pick"] (defScope sWithout) := ⟨rfl, rfl, rfl, by decide +kernel, rfl, by decide +kernel, by decide +kernel⟩
theorem scWi : FnScope ["saying", "name", "pick", "greater"] ["saying", "name", "pick"] (defScope sWith) := ⟨rfl, rfl, rfl, by decide +kernel, rfl, by decide +kernel, by decide +kernel⟩
theorem ok_without {f fL : Addr} {fd fdL : FuncData} (F : Fun K "without_sight" "without_sight" sWithout f fd) (e : Env1 K mg) (Wn : Wnt K mg) (W2 : Wnt2 K mg) (Le : Has K mg "less_seen" sLess ["saying", "name", "pick"] fL fdL) (GL : FnOk P w K mg base CX0 2 fL fdL ["saying", "name", "pick"] spLess) :
    FnOk P w K mg base CX0 8 f fd ["saying", "name", "pick"] spWithout := by
  obtain ⟨fS, fdS, Ws, GS⟩ := g_wantSaying (P := P) (w := w) (base := base) e Wn
  obtain ⟨fO, fdO, Wo, GO⟩ := g_wantOwn (P := P) (w := w) (base := base) e W2
  obtain ⟨fK, fdK, Wk, GK⟩ := g_wantPick (P := P) (w := w) (base := base) e W2
  refine F.ok scWo (fun vs H Q E h => ?_) (fun cdv A outer s H vs Q E hr h => ?_)
  · obtain ⟨v, sy, o, x, rfl, _⟩ := h
    rfl
  · obtain ⟨v, sy, o, x, rfl, D, ok, ho, hx, q⟩ := h
    refine ⟨_, pss_cons (ps_expr (pe_call GS hr rfl Ws.g Ws.F.kp Ws.b .nil pass0 (pa_cons (pv 0) pa_nil)))
      (pss_cons (ps_expr (pe_call GO (hr.mono (by decide)) rfl Wo.g Wo.F.kp Wo.b .nil pass0 (pa_cons (pv 0) (pa_cons (pv 1) pa_nil))))
      (pss_cons (ps_expr (pe_call GK (hr.mono (by decide)) rfl Wk.g Wk.F.kp Wk.b .nil pass0 (pa_cons (pv 0) (pa_cons (pv 2) pa_nil))))
      (pss_one (ps_ret (pe_call GL (hr.mono (by decide)) rfl Le.g Le.F.kp Le.b .nil pass0 (pa_cons (pv 0) (pa_cons (pv 1) (pa_cons (pv 2) pa_nil)))))))), ?_⟩
    exact ⟨_, rfl, v, sy, rfl, D, ok, fun H1 S1 => ⟨_, rfl, _, rfl, v, sy, o, rfl, D.same S1, ok, ho, fun H2 S2 => ⟨_, rfl, _, rfl, v, sy, x, rfl, D.same (S1.trans S2), ok, hx, fun H3 S3 =>
      ⟨_, rfl, _, rfl, _, rfl, v, sy, o.1, x, rfl, D.same (S1.trans (S2.trans S3)), ok, fun v' H4 S4 D4 => q v' H4 (S1.trans (S2.trans (S3.trans S4))) D4⟩⟩⟩⟩
theorem ok_with {f fM fR fI C S : Addr} {fd fdM fdR fdI : FuncData} (F : Fun K "with_sight" "with_sight" sWith f fd) (e : Env1 K mg) (Wn : Wnt K mg) (W2 : Wnt2 K mg) (Er : ErrS K mg fI fdI C S) (Mo : Has K mg "more_seen" sMore ["saying", "name", "pick"] fM fdM) (GM : FnOk P w K mg base CX0 2 fM fdM ["saying", "name", "pick"] spMore)
    (Re : Has K mg "renewed" sRenewed ["value"] fR fdR) : FnOk P w K mg base (L2.CX P w) 8 f fd ["saying", "name", "pick"] spMore1 := by
  obtain ⟨fS, fdS, Ws, GS⟩ := g_wantSaying (P := P) (w := w) (base := base) e Wn
  obtain ⟨fO, fdO, Wo, GO⟩ := g_wantOwn (P := P) (w := w) (base := base) e W2
  obtain ⟨fK, fdK, Wk, GK⟩ := g_wantPick (P := P) (w := w) (base := base) e W2
  obtain ⟨fF, fdF, Ft, GF⟩ := g_fitsSaying (P := P) (w := w) (base := base) e
  have GR : FnOk P w K mg base CX0 5 fR fdR ["value"] (spRen 5) := ok_ren Re e.B 4
  have GI : FnOk P w K mg base CX0 1 fI fdI ["self", "value"] (spInit K) := ok_init Er.F
  refine F.okX scWi (fun vs H Q E h => ?_) (fun cdv A outer s H vs Q E hr h => ?_)
  · obtain ⟨v, sy, o, x, rfl, _⟩ := h
    rfl
  · obtain ⟨v, sy, o, x, rfl, D, ok, ho, hx, hc, q1⟩ := h
    refine ⟨_, pss_cons (ps_expr (pe_call GS hr rfl Ws.g Ws.F.kp Ws.b .nil pass0 (pa_cons (pv 0) pa_nil)))
      (pss_cons (ps_expr (pe_call GO (hr.mono (by decide)) rfl Wo.g Wo.F.kp Wo.b .nil pass0 (pa_cons (pv 0) (pa_cons (pv 1) pa_nil))))
      (pss_cons (ps_expr (pe_call GK (hr.mono (by decide)) rfl Wk.g Wk.F.kp Wk.b .nil pass0 (pa_cons (pv 0) (pa_cons (pv 2) pa_nil))))
      (pss_cons (ps_set (i := 3) scWi.nd rfl (.inl rfl) (pe_call GM (hr.mono (by decide)) rfl Mo.g Mo.F.kp Mo.b .nil pass0 (pa_cons (pv 0) (pa_cons (pv 1) (pa_cons (pv 2) pa_nil)))))
      (pss_cons (ps_if (pt_not (pt_val (pe_call GF (hr.mono (by decide)) rfl Ft.g Ft.F.kp Ft.b .nil pass0 (pa_cons (pv 3) pa_nil))))
          (pss_one (ps_raise rfl (takes_of rfl rfl rfl rfl) (pmk_err rfl Er.c Er.t GI (hr.mono (by decide)) (init_pos Er.F) rfl Er.gC (pe_call GR (hr.mono (by decide)) rfl Re.g Re.F.kp Re.b .nil pass0 (pa_cons (pv 3) pa_nil))))) pss_nil)
      (pss_one (ps_ret (pv 3))))))), ?_⟩
    refine ⟨_, rfl, v, sy, rfl, D, ok, fun H1 S1 => ⟨_, rfl, _, rfl, v, sy, o, rfl, D.same S1, ok, ho, fun H2 S2 => ⟨_, rfl, _, rfl, v, sy, x, rfl, D.same (S1.trans S2), ok, hx, fun H3 S3 =>
      ⟨_, rfl, _, rfl, _, rfl, v, sy, o.1, x, rfl, D.same (S1.trans (S2.trans S3)), ok, hx, fun v' H4 S4 D4 => ?_⟩⟩⟩⟩
    have S04 := S1.trans (S2.trans (S3.trans S4))
    have mok := more_ok ok o.1 x
    refine ⟨_, rfl, v', _, rfl, D4.s, mok, fun H5 S5 => ⟨_, rfl, ?_⟩⟩
    rw [decide_eq_true hc]
    show if (!true) = true then _ else _
    rw [if_neg (by decide)]
    exact ⟨_, rfl, q1 v' H5 (S04.trans S5) (D4.same S5)⟩
theorem fn_with {k : Nat} {f : Addr} {fd : FuncData} {ps : List Str} (F : FnOk P w K mg base (L2.CX P w) k f fd ps spMore1) : FnOk P w K mg base CX0 k f fd ps spMore1 := by
  have imp : ∀ {vs H Q E}, spMore1 vs H Q E → spMore1 vs H Q fun _ _ _ => False := fun {vs H Q E} h => h
  refine ⟨fun vs H Q E h => F.len vs H Q _ (imp h), fun A outer s H args us vs Q E hr he hb hv hs => ?_⟩
  refine codeAny_mono (F.run A outer s H args us vs Q (fun _ _ _ => False) hr he hb hv (imp hs)) fun r s' hq => ?_
  cases r with
  | error e =>
    obtain ⟨_, _, _, _, _, _, _, _, _, _, _, _, z⟩ := hq
    exact z.elim
  | ok fl => cases fl <;> exact hq
end
end S1

set_option Elab.async false
set_option linter.all false
set_option maxRecDepth 100000
set_option maxHeartbeats 4000000
/-! thinned -/
namespace S1
open PySem PySem.W PySem.Spec PyProof.Rows L2
/-- all that is idle taken away, the first one first -/
inductive Thin : Say → Say → Prop
  | stop {s : Say} (h : IdleAll s []) : Thin s s
  | step {s t : Say} {q : Pr} {L : List Pr} (h : IdleAll s (q :: L)) (k : Thin (seen s q.1 q.2 false) t) : Thin s t
theorem Thin.uniq {s t u : Say} (h : Thin s t) : Thin s u → t = u := by
  induction h with
  | stop h =>
    intro k
    cases k with
    | stop _ => rfl
    | step h2 _ => cases h.uniq h2
  | step h k ih =>
    intro k2
    cases k2 with
    | stop h2 => cases h2.uniq h
    | step h2 k3 =>
      have e := h.uniq h2
      injection e with e1 e2
      subst e1
      exact ih k3
theorem pr_row {H : Hp} {v : V} {q : Pr} (D : Dat H v (prD q)) : ∃ b, v = .ref b ∧ H b = some (.tup [.str q.1, .str q.2]) := by
  obtain ⟨b, xs, rfl, e, h⟩ := dat_tup (ds := [.str q.1, .str q.2]) D
  cases h with
  | cons h1 h =>
    cases h1
    cases h with
    | cons h2 h =>
      cases h2
      cases h
      exact ⟨b, rfl, e⟩
/-- rows of pairs, the first one apart -/
theorem rows_cons {H : Hp} {T : List TRow} {L : List Pr} (e : T.map Prod.snd = L.map prD) (D : ∀ q ∈ T, Dat H q.v q.2) : (T = [] ∧ L = []) ∨ ∃ (p : TRow) (T' : List TRow) (q : Pr) (L' : List Pr), T = p :: T' ∧ L = q :: L' ∧ H p.1 = some (.tup [.str q.1, .str q.2]) := by
  cases T with
  | nil =>
    cases L with
    | nil => exact .inl ⟨rfl, rfl⟩
    | cons q L => cases e
  | cons p T =>
    cases L with
    | nil => cases e
    | cons q L =>
      rw [List.map_cons, List.map_cons] at e
      injection e with e1 e2
      have z := D p List.mem_cons_self
      rw [e1] at z
      obtain ⟨b, eb, h⟩ := pr_row z
      cases eb
      exact .inr ⟨p, T, q, L, rfl, rfl, h⟩
def spThinned : Sp := fun vs H Q _ => ∃ (v : V) (s : Say), vs = [v] ∧ DatF H v s ∧ SayOk 6 8 120 40 s ∧ ∀ (v' : V) (t : Say) (H' : Hp), Same H H' → DatF H' v' t → SayOk 6 8 120 40 t → Thin s t → Q v' H'
section
variable {P : Program} {w : World} {K : PySem.W.Frag} {mg : Str → Option Value} {base : Heap}
abbrev nTh : List Str := ["saying", "found", "name", "pick"]
theorem scTh : FnScope nTh ["saying"] (defScope sThinned) := ⟨rfl, rfl, rfl, by decide +kernel, rfl, by decide +kernel, by decide +kernel⟩
theorem ok_thinned {f fA fL : Addr} {fd fdA fdL : FuncData} (F : Fun K "thinned" "thinned" sThinned f fd) (e : Env1 K mg) (Wn : Wnt K mg) (Ai : Has K mg "all_idle" sAllIdle ["saying"] fA fdA) (GA : FnOk P w K mg base CX0 5 fA fdA ["saying"] spAllIdle)
    (Le : Has K mg "less_seen" sLess ["saying", "name", "pick"] fL fdL) (GL : FnOk P w K mg base CX0 2 fL fdL ["saying", "name", "pick"] spLess) : FnOk P w K mg base CX0 8 f fd ["saying"] spThinned := by
  obtain ⟨fS, fdS, Ws, GS⟩ := g_wantSaying (P := P) (w := w) (base := base) e Wn
  refine F.ok scTh (fun vs H Q E h => ?_) (fun cdv A outer s H vs Q E hr h => ?_)
  · obtain ⟨v, sy, rfl, _⟩ := h
    rfl
  · obtain ⟨v, sy, rfl, D, ok, q⟩ := h
    have hr5 := hr.mono (show 5 ≤ 7 by decide)
    have hr2 := hr.mono (show 2 ≤ 7 by decide)
    refine ⟨_, pss_cons (ps_expr (pe_call GS hr rfl Ws.g Ws.F.kp Ws.b .nil pass0 (pa_cons (pv 0) pa_nil)))
      (pss_cons (ps_set (i := 1) scTh.nd rfl (.inl rfl) (pe_call GA hr5 rfl Ai.g Ai.F.kp Ai.b .nil pass0 (pa_cons (pv 0) pa_nil)))
      (pss_cons (ps_while PassesOwn.never (pt_truth (pv 1) (fun _ => rfl))
        (pss_cons (ps_asg (pe_ix ix_list (pv 1) pe_int (fun _ _ => rfl)) (pg_tup rfl (pgs_cons (pg_name (i := 2) scTh.nd rfl (.inl rfl)) (pgs_cons (pg_name (i := 3) scTh.nd rfl (.inl rfl)) pgs_nil))))
        (pss_cons (ps_set (i := 0) scTh.nd rfl (.inl rfl) (pe_call GL hr2 rfl Le.g Le.F.kp Le.b .nil pass0 (pa_cons (pv 0) (pa_cons (pv 2) (pa_cons (pv 3) pa_nil)))))
        (pss_one (ps_set (i := 1) scTh.nd rfl (.inl rfl) (pe_call GA hr5 rfl Ai.g Ai.F.kp Ai.b .nil pass0 (pa_cons (pv 0) pa_nil)))))))
      (pss_one (ps_ret (pv 0))))), ?_⟩
    refine ⟨_, rfl, v, sy, rfl, D.s, ok, fun H1 S1 => ⟨_, rfl, v, sy, rfl, (D.same S1).s, ok, fun l T L H2 S2 hl el eL dl il => ?_⟩⟩
    refine ⟨fun m σ H' => ∃ (o2 o3 : Option V) (v1 : V) (s1 : Say) (l : Addr) (T : List TRow) (L : List Pr), σ = [some v1, some (.ref l), o2, o3] ∧ DatF H' v1 s1 ∧ SayOk 6 8 120 40 s1 ∧ Same H H' ∧ (∀ t, Thin s1 t → Thin sy t) ∧ H' l = some (.lst (T.map TRow.v)) ∧ T.map Prod.snd = L.map prD ∧
      (∀ q ∈ T, Dat H' q.v q.2) ∧ IdleAll s1 L ∧ m = seeN s1, ⟨_, none, none, v, sy, l, T, L, rfl, (D.same S1).same S2, ok, S1.trans S2, fun t h => h, el, eL, dl, il, rfl⟩, ?_⟩
    rintro m σ H3 ⟨o2, o3, v1, s1, l1, T1, L1, rfl, D1, ok1, S3, th, el1, eL1, dl1, il1, rfl⟩
    refine ⟨_, rfl, _, .inl ⟨_, SqL.of el1, rfl⟩, ?_⟩
    rcases rows_cons eL1 dl1 with ⟨rfl, rfl⟩ | ⟨p, T', qq, L', rfl, rfl, ep⟩
    · show if false = true then _ else _
      rw [if_neg (by decide)]
      exact ⟨_, rfl, q v1 s1 H3 S3 D1 ok1 (th s1 (.stop il1))⟩
    · show if true = true then _ else _
      rw [if_pos rfl]
      have hq := (il1.mem qq).mp List.mem_cons_self
      refine ⟨fun σ' H' => ∃ m', m' < seeN s1 ∧ ∃ (o2 o3 : Option V) (v1 : V) (s1 : Say) (l : Addr) (T : List TRow) (L : List Pr), σ' = [some v1, some (.ref l), o2, o3] ∧ DatF H' v1 s1 ∧ SayOk 6 8 120 40 s1 ∧ Same H H' ∧ (∀ t, Thin s1 t → Thin sy t) ∧ H' l = some (.lst (T.map TRow.v)) ∧ T.map Prod.snd = L.map prD ∧
        (∀ q ∈ T, Dat H' q.v q.2) ∧ IdleAll s1 L ∧ m' = seeN s1, fun σ' H' h => h, ?_⟩
      refine ⟨_, rfl, l1, _, 0, _, rfl, rfl, SqL.of el1, atI_nat (show ((p :: T').map TRow.v)[0]? = some (V.ref p.1) from rfl), p.1, _, rfl, SqT.of ep, rfl, _, _, rfl, _, _, rfl, rfl, ?_⟩
      refine ⟨_, rfl, _, rfl, _, rfl, v1, s1, qq.1, qq.2, rfl, D1.s, ok1, fun v2 H4 S4 D4 => ?_⟩
      have ok2 := less_ok ok1 qq.1 qq.2
      refine ⟨_, rfl, v2, _, rfl, D4.s, ok2, fun l2 T2 L2' H5 S5 hl2 el2 eL2 dl2 il2 => ?_⟩
      exact ⟨_, less_lt ok1 hq.2.1, _, _, v2, _, l2, T2, L2', rfl, D4.same S5, ok2, S3.trans (S4.trans S5), fun t h => th t (.step il1 h), el2, eL2, dl2, il2, rfl⟩
end
end S1

set_option Elab.async false
set_option linter.all false
set_option maxRecDepth 100000
set_option maxHeartbeats 4000000
/-! would_be_idle, could_see -/
namespace S1
open PySem PySem.W PySem.Spec PyProof.Rows L2
noncomputable def wbiB (s : Say) (n x : Str) : Bool := decide (copies (seen s n x true).owns ≤ 120) && @decide (¬ hangR (seen s n x true) x n) (Classical.propDecidable _)
noncomputable def couB (s : Say) (o : Own) (x : Str) : Bool := !decide (x ∈ o.2) && wbiB s o.1 x
noncomputable def couO (s : Say) (o : Own) (ps : List Str) : List Pr := (ps.filter (couB s o)).map fun x => (o.1, x)
noncomputable def couT (s : Say) (os : List Own) : List Pr := os.flatMap fun o => couO s o s.picks
noncomputable def couL (s : Say) : List Pr := couT s s.owns
theorem pr_lt1 {a b : Pr} (h : tlt a.1 b.1) : prLt a b := by
  unfold prLt prD
  rw [dataLt_pair (by simp [alike]) (by simp [alike])]
  have e : PyData.eqv (.str a.1) (.str b.1) = false := by
    simp only [PyData.eqv]
    exact beq_false_of_ne fun z => tlt_irrefl b.1 (by rw [z] at h; exact h)
  rw [e, if_neg (by decide), dataLt_str, decide_eq_true_eq]
  exact h
theorem pr_lt2 {n x y : Str} (h : tlt x y) : prLt (n, x) (n, y) := by
  unfold prLt prD
  rw [dataLt_pair (by simp [alike]) (by simp [alike])]
  have e : PyData.eqv (.str n) (.str n) = true := by simp [PyData.eqv]
  have e2 : PyData.eqv (.str x) (.str y) = false := by
    simp only [PyData.eqv]
    exact beq_false_of_ne fun z => tlt_irrefl y (by rw [z] at h; exact h)
  show (if PyData.eqv (.str n) (.str n) = true then (if PyData.eqv (.str x) (.str y) = true then false else dataLt (.str x) (.str y)) else dataLt (.str n) (.str n)) = true
  rw [e, if_pos rfl, e2, if_neg (by decide), dataLt_str, decide_eq_true_eq]
  exact h
theorem couO_len (s : Say) (o : Own) (ps : List Str) : (couO s o ps).length ≤ ps.length := by
  unfold couO
  rw [List.length_map]
  exact List.length_filter_le _ _
theorem couT_len (s : Say) : ∀ os : List Own, (couT s os).length ≤ s.picks.length * os.length
  | [] => Nat.zero_le _
  | o :: os => by
    have h1 := couT_len s os
    have h2 := couO_len s o s.picks
    unfold couT at h1 ⊢
    rw [List.flatMap_cons, List.length_append, List.length_cons, Nat.mul_succ]
    omega
theorem couL_up {s : Say} {a b c d : Nat} (ok : SayOk a b c d s) : (couL s).Pairwise prLt := by
  unfold couL couT
  refine List.pairwise_flatMap.mpr ⟨fun o _ => ?_, ok.ou.imp fun {u v} h x hx y hy => ?_⟩
  · unfold couO
    exact List.pairwise_map.mpr ((ok.pu.sublist List.filter_sublist).imp fun {u v} h => pr_lt2 h)
  · unfold couO at hx hy
    obtain ⟨x1, _, rfl⟩ := List.mem_map.mp hx
    obtain ⟨y1, _, rfl⟩ := List.mem_map.mp hy
    exact pr_lt1 h
theorem couT_snoc (s : Say) (os : List Own) (o : Own) : couT s (os ++ [o]) = couT s os ++ couO s o s.picks := by
  unfold couT
  rw [List.flatMap_append]
  simp
theorem couO_snoc (s : Say) (o : Own) (ps : List Str) (x : Str) : couO s o (ps ++ [x]) = couO s o ps ++ if couB s o x = true then [(o.1, x)] else [] := by
  unfold couO
  rw [List.filter_append, List.map_append]
  by_cases h : couB s o x = true
  · rw [if_pos h, List.filter_cons, if_pos h]
    rfl
  · rw [if_neg h, List.filter_cons, if_neg h]
    rfl
def spWbi : Sp := fun vs H Q _ => ∃ (v : V) (s : Say) (n x : Str), vs = [v, .str n, .str x] ∧ DatS H v s ∧ SayOk 6 8 120 40 s ∧ x ∈ s.picks ∧ ∀ H', Same H H' → Q (.bl (wbiB s n x)) H'
def spCould : Sp := fun vs H Q _ => ∃ (v : V) (s : Say), vs = [v] ∧ DatS H v s ∧ SayOk 6 8 120 40 s ∧ ∀ (l : Addr) (T : List TRow) (H' : Hp), Same H H' → H l = none → H' l = some (.lst (T.map TRow.v)) → T.map Prod.snd = (couL s).map prD → (∀ q ∈ T, Dat H' q.v q.2) → Q (.ref l) H'
section
variable {P : Program} {w : World} {K : PySem.W.Frag} {mg : Str → Option Value} {base : Heap}
abbrev nWb : List Str := ["saying", "name", "pick", "greater"]
abbrev nCo : List Str := ["saying", "name", "sight", "pick"]
theorem scWb : FnScope nWb ["saying", "name", "pick"] (defScope sWouldBe) := ⟨rfl, rfl, rfl, by decide +kernel, rfl, by decide +kernel, by decide +kernel⟩
theorem scCo : FnScope nCo ["saying"] (defScope sCould) := ⟨rfl, rfl, rfl, by decide +kernel, rfl, by decide +kernel, by decide +kernel⟩
theorem ok_wouldBe {f fM fP fH : Addr} {fd fdM fdP fdH : FuncData} (F : Fun K "would_be_idle" "would_be_idle" sWouldBe f fd) (e : Env1 K mg) (Mo : Has K mg "more_seen" sMore ["saying", "name", "pick"] fM fdM) (GM : FnOk P w K mg base CX0 2 fM fdM ["saying", "name", "pick"] spMore)
    (Pa : Has K mg "paper_of" sPaperOf ["saying", "pick"] fP fdP) (GP : FnOk P w K mg base CX0 3 fP fdP ["saying", "pick"] spPaper) (Hb : Has K mg "hangs_by" sHangsBy ["paper", "name"] fH fdH) (an : mg "any" = none) : FnOk P w K mg base CX0 7 f fd ["saying", "name", "pick"] spWbi := by
  obtain ⟨fF, fdF, Ft, GF⟩ := g_fitsSaying (P := P) (w := w) (base := base) e
  have GH : FnOk P w K mg base CX0 1 fH fdH ["paper", "name"] spHangsBy := ok_hangsBy Hb.F an
  refine F.ok scWb (fun vs H Q E h => ?_) (fun cdv A outer s H vs Q E hr h => ?_)
  · obtain ⟨v, sy, n, x, rfl, _⟩ := h
    rfl
  · obtain ⟨v, sy, n, x, rfl, D, ok, hx, q⟩ := h
    refine ⟨_, pss_cons (ps_set (i := 3) scWb.nd rfl (.inl rfl) (pe_call GM (hr.mono (by decide)) rfl Mo.g Mo.F.kp Mo.b .nil pass0 (pa_cons (pv 0) (pa_cons (pv 1) (pa_cons (pv 2) pa_nil)))))
      (pss_one (ps_ret (pe_and (pe_call GF hr rfl Ft.g Ft.F.kp Ft.b .nil pass0 (pa_cons (pv 3) pa_nil))
        (pe_one (pe_not (pe_call GH (hr.mono (by decide)) rfl Hb.g Hb.F.kp Hb.b .nil pass0 (pa_cons (pe_call GP (hr.mono (by decide)) rfl Pa.g Pa.F.kp Pa.b .nil pass0 (pa_cons (pv 3) (pa_cons (pv 2) pa_nil))) (pa_cons (pv 1) pa_nil)))))))), ?_⟩
    refine ⟨_, rfl, _, rfl, _, rfl, v, sy, n, x, rfl, D, ok, hx, fun v' H1 S1 D1 => ?_⟩
    have mok := more_ok ok n x
    refine ⟨_, rfl, v', _, rfl, D1.s, mok, fun H2 S2 => ⟨_, rfl, ?_⟩⟩
    have S12 := S1.trans S2
    by_cases hc : copies (seen sy n x true).owns ≤ 120
    · rw [decide_eq_true hc]
      show if true = true then _ else _
      rw [if_pos rfl]
      refine ⟨_, rfl, _, rfl, v', _, x, rfl, (D1.same S2).s, mok.fit hc, fun a M N H3 S3 pap => ?_⟩
      obtain ⟨w1, w2, ea, p1, p2, r1, r2⟩ := pap
      refine ⟨_, rfl, a, n, M, N, w1, w2, rfl, ea, p1, p2, fun H4 S4 => ⟨_, rfl, ?_⟩⟩
      have eb : (!hangB M N n) = wbiB sy n x := by
        unfold wbiB
        rw [decide_eq_true hc, Bool.true_and, Bool.eq_iff_iff, Bool.not_eq_true', @decide_eq_true_eq _ (Classical.propDecidable _), ← hangB_iff r1 r2]
        simp
      rw [eb]
      exact q H4 (S12.trans (S3.trans S4))
    · rw [decide_eq_false hc]
      show if false = true then _ else _
      rw [if_neg (by decide)]
      have eb : false = wbiB sy n x := by
        unfold wbiB
        rw [decide_eq_false hc]
        rfl
      rw [eb]
      exact q H2 S12
theorem ok_could {f fB : Addr} {fd fdB : FuncData} (F : Fun K "could_see" "could_see" sCould f fd) (e : Env1 K mg) (Wn : Wnt K mg) (Wb : Has K mg "would_be_idle" sWouldBe ["saying", "name", "pick"] fB fdB) (GB : FnOk P w K mg base CX0 7 fB fdB ["saying", "name", "pick"] spWbi) : FnOk P w K mg base CX0 8 f fd ["saying"] spCould := by
  obtain ⟨fS, fdS, Ws, GS⟩ := g_wantSaying (P := P) (w := w) (base := base) e Wn
  refine F.ok scCo (fun vs H Q E h => ?_) (fun cdv A outer s H vs Q E hr h => ?_)
  · obtain ⟨v, sy, rfl, _⟩ := h
    rfl
  · obtain ⟨v, sy, rfl, D, ok, q⟩ := h
    refine ⟨_, pss_cons (ps_expr (pe_call GS hr rfl Ws.g Ws.F.kp Ws.b .nil pass0 (pa_cons (pv 0) pa_nil)))
      (pss_one (ps_ret (pe_lc2 (own := [("name", 1), ("sight", 2), ("pick", 3)]) (vs1 := [3]) (g := gTup K 2 (gCons (gName 1) (gCons (gName 2) gNil))) (tt := tYes) (g1 := gName 3) (tt1 := tAnd (tTest (tOp (rIn K true) (tVar 3) (tVar 2))) (tB (tCall spWbi [] E0 (tCons (tVar 0) (tCons (tVar 1) (tCons (tVar 3) tNil)))))) (wi1 := iTup K (tOp (rIxT K) (tVar 0) (tC (V.int 0)))) (te := tTup (tCons (tVar 1) (tCons (tVar 3) tNil)))
        rfl scCo.nd (pi_tup (pe_ix ix_tup (pv 0) pe_int (fun _ _ => rfl))) (blkOk_by (N := nCo) (sc := defScope sCould) (by decide +kernel)) (by decide)
        (fun _ _ _ _ _ => by exact pg_tup rfl (pgs_cons (pg_name (i := 1) scCo.nd rfl (Or.inl rfl)) (pgs_cons (pg_name (i := 2) scCo.nd rfl (.inl rfl)) pgs_nil))) (fun _ _ _ _ _ => pts_nil) (fun _ _ _ _ _ => by exact pi_tup (pe_ix ix_tup (pv 0) pe_int (fun _ _ => rfl)))
        (fun _ _ _ _ _ => pg_name (i := 3) scCo.nd rfl (Or.inl rfl)) (fun _ _ _ _ _ => by exact pts_one (PW.pt (pw_and (pt_cmpR op_notIn_seq (pv 3) (pv 2) (by with_unfolding_all rfl)) (pw_and1 (pt_val (pe_call GB (by exact hr) (by rfl) Wb.g Wb.F.kp Wb.b .nil pass0 (pa_cons (pv 0) (pa_cons (pv 1) (pa_cons (pv 3) pa_nil)))))))))
        (fun _ _ _ _ _ => by exact pe_tup (pa_cons (pv 1) (pa_cons (pv 3) pa_nil)))))), ?_⟩
    refine ⟨_, rfl, v, sy, rfl, D, ok, fun H1 S1 => ?_⟩
    have D1 := D.same S1
    obtain ⟨a, b, pk, c, us, rfl, ea, Dp, Do, eb, Db, Dc⟩ := say_at D1
    obtain ⟨a0, rfl, e0⟩ := nms_at Dp
    have lu : us.length = sy.owns.length := by rw [Db.len, List.length_map]
    have lo := ok.ol
    have lp := ok.pl
    refine ⟨_, rfl, a, _, 1, _, rfl, rfl, SqT.of ea, rfl, b, rfl, ⟨_, FT.sq eb⟩, fun D0 hD0 => ?_⟩
    refine turns_tup (K := K) (a := b) (xs := us) (fun j H4 => ∃ T4 : List TRow, H4 D0 = some (.lst (T4.map TRow.v)) ∧ T4.map Prod.snd = (couT sy (sy.owns.take j)).map prD ∧ (∀ q' ∈ T4, Dat H4 q'.v q'.2) ∧ Same H1 H4)
      ⟨[], upd_same, rfl, fun q' hq' => absurd hq' (by simp), same_new hD0⟩ (fun j H4 _ ⟨_, _, _, _, S4⟩ => FT.sq (eb.same S4)) ?_ ?_
    · rintro j x4 H4 hx4 ⟨T4, e4, d4, D4, S4⟩
      obtain ⟨d, hd2, Dx⟩ := dats_get' Db j x4 hx4
      obtain ⟨o, ho, rfl⟩ := get_map hd2
      obtain ⟨t, rfl⟩ := tuple_ref (ds := [.str o.1, nmsD o.2]) Dx
      obtain ⟨t', g1, g2⟩ := own_row (q := (t, ownD o)) rfl Dx
      have jl : j < sy.owns.length := (List.getElem?_eq_some_iff.mp ho).1
      refine ⟨t, _, rfl, SqT.of (S4 _ _ g1), rfl, _, _, rfl, _, _, rfl, rfl, rfl, yes_of ?_⟩
      refine ⟨_, rfl, a, _, 0, _, rfl, rfl, SqT.of (S4 _ _ ea), rfl, a0, rfl, ⟨_, SqT.of (S4 _ _ e0)⟩, ?_⟩
      have len4 : (couT sy (sy.owns.take j)).length ≤ 48 := by
        have z := couT_len sy (sy.owns.take j)
        rw [List.length_take] at z
        have z2 : sy.picks.length * min j sy.owns.length ≤ 6 * 8 := Nat.mul_le_mul lp (by omega)
        omega
      refine turns_tup (K := K) (a := a0) (xs := sy.picks.map V.str) (fun k H6 => ∃ T5 : List TRow, H6 D0 = some (.lst (T5.map TRow.v)) ∧ T5.map Prod.snd = (couT sy (sy.owns.take j) ++ couO sy o (sy.picks.take k)).map prD ∧ (∀ q' ∈ T5, Dat H6 q'.v q'.2) ∧ Same H1 H6)
        ⟨T4, e4, by rw [d4]; show _ = (couT sy (sy.owns.take j) ++ []).map prD; rw [List.append_nil], D4, S4⟩ (fun k H6 _ ⟨_, _, _, _, S6⟩ => SqT.of (S6 _ _ e0)) ?_ ?_
      · rintro k y H6 hy ⟨T5, e6, d6, D6, S6⟩
        rw [List.getElem?_map] at hy
        obtain ⟨x, hx, rfl⟩ := Option.map_eq_some_iff.mp hy
        have kl : k < sy.picks.length := (List.getElem?_eq_some_iff.mp hx).1
        have len5 : T5.length ≤ 60 := by
          have z := congrArg List.length d6
          rw [List.length_map, List.length_map, List.length_append] at z
          have y := couO_len sy o (sy.picks.take k)
          rw [List.length_take] at y
          omega
        have skip : ∀ H7, Same H6 H7 → couB sy o x = false → ∃ T5 : List TRow, H7 D0 = some (.lst (T5.map TRow.v)) ∧ T5.map Prod.snd = (couT sy (sy.owns.take j) ++ couO sy o (sy.picks.take (k + 1))).map prD ∧ (∀ q' ∈ T5, Dat H7 q'.v q'.2) ∧ Same H1 H7 := fun H7 S7 hb =>
          ⟨T5, S7 _ _ e6, by rw [d6, take_next hx, couO_snoc, if_neg (by rw [hb]; decide), List.append_nil], fun q' hq' => (D6 q' hq').same S7, S6.trans S7⟩
        refine ⟨rfl, ?_⟩
        refine ⟨_, rfl, _, rfl, t', _, rfl, .inr (SqT.of (S6 _ _ g2)), rfl, flat_strs _, _, rfl, ?_⟩
        show if (!inV (V.str x) (o.2.map V.str)) = true then _ else _
        rw [inV_str]
        by_cases hs : x ∈ o.2
        · rw [decide_eq_true hs, if_neg (by decide)]
          show if false = true then _ else _
          rw [if_neg (by decide)]
          exact skip H6 (Same.refl _) (by unfold couB; rw [decide_eq_true hs]; rfl)
        · rw [decide_eq_false hs, if_pos (by decide)]
          refine ⟨_, rfl, _, rfl, _, rfl, .ref a, sy, o.1, x, rfl, D1.same S6, ok, List.mem_of_getElem? hx, fun H7 S7 => ⟨_, rfl, ?_⟩⟩
          have ec : couB sy o x = wbiB sy o.1 x := by unfold couB; rw [decide_eq_false hs]; rfl
          rw [← ec]
          cases hb : couB sy o x with
          | false =>
            show if false = true then _ else _
            rw [if_neg (by decide)]
            exact skip H7 S7 hb
          | true =>
            show if true = true then _ else _
            rw [if_pos rfl]
            refine ⟨_, rfl, _, rfl, (by show 2 ≤ sizeLine; decide), fun t2 ht2 => ?_⟩
            have S8 := S7.trans (same_new (o := .tup [V.str o.1, .str x]) ht2)
            have e8 := S8 _ _ e6
            have kq : ∀ q' ∈ T5, keyable q'.2 = true := fun q' hq' => by
              have m2 : q'.2 ∈ (couT sy (sy.owns.take j) ++ couO sy o (sy.picks.take k)).map prD := d6 ▸ List.mem_map_of_mem hq'
              obtain ⟨z, _, hz⟩ := List.mem_map.mp m2
              rw [← hz]
              exact keyable_pr z
            refine ⟨_, e8, by rw [List.length_map]; exact small1000 (by omega), T5 ++ [(t2, prD (o.1, x))], by rw [upd_same, List.map_append]; rfl, ?_, fun q' hq' => ?_, same_upd (S6.trans S8) (S1.free hD0 |> fun _ => hD0)⟩
            · rw [List.map_append, d6, take_next hx, couO_snoc, if_pos hb, ← List.append_assoc, List.map_append (l₂ := [(o.1, x)])]
              rfl
            · rcases List.mem_append.mp hq' with m | m
              · exact dat_upd e8 (kq q' m) ((D6 q' m).same S8)
              · cases List.mem_singleton.mp m
                exact dat_upd e8 (keyable_pr _) (.tup upd_same (.cons (.str _) (.cons (.str x) .nil)))
      · rintro H6 ⟨T5, e6, d6, D6, S6⟩
        rw [List.length_map, List.take_length] at d6
        exact ⟨T5, e6, by rw [d6, take_next ho, couT_snoc], D6, S6⟩
    · rintro H4 ⟨T4, e4, d4, D4, S4⟩
      rw [lu, List.take_length] at d4
      exact q D0 T4 H4 (S1.trans S4) (S1.free hD0) e4 d4 D4
end
end S1

set_option Elab.async false
set_option linter.all false
set_option maxRecDepth 100000
set_option maxHeartbeats 4000000
/-! sayings with another sight, as the law makes them; copies, as it counts them -/
namespace S1
open PySem PySem.W PySem.Spec PyProof.Rows L2
theorem st_inS {K : PySem.W.Frag} {H : Hp} {t : Addr} {o : List Str} {σ : L2.St} {y : Str} {i j : Nat} (h : H t = some (.tup (o.map V.str))) (e1 : σ[i]? = some (some (V.str y))) (e2 : σ[j]? = some (some (V.ref t))) : STt (tTest (tOp (rIn K false) (tVar i) (tVar j))) σ H (decide (y ∈ o)) := fun H1 S Q q => by
  refine ⟨_, e1, _, e2, t, _, rfl, .inr (SqT.of (S _ _ h)), rfl, flat_strs _, _, rfl, ?_⟩
  show Q (inV (V.str y) (o.map V.str)) H1
  rw [inV_str]
  exact q H1 (Same.refl _)
theorem str_eqB (x y : Str) : decide (V.str x = V.str y) = decide (x = y) := by
  by_cases z : x = y
  · rw [z, decide_eq_true rfl, decide_eq_true rfl]
  · rw [decide_eq_false z, decide_eq_false fun w => z (by injection w)]
theorem st_neS {H : Hp} {σ : L2.St} {x y : Str} {i j : Nat} (e1 : σ[i]? = some (some (V.str x))) (e2 : σ[j]? = some (some (V.str y))) : STt (tTest (tOp rNe (tVar i) (tVar j))) σ H (!decide (x = y)) := fun H1 S Q q => by
  refine ⟨_, e1, _, e2, rfl, _, rfl, ?_⟩
  rw [str_eqB]
  exact q H1 (Same.refl _)
theorem st_eqS {H : Hp} {σ : L2.St} {x y : Str} {i j : Nat} (e1 : σ[i]? = some (some (V.str x))) (e2 : σ[j]? = some (some (V.str y))) : STt (tTest (tOp rEq (tVar i) (tVar j))) σ H (decide (x = y)) := fun H1 S Q q => by
  refine ⟨_, e1, _, e2, rfl, _, rfl, ?_⟩
  rw [str_eqB]
  exact q H1 (Same.refl _)
theorem st_bl {H : Hp} {σ : L2.St} {b : Bool} {i : Nat} (e1 : σ[i]? = some (some (V.bl b))) : STt (tB (tVar i)) σ H b := fun H1 S Q q => ⟨_, e1, b, rfl, q H1 (Same.refl _)⟩
def spSighted : Sp := fun vs H Q _ => ∃ (v : V) (s : Say) (n x : Str) (t : Bool), vs = [v, .str n, .str x, .bl t] ∧ DatS H v s ∧ SayOk 6 8 120 40 s ∧ ∀ (v' : V) (H' : Hp), Same H H' → Dat H' v' (seen s n x t).d → Q v' H'
section
variable {P : Program} {w : World} {K : PySem.W.Frag} {mg : Str → Option Value} {base : Heap}
abbrev nLC : List Str := ["saying", "name", "sight"]
abbrev nLG : List Str := ["saying", "name", "pick", "truth", "owns", "own", "sight", "kept_picks", "other"]
theorem scLG : FnScope nLG ["saying", "name", "pick", "truth"] (defScope sLSighted) := ⟨rfl, rfl, rfl, by decide +kernel, rfl, by decide +kernel, by decide +kernel⟩
theorem ok_lSighted {f : Addr} {fd : FuncData} (F : Fun K "_law_sighted" "_law_sighted" sLSighted f fd) (B : Blt mg) : FnOk P w K mg base CX0 1 f fd ["saying", "name", "pick", "truth"] spSighted := by
  refine F.ok scLG (fun vs H Q E h => ?_) (fun cdv A outer s H vs Q E hr h => ?_)
  · obtain ⟨v, sy, n, x, t, rfl, _⟩ := h
    rfl
  · obtain ⟨v, sy, n, x, t, rfl, D, ok, q⟩ := h
    refine ⟨_, pss_cons (ps_set (i := 4) scLG.nd rfl (.inl rfl) (pe_lst pa_nil))
      (pss_cons (ps_for PassesOwn.never rfl (pi_tup (pe_ix ix_tup (pv 0) pe_int (fun _ _ => rfl))) (pg_tup rfl (pgs_cons (pg_name (i := 5) scLG.nd rfl (.inl rfl)) (pgs_cons (pg_name (i := 6) scLG.nd rfl (.inr rfl)) pgs_nil)))
        (pss_cons (ps_setLc (i := 7) (own := [("other", 8)]) (g := gName 8) (tt := tOr (tAnd (tTest (tOp (rIn K false) (tVar 8) (tVar 6))) (tTest (tOp rNe (tVar 8) (tVar 2)))) (tAnd (tTest (tOp rEq (tVar 8) (tVar 2))) (tB (tVar 3)))) (te := tVar 8) rfl scLG.nd rfl rfl (by with_unfolding_all rfl)
            (pi_tup (pe_ix ix_tup (pv 0) pe_int (fun _ _ => rfl))) (blkOk_by (N := nLG) (sc := defScope sLSighted) (by decide +kernel)) (fun _ _ _ _ _ => pg_name (i := 8) scLG.nd rfl (Or.inl rfl))
            (fun _ _ _ _ _ => by exact pts_one (PW.pt (pw_or (PW.pt (pw_and (pt_cmpR op_in_seq (pv 8) (pv 6) (by with_unfolding_all rfl)) (pw_and1 (pt_cmpR op_ne (pv 8) (pv 2) (nomark _))))) (pw_or1 (PW.pt (pw_and (pt_cmpR op_eq (pv 8) (pv 2) (nomark _)) (pw_and1 (pt_val (pv 3)))))))))
            (fun _ _ _ _ _ => by exact pv 8))
        (pss_one (ps_expr (pe_bm PySem.F.plainAttrs_list PySem.F.slot_list_append PySem.F.type_list_append mt_append (pv 4) (pa_cons (pe_tup (pa_cons (pv 5) (pa_cons (pe_ifExp (pt_cmpR op_eq (pv 5) (pv 1) (nomark _)) (pe_tupleOf rfl B.tuple (pv 7)) (pv 6)) pa_nil))) pa_nil))))))
      (pss_one (ps_ret (pe_tup (pa_cons (pe_ix ix_tup (pv 0) pe_int (fun _ _ => rfl)) (pa_cons (pe_tupleOf rfl B.tuple (pv 4)) (pa_cons (pe_ix ix_tup (pv 0) pe_int (fun _ _ => rfl)) pa_nil))))))), ?_⟩
    obtain ⟨a, b, pk, c, us, rfl, ea, Dp, Do, eb, Db, Dc⟩ := say_at D
    obtain ⟨a0, rfl, e0⟩ := nms_at Dp
    have lu : us.length = sy.owns.length := by rw [Db.len, List.length_map]
    have lo := ok.ol
    have lp := ok.pl
    refine ⟨Nat.zero_le _, fun D0 hD0 => ?_⟩
    have S0 := same_new (o := .lst ([] : List V)) hD0
    refine ⟨_, rfl, a, _, 1, _, rfl, rfl, SqT.of (S0 _ _ ea), rfl, b, rfl, ⟨_, FT.sq (eb.same S0)⟩, ?_⟩
    refine for_tup (K := K) (a := b) (xs := us) (fun j σ H4 => ∃ (o5 o6 o7 o8 : Option V) (T4 : List TRow), σ = [some (.ref a), some (.str n), some (.str x), some (.bl t), some (.ref D0), o5, o6, o7, o8] ∧ H4 D0 = some (.lst (T4.map TRow.v)) ∧ T4.map Prod.snd = (sy.owns.take j).map (fun o => ownD (o.1, seenF sy.picks n x t o)) ∧ (∀ q' ∈ T4, Dat H4 q'.v q'.2) ∧ Same H H4)
      ⟨_, _, _, _, [], rfl, upd_same, rfl, fun q' hq' => absurd hq' (by simp), S0⟩ (fun j σ H4 _ ⟨_, _, _, _, _, _, _, _, _, S4⟩ => FT.sq (eb.same S4)) ?_ ?_
    · rintro j x4 σ H4 hx4 ⟨o5, o6, o7, o8, T4, rfl, e4, d4, D4, S4⟩
      obtain ⟨d, hd2, Dx⟩ := dats_get' Db j x4 hx4
      obtain ⟨o, ho, rfl⟩ := get_map hd2
      obtain ⟨to, rfl⟩ := tuple_ref (ds := [.str o.1, nmsD o.2]) Dx
      obtain ⟨t', g1, g2⟩ := own_row (q := (to, ownD o)) rfl Dx
      have jl : j < sy.owns.length := (List.getElem?_eq_some_iff.mp ho).1
      have lT : T4.length = j := by
        have z := congrArg List.length d4
        rw [List.length_map, List.length_map, List.length_take] at z
        omega
      have kq : ∀ q' ∈ T4, keyable q'.2 = true := fun q' hq' => by
        have m2 : q'.2 ∈ (sy.owns.take j).map (fun o => ownD (o.1, seenF sy.picks n x t o)) := d4 ▸ List.mem_map_of_mem hq'
        obtain ⟨z, _, hz⟩ := List.mem_map.mp m2
        rw [← hz]
        exact keyable_own _
      refine ⟨to, _, rfl, SqT.of (S4 _ _ g1), rfl, _, _, rfl, _, _, rfl, rfl, ?_⟩
      refine ⟨_, rfl, a, _, 0, _, rfl, rfl, SqT.of (S4 _ _ ea), rfl, a0, rfl, ⟨_, SqT.of (S4 _ _ e0)⟩, fun D1 hD1 => ?_⟩
      have n01 : D0 ≠ D1 := ne_of_none e4 hD1
      refine lc_tup (K := K) (a := a0) (xs := sy.picks.map V.str) (fun m H6 => H6 D1 = some (.lst ((sgh (sy.picks.take m) x t o.2).map V.str)) ∧ Same H4 H6) ⟨upd_same, same_new hD1⟩ (fun m H6 _ h => SqT.of (h.2 _ _ (S4 _ _ e0))) ?_ ?_
      · rintro m y H6 hy ⟨e6, S6⟩
        rw [List.getElem?_map] at hy
        obtain ⟨z, hz, rfl⟩ := Option.map_eq_some_iff.mp hy
        have em := st_or (st_and (st_inS (K := K) (H := H6) (σ := [some (.ref a), some (.str n), some (.str x), some (.bl t), some (.ref D0), some (.str o.1), some (.ref t'), o7, some (.str z)]) (y := z) (i := 8) (j := 6) (S6 _ _ (S4 _ _ g2)) rfl rfl) (st_neS (x := z) (y := x) (i := 8) (j := 2) rfl rfl)) (st_and (st_eqS (x := z) (y := x) (i := 8) (j := 2) rfl rfl) (st_bl (b := t) (i := 3) rfl))
        refine ⟨rfl, em H6 (Same.refl _) _ fun H7 S7 => ?_⟩
        have fl := List.length_filter_le (fun y => (decide (y ∈ o.2) && !decide (y = x)) || (decide (y = x) && t)) (sy.picks.take m)
        rw [List.length_take] at fl
        have e7 := S7 _ _ e6
        refine ite2 (fun h => ?_) (fun h => ?_)
        · refine ⟨_, rfl, _, e7, by rw [List.length_map]; exact small1000 (by unfold sgh; omega), ?_, same_upd (S6.trans S7) hD1⟩
          have eo : sgh [z] x t o.2 = [z] := by unfold sgh; rw [List.filter_cons, if_pos h]; rfl
          have ea2 : sgh (sy.picks.take m ++ [z]) x t o.2 = sgh (sy.picks.take m) x t o.2 ++ [z] := by
            rw [← eo]
            unfold sgh
            rw [List.filter_append, List.filter_filter]
            simp
          rw [upd_same, take_next hz, ea2, List.map_append]
          rfl
        · refine ⟨?_, S6.trans S7⟩
          have ea2 : sgh (sy.picks.take m ++ [z]) x t o.2 = sgh (sy.picks.take m) x t o.2 := by
            unfold sgh
            rw [List.filter_append, List.filter_cons, if_neg h]
            simp
          rw [take_next hz, ea2]
          exact e7
      · rintro H6 ⟨e6, S6⟩
        rw [List.length_map, List.take_length] at e6
        have e60 := S6 _ _ e4
        refine ⟨_, rfl, .inl ⟨rfl, _, SqL.of e60⟩, _, rfl, ?_⟩
        refine ⟨_, rfl, _, rfl, rfl, _, rfl, ?_⟩
        show if decide (V.str o.1 = V.str n) = true then _ else _
        rw [str_eqB]
        refine ite_te (fun v G => ∃ u, v = .ref u ∧ Same H6 G ∧ G u = some (.tup ((seenF sy.picks n x t o).map V.str))) (fun v H7 ⟨u, hv, S7, e7⟩ => ?_) (fun h R => ?_) (fun h R => ?_)
        · subst hv
          refine ⟨(by show 2 ≤ sizeLine; decide), fun t2 ht2 => ?_⟩
          have S8 := same_new (o := .tup [V.str o.1, .ref u]) ht2
          have S68 := S7.trans S8
          have e80 := S68 _ _ e60
          refine ⟨D0, _, _, rfl, rfl, e80, by rw [List.length_map, lT]; exact small1000 (by omega), ?_⟩
          refine ⟨_, _, _, _, T4 ++ [(t2, ownD (o.1, seenF sy.picks n x t o))], rfl, by rw [upd_same, List.map_append]; rfl, by rw [List.map_append, d4, take_next ho, List.map_append]; rfl, fun q' hq' => ?_, same_upd ((S4.trans S6).trans S68) hD0⟩
          rcases List.mem_append.mp hq' with m | m
          · exact dat_upd e80 (kq q' m) (((D4 q' m).same S6).same S68)
          · cases List.mem_singleton.mp m
            exact dat_upd e80 (keyable_own _) (.tup upd_same (.cons (.str _) (.cons (.tup (S8 _ _ e7) (dats_strs _)) .nil)))
        · refine ⟨_, rfl, .inl ⟨D1, _, rfl, SqL.of e6, fun u hu => R _ _ ⟨u, rfl, same_new hu, ?_⟩⟩⟩
          unfold seenF
          rw [if_pos (of_decide_eq_true h)]
          exact upd_same
        · refine ⟨_, rfl, R _ _ ⟨t', rfl, Same.refl _, ?_⟩⟩
          unfold seenF
          rw [if_neg (fun z => h (decide_eq_true z))]
          exact S6 _ _ (S4 _ _ g2)
    · rintro σ H4 ⟨o5, o6, o7, o8, T4, rfl, e4, d4, D4, S4⟩
      rw [lu, List.take_length] at d4
      refine ⟨_, rfl, a, _, 0, _, rfl, rfl, SqT.of (S4 _ _ ea), rfl, _, rfl, .inl ⟨D0, _, rfl, SqL.of e4, fun tt htt => ?_⟩⟩
      have S5 := same_new (o := .tup (T4.map TRow.v)) htt
      have S45 := S4.trans S5
      refine ⟨_, rfl, a, _, 2, _, rfl, rfl, SqT.of (S45 _ _ ea), rfl, (by show 3 ≤ sizeLine; decide), fun t3 ht3 => ?_⟩
      have S6 := same_new (o := .tup [.ref a0, .ref tt, c]) ht3
      have S := S45.trans S6
      refine q _ _ S (say_mk upd_same (Dp.same S) ?_ (Dc.same S))
      refine .tup (S6 _ _ upd_same) ?_
      have e : (seen sy n x t).owns.map ownD = T4.map Prod.snd := by
        rw [d4]
        show (sy.owns.map fun o => (o.1, seenF sy.picks n x t o)).map ownD = _
        rw [List.map_map]
        rfl
      rw [e]
      exact dats_rows fun r hr => ((D4 r hr).same S5).same S6
end
end S1

set_option Elab.async false
set_option linter.all false
set_option maxRecDepth 100000
set_option maxHeartbeats 4000000
/-! answers as functions of plays: an idle sight may go, and nothing changes -/
namespace S4
open PySem PySem.W PySem.Spec PyProof.Rows L2 S1
abbrev Play := Str → Bool
def setP (p : Play) (x : Str) (b : Bool) : Play := fun y => if y = x then b else p y
theorem setP_at (p : Play) (x : Str) (b : Bool) : setP p x b x = b := if_pos rfl
theorem setP_ne {p : Play} {x y : Str} {b : Bool} (h : y ≠ x) : setP p x b y = p y := if_neg h
theorem setP_self {p : Play} {x : Str} {b : Bool} (h : p x = b) : setP p x b = p := by
  funext y
  unfold setP
  split
  · rename_i e
    rw [e, h]
  · rfl
theorem setP_set (p : Play) (x : Str) (b c : Bool) : setP (setP p x b) x c = setP p x c := by
  funext y
  unfold setP
  split <;> rfl
/-- a letter is so at a play, the owns being as F has them -/
def soL (ns : List Str) (F : Str → Play → Bool) (p : Play) (l : Ltr) : Prop := (l.1 ∈ ns ∧ F l.1 p = l.2) ∨ (l.1 ∉ ns ∧ p l.1 = l.2)
structure Ans (s : Say) (F : Str → Play → Bool) : Prop where
  dep : ∀ o ∈ s.owns, ∀ p q : Play, (∀ y ∈ o.2, p y = q y) → F o.1 p = F o.1 q
  so : ∀ p : Play, ∀ cl ∈ s.cls, ∃ l ∈ cl, soL (s.owns.map Prod.fst) F p l
def Sat (s : Say) : Prop := ∃ F, Ans s F
section
variable {s : Say} {x n : Str} {a b c d : Nat}
theorem vwI {n : Str} : n ∈ vw s x ↔ ∃ o ∈ s.owns, o.1 = n ∧ x ∈ o.2 := by
  unfold vw
  rw [List.mem_map]
  constructor
  · rintro ⟨o, ho, rfl⟩
    obtain ⟨h1, h2⟩ := List.mem_filter.mp ho
    exact ⟨o, h1, rfl, of_decide_eq_true h2⟩
  · rintro ⟨o, ho, rfl, h⟩
    exact ⟨o, List.mem_filter.mpr ⟨ho, decide_eq_true h⟩, rfl⟩
theorem own_one (ok : SayOk a b c d s) {o o' : Own} (h : o ∈ s.owns) (h' : o' ∈ s.owns) (e : o.1 = o'.1) : o = o' := by
  have nd : (s.owns.map Prod.fst).Nodup := nodup_tlt (List.pairwise_map.mpr ok.ou)
  obtain ⟨i, hi⟩ := List.getElem?_of_mem h
  obtain ⟨j, hj⟩ := List.getElem?_of_mem h'
  have h1 : (s.owns.map Prod.fst)[i]? = some o.1 := by rw [List.getElem?_map, hi]; rfl
  have h2 : (s.owns.map Prod.fst)[j]? = some o'.1 := by rw [List.getElem?_map, hj]; rfl
  rw [e] at h1
  have li : i < (s.owns.map Prod.fst).length := (List.getElem?_eq_some_iff.mp h1).1
  have ij := (List.getElem?_inj li nd).mp (h1.trans h2.symm)
  rw [ij, hj] at hi
  injection hi with z
  exact z.symm
/-- an own that sees x not is the same at both truths of x -/
theorem Ans.blind {F : Str → Play → Bool} (A : Ans s F) {o : Own} (ho : o ∈ s.owns) (h : x ∉ o.2) (p : Play) (t u : Bool) : F o.1 (setP p x t) = F o.1 (setP p x u) :=
  A.dep o ho _ _ fun y hy => by
    have ne : y ≠ x := fun z => h (z ▸ hy)
    rw [setP_ne ne, setP_ne ne]
open Classical in
/-- where the letter (x, t) is not so: the owns that are not reached from it are as they are where it is so -/
noncomputable def turn (s : Say) (x : Str) (t : Bool) (F : Str → Play → Bool) : Str → Play → Bool := fun y p =>
  if p x = (!t) ∧ y ∈ vw s x ∧ ¬ Reach s (vw s x) (x, t) (y, F y (setP p x (!t))) then F y (setP p x t) else F y p
theorem turn_same {F : Str → Play → Bool} {t : Bool} (y : Str) (p : Play) : turn s x t F y (setP p x t) = F y (setP p x t) := by
  unfold turn
  rw [if_neg]
  rintro ⟨h, _⟩
  rw [setP_at] at h
  revert h
  cases t <;> decide
theorem turn_diff {F : Str → Play → Bool} {t : Bool} (A : Ans s F) {y : Str} (hy : y ∈ s.owns.map Prod.fst) {p : Play} (h : turn s x t F y (setP p x (!t)) ≠ turn s x t F y (setP p x t)) :
    turn s x t F y (setP p x (!t)) = F y (setP p x (!t)) ∧ y ∈ vw s x ∧ Reach s (vw s x) (x, t) (y, F y (setP p x (!t))) := by
  rw [turn_same] at h
  have hv : y ∈ vw s x := Classical.byContradiction fun z => by
    obtain ⟨o, ho, rfl⟩ := List.mem_map.mp hy
    have nx : x ∉ o.2 := fun hx => z (vwI.mpr ⟨o, ho, rfl, hx⟩)
    refine h ?_
    unfold turn
    rw [if_neg fun q => z q.2.1]
    exact A.blind ho nx p _ _
  by_cases r : Reach s (vw s x) (x, t) (y, F y (setP p x (!t)))
  · refine ⟨?_, hv, r⟩
    unfold turn
    rw [if_neg]
    rintro ⟨_, _, q⟩
    rw [setP_set] at q
    exact q r
  · refine absurd ?_ h
    unfold turn
    rw [if_pos ⟨setP_at _ _ _, hv, by rw [setP_set]; exact r⟩, setP_set]
theorem turn_ans (ok : SayOk a b c d s) (xp : x ∈ s.picks) {F : Str → Play → Bool} (A : Ans s F) (t : Bool) : Ans s (turn s x t F) := by
  have xo : x ∉ s.owns.map Prod.fst := fun z => by
    obtain ⟨o, ho, e⟩ := List.mem_map.mp z
    exact (ok.on o ho).2.1 (e ▸ xp)
  refine ⟨fun o ho p q h => ?_, fun p cl hcl => ?_⟩
  · unfold turn
    by_cases hv : o.1 ∈ vw s x
    · obtain ⟨o', ho', e', hx⟩ := vwI.mp hv
      have eo := own_one ok ho' ho e'
      subst eo
      have e1 : ∀ u, F o'.1 (setP p x u) = F o'.1 (setP q x u) := fun u => A.dep o' ho _ _ fun y hy => by
        unfold setP
        split
        · rfl
        · exact h y hy
      rw [h x hx, e1 (!t), e1 t, A.dep o' ho p q h]
    · rw [if_neg fun z => hv z.2.1, if_neg fun z => hv z.2.1]
      exact A.dep o ho p q h
  · by_cases hp : p x = (!t)
    · -- the play at which (x, t) is not so
      refine Classical.byContradiction fun none => ?_
      have ep : setP p x (!t) = p := setP_self hp
      -- each letter that is so by F is changed
      have ch : ∀ l ∈ cl, soL (s.owns.map Prod.fst) F p l → l.1 ∈ vw s x ∧ l.1 ∈ s.owns.map Prod.fst ∧ F l.1 p = l.2 ∧ ¬ Reach s (vw s x) (x, t) l := fun l hl so => by
        rcases so with ⟨h1, h2⟩ | h
        · by_cases q : l.1 ∈ vw s x ∧ ¬ Reach s (vw s x) (x, t) (l.1, F l.1 (setP p x (!t)))
          · rw [ep, h2] at q
            exact ⟨q.1, h1, h2, q.2⟩
          · refine absurd ⟨l, hl, .inl ⟨h1, ?_⟩⟩ none
            unfold turn
            rw [if_neg fun z => q z.2]
            exact h2
        · exact absurd ⟨l, hl, .inr h⟩ none
      obtain ⟨l, hl, so⟩ := A.so p cl hcl
      obtain ⟨lv, lo, lF, lr⟩ := ch l hl so
      obtain ⟨m, hm, som⟩ := A.so (setP p x t) cl hcl
      have ml : m ≠ l → l.1 ∈ vw s x := fun _ => lv
      rcases som with ⟨h1, h2⟩ | ⟨h1, h2⟩
      · by_cases hv : m.1 ∈ vw s x
        · by_cases q : Reach s (vw s x) (x, t) (m.1, F m.1 p)
          · -- m is not so at p, its contrary is reached
            by_cases e : F m.1 p = m.2
            · obtain ⟨_, _, _, r⟩ := ch m hm (.inl ⟨h1, e⟩)
              rw [e] at q
              exact r q
            · have em : (m.1, F m.1 p) = neg m := by
                unfold neg
                congr 1
                revert e
                cases F m.1 p <;> cases m.2 <;> decide
              rw [em] at q
              have ne : l ≠ m := fun z => e (by rw [← z]; exact lF)
              refine lr (.step q ?_)
              have en : neg (neg m) = m := by unfold neg; rw [Bool.not_not]
              rw [en]
              exact bes_of hcl hm hl ne lv
          · refine none ⟨m, hm, .inl ⟨h1, ?_⟩⟩
            unfold turn
            rw [if_pos ⟨hp, hv, by rw [ep]; exact q⟩]
            exact h2
        · obtain ⟨o, ho, e⟩ := List.mem_map.mp h1
          have nx : x ∉ o.2 := fun hx => hv (vwI.mpr ⟨o, ho, e, hx⟩)
          have z := A.blind ho nx p t (!t)
          rw [e, ep, h2] at z
          have := (ch m hm (.inl ⟨h1, z.symm⟩)).1
          exact hv this
      · by_cases mx : m.1 = x
        · have em : m = (x, t) := by
            rw [mx, setP_at] at h2
            exact Prod.ext mx h2.symm
          subst em
          refine lr (.start (bes_of hcl hm hl (fun z => ?_) lv))
          rw [z] at lo
          exact xo lo
        · rw [setP_ne mx] at h2
          exact none ⟨m, hm, .inr ⟨h1, h2⟩⟩
    · have ep : p x = t := by
        revert hp
        cases p x <;> cases t <;> decide
      obtain ⟨l, hl, so⟩ := A.so p cl hcl
      refine ⟨l, hl, ?_⟩
      rcases so with ⟨h1, h2⟩ | h
      · refine .inl ⟨h1, ?_⟩
        unfold turn
        rw [if_neg fun z => hp z.1]
        exact h2
      · exact .inr h
end
end S4
namespace S4
open PySem PySem.W PySem.Spec PyProof.Rows L2 S1
section
variable {s : Say} {x n : Str} {a b c d : Nat}
theorem both (p : Play) (x : Str) : setP p x true = p ∨ setP p x false = p := by
  cases h : p x with
  | true => exact .inl (setP_self h)
  | false => exact .inr (setP_self h)
/-- answers by which no own that does not hang looks at x -/
theorem no_look (ok : SayOk a b c d s) (xp : x ∈ s.picks) (h : Sat s) : ∃ F, Ans s F ∧ ∀ y ∈ s.owns.map Prod.fst, ¬ hangR s x y → ∀ p, F y (setP p x true) = F y (setP p x false) := by
  obtain ⟨F, A⟩ := h
  have A1 := turn_ans ok xp A true
  have A2 := turn_ans ok xp A1 false
  refine ⟨_, A2, fun y hy nh p => Classical.byContradiction fun ne => nh ?_⟩
  -- behind both turns
  obtain ⟨e1, hv, r1⟩ := turn_diff (t := false) A1 hy (p := p) ne
  have ne0 : turn s x false (turn s x true F) y (setP p x (!false)) ≠ turn s x false (turn s x true F) y (setP p x false) := ne
  rw [e1, turn_same (t := false)] at ne0
  have ne : turn s x true F y (setP p x true) ≠ turn s x true F y (setP p x false) := ne0
  have ne2 : turn s x true F y (setP p x (!true)) ≠ turn s x true F y (setP p x true) := fun z => ne z.symm
  obtain ⟨e3, _, r3⟩ := turn_diff (t := true) A hy (p := p) ne2
  rw [← e3] at r3
  have nb : turn s x true F y (setP p x true) = !(turn s x true F y (setP p x false)) := by
    revert ne
    show ¬ (turn s x true F y (setP p x true) = turn s x true F y (setP p x false)) → _
    cases turn s x true F y (setP p x true) <;> cases turn s x true F y (setP p x false) <;> decide
  have r1' : Reach s (vw s x) (x, false) (y, !(turn s x true F y (setP p x false))) := by
    rw [← nb]
    exact r1
  have r3' : Reach s (vw s x) (x, true) (y, turn s x true F y (setP p x false)) := r3
  revert r1' r3'
  cases turn s x true F y (setP p x false) with
  | false => exact fun h1 h3 => .inl ⟨h3, h1⟩
  | true => exact fun h1 h3 => .inr ⟨h3, h1⟩
theorem withF_sat {f : Own → List Str} {F : Str → Play → Bool} (h : ∀ o ∈ s.owns, ∀ p q : Play, (∀ y ∈ f o, p y = q y) → F o.1 p = F o.1 q) (so : ∀ p : Play, ∀ cl ∈ s.cls, ∃ l ∈ cl, soL (s.owns.map Prod.fst) F p l) : Ans (withF s f) F := by
  refine ⟨fun o ho p q e => ?_, fun p cl hcl => ?_⟩
  · obtain ⟨o', ho', rfl⟩ := List.mem_map.mp (show o ∈ s.owns.map fun o => (o.1, f o) from ho)
    exact h o' ho' p q e
  · have e : (withF s f).owns.map Prod.fst = s.owns.map Prod.fst := by
      show (s.owns.map fun o => (o.1, f o)).map Prod.fst = _
      rw [List.map_map]
      rfl
    rw [e]
    exact so p cl hcl
theorem less_in {ps : List Str} {y : Str} {o : Own} (sub : ∀ z ∈ o.2, z ∈ ps) (h : y ∈ o.2) (ne : ¬ (o.1 = n ∧ y = x)) : y ∈ seenF ps n x false o := by
  unfold seenF
  split
  · rename_i e
    exact sgh_mem.mpr ⟨sub y h, .inl ⟨h, fun z => ne ⟨e, z⟩⟩⟩
  · exact h
theorem less_sub {ps : List Str} {y : Str} {o : Own} (h : y ∈ seenF ps n x false o) : y ∈ o.2 := by
  unfold seenF at h
  split at h
  · obtain ⟨_, ⟨h1, _⟩ | ⟨_, h2⟩⟩ := sgh_mem.mp h
    · exact h1
    · cases h2
  · exact h
/-- an idle sight may go -/
theorem idle_sat (ok : SayOk a b c d s) (xp : x ∈ s.picks) (hn : n ∈ s.owns.map Prod.fst) (nh : ¬ hangR s x n) : Sat (seen s n x false) ↔ Sat s := by
  constructor
  · rintro ⟨F, A⟩
    refine ⟨F, fun o ho p q e => ?_, fun p cl hcl => ?_⟩
    · exact A.dep (o.1, seenF s.picks n x false o) (List.mem_map.mpr ⟨o, ho, rfl⟩) p q fun y hy => e y (less_sub hy)
    · have e : (seen s n x false).owns.map Prod.fst = s.owns.map Prod.fst := by
        show (s.owns.map fun o => (o.1, seenF s.picks n x false o)).map Prod.fst = _
        rw [List.map_map]
        rfl
      have z := A.so p cl hcl
      rw [e] at z
      exact z
  · intro h
    obtain ⟨F, A, no⟩ := no_look ok xp h
    refine ⟨F, withF_sat (fun o ho p q e => ?_) A.so⟩
    have sub := (ok.on o ho).2.2.2
    by_cases hon : o.1 = n
    · have nx := no o.1 (by rw [hon]; exact hn) (by rw [hon]; exact nh)
      have key : ∀ p : Play, F o.1 p = F o.1 (setP p x true) := fun p => by
        rcases both p x with z | z
        · rw [z]
        · rw [nx p, z]
      rw [key p, key q]
      refine A.dep o ho _ _ fun y hy => ?_
      by_cases yx : y = x
      · rw [yx, setP_at, setP_at]
      · rw [setP_ne yx, setP_ne yx]
        exact e y (less_in sub hy fun z => yx z.2)
    · refine A.dep o ho p q fun y hy => e y (less_in sub hy fun z => hon z.1)
/-- all that is thinned -/
theorem thin_sat {t : Say} (h : Thin s t) : SayOk 6 8 120 40 s → (Sat t ↔ Sat s) := by
  induction h with
  | stop _ => exact fun _ => Iff.rfl
  | @step s t q L hi k ih =>
    intro ok
    obtain ⟨h1, h2, h3⟩ := (hi.mem q).mp List.mem_cons_self
    exact (ih (less_ok ok q.1 q.2)).trans (idle_sat ok h1 (vw_sub h2) h3)
/-- seen and not seen again -/
theorem seen_back (ok : SayOk a b c d s) (xp : x ∈ s.picks) {o0 : Own} (ho0 : o0 ∈ s.owns) (nx : x ∉ o0.2) : seen (seen s o0.1 x true) o0.1 x false = s := by
  have e : ∀ o ∈ s.owns, seenF s.picks o0.1 x false (o.1, seenF s.picks o0.1 x true o) = o.2 := fun o ho => by
    by_cases h : o.1 = o0.1
    · have eo := own_one ok ho ho0 h
      subst eo
      unfold seenF
      rw [if_pos rfl, if_pos rfl]
      have oo := ok.on o ho
      refine tlt_uniq (sgh_up ok.pu) oo.2.2.1 fun y => ?_
      rw [sgh_mem]
      constructor
      · rintro ⟨_, ⟨h1, h2⟩ | ⟨_, h2⟩⟩
        · rcases (sgh_mem.mp h1).2 with z | z
          · exact z.1
          · exact absurd z.1 h2
        · cases h2
      · intro hy
        have ne : y ≠ x := fun z => nx (z ▸ hy)
        exact ⟨oo.2.2.2 y hy, .inl ⟨sgh_mem.mpr ⟨oo.2.2.2 y hy, .inl ⟨hy, ne⟩⟩, ne⟩⟩
    · unfold seenF
      rw [if_neg h, if_neg h]
  show Say.mk s.picks ((s.owns.map fun o => (o.1, seenF s.picks o0.1 x true o)).map fun o => (o.1, seenF s.picks o0.1 x false o)) s.cls = s
  rw [List.map_map]
  have : (s.owns.map ((fun o => (o.1, seenF s.picks o0.1 x false o)) ∘ fun o => (o.1, seenF s.picks o0.1 x true o))) = s.owns := by
    conv => rhs; rw [← List.map_id s.owns]
    refine List.map_congr_left fun o ho => ?_
    exact Prod.ext rfl (e o ho)
  rw [this]
/-- a sight that would be idle may come -/
theorem more_sat (ok : SayOk a b c d s) (okm : SayOk 6 8 120 40 (seen s n x true)) (xp : x ∈ s.picks) {o0 : Own} (ho0 : o0 ∈ s.owns) (e0 : o0.1 = n) (nx : x ∉ o0.2) (nh : ¬ hangR (seen s n x true) x n) : Sat (seen s n x true) ↔ Sat s := by
  have z := idle_sat okm xp (n := n) (x := x) (by
    show n ∈ (s.owns.map fun o => (o.1, seenF s.picks n x true o)).map Prod.fst
    rw [List.map_map]
    exact List.mem_map.mpr ⟨o0, ho0, e0⟩) nh
  subst e0
  rw [seen_back ok xp ho0 nx] at z
  exact z.symm
end
end S4

set_option Elab.async false
set_option linter.all false
set_option maxRecDepth 100000
set_option maxHeartbeats 4000000
/-! what clauses tell of the copies; a search through it -/
namespace S4
open PySem PySem.W PySem.Spec PyProof.Rows L2 S1
abbrev Cp := Str × List Bool
abbrev GL := Cp × Bool
abbrev GRow := List GL
def Meets (v : Cp → Bool) (rows : List GRow) : Prop := ∀ r ∈ rows, ∃ l ∈ r, v l.1 = l.2
def SatR (rows : List GRow) : Prop := ∃ v, Meets v rows
/-- what is left if a copy is a truth -/
def withR (rows : List GRow) (c : Cp) (t : Bool) : List GRow := (rows.filter fun r => decide ((c, t) ∉ r)).map fun r => r.filter fun l => decide (l ≠ (c, !t))
theorem with_sat {rows : List GRow} {c : Cp} {t : Bool} : SatR (withR rows c t) ↔ ∃ v, v c = t ∧ Meets v rows := by
  constructor
  · rintro ⟨v, h⟩
    refine ⟨fun d => if d = c then t else v d, if_pos rfl, fun r hr => ?_⟩
    by_cases m : (c, t) ∈ r
    · exact ⟨(c, t), m, if_pos rfl⟩
    · obtain ⟨l, hl, e⟩ := h _ (List.mem_map.mpr ⟨r, List.mem_filter.mpr ⟨hr, decide_eq_true m⟩, rfl⟩)
      obtain ⟨h1, h2⟩ := List.mem_filter.mp hl
      have ne := of_decide_eq_true h2
      refine ⟨l, h1, ?_⟩
      by_cases lc : l.1 = c
      · exfalso
        obtain ⟨d, u⟩ := l
        have dc : d = c := lc
        subst dc
        by_cases ut : u = t
        · exact m (ut ▸ h1)
        · refine ne (Prod.ext rfl ?_)
          show u = !t
          revert ut
          cases u <;> cases t <;> decide
      · show (if l.1 = c then t else v l.1) = l.2
        rw [if_neg lc]
        exact e
  · rintro ⟨v, e, h⟩
    refine ⟨v, fun r hr => ?_⟩
    obtain ⟨r0, hr0, rfl⟩ := List.mem_map.mp hr
    obtain ⟨h1, h2⟩ := List.mem_filter.mp hr0
    obtain ⟨l, hl, el⟩ := h r0 h1
    refine ⟨l, List.mem_filter.mpr ⟨hl, decide_eq_true fun z => ?_⟩, el⟩
    rw [z] at el
    have : v c = !t := el
    rw [e] at this
    revert this
    cases t <;> decide
theorem sat_single {rows : List GRow} {c : Cp} {t : Bool} (h : [(c, t)] ∈ rows) : SatR rows ↔ SatR (withR rows c t) := by
  rw [with_sat]
  constructor
  · rintro ⟨v, m⟩
    obtain ⟨l, hl, e⟩ := m _ h
    cases List.mem_singleton.mp hl
    exact ⟨v, e, m⟩
  · rintro ⟨v, _, m⟩
    exact ⟨v, m⟩
theorem sat_split {rows : List GRow} (c : Cp) (t : Bool) : SatR rows ↔ (SatR (withR rows c (!t)) ∨ SatR (withR rows c t)) := by
  rw [with_sat, with_sat]
  constructor
  · rintro ⟨v, m⟩
    by_cases h : v c = t
    · exact .inr ⟨v, h, m⟩
    · refine .inl ⟨v, ?_, m⟩
      revert h
      cases v c <;> cases t <;> decide
  · rintro (⟨v, _, m⟩ | ⟨v, _, m⟩) <;> exact ⟨v, m⟩
theorem sat_none : SatR [] := ⟨fun _ => true, fun r hr => absurd hr (by simp)⟩
theorem sat_empty {rows : List GRow} (h : [] ∈ rows) : ¬ SatR rows := fun ⟨v, m⟩ => by
  obtain ⟨l, hl, _⟩ := m _ h
  exact absurd hl (by simp)
theorem with_len {rows : List GRow} {c : Cp} {t : Bool} : (withR rows c t).length ≤ rows.length := by
  unfold withR
  rw [List.length_map]
  exact List.length_filter_le _ _
theorem with_wide {rows : List GRow} {c : Cp} {t : Bool} {n : Nat} (h : ∀ r ∈ rows, r.length ≤ n) : ∀ r ∈ withR rows c t, r.length ≤ n := fun r hr => by
  obtain ⟨r0, hr0, rfl⟩ := List.mem_map.mp hr
  exact Nat.le_trans (List.length_filter_le _ _) (h r0 (List.mem_filter.mp hr0).1)
/-! ### a saying and its rows -/
/-- the sight of an own, by its name -/
def sgOf (s : Say) (n : Str) : List Str := ((s.owns.find? fun o => decide (o.1 = n)).map Prod.snd).getD []
theorem sgOf_own {s : Say} {a b c d : Nat} (ok : SayOk a b c d s) {o : Own} (ho : o ∈ s.owns) : sgOf s o.1 = o.2 := by
  unfold sgOf
  cases h : s.owns.find? fun p => decide (p.1 = o.1) with
  | none =>
    have := List.find?_eq_none.mp h o ho
    simp at this
  | some p =>
    have hp := List.mem_of_find?_eq_some h
    have e : p.1 = o.1 := by
      have := List.find?_some h
      simpa using this
    rw [own_one ok hp ho e]
    rfl
def ownL (s : Say) (l : Ltr) : Bool := decide (l.1 ∈ s.owns.map Prod.fst)
/-- what a clause tells at a play, if no letter of a pick is so -/
def rowAt (s : Say) (q : Play) (cl : List Ltr) : GRow := (cl.filter (ownL s)).map fun l => ((l.1, (sgOf s l.1).map q), l.2)
def live (s : Say) (q : Play) (cl : List Ltr) : Prop := ∀ l ∈ cl, l.1 ∉ s.owns.map Prod.fst → q l.1 ≠ l.2
/-- the play that a sight's truths are -/
def playOf : List Str → List Bool → Play
  | y :: ys, b :: bs => fun z => if z = y then b else playOf ys bs z
  | _, _ => fun _ => false
theorem playOf_at {q : Play} : ∀ {ys : List Str} {z : Str}, z ∈ ys → playOf ys (ys.map q) z = q z
  | y :: ys, z, h => by
    show (if z = y then q y else playOf ys (ys.map q) z) = q z
    by_cases e : z = y
    · rw [if_pos e, e]
    · rw [if_neg e]
      rcases List.mem_cons.mp h with rfl | h
      · exact absurd rfl e
      · exact playOf_at h
theorem sat_rows {s : Say} {a b c d : Nat} (ok : SayOk a b c d s) {PL : List Play} (all : ∀ p : Play, ∃ q ∈ PL, ∀ y ∈ s.picks, q y = p y) {rows : List GRow} (hr : ∀ r, r ∈ rows ↔ ∃ q ∈ PL, ∃ cl ∈ s.cls, live s q cl ∧ r = rowAt s q cl) : SatR rows ↔ Sat s := by
  constructor
  · rintro ⟨v, m⟩
    refine ⟨fun n p => v (n, (sgOf s n).map p), fun o ho p q e => ?_, fun p cl hcl => ?_⟩
    · show v (o.1, (sgOf s o.1).map p) = v (o.1, (sgOf s o.1).map q)
      rw [sgOf_own ok ho, List.map_congr_left e]
    · obtain ⟨q, hq, eq⟩ := all p
      by_cases lv : live s q cl
      · obtain ⟨g, hg, eg⟩ := m _ ((hr _).mpr ⟨q, hq, cl, hcl, lv, rfl⟩)
        obtain ⟨l, hl, rfl⟩ := List.mem_map.mp hg
        obtain ⟨h1, h2⟩ := List.mem_filter.mp hl
        have lo := of_decide_eq_true h2
        refine ⟨l, h1, .inl ⟨lo, ?_⟩⟩
        obtain ⟨o, ho, eo⟩ := List.mem_map.mp lo
        have es : (sgOf s l.1).map p = (sgOf s l.1).map q := by
          rw [← eo, sgOf_own ok ho]
          exact List.map_congr_left fun y hy => (eq y ((ok.on o ho).2.2.2 y hy)).symm
        show v (l.1, (sgOf s l.1).map p) = l.2
        rw [es]
        exact eg
      · have ex : ∃ l ∈ cl, l.1 ∉ s.owns.map Prod.fst ∧ q l.1 = l.2 := Classical.byContradiction fun no => lv fun l hl ho e => no ⟨l, hl, ho, e⟩
        obtain ⟨l, hl, ho, e⟩ := ex
        have lp : l.1 ∈ s.picks := by
          rcases List.mem_append.mp ((ok.ck cl hcl).mem l hl) with h | h
          · exact h
          · exact absurd h ho
        exact ⟨l, hl, .inr ⟨ho, by rw [← eq l.1 lp]; exact e⟩⟩
  · rintro ⟨F, A⟩
    refine ⟨fun g => F g.1 (playOf (sgOf s g.1) g.2), fun r h => ?_⟩
    obtain ⟨q, hq, cl, hcl, lv, rfl⟩ := (hr r).mp h
    obtain ⟨l, hl, so⟩ := A.so q cl hcl
    rcases so with ⟨lo, e⟩ | ⟨lo, e⟩
    · refine ⟨((l.1, (sgOf s l.1).map q), l.2), List.mem_map.mpr ⟨l, List.mem_filter.mpr ⟨hl, decide_eq_true lo⟩, rfl⟩, ?_⟩
      show F l.1 (playOf (sgOf s l.1) ((sgOf s l.1).map q)) = l.2
      rw [← e]
      obtain ⟨o, ho, eo⟩ := List.mem_map.mp lo
      rw [← eo, sgOf_own ok ho]
      exact A.dep o ho _ _ fun y hy => playOf_at hy
    · exact absurd e (lv l hl lo)
end S4

set_option Elab.async false
set_option linter.all false
set_option maxRecDepth 100000
set_option maxHeartbeats 4000000
/-! copies and rows of them as data; what is left of rows -/
namespace S4
open PySem PySem.W PySem.Spec PyProof.Rows L2 S1
def cpD (c : Cp) : PyData := .tuple [.str c.1, .tuple (c.2.map PyData.bool)]
def glD (g : GL) : PyData := .tuple [cpD g.1, .bool g.2]
def rowD (r : GRow) : PyData := .tuple (r.map glD)
theorem map_inj {α β : Type} {f : α → β} (h : ∀ a b, f a = f b → a = b) : ∀ {l m : List α}, l.map f = m.map f → l = m
  | [], [], _ => rfl
  | [], _ :: _, e => by cases e
  | _ :: _, [], e => by cases e
  | x :: l, y :: m, e => by
    rw [List.map_cons, List.map_cons] at e
    injection e with e1 e2
    rw [h _ _ e1, map_inj h e2]
theorem keyable_cp (c : Cp) : keyable (cpD c) = true := by
  have z : keyables (c.2.map PyData.bool) = true := keyables_map PyData.bool (fun _ => rfl) _
  simp [cpD, keyable, keyables, z]
theorem keyable_gl (g : GL) : keyable (glD g) = true := by
  have z := keyable_cp g.1
  simp [glD, keyable, keyables, z]
theorem keyable_row (r : GRow) : keyable (rowD r) = true := keyables_map glD keyable_gl r
theorem alike_cp (a b : Cp) : alike (cpD a) (cpD b) = true := by
  have z : alikeAll (a.2.map PyData.bool) (b.2.map PyData.bool) = true := alikes_map PyData.bool (fun _ _ => rfl) _ _
  simp [cpD, alike, alikeAll, z]
theorem alike_gl (a b : GL) : alike (glD a) (glD b) = true := by
  have z := alike_cp a.1 b.1
  simp [glD, alike, alikeAll, z]
theorem alike_row (a b : GRow) : alike (rowD a) (rowD b) = true := alikes_map glD alike_gl a b
theorem plain_cp (c : Cp) : (cpD c).plain = true := by
  have z : PyData.plainAll (c.2.map PyData.bool) = true := plains_map PyData.bool (fun _ => rfl) _
  simp [cpD, PyData.plain, PyData.plainAll, z]
theorem plain_gl (g : GL) : (glD g).plain = true := by
  have z := plain_cp g.1
  simp [glD, PyData.plain, PyData.plainAll, z]
theorem plain_row (r : GRow) : (rowD r).plain = true := plains_map glD plain_gl r
theorem depth_cp (c : Cp) : (cpD c).depth ≤ 2 := by
  have z := depths_map PyData.bool 0 (fun _ => Nat.le_refl _) c.2
  simp only [cpD, PyData.depth, PyData.depthAll]
  omega
theorem depth_gl (g : GL) : (glD g).depth ≤ 3 := by
  have z := depth_cp g.1
  simp only [glD, PyData.depth, PyData.depthAll]
  omega
theorem depth_row (r : GRow) : (rowD r).depth ≤ 4 := by
  have z := depths_map glD 3 depth_gl r
  simp only [rowD, PyData.depth]
  omega
theorem cpD_inj {a b : Cp} (h : cpD a = cpD b) : a = b := by
  obtain ⟨x, p⟩ := a
  obtain ⟨y, q⟩ := b
  unfold cpD at h
  injection h with h
  injection h with h1 h
  injection h with h2 h
  injection h1 with h1
  injection h2 with h2
  have e := map_inj (fun a b z => by injection z) h2
  dsimp only at h1 e
  rw [h1, e]
theorem glD_inj {a b : GL} (h : glD a = glD b) : a = b := by
  obtain ⟨x, p⟩ := a
  obtain ⟨y, q⟩ := b
  unfold glD at h
  injection h with h
  injection h with h1 h
  injection h with h2 h
  injection h2 with h2
  have e := cpD_inj h1
  dsimp only at h2 e
  rw [h2, e]
theorem rowD_inj {a b : GRow} (h : rowD a = rowD b) : a = b := by
  unfold rowD at h
  injection h with h
  exact map_inj (fun a b z => glD_inj z) h
theorem nkey_cp {a b : Cp} : nkey (cpD a) = nkey (cpD b) ↔ a = b := ⟨fun h => cpD_inj (nkey_inj _ _ (keyable_cp a) (keyable_cp b) (alike_cp a b) h), fun h => by rw [h]⟩
theorem nkey_gl {a b : GL} : nkey (glD a) = nkey (glD b) ↔ a = b := ⟨fun h => glD_inj (nkey_inj _ _ (keyable_gl a) (keyable_gl b) (alike_gl a b) h), fun h => by rw [h]⟩
theorem nkey_row {a b : GRow} : nkey (rowD a) = nkey (rowD b) ↔ a = b := ⟨fun h => rowD_inj (nkey_inj _ _ (keyable_row a) (keyable_row b) (alike_row a b) h), fun h => by rw [h]⟩
theorem eqv_gl (a b : GL) : PyData.eqv (glD a) (glD b) = decide (a = b) := by
  by_cases h : a = b
  · rw [decide_eq_true h, h]
    exact eqv_refl_alike _ (alike_gl b b)
  · rw [decide_eq_false h]
    cases e : PyData.eqv (glD a) (glD b) with
    | false => rfl
    | true => exact absurd (glD_inj (eqv_same _ _ (alike_gl a b) e)) h
theorem inT_gl {T : List TRow} {r : GRow} (e : T.map Prod.snd = r.map glD) (l : GL) : inT (glD l) T = decide (l ∈ r) := by
  unfold inT
  have e2 : (T.any fun p => decide (nkey p.2 = nkey (glD l))) = (T.map Prod.snd).any fun d => decide (nkey d = nkey (glD l)) := by rw [List.any_map]; rfl
  rw [e2, e, List.any_map]
  rw [Bool.eq_iff_iff, List.any_eq_true, decide_eq_true_eq]
  constructor
  · rintro ⟨o, ho, z⟩
    have z := of_decide_eq_true z
    rw [← nkey_gl.mp z]
    exact ho
  · intro h
    exact ⟨l, h, decide_eq_true rfl⟩
/-- rows that stand in a list -/
structure RT {β : Type} (g : β → PyData) (H : Hp) (T : List TRow) (L : List β) : Prop where
  e : T.map Prod.snd = L.map g
  D : ∀ q ∈ T, Dat H q.v q.2
section
variable {β : Type} {g : β → PyData} {H H' : Hp} {T T' : List TRow} {L L' : List β}
theorem RT.same (h : RT g H T L) (S : Same H H') : RT g H' T L := ⟨h.e, fun q hq => (h.D q hq).same S⟩
theorem RT.len (h : RT g H T L) : T.length = L.length := by
  have z := congrArg List.length h.e
  rw [List.length_map, List.length_map] at z
  exact z
theorem RT.at_ (h : RT g H T L) {i : Nat} {p : TRow} (hp : T[i]? = some p) : ∃ x, L[i]? = some x ∧ p.2 = g x ∧ Dat H p.v (g x) := by
  have z : (T.map Prod.snd)[i]? = some p.2 := by rw [List.getElem?_map, hp]; rfl
  rw [h.e] at z
  obtain ⟨x, hx, e⟩ := get_map z
  exact ⟨x, hx, e, by rw [← e]; exact h.D p (List.mem_of_getElem? hp)⟩
theorem RT.of (h : RT g H T L) {i : Nat} {x : β} (hx : L[i]? = some x) : ∃ p, T[i]? = some p ∧ p.2 = g x ∧ Dat H p.v (g x) := by
  have il : i < T.length := by rw [h.len]; exact (List.getElem?_eq_some_iff.mp hx).1
  obtain ⟨x', h1, h2, h3⟩ := h.at_ (List.getElem?_eq_getElem il)
  rw [hx] at h1
  cases h1
  exact ⟨_, List.getElem?_eq_getElem il, h2, h3⟩
theorem RT.tk (h : RT g H T L) (k : ∀ x, keyable (g x) = true) (K : ∀ b xs, H b = some (.tup xs) → H' b = some (.tup xs)) : RT g H' T L := ⟨h.e, fun q hq => by
  have m : q.2 ∈ L.map g := h.e ▸ List.mem_map_of_mem hq
  obtain ⟨x, _, e⟩ := List.mem_map.mp m
  exact dat_tk K _ _ (by rw [← e]; exact k x) (h.D q hq)⟩
theorem RT.nil : RT g H [] [] := ⟨rfl, fun q hq => absurd hq (by simp)⟩
theorem RT.snoc (h : RT g H T L) {p : TRow} {x : β} (e : p.2 = g x) (D : Dat H p.v p.2) : RT g H (T ++ [p]) (L ++ [x]) := ⟨by rw [List.map_append, List.map_append, h.e, List.map_singleton, List.map_singleton, e], fun q hq => by
  rcases List.mem_append.mp hq with z | z
  · exact h.D q z
  · cases List.mem_singleton.mp z
    exact D⟩
theorem RT.dat (h : RT g H T L) {t : Addr} (et : H t = some (.tup (T.map TRow.v))) : Dat H (.ref t) (.tuple (L.map g)) := by
  rw [← h.e]
  exact .tup et (dats_rows h.D)
theorem RT.back {t : Addr} (D : Dat H (.ref t) (.tuple (L.map g))) (tp : ∀ x, ∃ xs, g x = .tuple xs) : ∃ T, H t = some (.tup (T.map TRow.v)) ∧ RT g H T L := by
  obtain ⟨a, us, e, ea, Du⟩ := dat_tup D
  cases e
  obtain ⟨T, e1, e2, e3⟩ := rows_of_dat Du fun d hd => by
    obtain ⟨x, _, rfl⟩ := List.mem_map.mp hd
    exact tp x
  exact ⟨T, by rw [← e1]; exact ea, ⟨e2.symm, e3⟩⟩
theorem RT.keys (h : RT g H T L) (k : ∀ x, keyable (g x) = true) (dp : ∀ x, (g x).depth ≤ 8) : ∀ p ∈ T, Dat H p.v p.2 ∧ keyable p.2 = true ∧ p.2.depth ≤ 8 := fun p hp => by
  have m : p.2 ∈ L.map g := h.e ▸ List.mem_map_of_mem hp
  obtain ⟨x, _, e⟩ := List.mem_map.mp m
  exact ⟨h.D p hp, by rw [← e]; exact k x, by rw [← e]; exact dp x⟩
end
section
variable {K : PySem.W.Frag} {σ : L2.St} {H : Hp} {D a : Addr} {β : Type} {g : β → PyData} {T : List TRow} {L : List β} {f : β → Bool} {tt : TT} {te : TE} {i : Nat} {ws : List Nat} {Qd : Hp → Prop}
theorem filt_step {σ' : L2.St} {H4 : Hp} {j : Nat} {p : TRow} {x : β} {T' : List TRow} (hD : H D = none) (hp : T[j]? = some p) (hx : L[j]? = some x) (e : p.2 = g x) (ei : σ'[i]? = some (some p.v)) (len : L.length ≤ 1000)
    (h1 : H4 D = some (.lst (T'.map TRow.v))) (h2 : T'.map Prod.snd = ((L.take j).filter f).map g) (h3 : ∀ q ∈ T', q ∈ T) (S4 : Same H H4)
    (ht : ∀ Q : Bool → Hp → Prop, (∀ H5, Same H4 H5 → Q (f x) H5) → tt σ' H4 Q) :
    tt σ' H4 fun b H3 => if b = true then tVar i σ' H3 fun y H4 => ∃ acc, H4 D = some (.lst acc) ∧ acc.length < sizeLine ∧ (fun H4 => ∃ T' : List TRow, H4 D = some (.lst (T'.map TRow.v)) ∧ T'.map Prod.snd = ((L.take (j + 1)).filter f).map g ∧ (∀ q ∈ T', q ∈ T) ∧ Same H H4) (upd H4 D (.lst (acc ++ [y]))) else (fun H4 => ∃ T' : List TRow, H4 D = some (.lst (T'.map TRow.v)) ∧ T'.map Prod.snd = ((L.take (j + 1)).filter f).map g ∧ (∀ q ∈ T', q ∈ T) ∧ Same H H4) H3 := by
  refine ht _ fun H5 S5 => ?_
  have e5 := S5 _ _ h1
  have st : (L.take (j + 1)).filter f = (L.take j).filter f ++ [x].filter f := by rw [take_next hx, List.filter_append]
  have lT : T'.length ≤ 1000 := by
    have z := congrArg List.length h2
    rw [List.length_map, List.length_map] at z
    have z2 := List.length_filter_le f (L.take j)
    rw [List.length_take] at z2
    omega
  by_cases hf : f x = true
  · rw [if_pos hf]
    refine ⟨_, ei, _, e5, by rw [List.length_map]; exact small1000 lT, T' ++ [p], by rw [upd_same, List.map_append]; rfl, ?_, fun q hq => ?_, same_upd (S4.trans S5) hD⟩
    · have eo : [x].filter f = [x] := by simp [hf]
      rw [st, eo, List.map_append, List.map_append, h2, List.map_singleton, List.map_singleton, e]
    · rcases List.mem_append.mp hq with z | z
      · exact h3 q z
      · cases List.mem_singleton.mp z
        exact List.mem_of_getElem? hp
  · rw [if_neg hf]
    have eo : [x].filter f = [] := by simp [hf]
    exact ⟨T', e5, by rw [st, eo, List.append_nil]; exact h2, h3, S4.trans S5⟩
/-- rows of a list that pass a test -/
theorem lc_fT (eB : H a = some (.lst (T.map TRow.v))) (R : RT g H T L) (hD : H D = none) (len : L.length ≤ 1000)
    (ht : ∀ (j : Nat) (p : TRow) (x : β) (H4 : Hp), T[j]? = some p → L[j]? = some x → p.2 = g x → Dat H4 p.v (g x) → Same H H4 → ∀ Q : Bool → Hp → Prop, (∀ H5, Same H4 H5 → Q (f x) H5) → tt ((wipe σ ws).set i (some p.v)) H4 Q)
    (ei : ∀ y : V, ((wipe σ ws).set i (some y))[i]? = some (some y)) (hw : ∀ y : V, wipe ((wipe σ ws).set i (some y)) ws = wipe σ ws)
    (hd : ∀ (T' : List TRow) (H5 : Hp), H5 D = some (.lst (T'.map TRow.v)) → RT g H5 T' (L.filter f) → Same H H5 → Qd H5) :
    ∃ W : Nat → Nat → Hp → Prop, (∃ m, W 0 m (upd H D (.lst []))) ∧ ∀ i' m H, W i' m H →
      ((Itl K a).stop i' H ∧ Qd H) ∨ ((Itl K a).go i' H ∧ ∃ Nx : Hp → Prop, (∀ H', Nx H' → ∃ m', m' < m ∧ W (i' + 1) m' H') ∧ ∀ x H', (Itl K a).yld i' H x H' → gName i x (wipe σ ws) H' fun σ2 H2 => wipe σ2 ws = wipe σ ws ∧ tt σ2 H2 fun b H3 =>
        if b = true then tVar i σ2 H3 fun y H4 => ∃ acc, H4 D = some (.lst acc) ∧ acc.length < sizeLine ∧ Nx (upd H4 D (.lst (acc ++ [y]))) else Nx H3) := by
  refine lc_list (K := K) (a := a) (xs := T.map TRow.v) (fun j H4 => ∃ T' : List TRow, H4 D = some (.lst (T'.map TRow.v)) ∧ T'.map Prod.snd = ((L.take j).filter f).map g ∧ (∀ q ∈ T', q ∈ T) ∧ Same H H4)
    ⟨[], upd_same, rfl, fun q hq => absurd hq (by simp), same_new hD⟩ (fun j H4 _ ⟨_, _, _, _, S4⟩ => SqL.of (S4 _ _ eB)) ?_ ?_
  · rintro j y H4 hy ⟨T', h1, h2, h3, S4⟩
    rw [List.getElem?_map] at hy
    obtain ⟨p, hp, rfl⟩ := Option.map_eq_some_iff.mp hy
    obtain ⟨x, hx, e, Dx⟩ := (R.same S4).at_ hp
    exact ⟨hw _, filt_step hD hp hx e (ei _) len h1 h2 h3 S4 (ht j p x H4 hp hx e Dx S4)⟩
  · rintro H4 ⟨T', h1, h2, h3, S4⟩
    rw [List.length_map, R.len, List.take_length] at h2
    exact hd T' H4 h1 ⟨h2, fun q hq => (R.D q (h3 q hq)).same S4⟩ S4
/-- rows of a tuple that pass a test -/
theorem lc_fTT (eB : H a = some (.tup (T.map TRow.v))) (R : RT g H T L) (hD : H D = none) (len : L.length ≤ 1000)
    (ht : ∀ (j : Nat) (p : TRow) (x : β) (H4 : Hp), T[j]? = some p → L[j]? = some x → p.2 = g x → Dat H4 p.v (g x) → Same H H4 → ∀ Q : Bool → Hp → Prop, (∀ H5, Same H4 H5 → Q (f x) H5) → tt ((wipe σ ws).set i (some p.v)) H4 Q)
    (ei : ∀ y : V, ((wipe σ ws).set i (some y))[i]? = some (some y)) (hw : ∀ y : V, wipe ((wipe σ ws).set i (some y)) ws = wipe σ ws)
    (hd : ∀ (T' : List TRow) (H5 : Hp), H5 D = some (.lst (T'.map TRow.v)) → RT g H5 T' (L.filter f) → Same H H5 → Qd H5) :
    ∃ W : Nat → Nat → Hp → Prop, (∃ m, W 0 m (upd H D (.lst []))) ∧ ∀ i' m H, W i' m H →
      ((Itt K a).stop i' H ∧ Qd H) ∨ ((Itt K a).go i' H ∧ ∃ Nx : Hp → Prop, (∀ H', Nx H' → ∃ m', m' < m ∧ W (i' + 1) m' H') ∧ ∀ x H', (Itt K a).yld i' H x H' → gName i x (wipe σ ws) H' fun σ2 H2 => wipe σ2 ws = wipe σ ws ∧ tt σ2 H2 fun b H3 =>
        if b = true then tVar i σ2 H3 fun y H4 => ∃ acc, H4 D = some (.lst acc) ∧ acc.length < sizeLine ∧ Nx (upd H4 D (.lst (acc ++ [y]))) else Nx H3) := by
  refine lc_tup (K := K) (a := a) (xs := T.map TRow.v) (fun j H4 => ∃ T' : List TRow, H4 D = some (.lst (T'.map TRow.v)) ∧ T'.map Prod.snd = ((L.take j).filter f).map g ∧ (∀ q ∈ T', q ∈ T) ∧ Same H H4)
    ⟨[], upd_same, rfl, fun q hq => absurd hq (by simp), same_new hD⟩ (fun j H4 _ ⟨_, _, _, _, S4⟩ => SqT.of (S4 _ _ eB)) ?_ ?_
  · rintro j y H4 hy ⟨T', h1, h2, h3, S4⟩
    rw [List.getElem?_map] at hy
    obtain ⟨p, hp, rfl⟩ := Option.map_eq_some_iff.mp hy
    obtain ⟨x, hx, e, Dx⟩ := (R.same S4).at_ hp
    exact ⟨hw _, filt_step hD hp hx e (ei _) len h1 h2 h3 S4 (ht j p x H4 hp hx e Dx S4)⟩
  · rintro H4 ⟨T', h1, h2, h3, S4⟩
    rw [List.length_map, R.len, List.take_length] at h2
    exact hd T' H4 h1 ⟨h2, fun q hq => (R.D q (h3 q hq)).same S4⟩ S4
/-- a row made of each row of a list -/
theorem lc_mT {γ : Type} {g2 : γ → PyData} {h : β → γ} (eB : H a = some (.lst (T.map TRow.v))) (R : RT g H T L) (hD : H D = none) (len : L.length ≤ 1000) (kd : ∀ x, keyable (g2 x) = true)
    (ht : ∀ (j : Nat) (p : TRow) (x : β) (H4 : Hp), T[j]? = some p → L[j]? = some x → p.2 = g x → Dat H4 p.v (g x) → Same H H4 → ∀ Q : VK, (∀ (b : Addr) (H5 : Hp), Same H4 H5 → Dat H5 (.ref b) (g2 (h x)) → Q (.ref b) H5) → te ((wipe σ ws).set i (some p.v)) H4 Q)
    (hw : ∀ y : V, wipe ((wipe σ ws).set i (some y)) ws = wipe σ ws)
    (hd : ∀ (T' : List TRow) (H5 : Hp), H5 D = some (.lst (T'.map TRow.v)) → RT g2 H5 T' (L.map h) → Same H H5 → Qd H5) :
    ∃ W : Nat → Nat → Hp → Prop, (∃ m, W 0 m (upd H D (.lst []))) ∧ ∀ i' m H, W i' m H →
      ((Itl K a).stop i' H ∧ Qd H) ∨ ((Itl K a).go i' H ∧ ∃ Nx : Hp → Prop, (∀ H', Nx H' → ∃ m', m' < m ∧ W (i' + 1) m' H') ∧ ∀ x H', (Itl K a).yld i' H x H' → gName i x (wipe σ ws) H' fun σ2 H2 => wipe σ2 ws = wipe σ ws ∧ tYes σ2 H2 fun b H3 =>
        if b = true then te σ2 H3 fun y H4 => ∃ acc, H4 D = some (.lst acc) ∧ acc.length < sizeLine ∧ Nx (upd H4 D (.lst (acc ++ [y]))) else Nx H3) := by
  refine lc_list (K := K) (a := a) (xs := T.map TRow.v) (fun j H4 => ∃ T' : List TRow, H4 D = some (.lst (T'.map TRow.v)) ∧ RT g2 H4 T' ((L.take j).map h) ∧ Same H H4)
    ⟨[], upd_same, RT.nil, same_new hD⟩ (fun j H4 _ ⟨_, _, _, S4⟩ => SqL.of (S4 _ _ eB)) ?_ ?_
  · rintro j y H4 hy ⟨T', h1, h2, S4⟩
    rw [List.getElem?_map] at hy
    obtain ⟨p, hp, rfl⟩ := Option.map_eq_some_iff.mp hy
    obtain ⟨x, hx, e, Dx⟩ := (R.same S4).at_ hp
    have jl : j < L.length := (List.getElem?_eq_some_iff.mp hx).1
    refine ⟨hw _, yes_of (ht j p x H4 hp hx e Dx S4 _ fun b H5 S5 Db => ?_)⟩
    have e5 := S5 _ _ h1
    have lT : T'.length = j := by
      have z := h2.len
      rw [List.length_map, List.length_take] at z
      omega
    refine ⟨_, e5, by rw [List.length_map]; exact small1000 (by omega), T' ++ [(b, g2 (h x))], by rw [upd_same, List.map_append]; rfl, ?_, same_upd (S4.trans S5) hD⟩
    have K5 : ∀ b' xs, H5 b' = some (.tup xs) → upd H5 D (.lst (T'.map TRow.v ++ [.ref b])) b' = some (.tup xs) := tk_put fun xs z => by rw [e5] at z; cases z
    rw [take_next hx, List.map_append]
    exact ((h2.same S5).tk kd K5).snoc rfl (dat_tk K5 _ _ (kd _) Db)
  · rintro H4 ⟨T', h1, h2, S4⟩
    rw [List.length_map, R.len, List.take_length] at h2
    exact hd T' H4 h1 h2 S4
end
end S4

set_option Elab.async false
set_option linter.all false
set_option maxRecDepth 100000
set_option maxHeartbeats 4000000
/-! what is left of rows if a copy is a truth, as the law tells it -/
namespace S4
open PySem PySem.W PySem.Spec PyProof.Rows L2 S1
def spWithR : Sp := fun vs H Q _ => ∃ (l c : Addr) (T : List TRow) (rows : List GRow) (cp : Cp) (t : Bool), vs = [.ref l, .ref c, .bl t] ∧ H l = some (.lst (T.map TRow.v)) ∧ RT rowD H T rows ∧ rows.length ≤ 1000 ∧ (∀ r ∈ rows, r.length ≤ 6) ∧ Dat H (.ref c) (cpD cp) ∧
  ∀ (b : Addr) (T' : List TRow) (H' : Hp), Same H H' → H b = none → H' b = some (.lst (T'.map TRow.v)) → RT rowD H' T' (withR rows cp t) → Q (.ref b) H'
abbrev nWR : List Str := ["rows", "copy", "truth", "left", "row", "letter"]
def envWR : Env := { scope := defScope sLWith, locals := 0, globals := 0, cells := [], qual := "", func := none, code := .none, frame := .none, builtins := 0 }
def lcScR : List Stmt → Scope
  | [_, .Return (some (.ListComp _ _ sc _)) _] => sc
  | _ => defScope sLWith
abbrev scWRr : Scope := relabel (lcScR (defBody sLWith)) envWR
section
variable {P : Program} {w : World} {K : PySem.W.Frag} {mg : Str → Option Value} {base : Heap}
theorem scWR : FnScope nWR ["rows", "copy", "truth"] (defScope sLWith) := ⟨rfl, rfl, rfl, by decide +kernel, rfl, by decide +kernel, by decide +kernel⟩
theorem ok_lWith {f : Addr} {fd : FuncData} (F : Fun K "_law_with" "_law_with" sLWith f fd) (B : Blt mg) : FnOk P w K mg base CX0 1 f fd ["rows", "copy", "truth"] spWithR := by
  refine F.ok scWR (fun vs H Q E h => ?_) (fun cdv A outer s H vs Q E hr h => ?_)
  · obtain ⟨l, c, T, rows, cp, t, rfl, _⟩ := h
    rfl
  · obtain ⟨l, c, T, rows, cp, t, rfl, eL, R, lr, wr, Dc, q⟩ := h
    have hu : (A.deeper (envOfC "_law_with" (defScope sLWith) s.heap.objs.size f cdv)).units + 64 < cLine := hr.units
    have hu2 : (A.deeper (envOfC "_law_with" (defScope sLWith) s.heap.objs.size f cdv)).units + 16 < cLine := by omega
    refine ⟨_, pss_cons (ps_setLc (i := 3) (own := [("row", 4)]) (g := gName 4) (tt := tTest (tOp (rInT K true) (tTup (tCons (tVar 1) (tCons (tVar 2) tNil))) (tVar 4))) (te := tVar 4) rfl scWR.nd rfl rfl (by with_unfolding_all rfl)
        (pi_list (pv 0)) (blkOk_by (N := nWR) (sc := defScope sLWith) (by decide +kernel)) (fun _ _ _ _ _ => pg_name (i := 4) scWR.nd rfl (Or.inl rfl))
        (fun _ _ _ _ _ => by exact pts_one (pt_cmpR (op_notInT (by exact hu2)) (pe_tup (pa_cons (pv 1) (pa_cons (pv 2) pa_nil))) (pv 4) (by with_unfolding_all rfl)))
        (fun _ _ _ _ _ => by exact pv 4))
      (pss_one (ps_ret (pe_lc (own := [("row", 4)]) (g := gName 4) (tt := tYes) (te := tThen (tLc (iTup K (tVar 4)) (gName 5) (tTest (tOp rNeP (tVar 5) (tTup (tCons (tVar 1) (tCons (tNotV (tVar 2)) tNil))))) (tVar 5) [5]) (kTup K)) rfl scWR.nd
        (pi_list (pv 3)) (blkOk_by (N := nWR) (sc := defScope sLWith) (by decide +kernel)) (fun _ _ _ _ _ => pg_name (i := 4) scWR.nd rfl (Or.inl rfl)) (fun _ _ _ _ _ => pts_nil)
        (fun _ _ _ _ _ => by exact pe_tupleOf rfl B.tuple (pe_lc (own := [("letter", 5)]) rfl scWR.nd (pi_tup (pv 4)) (by show BlkOk nWR scWRr _ _; exact blkOk_by (by decide +kernel)) (fun _ _ _ _ _ => pg_name (i := 5) scWR.nd rfl (Or.inl rfl))
          (fun _ _ _ _ _ => by exact pts_one (pt_cmpR (op_neP (by exact hu)) (pv 5) (pe_tup (pa_cons (pv 1) (pa_cons (pe_not (pv 2)) pa_nil))) (by with_unfolding_all rfl))) (fun _ _ _ _ _ => by exact pv 5)))))), ?_⟩
    have s2 : 2 ≤ sizeLine := by decide
    refine ⟨_, rfl, l, rfl, ⟨_, SqL.of eL⟩, fun D hD => ?_⟩
    refine lc_fT (K := K) (f := fun r => decide ((cp, t) ∉ r)) eL R hD lr (fun j p r H4 hp hx ep Dr S4 Q' k => ?_) (fun _ => rfl) (fun _ => rfl) (fun T1 H5 e5 R5 S5 => ?_)
    · obtain ⟨tr, rfl⟩ : ∃ tr, p = (tr, rowD r) := ⟨p.1, by rw [← ep]⟩
      obtain ⟨Tr, er, Rr⟩ := RT.back (g := glD) (L := r) Dr fun x => ⟨_, rfl⟩
      refine ⟨_, rfl, _, rfl, s2, fun tt htt => ⟨_, rfl, ?_⟩⟩
      have S5 := same_new (o := .tup [V.ref c, .bl t]) htt
      refine ⟨tt, tr, glD (cp, t), Tr, rfl, rfl, .inr (SqT.of (S5 _ _ er)), (Rr.same S5).keys keyable_gl (fun x => by have := depth_gl x; omega), .tup upd_same (.cons (Dc.same (S4.trans S5)) (.cons (.bl _) .nil)), keyable_gl _, by have := depth_gl (cp, t); omega, _, rfl, ?_⟩
      have e : (!inT (glD (cp, t)) Tr) = decide ((cp, t) ∉ r) := by rw [inT_gl Rr.e, decide_not]
      show Q' (!inT (glD (cp, t)) Tr) _
      rw [e]
      exact k _ S5
    · have hl := withR rows cp t
      generalize hL : (rows.filter fun r => decide ((cp, t) ∉ r)) = L1 at R5
      have ll : L1.length ≤ 1000 := by
        rw [← hL]
        exact Nat.le_trans (List.length_filter_le _ _) lr
      refine ⟨_, rfl, D, rfl, ⟨_, SqL.of e5⟩, fun D2 hD2 => ?_⟩
      refine lc_mT (K := K) (g2 := rowD) (h := fun r => r.filter fun l => decide (l ≠ (cp, !t))) e5 R5 hD2 ll keyable_row (fun j p r H6 hp hx ep Dr S6 Q' k => ?_) (fun _ => rfl) (fun T2 H6 e6 R6 S6 => ?_)
      · obtain ⟨tr, rfl⟩ : ∃ tr, p = (tr, rowD r) := ⟨p.1, by rw [← ep]⟩
        obtain ⟨Tr, er, Rr⟩ := RT.back (g := glD) (L := r) Dr fun x => ⟨_, rfl⟩
        have mr : r ∈ rows := by
          have z := List.mem_of_getElem? hx
          rw [← hL] at z
          exact (List.mem_filter.mp z).1
        have wr6 := wr r mr
        refine ⟨_, rfl, tr, rfl, ⟨_, SqT.of er⟩, fun D3 hD3 => ?_⟩
        refine lc_fTT (K := K) (f := fun l => decide (l ≠ (cp, !t))) er Rr hD3 (by omega) (fun m p2 x H7 hp2 hx2 ep2 Dx S7 Q2 k2 => ?_) (fun _ => rfl) (fun _ => rfl) (fun T3 H7 e7 R7 S7 => ?_)
        · refine ⟨_, rfl, _, rfl, _, rfl, t, rfl, s2, fun tt htt => ?_⟩
          have S8 := same_new (o := .tup [V.ref c, .bl (!t)]) htt
          refine ⟨glD x, glD (cp, !t), Dx.same S8, .tup upd_same (.cons (Dc.same (((S5.trans S6).trans S7).trans S8)) (.cons (.bl _) .nil)), plain_gl _, plain_gl _, by have := depth_gl x; omega, _, rfl, ?_⟩
          have e : (!PyData.eqv (glD x) (glD (cp, !t))) = decide (x ≠ (cp, !t)) := by rw [eqv_gl, decide_not]
          show Q2 (!PyData.eqv (glD x) (glD (cp, !t))) _
          rw [e]
          exact k2 _ S8
        · refine .inl ⟨D3, _, rfl, SqL.of e7, fun t2 ht2 => ?_⟩
          have S8 := same_new (o := .tup (T3.map TRow.v)) ht2
          exact k t2 _ (S7.trans S8) ((R7.same S8).dat upd_same)
      · refine q D2 T2 H6 (S5.trans S6) (S5.free hD2) e6 ?_
        unfold withR
        rw [hL]
        exact R6
end
end S4

set_option Elab.async false
set_option linter.all false
set_option maxRecDepth 100000
set_option maxHeartbeats 4000000
/-! a search through rows, as the law does it -/
namespace S4
open PySem PySem.W PySem.Spec PyProof.Rows L2 S1
section
variable {X : Cx}
def rEqP : R2 := fun x y H Q => ∃ d e, Dat H x d ∧ Dat H y e ∧ d.plain = true ∧ e.plain = true ∧ d.depth ≤ 8 ∧ Q (.bl (PyData.eqv d e)) H
theorem op_eqP (hu : X.A.units + 64 < cLine) : OpR X (compareOp .Eq) rEqP := by
  intro pins s σ H x y v u Q I rx ry h
  obtain ⟨d, e, D1, D2, p1, p2, dp, q⟩ := h
  obtain ⟨as, R1⟩ := reads_of_dat I.hok D1 rx
  obtain ⟨bs, R2⟩ := reads_of_dat I.hok D2 ry
  exact PySem.SeqAt.eq_plain R1 R2 p1 p2 (by have := Nat.min_le_left d.depth e.depth; omega) ⟨.bl _, H, I, rfl, q⟩
end
theorem and_tt {c1 : Prop} [Decidable c1] {tt2 : TT} {σ : L2.St} {H : Hp} {A B : Hp → Prop} (c2 : Prop) (h1 : ∀ Qb : Bool → Hp → Prop, (c2 → Qb true H) → (¬ c2 → Qb false H) → tt2 σ H Qb) (hA : c1 → c2 → A H) (hB : ¬ (c1 ∧ c2) → B H) :
    if c1 then tt2 σ H (fun b H1 => if b = true then A H1 else B H1) else (fun b H1 => if b = true then A H1 else B H1) false H := by
  by_cases h : c1
  · rw [if_pos h]
    refine h1 _ (fun z => ?_) (fun z => ?_)
    · show if true = true then _ else _
      rw [if_pos rfl]
      exact hA h z
    · show if false = true then _ else _
      rw [if_neg (by decide)]
      exact hB fun q => z q.2
  · rw [if_neg h]
    show if false = true then _ else _
    rw [if_neg (by decide)]
    exact hB fun q => h q.1
/-- all stands as it stood, but at one address -/
def Kp (ro : Addr) (H H' : Hp) : Prop := ∀ b u, b ≠ ro → H b = some u → H' b = some u
section
variable {ro : Addr} {H H' H'' : Hp}
theorem Kp.refl : Kp ro H H := fun _ _ _ h => h
theorem Kp.trans (a : Kp ro H H') (b : Kp ro H' H'') : Kp ro H H'' := fun x u n h => b x u n (a x u n h)
theorem Kp.same (a : Kp ro H H') (S : Same H' H'') : Kp ro H H'' := fun x u n h => S x u (a x u n h)
theorem Kp.of (S : Same H H') : Kp ro H H' := fun x u _ h => S x u h
theorem Kp.at_ {o : HO} (a : Kp ro H H') : Kp ro H (upd H' ro o) := fun x u n h => by rw [upd_ne n]; exact a x u n h
theorem Kp.put {l : Addr} {o : HO} (a : Kp ro H H') (h : H l = none) : Kp ro H (upd H' l o) := fun x u n e => by
  by_cases z : x = l
  · subst z
    rw [h] at e
    cases e
  · rw [upd_ne z]
    exact a x u n e
theorem Kp.free {l : Addr} (a : Kp ro H H') (h : H' l = none) (n : l ≠ ro) : H l = none := by
  cases e : H l with
  | none => rfl
  | some u => rw [a l u n e] at h; cases h
theorem Kp.tk {xs : List V} (a : Kp ro H H') (hr : H ro = some (.lst xs)) : ∀ b ys, H b = some (.tup ys) → H' b = some (.tup ys) := fun b ys e => a b _ (fun z => by rw [z, hr] at e; cases e) e
end
/-- rows that stand in a list of their own -/
structure Rw (H : Hp) (a : Addr) (T : List TRow) (rows : List GRow) : Prop where
  e : H a = some (.lst (T.map TRow.v))
  R : RT rowD H T rows
  n : rows.length ≤ 1000
  m : ∀ r ∈ rows, r.length ≤ 6
section
variable {H H' : Hp} {a x : Addr} {T : List TRow} {rows : List GRow} {o : HO}
theorem Rw.same (h : Rw H a T rows) (S : Same H H') : Rw H' a T rows := ⟨S _ _ h.e, h.R.same S, h.n, h.m⟩
theorem Rw.put (h : Rw H a T rows) (n : x ≠ a) (nt : ∀ xs, H x ≠ some (.tup xs)) : Rw (upd H x o) a T rows := ⟨by rw [upd_ne n.symm]; exact h.e, h.R.tk keyable_row (tk_put nt), h.n, h.m⟩
theorem Rw.d (h : Rw H a T rows) : Dat H (.ref a) (.list (rows.map rowD)) := by
  rw [← h.R.e]
  exact .lst h.e (dats_rows h.R.D)
end
/-- the least number of letters of a row; nine where there is none -/
structure Lst9 (rows : List GRow) (m : Int) : Prop where
  le : ∀ r ∈ rows, m ≤ (r.length : Int)
  hit : rows ≠ [] → ∃ r ∈ rows, (r.length : Int) = m
  no : rows = [] → m = 9
def tLenT (K : PySem.W.Frag) (te : TE) : TE := tCB (fun xs H Q => ∃ p ys, xs = [V.ref p] ∧ (SqL K H p ys ∨ SqT K H p ys) ∧ Q (V.int ys.length) H) (tCons te tNil)
def tMin9 (K : PySem.W.Frag) : TE := tCB (rMin K) (tCons (tOp rCat (tLc (iList K (tVar 0)) (gName 7) tYes (tLenT K (tVar 7)) [7]) (tLst (tCons (tC (.int 9)) tNil))) tNil)
theorem min9 {K : PySem.W.Frag} {σ : L2.St} {H : Hp} {a : Addr} {T : List TRow} {rows : List GRow} {Q : VK} (h : Rw H a T rows) (e0 : σ[0]? = some (some (.ref a))) (e7 : ∀ y : V, ((wipe σ [7]).set 7 (some y))[7]? = some (some y)) (hw : ∀ y : V, wipe ((wipe σ [7]).set 7 (some y)) [7] = wipe σ [7])
    (q : ∀ (m : Int) (H' : Hp), Same H H' → Lst9 rows m → Q (.int m) H') : tMin9 K σ H Q := by
  have ln := h.n
  refine ⟨_, e0, a, rfl, ⟨_, SqL.of h.e⟩, fun D hD => ?_⟩
  refine lc_list (K := K) (a := a) (xs := T.map TRow.v) (fun j H4 => H4 D = some (.lst ((rows.take j).map fun r => V.int (r.length : Nat))) ∧ Same H H4) ⟨upd_same, same_new hD⟩ (fun j H4 _ h4 => SqL.of (h4.2 _ _ h.e)) ?_ ?_
  · rintro j y H4 hy ⟨h4, S4⟩
    rw [List.getElem?_map] at hy
    obtain ⟨p, hp, rfl⟩ := Option.map_eq_some_iff.mp hy
    obtain ⟨r, hx, ep, Dx⟩ := (h.R.same S4).at_ hp
    obtain ⟨tr, rfl⟩ : ∃ tr, p = (tr, rowD r) := ⟨p.1, by rw [← ep]⟩
    obtain ⟨Tr, er, Rr⟩ := RT.back (g := glD) (L := r) Dx fun x => ⟨_, rfl⟩
    refine ⟨hw _, yes_of ⟨_, e7 _, tr, _, rfl, .inr (SqT.of er), _, h4, ?_, ?_, same_upd S4 hD⟩⟩
    · rw [List.length_map, List.length_take]
      exact small1000 (by omega)
    · rw [upd_same, take_next hx, List.map_append, List.length_map, Rr.len]
      rfl
  · rintro H4 ⟨h4, S4⟩
    rw [List.length_map, h.R.len, List.take_length] at h4
    refine ⟨(by show 1 ≤ sizeLine; decide), fun b hb => ?_⟩
    have n1 := same_new (o := .lst [V.int 9]) hb
    refine ⟨D, b, _, _, rfl, rfl, n1 _ _ h4, upd_same, by rw [List.length_map]; rw [show ([V.int 9] : List V).length = 1 from rfl, sizeLine_eq]; omega, fun c hc => ?_⟩
    have n2 := same_new (o := .lst ((rows.map fun r => V.int (r.length : Nat)) ++ [V.int 9])) hc
    refine ⟨c, rows.map (fun r => ((r.length : Nat) : Int)) ++ [9], rfl, ?_, by simp, fun m hm le => q m _ (S4.trans (n1.trans n2)) ?_⟩
    · rw [List.map_append, List.map_map]
      exact SqL.of upd_same
    · refine ⟨fun r hr => le _ (List.mem_append_left _ (List.mem_map.mpr ⟨r, hr, rfl⟩)), fun ne => ?_, fun e => ?_⟩
      · rcases List.mem_append.mp hm with z | z
        · obtain ⟨r, hr, e⟩ := List.mem_map.mp z
          exact ⟨r, hr, e⟩
        · obtain ⟨r, hr⟩ := List.exists_mem_of_ne_nil _ ne
          have z1 := le _ (List.mem_append_left _ (List.mem_map.mpr ⟨r, hr, rfl⟩))
          have z2 := h.m r hr
          rw [List.mem_singleton.mp z] at z1
          omega
      · subst e
        simpa using hm
end S4
namespace S4
open PySem PySem.W PySem.Spec PyProof.Rows L2 S1
abbrev Wt := Addr × List TRow × List GRow
/-- rows that wait, and the room that is left -/
structure CI (H0 : Hp) (ro wL : Addr) (H' : Hp) (k : Int) (Ws : List Wt) : Prop where
  kp : Kp ro H0 H'
  r : H' ro = some (.lst [.int k])
  w : H' wL = some (.lst (Ws.map fun x => V.ref x.1))
  all : ∀ x ∈ Ws, Rw H' x.1 x.2.1 x.2.2 ∧ x.1 ≠ ro ∧ x.1 ≠ wL
  n : wL ≠ ro
  f : H0 wL = none
section
variable {H0 H' H'' : Hp} {ro wL a : Addr} {k k' : Int} {Ws Ws' : List Wt} {T : List TRow} {rows : List GRow}
theorem lst_no {H : Hp} {x : Addr} {xs : List V} (e : H x = some (.lst xs)) : ∀ ys, H x ≠ some (.tup ys) := fun ys z => by rw [e] at z; cases z
theorem CI.same (h : CI H0 ro wL H' k Ws) (S : Same H' H'') : CI H0 ro wL H'' k Ws := ⟨h.kp.same S, S _ _ h.r, S _ _ h.w, fun x hx => ⟨(h.all x hx).1.same S, (h.all x hx).2⟩, h.n, h.f⟩
theorem CI.room (h : CI H0 ro wL H' k Ws) : CI H0 ro wL (upd H' ro (.lst [.int k'])) k' Ws :=
  ⟨h.kp.at_, upd_same, by rw [upd_ne h.n]; exact h.w, fun x hx => ⟨(h.all x hx).1.put (h.all x hx).2.1.symm (lst_no h.r), (h.all x hx).2⟩, h.n, h.f⟩
theorem CI.wait (h : CI H0 ro wL H' k Ws) (hw : ∀ x ∈ Ws', Rw H' x.1 x.2.1 x.2.2 ∧ x.1 ≠ ro ∧ x.1 ≠ wL) : CI H0 ro wL (upd H' wL (.lst (Ws'.map fun x => V.ref x.1))) k Ws' :=
  ⟨h.kp.put h.f, by rw [upd_ne h.n.symm]; exact h.r, upd_same, fun x hx => ⟨(hw x hx).1.put (hw x hx).2.2.symm (lst_no h.w), (hw x hx).2⟩, h.n, h.f⟩
theorem CI.dat (h : CI H0 ro wL H' k Ws) : Dat H' (.ref wL) (.list (Ws.map fun x => PyData.list (x.2.2.map rowD))) := by
  refine .lst h.w ?_
  have z := h.all
  clear h
  induction Ws with
  | nil => exact .nil
  | cons x xs ih => exact .cons (z x List.mem_cons_self).1.d (ih fun y hy => z y (List.mem_cons_of_mem _ hy))
end
theorem at_head (x : V) (xs : List V) : atI (x :: xs) 0 = some x := by
  obtain ⟨v, h1, _, h2⟩ := at_ok (xs := x :: xs) (r := 0) (Int.le_refl _) (by simp only [List.length_cons]; omega)
  rw [h1]
  exact h2.symm
theorem gl_at {H : Hp} {v : V} {g : GL} (D : Dat H v (glD g)) : ∃ b c, v = .ref b ∧ H b = some (.tup [.ref c, .bl g.2]) ∧ Dat H (.ref c) (cpD g.1) := by
  obtain ⟨b, us, rfl, eb, Du⟩ := dat_tup D
  cases Du with
  | cons h1 h =>
    cases h with
    | cons h2 h =>
      cases h
      cases h2
      obtain ⟨c, rfl⟩ := tuple_ref (ds := [.str g.1.1, .tuple (g.1.2.map PyData.bool)]) h1
      exact ⟨b, c, rfl, eb, h1⟩
theorem row_first {H : Hp} {p : Addr} {g : GL} {r : GRow} (D : Dat H (.ref p) (rowD (g :: r))) : ∃ b c xs, H p = some (.tup (.ref b :: xs)) ∧ H b = some (.tup [.ref c, .bl g.2]) ∧ Dat H (.ref c) (cpD g.1) := by
  obtain ⟨a, us, e, eb, Du⟩ := dat_tup (ds := (g :: r).map glD) D
  cases e
  cases Du with
  | cons h1 h =>
    obtain ⟨b, c, rfl, e2, D2⟩ := gl_at h1
    exact ⟨b, c, _, eb, e2, D2⟩
def spCan : Sp := fun vs H Q _ => ∃ (l ro : Addr) (T : List TRow) (rows : List GRow) (k : Int), vs = [.ref l, .ref ro] ∧ H ro = some (.lst [.int k]) ∧ Rw H l T rows ∧ l ≠ ro ∧ -2 ≤ k ∧ k ≤ 9000 ∧
  ∀ (b : Bool) (k' : Int) (H' : Hp), Kp ro H H' → H' ro = some (.lst [.int k']) → -2 ≤ k' → k' ≤ k → (0 < k' → (b = true ↔ SatR rows)) → Q (.bl b) H'
abbrev nCan : List Str := ["rows", "room", "waiting", "least", "single", "copy", "truth", "row"]
theorem plain_wt (Ws : List Wt) : (PyData.list (Ws.map fun x => PyData.list (x.2.2.map rowD))).plain = true := by
  simp only [PyData.plain]
  induction Ws with
  | nil => rfl
  | cons x xs ih =>
    rw [List.map_cons, PyData.plainAll, ih, Bool.and_true]
    exact plains_map rowD plain_row x.2.2
theorem depth_wt (Ws : List Wt) : (PyData.list (Ws.map fun x => PyData.list (x.2.2.map rowD))).depth ≤ 6 := by
  have z := depths_map (fun x : Wt => PyData.list (x.2.2.map rowD)) 5 (fun x => by
    have z := depths_map rowD 4 depth_row x.2.2
    simp only [PyData.depth]
    omega) Ws
  simp only [PyData.depth]
  omega
section
variable {P : Program} {w : World} {K : PySem.W.Frag} {mg : Str → Option Value} {base : Heap}
theorem scCan : FnScope nCan ["rows", "room"] (defScope sLCan) := ⟨rfl, rfl, rfl, by decide +kernel, rfl, by decide +kernel, by decide +kernel⟩
theorem ok_lCan {f fW : Addr} {fd fdW : FuncData} (F : Fun K "_law_can" "_law_can" sLCan f fd) (B : Blt mg) (Wi : Has K mg "_law_with" sLWith ["rows", "copy", "truth"] fW fdW) : FnOk P w K mg base CX0 2 f fd ["rows", "room"] spCan := by
  have GW : FnOk P w K mg base CX0 1 fW fdW ["rows", "copy", "truth"] spWithR := ok_lWith Wi.F B
  refine F.ok scCan (fun vs H Q E h => ?_) (fun cdv A outer s H vs Q E hr h => ?_)
  · obtain ⟨l, ro, T, rows, k, rfl, _⟩ := h
    rfl
  · obtain ⟨l, ro, T, rows, k, rfl, er, R, nl, km, kM, q⟩ := h
    have hu : (A.deeper (envOfC "_law_can" (defScope sLCan) s.heap.objs.size f cdv)).units + 64 < cLine := hr.units
    refine ⟨_, pss_cons (ps_set (i := 2) scCan.nd rfl (.inl rfl) (pe_lst (pa_cons (pv 0) pa_nil)))
      (pss_cons (ps_while PassesOwn.never (PW.pt (pw_and (pt_cmpR (op_neP (by exact hu)) (pv 2) (pe_lst pa_nil) (by with_unfolding_all rfl)) (pw_and1 (pt_cmpR op_gt (pe_ix ix_list (pv 1) pe_int (fun _ _ => rfl)) pe_int (nomark _)))))
        (pss_cons (ps_set (i := 0) scCan.nd rfl (.inl rfl) (pe_bm0 PySem.F.plainAttrs_list PySem.F.slot_list_pop PySem.F.type_list_pop mt_pop (pv 2)))
        (pss_cons (ps_set (i := 3) scCan.nd rfl (.inr rfl) (pe_callB (cr_min rfl) (by rfl) B.min (by decide +kernel) (pa_cons (pe_op op_cat (pe_lc (own := [("row", 7)]) (g := gName 7) (tt := tYes) (te := tLenT K (tVar 7)) rfl scCan.nd (pi_list (pv 0)) (blkOk_by (N := nCan) (sc := defScope sLCan) (by decide +kernel))
              (fun _ _ _ _ _ => pg_name (i := 7) scCan.nd rfl (Or.inl rfl)) (fun _ _ _ _ _ => pts_nil) (fun _ _ _ _ _ => by exact pe_callB call_len_seq (by rfl) B.len (by decide +kernel) (pa_cons (pv 7) pa_nil))) (pe_lst (pa_cons pe_int pa_nil))) pa_nil)))
        (pss_cons (ps_while PassesOwn.never (PW.pt (pw_and (pt_cmpR op_eq (pv 3) pe_int (nomark _)) (pw_and1 (pt_cmpR op_gt (pe_ix ix_list (pv 1) pe_int (fun _ _ => rfl)) pe_int (nomark _)))))
          (pss_cons (ps_set (i := 4) scCan.nd rfl (.inl rfl) (pe_ix ix_list (pe_lc (own := [("row", 7)]) (g := gName 7) (tt := tTest (tOp rEq (tLenT K (tVar 7)) (tC (.int 1)))) (te := tVar 7) rfl scCan.nd (pi_list (pv 0)) (blkOk_by (N := nCan) (sc := defScope sLCan) (by decide +kernel))
              (fun _ _ _ _ _ => pg_name (i := 7) scCan.nd rfl (Or.inl rfl)) (fun _ _ _ _ _ => by exact pts_one (pt_cmpR op_eq (pe_callB call_len_seq (by rfl) B.len (by decide +kernel) (pa_cons (pv 7) pa_nil)) pe_int (nomark _))) (fun _ _ _ _ _ => by exact pv 7)) pe_int (fun _ _ => rfl)))
          (pss_cons (ps_asg (pe_tup (pa_cons (pe_call GW hr rfl Wi.g Wi.F.kp Wi.b .nil pass0 (pa_cons (pv 0) (pa_cons (pe_ix ix_tup (pe_ix ix_tup (pv 4) pe_int (fun _ _ => rfl)) pe_int (fun _ _ => rfl)) (pa_cons (pe_ix ix_tup (pe_ix ix_tup (pv 4) pe_int (fun _ _ => rfl)) pe_int (fun _ _ => rfl)) pa_nil))))
              (pa_cons (pe_op op_sub (pe_ix ix_list (pv 1) pe_int (fun _ _ => rfl)) pe_int) pa_nil))) (pg_tup rfl (pgs_cons (pg_name (i := 0) scCan.nd rfl (.inl rfl)) (pgs_cons (pg_sub (pv 1) pe_int set_list) pgs_nil))))
          (pss_one (ps_set (i := 3) scCan.nd rfl (.inr rfl) (pe_callB (cr_min rfl) (by rfl) B.min (by decide +kernel) (pa_cons (pe_op op_cat (pe_lc (own := [("row", 7)]) (g := gName 7) (tt := tYes) (te := tLenT K (tVar 7)) rfl scCan.nd (pi_list (pv 0)) (blkOk_by (N := nCan) (sc := defScope sLCan) (by decide +kernel))
              (fun _ _ _ _ _ => pg_name (i := 7) scCan.nd rfl (Or.inl rfl)) (fun _ _ _ _ _ => pts_nil) (fun _ _ _ _ _ => by exact pe_callB call_len_seq (by rfl) B.len (by decide +kernel) (pa_cons (pv 7) pa_nil))) (pe_lst (pa_cons pe_int pa_nil))) pa_nil)))))))
        (pss_cons (ps_if (pt_cmpR (op_eqP (by exact hu)) (pv 0) (pe_lst pa_nil) (by with_unfolding_all rfl)) (pss_one (ps_ret pe_bl)) pss_nil)
        (pss_one (ps_if (pt_cmpR op_gt (pv 3) pe_int (nomark _))
          (pss_cons (ps_asg (pe_ix ix_tup (pe_ix ix_list (pe_lc (own := [("row", 7)]) (g := gName 7) (tt := tTest (tOp rEq (tLenT K (tVar 7)) (tVar 3))) (te := tVar 7) rfl scCan.nd (pi_list (pv 0)) (blkOk_by (N := nCan) (sc := defScope sLCan) (by decide +kernel))
              (fun _ _ _ _ _ => pg_name (i := 7) scCan.nd rfl (Or.inl rfl)) (fun _ _ _ _ _ => by exact pts_one (pt_cmpR op_eq (pe_callB call_len_seq (by rfl) B.len (by decide +kernel) (pa_cons (pv 7) pa_nil)) (pv 3) (nomark _))) (fun _ _ _ _ _ => by exact pv 7)) pe_int (fun _ _ => rfl)) pe_int (fun _ _ => rfl))
              (pg_tup rfl (pgs_cons (pg_name (i := 5) scCan.nd rfl (.inl rfl)) (pgs_cons (pg_name (i := 6) scCan.nd rfl (.inl rfl)) pgs_nil))))
          (pss_cons (ps_expr (pe_bm PySem.F.plainAttrs_list PySem.F.slot_list_append PySem.F.type_list_append mt_append (pv 2) (pa_cons (pe_call GW hr rfl Wi.g Wi.F.kp Wi.b .nil pass0 (pa_cons (pv 0) (pa_cons (pv 5) (pa_cons (pe_not (pv 6)) pa_nil)))) pa_nil)))
          (pss_cons (ps_expr (pe_bm PySem.F.plainAttrs_list PySem.F.slot_list_append PySem.F.type_list_append mt_append (pv 2) (pa_cons (pe_call GW hr rfl Wi.g Wi.F.kp Wi.b .nil pass0 (pa_cons (pv 0) (pa_cons (pv 5) (pa_cons (pv 6) pa_nil)))) pa_nil)))
          (pss_one (ps_asg (pe_op op_sub (pe_ix ix_list (pv 1) pe_int (fun _ _ => rfl)) pe_int) (pg_sub (pv 1) pe_int set_list)))))) pss_nil)))))))
      (pss_one (ps_ret pe_bl))), ?_⟩
    have s2 : 2 ≤ sizeLine := by decide
    refine ⟨_, rfl, (by show 1 ≤ sizeLine; decide), fun wL hwL => ?_⟩
    have Sw := same_new (o := .lst [V.ref l]) hwL
    have C0 : CI H ro wL (upd H wL (.lst [V.ref l])) k [(l, T, rows)] := ⟨Kp.of Sw, Sw _ _ er, upd_same, fun x hx => by
      cases List.mem_singleton.mp hx
      exact ⟨R.same Sw, nl, ne_of_none R.e hwL⟩, (ne_of_none er hwL).symm, hwL⟩
    generalize upd H wL (.lst [V.ref l]) = H0 at C0 ⊢
    refine ⟨fun m σ H' => ∃ (o0 : Addr) (o3 o4 o5 o6 o7 : Option V) (k1 : Int) (Ws : List Wt), σ = [some (.ref o0), some (.ref ro), some (.ref wL), o3, o4, o5, o6, o7] ∧ CI H ro wL H' k1 Ws ∧ k1 ≤ k ∧ -2 ≤ k1 ∧ 2 * (Ws.length : Int) + k1 ≤ 2 + k ∧ (0 < k1 → (SatR rows ↔ ∃ x ∈ Ws, SatR x.2.2)) ∧ m = Ws.length + 2 * k1.toNat,
      ⟨_, l, none, none, none, none, none, k, _, rfl, C0, Int.le_refl _, km, by simp, fun _ => ⟨fun h => ⟨_, List.mem_cons_self, h⟩, fun ⟨x, hx, h⟩ => by cases List.mem_singleton.mp hx; exact h⟩, rfl⟩, ?_⟩
    rintro m σ H1 ⟨o0, o3, o4, o5, o6, o7, k1, Ws, rfl, C1, kk, kl, kw, iff, rfl⟩
    refine ⟨_, rfl, Nat.zero_le _, fun te hte => ⟨_, .list [], C1.dat.same (same_new hte), .lst upd_same .nil, plain_wt Ws, rfl, by have := depth_wt Ws; omega, _, rfl, ?_⟩⟩
    have C2 := C1.same (same_new (o := .lst []) hte)
    generalize upd H1 te (.lst []) = H2 at C2 ⊢
    rcases List.eq_nil_or_concat Ws with rfl | ⟨W6, x, rfl⟩
    · show if false = true then _ else _
      rw [if_neg (by decide)]
      show if false = true then _ else _
      rw [if_neg (by decide)]
      refine q false k1 H2 C2.kp C2.r kl kk fun pos => ?_
      rw [iff pos]
      exact ⟨fun z => (by cases z), fun ⟨x, hx, _⟩ => absurd hx (by simp)⟩
    · rw [List.concat_eq_append] at C2 iff kw ⊢
      have hne : (PyData.eqv (.list ((W6 ++ [x]).map fun x => PyData.list (x.2.2.map rowD))) (.list [])) = false := by
        rw [List.map_append]
        cases W6 <;> rfl
      rw [hne]
      show if true = true then _ else _
      rw [if_pos rfl]
      refine ⟨_, rfl, ro, _, 0, _, rfl, rfl, SqL.of C2.r, rfl, _, _, rfl, rfl, _, rfl, ?_⟩
      by_cases pos : 0 < k1
      · show if decide (0 < k1) = true then _ else _
        rw [if_pos (decide_eq_true pos)]
        refine ⟨_, fun σ' H' z => z, ?_⟩
        have hx := C2.all x (List.mem_append_right _ List.mem_cons_self)
        have e2 := C2.w
        refine ⟨_, rfl, .inl ⟨rfl, _, SqL.of e2⟩, wL, _, .ref x.1, rfl, rfl, e2, by simp, ?_⟩
        have C3 := C2.wait (Ws' := W6) fun y hy => C2.all y (List.mem_append_left _ hy)
        have R3 := hx.1.put (o := .lst (W6.map fun x => V.ref x.1)) hx.2.2.symm (lst_no e2)
        rw [show ((W6 ++ [x]).map fun x => V.ref x.1).dropLast = W6.map fun x => V.ref x.1 by rw [List.map_append]; simp]
        generalize upd H2 wL (.lst (W6.map fun x => V.ref x.1)) = H3 at C3 R3 ⊢
        have iff := iff pos
        obtain ⟨a, Ta, ra⟩ := x
        dsimp only at R3 hx
        have na := hx.2
        clear hx C2 e2 C1 C0
        refine min9 (K := K) R3 rfl (fun _ => rfl) (fun _ => rfl) fun m0 H4 S4 l9 => ?_
        have C4 := C3.same S4
        have R4 := R3.same S4
        clear C3 R3 S4
        refine ⟨fun m σ H' => ∃ (a : Addr) (Ta : List TRow) (r : List GRow) (o4 : Option V) (k2 m0 : Int), σ = [some (.ref a), some (.ref ro), some (.ref wL), some (.int m0), o4, o5, o6, o7] ∧ CI H ro wL H' k2 W6 ∧ Rw H' a Ta r ∧ a ≠ ro ∧ a ≠ wL ∧ k2 ≤ k1 ∧ 0 ≤ k2 ∧ Lst9 r m0 ∧ (SatR r ↔ SatR ra) ∧ m = k2.toNat,
          ⟨_, a, Ta, ra, o4, k1, m0, rfl, C4, R4, na.1, na.2, Int.le_refl _, by omega, l9, Iff.rfl, rfl⟩, ?_⟩
        clear na C4 R4 l9
        rintro m' σ H5 ⟨b, Tb, rb, o4', k2, m1, rfl, C5, R5, nb1, nb2, k21, k20, l95, iff5, rfl⟩
        refine ⟨_, rfl, rfl, _, rfl, ?_⟩
        refine and_tt (0 < k2) (fun Qb y n => ?_) (fun h1 pos2 => ?_) (fun hno => ?_)
        · refine ⟨_, rfl, ro, _, 0, _, rfl, rfl, SqL.of C5.r, rfl, _, _, rfl, rfl, _, rfl, ?_⟩
          show Qb (decide (0 < k2)) H5
          by_cases h : 0 < k2
          · rw [decide_eq_true h]
            exact y h
          · rw [decide_eq_false h]
            exact n h
        · replace h1 : m1 = 1 := by
            have z := of_decide_eq_true h1
            injection z
          subst h1
          refine ⟨_, fun σ' H' z => z, ?_⟩
          refine ⟨_, rfl, b, rfl, ⟨_, SqL.of R5.e⟩, fun D hD => ?_⟩
          refine lc_fT (K := K) (f := fun r => decide (r.length = 1)) R5.e R5.R hD R5.n (fun j p r H6 hp hx ep Dr S6 Q' kq => ?_) (fun _ => rfl) (fun _ => rfl) (fun T6 H6 e6 R6 S6 => ?_)
          · obtain ⟨tr, rfl⟩ : ∃ tr, p = (tr, rowD r) := ⟨p.1, by rw [← ep]⟩
            obtain ⟨Tr, er, Rr⟩ := RT.back (g := glD) (L := r) Dr fun x => ⟨_, rfl⟩
            refine ⟨_, rfl, tr, _, rfl, .inr (SqT.of er), rfl, _, rfl, ?_⟩
            have e : decide (V.int (((Tr.map TRow.v).length : Nat) : Int) = V.int 1) = decide (r.length = 1) := by
              rw [List.length_map, Rr.len]
              by_cases z : r.length = 1
              · rw [decide_eq_true z, z]
                rfl
              · rw [decide_eq_false z, decide_eq_false fun y => z (by injection y with y; omega)]
            show Q' (decide (V.int (((Tr.map TRow.v).length : Nat) : Int) = V.int 1)) H6
            rw [e]
            exact kq _ (Same.refl _)
          · obtain ⟨r1, hr1, l1⟩ := l95.hit fun z => by
              have := l95.no z
              omega
            have hf : r1 ∈ rb.filter fun r => decide (r.length = 1) := List.mem_filter.mpr ⟨hr1, decide_eq_true (by omega)⟩
            obtain ⟨r, rs, er⟩ := List.exists_cons_of_ne_nil (List.ne_nil_of_mem hf)
            obtain ⟨p, hp, ep, Dp⟩ := R6.of (i := 0) (x := r) (by rw [er]; rfl)
            have hr := List.mem_filter.mp (er ▸ List.mem_cons_self : r ∈ rb.filter fun r => decide (r.length = 1))
            obtain ⟨g, rfl⟩ := List.length_eq_one_iff.mp (of_decide_eq_true hr.2)
            obtain ⟨tr, rfl⟩ : ∃ tr, p = (tr, rowD [g]) := ⟨p.1, by rw [← ep]⟩
            obtain ⟨bg, cg, xs, e1, e2, D2⟩ := row_first Dp
            obtain ⟨Tx, rfl⟩ : ∃ Tx, T6 = (tr, rowD [g]) :: Tx := by
              cases T6 with
              | nil => cases hp
              | cons x xs => exact ⟨xs, by rw [Option.some.inj hp]⟩
            refine ⟨D, _, 0, _, rfl, rfl, SqL.of e6, at_head _ _, ?_⟩
            refine ⟨_, rfl, _, rfl, tr, _, 0, _, rfl, rfl, SqT.of e1, at_head _ _, bg, _, 0, _, rfl, rfl, SqT.of e2, at_head _ _, _, rfl, tr, _, 0, _, rfl, rfl, SqT.of e1, at_head _ _, bg, _, 1, _, rfl, rfl, SqT.of e2, rfl, ?_⟩
            refine ⟨b, cg, Tb, rb, g.1, g.2, rfl, S6 _ _ R5.e, R5.R.same S6, R5.n, R5.m, D2, fun b2 T2 H7 S7 hb2 e7 R7 => ?_⟩
            have S57 := S6.trans S7
            have C7 := C5.same S57
            refine ⟨_, rfl, ro, _, 0, _, rfl, rfl, SqL.of C7.r, rfl, _, _, rfl, rfl, s2, fun tt htt => ?_⟩
            have S8 := same_new (o := .tup [V.ref b2, .int (k2 - 1)]) htt
            have C8 := C7.same S8
            have n2r : b2 ≠ ro := (ne_of_none (C5.same S6).r hb2).symm
            have n2w : b2 ≠ wL := (ne_of_none (C5.same S6).w hb2).symm
            have R8 : Rw (upd H7 tt (.tup [V.ref b2, .int (k2 - 1)])) b2 T2 (withR rb g.1 g.2) := ⟨S8 _ _ e7, R7.same S8, Nat.le_trans with_len R5.n, with_wide R5.m⟩
            refine ⟨tt, _, rfl, SqT.of upd_same, rfl, _, _, rfl, _, _, rfl, _, rfl, ro, _, 0, 0, rfl, rfl, C8.r, rfl, rfl, ?_⟩
            have C9 := C8.room (k' := k2 - 1)
            have R9 := R8.put (o := .lst [.int (k2 - 1)]) n2r.symm (lst_no C8.r)
            show tMin9 K _ (upd (upd H7 tt (.tup [V.ref b2, .int (k2 - 1)])) ro (.lst [.int (k2 - 1)])) _
            generalize upd (upd H7 tt (.tup [V.ref b2, .int (k2 - 1)])) ro (.lst [.int (k2 - 1)]) = H9 at C9 R9 ⊢
            refine min9 (K := K) R9 rfl (fun _ => rfl) (fun _ => rfl) fun m2 H10 S10 l10 => ?_
            refine ⟨_, ?_, b2, T2, _, _, k2 - 1, m2, rfl, C9.same S10, R9.same S10, n2r, n2w, by omega, by omega, l10, ?_, rfl⟩
            · omega
            · rw [← iff5]
              exact (sat_single hr.1).symm
        · have lW : 2 * (W6.length : Int) + k2 ≤ k := by
            rw [List.length_append] at kw
            simp only [List.length_cons, List.length_nil] at kw
            omega
          have split6 : (∃ x ∈ W6 ++ [(a, Ta, ra)], SatR x.2.2) ↔ ((∃ x ∈ W6, SatR x.2.2) ∨ SatR rb) := by
            rw [iff5]
            constructor
            · rintro ⟨x, hx, h⟩
              rcases List.mem_append.mp hx with z | z
              · exact .inl ⟨x, z, h⟩
              · cases List.mem_singleton.mp z
                exact .inr h
            · rintro (⟨x, hx, h⟩ | h)
              · exact ⟨x, List.mem_append_left _ hx, h⟩
              · exact ⟨_, List.mem_append_right _ List.mem_cons_self, h⟩
          refine ⟨_, rfl, Nat.zero_le _, fun tq htq => ⟨_, .list [], (R5.same (same_new htq)).d, .lst upd_same .nil, plains_map rowD plain_row rb, rfl, by have := depths_map rowD 4 depth_row rb; simp only [PyData.depth]; omega, _, rfl, ?_⟩⟩
          have C6 := C5.same (same_new (o := .lst []) htq)
          have R6 := R5.same (same_new (o := .lst []) htq)
          generalize upd H5 tq (.lst []) = H6 at C6 R6 ⊢
          clear C5 R5
          cases rb with
          | nil =>
            show if true = true then _ else _
            rw [if_pos rfl]
            refine q true k2 H6 C6.kp C6.r (by omega) (by omega) fun _ => ⟨fun _ => ?_, fun _ => rfl⟩
            rw [iff, split6]
            exact .inr sat_none
          | cons r0 rs0 =>
            show if false = true then _ else _
            rw [if_neg (by decide)]
            refine ⟨_, rfl, _, _, rfl, rfl, _, rfl, ?_⟩
            by_cases hm : 1 < m1
            · show if decide (1 < m1) = true then _ else _
              rw [if_pos (decide_eq_true hm)]
              generalize hrb : r0 :: rs0 = rb at R6 l95 iff5 split6
              have nrb : rb ≠ [] := by rw [← hrb]; simp
              clear hrb
              refine ⟨_, rfl, b, rfl, ⟨_, SqL.of R6.e⟩, fun D hD => ?_⟩
              refine lc_fT (K := K) (f := fun r => decide ((r.length : Int) = m1)) R6.e R6.R hD R6.n (fun j p r H7 hp hx ep Dr S7 Q' kq => ?_) (fun _ => rfl) (fun _ => rfl) (fun T7 H7 e7 R7 S7 => ?_)
              · obtain ⟨tr, rfl⟩ : ∃ tr, p = (tr, rowD r) := ⟨p.1, by rw [← ep]⟩
                obtain ⟨Tr, er, Rr⟩ := RT.back (g := glD) (L := r) Dr fun x => ⟨_, rfl⟩
                refine ⟨_, rfl, tr, _, rfl, .inr (SqT.of er), _, rfl, rfl, _, rfl, ?_⟩
                have e : decide (V.int (((Tr.map TRow.v).length : Nat) : Int) = V.int m1) = decide ((r.length : Int) = m1) := by
                  rw [List.length_map, Rr.len]
                  by_cases z : (r.length : Int) = m1
                  · rw [decide_eq_true z, z]
                    exact decide_eq_true rfl
                  · rw [decide_eq_false z, decide_eq_false fun y => z (by injection y)]
                show Q' (decide (V.int (((Tr.map TRow.v).length : Nat) : Int) = V.int m1)) H7
                rw [e]
                exact kq _ (Same.refl _)
              · obtain ⟨r1, hr1, l1⟩ := l95.hit nrb
                have hf : r1 ∈ rb.filter fun r => decide ((r.length : Int) = m1) := List.mem_filter.mpr ⟨hr1, decide_eq_true l1⟩
                obtain ⟨r, rs, er⟩ := List.exists_cons_of_ne_nil (List.ne_nil_of_mem hf)
                obtain ⟨p, hp, ep, Dp⟩ := R7.of (i := 0) (x := r) (by rw [er]; rfl)
                have hr := List.mem_filter.mp (er ▸ List.mem_cons_self : r ∈ rb.filter fun r => decide ((r.length : Int) = m1))
                have lr := of_decide_eq_true hr.2
                obtain ⟨g, r', rfl⟩ : ∃ g r', r = g :: r' := by
                  cases r with
                  | nil => simp at lr; omega
                  | cons g r' => exact ⟨g, r', rfl⟩
                obtain ⟨tr, rfl⟩ : ∃ tr, p = (tr, rowD (g :: r')) := ⟨p.1, by rw [← ep]⟩
                obtain ⟨bg, cg, xs, e1, e2, D2⟩ := row_first Dp
                obtain ⟨Tx, rfl⟩ : ∃ Tx, T7 = (tr, rowD (g :: r')) :: Tx := by
                  cases T7 with
                  | nil => cases hp
                  | cons x xs => exact ⟨xs, by rw [Option.some.inj hp]⟩
                refine ⟨D, _, 0, _, rfl, rfl, SqL.of e7, at_head _ _, tr, _, 0, _, rfl, rfl, SqT.of e1, at_head _ _, ?_⟩
                refine ⟨bg, _, rfl, SqT.of e2, rfl, _, _, rfl, _, _, rfl, rfl, ?_⟩
                have C7 := C6.same S7
                have R7' := R6.same S7
                clear R7 C6 R6 er hf
                refine ⟨_, rfl, .inl ⟨rfl, _, SqL.of C7.w⟩, _, rfl, _, rfl, _, rfl, _, rfl, b, cg, Tb, rb, g.1, !g.2, rfl, R7'.e, R7'.R, R7'.n, R7'.m, D2, fun b8 T8 H8 S8 hb8 e8 R8 => ?_⟩
                have n8r : b8 ≠ ro := (ne_of_none C7.r hb8).symm
                have n8w : b8 ≠ wL := (ne_of_none C7.w hb8).symm
                have C8 := C7.same S8
                have W8 : Rw H8 b8 T8 (withR rb g.1 !g.2) := ⟨e8, R8, Nat.le_trans with_len R7'.n, with_wide R7'.m⟩
                have lw : ((W6.map fun x => V.ref x.1).length : Int) ≤ 5000 := by
                  rw [List.length_map]
                  omega
                refine ⟨wL, _, _, rfl, rfl, C8.w, by rw [sizeLine_eq]; omega, ?_⟩
                have C9 := C8.wait (Ws' := W6 ++ [(b8, T8, withR rb g.1 !g.2)]) fun y hy => by
                  rcases List.mem_append.mp hy with z | z
                  · exact C8.all y z
                  · cases List.mem_singleton.mp z
                    exact ⟨W8, n8r, n8w⟩
                have R9 := (R7'.same S8).put (o := .lst ((W6 ++ [(b8, T8, withR rb g.1 !g.2)]).map fun x => V.ref x.1)) nb2.symm (lst_no C8.w)
                have D9 := dat_tk (tk_put (o := .lst ((W6 ++ [(b8, T8, withR rb g.1 !g.2)]).map fun x => V.ref x.1)) (lst_no C8.w)) _ _ (keyable_cp g.1) (D2.same S8)
                rw [show (W6.map fun x => V.ref x.1) ++ [V.ref b8] = (W6 ++ [(b8, T8, withR rb g.1 !g.2)]).map fun x => V.ref x.1 by rw [List.map_append]; rfl]
                generalize upd H8 wL (.lst ((W6 ++ [(b8, T8, withR rb g.1 !g.2)]).map fun x => V.ref x.1)) = H9 at C9 R9 D9 ⊢
                clear C8 W8 C7 R7' D2
                refine ⟨_, rfl, .inl ⟨rfl, _, SqL.of C9.w⟩, _, rfl, _, rfl, _, rfl, b, cg, Tb, rb, g.1, g.2, rfl, R9.e, R9.R, R9.n, R9.m, D9, fun bA TA HA SA hbA eA RA => ?_⟩
                have nAr : bA ≠ ro := (ne_of_none C9.r hbA).symm
                have nAw : bA ≠ wL := (ne_of_none C9.w hbA).symm
                have CA := C9.same SA
                have WA : Rw HA bA TA (withR rb g.1 g.2) := ⟨eA, RA, Nat.le_trans with_len R9.n, with_wide R9.m⟩
                refine ⟨wL, _, _, rfl, rfl, CA.w, by rw [sizeLine_eq, List.length_map, List.length_append]; rw [List.length_map] at lw; simp only [List.length_cons, List.length_nil]; omega, ?_⟩
                have CB := CA.wait (Ws' := (W6 ++ [(b8, T8, withR rb g.1 !g.2)]) ++ [(bA, TA, withR rb g.1 g.2)]) fun y hy => by
                  rcases List.mem_append.mp hy with z | z
                  · exact CA.all y z
                  · cases List.mem_singleton.mp z
                    exact ⟨WA, nAr, nAw⟩
                rw [show ((W6 ++ [(b8, T8, withR rb g.1 !g.2)]).map fun x => V.ref x.1) ++ [V.ref bA] = ((W6 ++ [(b8, T8, withR rb g.1 !g.2)]) ++ [(bA, TA, withR rb g.1 g.2)]).map fun x => V.ref x.1 by rw [List.map_append (l₂ := [(bA, TA, withR rb g.1 g.2)])]; rfl]
                generalize upd HA wL (.lst (((W6 ++ [(b8, T8, withR rb g.1 !g.2)]) ++ [(bA, TA, withR rb g.1 g.2)]).map fun x => V.ref x.1)) = HB at CB ⊢
                clear CA WA C9 R9 D9
                refine ⟨_, rfl, ro, _, 0, _, rfl, rfl, SqL.of CB.r, rfl, _, _, rfl, rfl, _, rfl, ro, _, 0, 0, rfl, rfl, CB.r, rfl, ?_⟩
                refine ⟨_, ?_, b, _, _, _, _, _, k2 - 2, _, rfl, CB.room, by omega, by omega, ?_, fun p2 => ?_, rfl⟩
                · rw [List.length_append, List.length_append, List.length_append]
                  simp only [List.length_cons, List.length_nil]
                  omega
                · rw [List.length_append, List.length_append]
                  simp only [List.length_cons, List.length_nil]
                  omega
                · rw [iff, split6, sat_split g.1 g.2]
                  constructor
                  · rintro (⟨x, hx, h⟩ | h | h)
                    · exact ⟨x, List.mem_append_left _ (List.mem_append_left _ hx), h⟩
                    · exact ⟨_, List.mem_append_left _ (List.mem_append_right _ List.mem_cons_self), h⟩
                    · exact ⟨_, List.mem_append_right _ List.mem_cons_self, h⟩
                  · rintro ⟨x, hx, h⟩
                    rcases List.mem_append.mp hx with hx | hx
                    · rcases List.mem_append.mp hx with hx | hx
                      · exact .inl ⟨x, hx, h⟩
                      · cases List.mem_singleton.mp hx
                        exact .inr (.inl h)
                    · cases List.mem_singleton.mp hx
                      exact .inr (.inr h)
            · show if decide (1 < m1) = true then _ else _
              rw [if_neg (by rw [decide_eq_false hm]; decide)]
              refine ⟨_, ?_, b, _, _, _, _, _, k2, W6, rfl, C6, by omega, by omega, by omega, fun p2 => ?_, rfl⟩
              · rw [List.length_append]
                simp only [List.length_cons, List.length_nil]
                omega
              · rw [iff, split6]
                have m0 : m1 ≤ 0 := by
                  by_cases z : m1 = 1
                  · exact absurd ⟨decide_eq_true (by rw [z]), p2⟩ hno
                  · omega
                obtain ⟨r1, hr1, l1⟩ := l95.hit (by simp)
                have e1 : r1 = [] := List.length_eq_zero_iff.mp (by omega)
                exact ⟨fun z => z.resolve_right (sat_empty (e1 ▸ hr1)), .inl⟩
      · show if decide (0 < k1) = true then _ else _
        rw [if_neg (by rw [decide_eq_false pos]; decide)]
        exact q false k1 H2 C2.kp C2.r kl kk fun z => absurd z pos
end
end S4

set_option Elab.async false
set_option linter.all false
set_option maxRecDepth 100000
set_option maxHeartbeats 4000000
/-! rows put into a dict; whether clauses have answers together -/
namespace S4
open PySem PySem.W PySem.Spec PyProof.Rows L2 S1
theorem sat_mem {A B : List GRow} (h : ∀ r, r ∈ A ↔ r ∈ B) : SatR A ↔ SatR B := by
  constructor
  · rintro ⟨v, m⟩
    exact ⟨v, fun r hr => m r ((h r).mpr hr)⟩
  · rintro ⟨v, m⟩
    exact ⟨v, fun r hr => m r ((h r).mp hr)⟩
/-- a dict keyed by rows -/
structure RD (H : Hp) (D : List DRow) (L : List GRow) : Prop where
  R : RT rowD H (D.map Prod.fst) L
  nd : L.Nodup
section
variable {H H' : Hp} {D : List DRow} {L : List GRow}
theorem RD.same (h : RD H D L) (S : Same H H') : RD H' D L := ⟨h.R.same S, h.nd⟩
theorem RD.tk (h : RD H D L) (K : ∀ b xs, H b = some (.tup xs) → H' b = some (.tup xs)) : RD H' D L := ⟨h.R.tk keyable_row K, h.nd⟩
theorem RD.nil : RD H [] [] := ⟨RT.nil, List.nodup_nil⟩
theorem RD.len (h : RD H D L) : D.length = L.length := by
  have z := h.R.len
  rw [List.length_map] at z
  exact z
theorem RD.keys (h : RD H D L) : KeysAt H D := fun p hp => by
  obtain ⟨z1, z2, z3⟩ := h.R.keys keyable_row (fun x => by have := depth_row x; omega) p.1 (List.mem_map_of_mem hp)
  exact ⟨z1, z2, z3⟩
theorem RD.put {t : Addr} {x : GRow} {v : V} (h : RD H D L) (Dx : Dat H (.ref t) (rowD x)) : ∃ L', RD H (putN D (t, rowD x) v) L' ∧ L'.length ≤ L.length + 1 ∧ ∀ y, y ∈ L' ↔ y ∈ L ∨ y = x := by
  cases e : lookN D (rowD x) with
  | none =>
    have nx : x ∉ L := fun hx => by
      obtain ⟨i, hi⟩ := List.getElem?_of_mem hx
      obtain ⟨p, hp, ep, _⟩ := h.R.of hi
      obtain ⟨q, hq, rfl⟩ := List.mem_map.mp (List.mem_of_getElem? hp)
      exact lookN_none.mp e q hq (by rw [ep])
    refine ⟨L ++ [x], ⟨?_, ?_⟩, by rw [List.length_append]; exact Nat.le_refl _, fun y => ?_⟩
    · rw [putN_new e, List.map_append]
      exact h.R.snoc rfl Dx
    · rw [List.nodup_append]
      exact ⟨h.nd, by simp, fun a ha b hb z => nx (by rw [← List.mem_singleton.mp hb, ← z]; exact ha)⟩
    · rw [List.mem_append, List.mem_singleton]
  | some u =>
    have e2 : (putN D (t, rowD x) v).map Prod.fst = D.map Prod.fst := by
      rw [putN_old e, List.map_map]
      refine List.map_congr_left fun p _ => ?_
      simp only [Function.comp]
      split <;> rfl
    refine ⟨L, ⟨by rw [e2]; exact h.R, h.nd⟩, by omega, fun y => ⟨.inl, fun z => z.elim id fun z => ?_⟩⟩
    have ns : lookN D (rowD x) ≠ none := by rw [e]; simp
    have : ∃ p ∈ D, nkey p.1.2 = nkey (rowD x) := Classical.byContradiction fun no => ns (lookN_none.mpr fun p hp ep => no ⟨p, hp, ep⟩)
    obtain ⟨p, hp, ep⟩ := this
    obtain ⟨i, hi⟩ := List.getElem?_of_mem (List.mem_map_of_mem (f := Prod.fst) hp)
    obtain ⟨x', hx', e', _⟩ := h.R.at_ hi
    rw [e'] at ep
    rw [z, ← nkey_row.mp ep]
    exact List.mem_of_getElem? hx'
end
/-- a list of lists of rows -/
structure Wl (H : Hp) (sp : Addr) (Ws : List Wt) : Prop where
  e : H sp = some (.lst (Ws.map fun x => V.ref x.1))
  all : ∀ x ∈ Ws, Rw H x.1 x.2.1 x.2.2
theorem Wl.same {H H' : Hp} {sp : Addr} {Ws : List Wt} (h : Wl H sp Ws) (S : Same H H') : Wl H' sp Ws := ⟨S _ _ h.e, fun x hx => (h.all x hx).same S⟩
def rowsW (Ws : List Wt) : List GRow := Ws.flatMap fun x => x.2.2
theorem rowsW_snoc {Ws : List Wt} {j : Nat} {x : Wt} (h : Ws[j]? = some x) : rowsW (Ws.take (j + 1)) = rowsW (Ws.take j) ++ x.2.2 := by
  unfold rowsW
  rw [take_next h, List.flatMap_append]
  simp
theorem rowsW_le {Ws : List Wt} {j : Nat} : (rowsW (Ws.take j)).length ≤ (rowsW Ws).length := by
  have z : (rowsW Ws) = rowsW (Ws.take j) ++ rowsW (Ws.drop j) := by
    unfold rowsW
    rw [← List.flatMap_append, List.take_append_drop]
  rw [z, List.length_append]
  exact Nat.le_add_right _ _
def spHas : Sp := fun vs H Q _ => ∃ (sp lo ro : Addr) (Ws : List Wt) (k : Int), vs = [.ref sp, .ref lo, .ref ro] ∧ H ro = some (.lst [.int k]) ∧ Wl H sp Ws ∧ H lo = some (.lst ((List.range Ws.length).map fun i => V.int (i : Nat))) ∧ (rowsW Ws).length ≤ 1000 ∧ -2 ≤ k ∧ k ≤ 9000 ∧
  ∀ (b : Bool) (k' : Int) (H' : Hp), Kp ro H H' → H' ro = some (.lst [.int k']) → -2 ≤ k' → k' ≤ k → (0 < k' → (b = true ↔ SatR (rowsW Ws))) → Q (.bl b) H'
abbrev nHas : List Str := ["spelled", "lot", "room", "rows", "at", "row"]
section
variable {P : Program} {w : World} {K : PySem.W.Frag} {mg : Str → Option Value} {base : Heap}
theorem scHas : FnScope nHas ["spelled", "lot", "room"] (defScope sLHas) := ⟨rfl, rfl, rfl, by decide +kernel, rfl, by decide +kernel, by decide +kernel⟩
theorem ok_lHas {f fC fW : Addr} {fd fdC fdW : FuncData} (F : Fun K "_law_has" "_law_has" sLHas f fd) (B : Blt mg) (Cn : Has K mg "_law_can" sLCan ["rows", "room"] fC fdC) (Wi : Has K mg "_law_with" sLWith ["rows", "copy", "truth"] fW fdW) : FnOk P w K mg base CX0 3 f fd ["spelled", "lot", "room"] spHas := by
  have GC : FnOk P w K mg base CX0 2 fC fdC ["rows", "room"] spCan := ok_lCan Cn.F B Wi
  refine F.ok scHas (fun vs H Q E h => ?_) (fun cdv A outer s H vs Q E hr h => ?_)
  · obtain ⟨sp, lo, ro, Ws, k, rfl, _⟩ := h
    rfl
  · obtain ⟨sp, lo, ro, Ws, k, rfl, er, WL, eo, lr, km, kM, q⟩ := h
    have hu : (A.deeper (envOfC "_law_has" (defScope sLHas) s.heap.objs.size f cdv)).units + 64 < cLine := hr.units
    have hu16 : (A.deeper (envOfC "_law_has" (defScope sLHas) s.heap.objs.size f cdv)).units + 16 < cLine := by omega
    refine ⟨_, pss_cons (ps_set (i := 3) scHas.nd rfl (.inl rfl) pe_dnewK)
      (pss_cons (ps_for PassesOwn.never rfl (pi_list (pv 1)) (pg_name (i := 4) scHas.nd rfl (.inl rfl))
        (pss_one (ps_for PassesOwn.never rfl (pi_list (pe_ix ix_list (pv 0) (pv 4) (fun _ _ => rfl))) (pg_name (i := 5) scHas.nd rfl (.inl rfl))
          (pss_one (ps_nput (by exact hu16) (pv 3) (pv 5) pe_bl (by rfl))))))
      (pss_one (ps_ret (pe_call GC hr rfl Cn.g Cn.F.kp Cn.b .nil pass0 (pa_cons (pe_callTy (call_listDn rfl) (by rfl) B.list (by decide +kernel) (pa_cons (pv 3) pa_nil)) (pa_cons (pv 2) pa_nil)))))), ?_⟩
    refine fun aF hF => ?_
    refine ⟨_, rfl, lo, rfl, ⟨_, SqL.of ((same_new (o := .dK []) hF) _ _ eo)⟩, ?_⟩
    refine for_list (K := K) (a := lo) (xs := (List.range Ws.length).map fun i => V.int (i : Nat)) (fun j σ H' => ∃ (o4 o5 : Option V) (D : List DRow) (o : HO) (L : List GRow), σ = [some (.ref sp), some (.ref lo), some (.ref ro), some (.ref aF), o4, o5] ∧ DnS w aF D o ∧ H' aF = some o ∧ RD H' D L ∧ Same H H' ∧ L.length ≤ (rowsW (Ws.take j)).length ∧ ∀ y, y ∈ L ↔ y ∈ rowsW (Ws.take j))
      ⟨_, _, [], _, [], rfl, .inr ⟨rfl, rfl⟩, upd_same, RD.nil, same_new hF, Nat.le_refl _, fun y => by simp [rowsW]⟩ (fun j σ H' _ ⟨_, _, _, _, _, _, _, _, _, S, _⟩ => SqL.of (S _ _ eo)) ?_ ?_
    · rintro j y σ H1 hy ⟨o4, o5, D, o, L, rfl, hD, eF, rd, S1, lL, mL⟩
      rw [List.getElem?_map] at hy
      obtain ⟨i, hi, rfl⟩ := Option.map_eq_some_iff.mp hy
      have jl : j < Ws.length := by
        have z := (List.getElem?_eq_some_iff.mp hi).1
        rw [List.length_range] at z
        exact z
      have ei : i = j := by
        rw [List.getElem?_range jl] at hi
        exact (Option.some.inj hi).symm
      subst ei
      obtain ⟨x, hx⟩ : ∃ x, Ws[i]? = some x := ⟨_, List.getElem?_eq_getElem jl⟩
      have Wx := WL.all x (List.mem_of_getElem? hx)
      obtain ⟨vv, hv, _, hv2⟩ := at_ok (xs := Ws.map fun x => V.ref x.1) (r := ((i : Nat) : Int)) (by omega) (by rw [List.length_map]; omega)
      have evv : vv = V.ref x.1 := by
        rw [List.getElem?_map, show ((i : Nat) : Int).toNat = i by omega, hx] at hv2
        exact (Option.some.inj hv2).symm
      subst evv
      refine ⟨_, rfl, _, rfl, sp, _, (i : Int), _, rfl, rfl, SqL.of (S1 _ _ WL.e), hv, x.1, rfl, ⟨_, SqL.of (S1 _ _ Wx.e)⟩, ?_⟩
      have lx : (rowsW (Ws.take (i + 1))).length = (rowsW (Ws.take i)).length + x.2.2.length := by rw [rowsW_snoc hx, List.length_append]
      have lx2 : (rowsW (Ws.take (i + 1))).length ≤ (rowsW Ws).length := rowsW_le
      refine for_list (K := K) (a := x.1) (xs := x.2.1.map TRow.v) (fun m σ H' => ∃ (o5 : Option V) (D : List DRow) (o : HO) (L : List GRow), σ = [some (.ref sp), some (.ref lo), some (.ref ro), some (.ref aF), some (.int i), o5] ∧ DnS w aF D o ∧ H' aF = some o ∧ RD H' D L ∧ Same H H' ∧ L.length ≤ (rowsW (Ws.take i)).length + m ∧ ∀ y, y ∈ L ↔ (y ∈ rowsW (Ws.take i) ∨ y ∈ x.2.2.take m))
        ⟨_, D, o, L, rfl, hD, eF, rd, S1, by omega, fun y => by rw [mL y]; simp⟩ (fun m σ H' _ ⟨_, _, _, _, _, _, _, _, S, _⟩ => SqL.of (S _ _ Wx.e)) ?_ ?_
      · rintro m z σ H2 hz ⟨o5, D2, o2, L2, rfl, hD2, eF2, rd2, S2, lL2, mL2⟩
        rw [List.getElem?_map] at hz
        obtain ⟨p, hp, rfl⟩ := Option.map_eq_some_iff.mp hz
        obtain ⟨r, hr, ep, Dr⟩ := (Wx.R.same S2).at_ hp
        obtain ⟨tr, rfl⟩ : ∃ tr, p = (tr, rowD r) := ⟨p.1, by rw [← ep]⟩
        have ml : m < x.2.2.length := (List.getElem?_eq_some_iff.mp hr).1
        obtain ⟨L3, rd3, lL3, mL3⟩ := rd2.put (v := .bl true) Dr
        have l2 := rd2.len
        refine ⟨_, rfl, _, rfl, aF, tr, D2, rowD r, rfl, rfl, hD2.at eF2, rd2.keys, Dr, keyable_row r, by have := depth_row r; omega, small1000 (by omega), ?_⟩
        refine ⟨_, _, _, L3, rfl, .inl rfl, upd_same, rd3.tk (tk_put fun xs z => hD2.nt xs (by rw [eF2] at z; exact Option.some.inj z)), same_upd S2 hF, by omega, fun y => ?_⟩
        rw [mL3, mL2, take_next hr, List.mem_append, List.mem_singleton, or_assoc]
      · rintro σ H2 ⟨o5, D2, o2, L2, rfl, hD2, eF2, rd2, S2, lL2, mL2⟩
        rw [List.length_map, Wx.R.len] at lL2 mL2
        rw [List.take_length] at mL2
        exact ⟨_, _, D2, o2, L2, rfl, hD2, eF2, rd2, S2, by omega, fun y => by rw [mL2, rowsW_snoc hx, List.mem_append]⟩
    · rintro σ H1 ⟨o4, o5, D, o, L, rfl, hD, eF, rd, S1, lL, mL⟩
      rw [List.length_map, List.length_range, List.take_length] at lL mL
      refine ⟨_, rfl, aF, D, rfl, hD.at eF, rd.keys, fun bL hbL => ?_⟩
      have S2 := same_new (o := .lst ((D.map Prod.fst).map TRow.v)) hbL
      have S02 := S1.trans S2
      refine ⟨_, rfl, bL, ro, D.map Prod.fst, L, k, rfl, S02 _ _ er, ⟨upd_same, rd.R.same S2, by omega, fun r hr => ?_⟩, (ne_of_none (S1 _ _ er) hbL).symm, km, kM, fun b k' H' kp er' h1 h2 h3 => q b k' H' ((Kp.of S02).trans kp) er' h1 h2 fun p => (h3 p).trans (sat_mem mL)⟩
      obtain ⟨x, hx, hrx⟩ := List.mem_flatMap.mp ((mL r).mp hr)
      exact (WL.all x hx).m r hrx
end
end S4

set_option Elab.async false
set_option linter.all false
set_option maxRecDepth 100000
set_option maxHeartbeats 4000000
/-! all plays, as dicts -/
namespace S4
open PySem PySem.W PySem.Spec PyProof.Rows L2 S1
def nextP (x : Str) (gs : List (List Ltr)) : List (List Ltr) := gs.flatMap fun g => [g ++ [(x, false)], g ++ [(x, true)]]
def playsL (ps : List Str) : List (List Ltr) := ps.foldl (fun gs x => nextP x gs) [[]]
theorem playsL_snoc (ps : List Str) (x : Str) : playsL (ps ++ [x]) = nextP x (playsL ps) := by
  unfold playsL
  rw [List.foldl_append]
  rfl
theorem nextP_len (x : Str) : ∀ gs : List (List Ltr), (nextP x gs).length = 2 * gs.length
  | [] => rfl
  | g :: gs => by
    have z := nextP_len x gs
    unfold nextP at z ⊢
    rw [List.flatMap_cons, List.length_append, z]
    simp only [List.length_cons, List.length_nil]
    omega
theorem snoc_ind {α : Type} {Pm : List α → Prop} (h0 : Pm []) (hs : ∀ l x, Pm l → Pm (l ++ [x])) (l : List α) : Pm l := by
  have : ∀ n (l : List α), l.length = n → Pm l := fun n => by
    induction n with
    | zero => exact fun l h => by rw [List.length_eq_zero_iff.mp h]; exact h0
    | succ n ih =>
      intro l h
      rcases List.eq_nil_or_concat l with rfl | ⟨m, x, rfl⟩
      · exact h0
      · rw [List.concat_eq_append] at h ⊢
        exact hs m x (ih m (by rw [List.length_append] at h; simp at h; exact h))
  exact this _ l rfl
theorem playsL_len (ps : List Str) : (playsL ps).length = 2 ^ ps.length := by
  refine snoc_ind (Pm := fun ps => (playsL ps).length = 2 ^ ps.length) rfl (fun l x ih => ?_) ps
  rw [playsL_snoc, nextP_len, ih, List.length_append, List.length_singleton, Nat.pow_succ, Nat.mul_comm]
theorem playsL_mem (ps : List Str) : (∀ g ∈ playsL ps, g.map Prod.fst = ps) ∧ ∀ p : Play, (ps.map fun y => (y, p y)) ∈ playsL ps := by
  refine snoc_ind (Pm := fun ps => (∀ g ∈ playsL ps, g.map Prod.fst = ps) ∧ ∀ p : Play, (ps.map fun y => (y, p y)) ∈ playsL ps) ⟨fun g hg => ?_, fun p => ?_⟩ (fun l x ih => ?_) ps
  · cases List.mem_singleton.mp (show g ∈ [[]] from hg)
    rfl
  · exact List.mem_singleton.mpr rfl
  · rw [playsL_snoc]
    refine ⟨fun g hg => ?_, fun p => ?_⟩
    · obtain ⟨g0, h0, hg⟩ := List.mem_flatMap.mp hg
      have z := ih.1 g0 h0
      rcases List.mem_cons.mp hg with rfl | hg
      · rw [List.map_append, z]
        rfl
      · cases List.mem_singleton.mp hg
        rw [List.map_append, z]
        rfl
    · refine List.mem_flatMap.mpr ⟨_, ih.2 p, ?_⟩
      rw [List.map_append, List.map_singleton]
      cases p x
      · exact List.mem_cons_self
      · exact List.mem_cons_of_mem _ List.mem_cons_self
/-- a play, of its letters -/
def ofG (g : List Ltr) : Play := fun y => ((g.find? fun l => decide (l.1 = y)).map Prod.snd).getD false
theorem ofG_map {p : Play} {ps : List Str} {y : Str} (h : y ∈ ps) : ofG (ps.map fun y => (y, p y)) y = p y := by
  unfold ofG
  induction ps with
  | nil => exact absurd h (by simp)
  | cons x ps ih =>
    rw [List.map_cons, List.find?_cons]
    by_cases e : x = y
    · rw [decide_eq_true (show (x, p x).1 = y from e), e]
      rfl
    · rw [decide_eq_false (show ¬ (x, p x).1 = y from e)]
      rcases List.mem_cons.mp h with z | z
      · exact absurd z.symm e
      · exact ih z
theorem ofG_val {g : List Ltr} {y : Str} (h : y ∈ g.map Prod.fst) : valV (ltK g) (.inr y) = some (.bl (ofG g y)) := by
  rw [ltK_val]
  unfold ofG
  cases e : g.find? fun l => decide (l.1 = y) with
  | none =>
    exfalso
    obtain ⟨l, hl, el⟩ := List.mem_map.mp h
    have := List.find?_eq_none.mp e l hl
    exact this (decide_eq_true el)
  | some l => rfl
theorem ofG_none {g : List Ltr} {y : Str} (h : y ∉ g.map Prod.fst) : valV (ltK g) (.inr y) = none := by
  rw [ltK_val]
  cases e : g.find? fun l => decide (l.1 = y) with
  | none => rfl
  | some l =>
    exfalso
    have z := List.find?_some e
    have z : l.1 = y := by simpa using z
    exact h (List.mem_map.mpr ⟨l, List.mem_of_find?_eq_some e, z⟩)
theorem ltK_put {g : List Ltr} {y : Str} {b : Bool} (h : y ∉ g.map Prod.fst) : putK (ltK g) (.inr y) (.bl b) = ltK (g ++ [(y, b)]) := by
  rw [putK_new _ (ofG_none h)]
  unfold ltK
  rw [List.map_append]
  rfl
/-- plays that stand as dicts -/
abbrev Gm (H : Hp) : List Addr → List (List Ltr) → Prop := Paired fun a g => H a = some (.dK (ltK g))
theorem gm_same {H H' : Hp} {as : List Addr} {gs : List (List Ltr)} (h : Gm H as gs) (S : Same H H') : Gm H' as gs := paired_mono (fun a g e => S _ _ e) h
theorem gm_at {H : Hp} : ∀ {as : List Addr} {gs : List (List Ltr)} {i : Nat} {a : Addr}, Gm H as gs → as[i]? = some a → ∃ g, gs[i]? = some g ∧ H a = some (.dK (ltK g))
  | _, _, _, _, .nil, e => by simp at e
  | _, _, 0, _, .cons h _, e => by simp at e; subst e; exact ⟨_, rfl, h⟩
  | _, _, i + 1, _, .cons _ t, e => gm_at (i := i) t e
theorem gm_put {H : Hp} {x : Addr} {o : HO} {as : List Addr} {gs : List (List Ltr)} (h : Gm H as gs) (n : ∀ g, H x ≠ some (.dK (ltK g))) : Gm (upd H x o) as gs := paired_mono (fun a g e => by
  have z : a ≠ x := fun z => n g (z ▸ e)
  rw [upd_ne z]
  exact e) h
def spPlays : Sp := fun vs H Q _ => ∃ (v : V) (ps : List Str), vs = [v] ∧ Dat H v (nmsD ps) ∧ ps.Nodup ∧ ps.length ≤ 4 ∧
  ∀ (l : Addr) (as : List Addr) (H' : Hp), Same H H' → H l = none → H' l = some (.lst (as.map V.ref)) → Gm H' as (playsL ps) → (∀ a ∈ as, H a = none) → Q (.ref l) H'
abbrev nPl : List Str := ["picks", "found", "pick", "further", "play", "truth", "longer"]
section
variable {P : Program} {w : World} {K : PySem.W.Frag} {mg : Str → Option Value} {base : Heap}
theorem scPl : FnScope nPl ["picks"] (defScope sLPlays) := ⟨rfl, rfl, rfl, by decide +kernel, rfl, by decide +kernel, by decide +kernel⟩
theorem ok_lPlays {f : Addr} {fd : FuncData} (F : Fun K "_law_plays" "_law_plays" sLPlays f fd) (B : Blt mg) : FnOk P w K mg base CX0 1 f fd ["picks"] spPlays := by
  refine F.ok scPl (fun vs H Q E h => ?_) (fun cdv A outer s H vs Q E hr h => ?_)
  · obtain ⟨v, ps, rfl, _⟩ := h
    rfl
  · obtain ⟨v, ps, rfl, D, nd, l4, q⟩ := h
    have hu : (A.deeper (envOfC "_law_plays" (defScope sLPlays) s.heap.objs.size f cdv)).units + 64 < cLine := hr.units
    have hu1 : (A.deeper (envOfC "_law_plays" (defScope sLPlays) s.heap.objs.size f cdv)).units + 1 < cLine := by omega
    refine ⟨_, pss_cons (ps_set (i := 1) scPl.nd rfl (.inl rfl) (pe_lst (pa_cons pe_dnewK pa_nil)))
      (pss_cons (ps_for PassesOwn.never rfl (pi_tup (pv 0)) (pg_name (i := 2) scPl.nd rfl (.inl rfl))
        (pss_cons (ps_set (i := 3) scPl.nd rfl (.inl rfl) (pe_lst pa_nil))
        (pss_cons (ps_for PassesOwn.never rfl (pi_list (pv 1)) (pg_name (i := 4) scPl.nd rfl (.inl rfl))
          (pss_one (ps_for PassesOwn.never rfl (pi_tup (pe_tup (pa_cons pe_bl (pa_cons pe_bl pa_nil)))) (pg_name (i := 5) scPl.nd rfl (.inl rfl))
            (pss_cons (ps_set (i := 6) scPl.nd rfl (.inl rfl) (pe_callTy call_dictD (by rfl) B.dict (by decide +kernel) (pa_cons (pv 4) pa_nil)))
            (pss_cons (ps_dput (by exact hu1) (pv 6) (pv 2) (pv 5) (by rfl))
            (pss_one (ps_expr (pe_bm PySem.F.plainAttrs_list PySem.F.slot_list_append PySem.F.type_list_append mt_append (pv 3) (pa_cons (pv 6) pa_nil)))))))))
        (pss_one (ps_set (i := 1) scPl.nd rfl (.inl rfl) (pv 3))))))
      (pss_one (ps_ret (pv 1)))), ?_⟩
    obtain ⟨t, us, rfl, et, Du⟩ := dat_tup (ds := ps.map PyData.str) D
    cases dats_strs_eq Du
    refine fun a0 h0 => ⟨(by show 1 ≤ sizeLine; decide), fun l0 hl0 => ?_⟩
    have S0 := same_new (o := .dK []) h0
    have S1 := same_new (o := .lst [V.ref a0]) hl0
    have S01 := S0.trans S1
    refine ⟨_, rfl, t, rfl, ⟨_, SqT.of (S01 _ _ et)⟩, ?_⟩
    refine for_tup (K := K) (a := t) (xs := ps.map V.str) (fun j σ H' => ∃ (lf : Addr) (as : List Addr) (o2 o3 o4 o5 o6 : Option V), σ = [some (.ref t), some (.ref lf), o2, o3, o4, o5, o6] ∧ H' lf = some (.lst (as.map V.ref)) ∧ Gm H' as (playsL (ps.take j)) ∧ Same H H' ∧ H lf = none ∧ ∀ a ∈ as, H a = none)
      ⟨l0, [a0], _, _, _, _, _, rfl, upd_same, .cons (S1 _ _ upd_same) .nil, S01, S0.free hl0, fun a ha => by cases List.mem_singleton.mp ha; exact h0⟩ (fun j σ H' _ ⟨_, _, _, _, _, _, _, _, _, _, S, _⟩ => SqT.of (S _ _ et)) ?_ ?_
    · rintro j y σ H1 hy ⟨lf, as, o2, o3, o4, o5, o6, rfl, ef, gm, S1, hlf, has⟩
      rw [List.getElem?_map] at hy
      obtain ⟨x, hx, rfl⟩ := Option.map_eq_some_iff.mp hy
      have jl : j < ps.length := (List.getElem?_eq_some_iff.mp hx).1
      refine ⟨Nat.zero_le _, fun lr hlr => ?_⟩
      have S2 := same_new (o := .lst ([] : List V)) hlr
      have nx : ∀ g ∈ playsL (ps.take j), x ∉ g.map Prod.fst := fun g hg => by
        rw [(playsL_mem _).1 g hg]
        have z := nd
        rw [← List.take_append_drop (j + 1) ps, take_next hx] at z
        have z2 := (List.nodup_append.mp (List.nodup_append.mp z).1).2.2
        exact fun w => z2 x w x List.mem_cons_self rfl
      have lg : (playsL (ps.take j)).length ≤ 16 := by
        rw [playsL_len, List.length_take]
        exact (show (16 : Nat) = 2 ^ 4 from rfl) ▸ Nat.pow_le_pow_right (by decide) (by omega)
      have la : as.length = (playsL (ps.take j)).length := Paired.length gm
      refine ⟨_, rfl, lf, rfl, ⟨_, SqL.of (S2 _ _ ef)⟩, ?_⟩
      refine for_list (K := K) (a := lf) (xs := as.map V.ref) (fun i σ H' => ∃ (bs : List Addr) (o4 o5 o6 : Option V), σ = [some (.ref t), some (.ref lf), some (.str x), some (.ref lr), o4, o5, o6] ∧ H' lr = some (.lst (bs.map V.ref)) ∧ Gm H' bs (nextP x ((playsL (ps.take j)).take i)) ∧ Same H1 H' ∧ ∀ a ∈ bs, H a = none)
        ⟨[], _, _, _, rfl, upd_same, .nil, S2, fun a ha => absurd ha (by simp)⟩ (fun i σ H' _ ⟨_, _, _, _, _, _, _, S, _⟩ => SqL.of (S _ _ ef)) ?_ ?_
      · rintro i z σ H3 hz ⟨bs, o4, o5, o6, rfl, er, gb, S3, hbs⟩
        rw [List.getElem?_map] at hz
        obtain ⟨a, ha, rfl⟩ := Option.map_eq_some_iff.mp hz
        obtain ⟨g, hg, ea⟩ := gm_at (gm_same gm S3) ha
        have ng := nx g (List.mem_of_getElem? hg)
        have il : i < (playsL (ps.take j)).length := (List.getElem?_eq_some_iff.mp hg).1
        have lb : bs.length = 2 * i := by
          rw [Paired.length gb, nextP_len, List.length_take]
          omega
        refine ⟨(by show 2 ≤ sizeLine; decide), fun tt htt => ⟨tt, rfl, ⟨_, SqT.of upd_same⟩, ?_⟩⟩
        have S4 := same_new (o := .tup [V.bl false, .bl true]) htt
        refine for_tup (K := K) (a := tt) (xs := [false, true].map V.bl) (fun k σ H' => ∃ (bs : List Addr) (o5 o6 : Option V), σ = [some (.ref t), some (.ref lf), some (.str x), some (.ref lr), some (.ref a), o5, o6] ∧ H' lr = some (.lst (bs.map V.ref)) ∧ Gm H' bs (nextP x ((playsL (ps.take j)).take i) ++ (([false, true].take k).map fun b => g ++ [(x, b)])) ∧ Same H1 H' ∧ H' a = some (.dK (ltK g)) ∧ H' tt = some (.tup ([false, true].map V.bl)) ∧ bs.length = 2 * i + k ∧ ∀ a ∈ bs, H a = none)
          ⟨bs, _, _, rfl, S4 _ _ er, by rw [List.take_zero, List.map_nil, List.append_nil]; exact gm_same gb S4, S3.trans S4, S4 _ _ ea, upd_same, lb, hbs⟩ (fun k σ H' _ ⟨_, _, _, _, _, _, _, _, e, _⟩ => SqT.of e) ?_ ?_
        · rintro k w σ H5 hw ⟨bs, o5, o6, rfl, er5, gb5, S5, ea5, et5, lb5, hbs5⟩
          rw [List.getElem?_map] at hw
          obtain ⟨b, hb, rfl⟩ := Option.map_eq_some_iff.mp hw
          have kl : k < 2 := (List.getElem?_eq_some_iff.mp hb).1
          refine ⟨_, rfl, a, _, rfl, .inl ea5, fun p hp => ?_⟩
          have S6 := same_new (o := .dK (ltK g)) hp
          have S7 : Same H5 (upd (upd H5 p (.dK (ltK g))) p (.dK (ltK (g ++ [(x, b)])))) := same_upd S6 hp
          have lgk : (ltK g).length < sizeLine := by
            unfold ltK
            rw [List.length_map, ← List.length_map (f := Prod.fst), (playsL_mem _).1 g (List.mem_of_getElem? hg), List.length_take]
            exact small1000 (by omega)
          refine ⟨_, rfl, _, rfl, _, rfl, p, _, rfl, .inl ⟨ltK g, .inr x, upd_same, rfl, lgk, rfl⟩, ?_⟩
          rw [ltK_put ng]
          have hpH : H p = none := (S1.trans S5).free hp
          refine ⟨_, rfl, .inl ⟨rfl, _, SqL.of (S7 _ _ er5)⟩, _, rfl, lr, _, _, rfl, rfl, S7 _ _ er5, by rw [List.length_map, lb5]; exact small1000 (by omega), ?_⟩
          have hlr1 := hlr
          refine ⟨bs ++ [p], _, _, rfl, by rw [upd_same, List.map_append]; rfl, ?_, same_upd (S5.trans S7) hlr1, ?_, ?_, by rw [List.length_append, lb5]; rfl, fun a' ha' => ?_⟩
          · rw [take_next hb, List.map_append, ← List.append_assoc]
            refine gm_put (paired_snoc (gm_same gb5 S7) upd_same) fun g z => ?_
            rw [S7 _ _ er5] at z
            cases z
          · rw [upd_ne (fun z => by rw [z, er5] at ea5; cases ea5)]
            exact S7 _ _ ea5
          · rw [upd_ne (fun z => by rw [z, er5] at et5; cases et5)]
            exact S7 _ _ et5
          · rcases List.mem_append.mp ha' with z | z
            · exact hbs5 a' z
            · cases List.mem_singleton.mp z
              exact hpH
        · rintro σ H5 ⟨bs, o5, o6, rfl, er5, gb5, S5, ea5, et5, lb5, hbs5⟩
          refine ⟨bs, _, _, _, rfl, er5, ?_, S5, hbs5⟩
          have e : nextP x ((playsL (ps.take j)).take (i + 1)) = nextP x ((playsL (ps.take j)).take i) ++ [g ++ [(x, false)], g ++ [(x, true)]] := by
            rw [take_next hg]
            unfold nextP
            rw [List.flatMap_append]
            simp
          rw [e]
          exact gb5
      · rintro σ H5 ⟨bs, o4, o5, o6, rfl, er5, gb5, S5, hbs5⟩
        rw [List.length_map, la, List.take_length] at gb5
        refine ⟨_, rfl, ?_⟩
        refine ⟨lr, bs, _, _, _, _, _, rfl, er5, ?_, S1.trans S5, S1.free hlr, hbs5⟩
        rw [take_next hx, playsL_snoc]
        exact gb5
    · rintro σ H1 ⟨lf, as, o2, o3, o4, o5, o6, rfl, ef, gm, S1, hlf, has⟩
      rw [List.length_map, List.take_length] at gm
      exact ⟨_, rfl, q lf as H1 S1 hlf ef gm has⟩
end
end S4

set_option Elab.async false
set_option linter.all false
set_option maxRecDepth 100000
set_option maxHeartbeats 4000000
/-! dict(pairs), a tuple of pairs with texts for keys -/
namespace S4
open PySem PySem.W PySem.Spec PyProof.Rows L2 S1
section
variable {X : Cx}
theorem kp_pairs {pins : List (Addr × Obj)} {σ : L2.St} {H : Hp} {s : Shared} (I : Inv X pins σ H s) : ∀ {ps : List Addr} {kvs : List (Key × V)}, Paired (fun p kv => SqT X.K H p [kV kv.1, kv.2]) ps kvs →
    ∃ (prs : List (Key × Value)) (vs : List (Value × Value)), KV kvs prs ∧ prs.length = ps.length ∧ vs.length = ps.length ∧ ∀ (j : Nat) (b : Addr), ps[j]? = some b → ∃ (q : Key × Value) (u : Value), prs[j]? = some q ∧ vs[j]? = some (u, q.2) ∧ s.heap.IsTuple b #[u, q.2] ∧ (mixKind X.prog X.w).is q.1 u = true
  | _, _, .nil => ⟨[], [], .nil, rfl, rfl, fun j q e => by simp at e⟩
  | _, _, .cons (a := p) (b := kv) h t => by
    obtain ⟨prs, vs, r, hl, hl2, hp⟩ := kp_pairs I t
    obtain ⟨its, rv, ht, _⟩ := I.tuple h
    obtain ⟨u, y, ei, ru, ry⟩ := vals2 rv
    subst ei
    refine ⟨(kv.1, y) :: prs, (u, y) :: vs, .cons ⟨rfl, ry⟩ r, by rw [List.length_cons, List.length_cons, hl], by rw [List.length_cons, List.length_cons, hl2], fun j b e => ?_⟩
    cases j with
    | zero =>
      have e' : p = b := Option.some.inj e
      subst e'
      obtain ⟨o, a1, a2, a3, a4⟩ := ht
      exact ⟨(kv.1, y), u, rfl, rfl, ⟨o, a1, a2, _, a4⟩, kV_is ru⟩
    | succ j =>
      obtain ⟨q, u', e1, e2, e3, e4⟩ := hp j b (by simpa using e)
      exact ⟨q, u', by simpa using e1, by simpa using e2, e3, e4⟩
def rDictZ (K : PySem.W.Frag) : List V → Hp → VK → Prop := fun xs H Q => ∃ (a : Addr) (ps : List Addr) (kvs : List (Key × V)), xs = [.ref a] ∧ FZ H a (ps.map V.ref) ∧ Paired (fun p kv => SqT K H p [kV kv.1, kv.2]) ps kvs ∧
  ∀ p, H p = none → Q (.ref p) (upd H p (.dK (mergeK [] kvs)))
theorem call_dictZ (hc : X.calm = true) : CallR X (.type "dict") (rDictZ X.K) := by
  intro pins s σ H xs us Q I r h
  obtain ⟨a, ps, kvs, rfl, ⟨ob, hd, he⟩, pr, q⟩ := h
  rw [Vals.ref1 r]
  obtain ⟨ho, hz, its, rv, o', ho', hc', n, hdat⟩ := I.hok a _ he
  rw [ho] at ho'
  cases ho'
  have ei := refs_at rv
  subst ei
  rw [List.length_map] at hz
  obtain ⟨prs, vs, rel, hl, hl2, hp⟩ := kp_pairs I pr
  have ok : PlainSeq "tuple" s.heap a (ps.map Value.ref).toArray ∧ PairItems s.heap (ps.map Value.ref).toArray (fun j => ps[j]?.getD 0) vs := by
    refine ⟨⟨ob, n, ho, hc', hd, hdat⟩, ?_, fun j k v hj => ?_⟩
    · simp [hl2]
    · have jl : j < ps.length := by rw [← hl2]; exact (List.getElem?_eq_some_iff.mp hj).1
      obtain ⟨p, u, h1, h2, h3, h4⟩ := hp j ps[j] (List.getElem?_eq_getElem jl)
      rw [hj] at h2
      cases h2
      refine ⟨by simp [jl], ?_⟩
      show PairAt _ (ps[j]?.getD 0) _ _
      rw [List.getElem?_eq_getElem jl]
      exact .inl h3
  refine PySem.call_dict_pairs (knd := mixKind X.prog X.w) (kvs := prs) (PairArg.tuple a _ _ _) (I.ok.hd hc) ok ⟨by rw [hl, hl2], fun i key v hr => ?_⟩ (by rw [hl2]; exact hz) fun h' tk hd' hk => ?_
  · unfold PairRel at hr
    have jl : i < ps.length := by rw [← hl2]; exact (List.getElem?_eq_some_iff.mp hr).1
    obtain ⟨p, u, h1, h2, h3, h4⟩ := hp i ps[i] (List.getElem?_eq_getElem jl)
    rw [hr] at h2
    cases h2
    exact ⟨p.1, h1, h4⟩
  · have hm : (s.heap.objs.size == sysModules) = false := beq_eq_false_iff_ne.mpr (Nat.ne_of_gt I.big)
    have hlen : (mergeK [] kvs).length ≤ sizeLine := by
      refine Nat.le_trans (length_mergeK kvs []) ?_
      rw [List.length_nil, Nat.zero_add, rel.length, hl]
      exact hz
    exact ⟨.ref s.heap.objs.size, upd H s.heap.objs.size (.dK (mergeK [] kvs)), I.laid (t' := tk) (fun b o e => hk b o (by simp) e) (Nat.le_refl _) (show ObjOk X.prog X.w _ _ _ (.dK (mergeK [] kvs)) from ⟨hlen, hm, merged [] prs, KV.merge rel .nil, hd'⟩), rfl, q _ (I.hok.fresh (Nat.le_refl _))⟩
end
theorem valV_no {kvs : List (Key × V)} {k : Key} (h : k ∉ kvs.map Prod.fst) : valV kvs k = none := by
  unfold valV
  cases e : kvs.find? fun kv => decide (kv.1 = k) with
  | none => rfl
  | some l =>
    exfalso
    have z := List.find?_some e
    have z : l.1 = k := by simpa using z
    exact h (List.mem_map.mpr ⟨l, List.mem_of_find?_eq_some e, z⟩)
theorem merge_nd : ∀ (more acc : List (Key × V)), ((acc ++ more).map Prod.fst).Nodup → mergeK acc more = acc ++ more
  | [], acc, _ => (List.append_nil acc).symm
  | p :: more, acc, nd => by
    show mergeK (putK acc p.1 p.2) more = _
    have e : acc ++ p :: more = (acc ++ [p]) ++ more := by simp
    have np : p.1 ∉ acc.map Prod.fst := by
      rw [List.map_append, List.map_cons] at nd
      exact fun z => (List.nodup_append.mp nd).2.2 p.1 z p.1 List.mem_cons_self rfl
    rw [putK_new _ (valV_no np), merge_nd more _ (by rw [← e]; exact nd), e]
end S4

set_option Elab.async false
set_option linter.all false
set_option maxRecDepth 100000
set_option maxHeartbeats 4000000
/-! what clauses tell of the copies, as the law spells it -/
namespace S4
open PySem PySem.W PySem.Spec PyProof.Rows L2 S1
def PLs (s : Say) : List Play := (playsL s.picks).map ofG
theorem pls_all (s : Say) (p : Play) : ∃ q ∈ PLs s, ∀ y ∈ s.picks, q y = p y :=
  ⟨_, List.mem_map_of_mem ((playsL_mem s.picks).2 p), fun y hy => ofG_map hy⟩
theorem lt_at {H : Hp} {v : V} {l : Ltr} (D : Dat H v (ltD l)) : ∃ t, v = .ref t ∧ H t = some (.tup [.str l.1, .bl l.2]) := by
  obtain ⟨b, us, rfl, eb, Du⟩ := dat_tup D
  cases Du with
  | cons h1 h =>
    cases h with
    | cons h2 h =>
      cases h
      cases h1
      cases h2
      exact ⟨b, rfl, eb⟩
/-- a letter of a clause, as it goes into a row -/
def rowL (s : Say) (q : Play) (l : Ltr) : GRow := if ownL s l then [((l.1, (sgOf s l.1).map q), l.2)] else []
theorem rowAt_snoc {s : Say} {q : Play} {cl : List Ltr} {k : Nat} {l : Ltr} (h : cl[k]? = some l) : rowAt s q (cl.take (k + 1)) = rowAt s q (cl.take k) ++ rowL s q l := by
  unfold rowAt rowL
  rw [take_next h, List.filter_append, List.map_append]
  congr 1
  by_cases z : ownL s l = true
  · rw [if_pos z, List.filter_cons, if_pos z]
    rfl
  · rw [if_neg z, List.filter_cons, if_neg z]
    rfl
theorem rowAt_len {s : Say} {q : Play} {cl : List Ltr} : (rowAt s q cl).length ≤ cl.length := by
  unfold rowAt
  rw [List.length_map]
  exact List.length_filter_le _ _
theorem tlt_nodup {α : Type} {f : α → Str} {l : List α} (h : l.Pairwise fun a b => tlt (f a) (f b)) : (l.map f).Nodup := nodup_tlt (List.pairwise_map.mpr h)
theorem rowAt_six {s : Say} {a b c d : Nat} (ok : SayOk a b c d s) (h6 : s.owns.length ≤ 6) (q : Play) {cl : List Ltr} (hc : cl ∈ s.cls) : (rowAt s q cl).length ≤ 6 := by
  have nd : ((cl.filter (ownL s)).map Prod.fst).Nodup := (tlt_nodup (ok.ck cl hc).up).sublist (List.filter_sublist.map _)
  have z := nodup_le (m := s.owns.map Prod.fst) nd fun x hx => by
    obtain ⟨l, hl, rfl⟩ := List.mem_map.mp hx
    exact of_decide_eq_true (List.mem_filter.mp hl).2
  rw [List.length_map, List.length_map] at z
  unfold rowAt
  rw [List.length_map]
  omega
theorem cl_len {s : Say} {a b c d : Nat} (ok : SayOk a b c d s) {cl : List Ltr} (hc : cl ∈ s.cls) : cl.length ≤ a + b := by
  have z := nodup_le (m := s.names) (tlt_nodup (ok.ck cl hc).up) fun x hx => by
    obtain ⟨l, hl, rfl⟩ := List.mem_map.mp hx
    exact (ok.ck cl hc).mem l hl
  have h1 := ok.pl
  have h2 := ok.ol
  unfold Say.names at z
  rw [List.length_map, List.length_append, List.length_map] at z
  omega
/-- whether a letter of a pick is so -/
def pickSo (s : Say) (q : Play) (l : Ltr) : Bool := decide (l.1 ∈ s.picks) && (q l.1 == l.2)
theorem live_iff {s : Say} {a b c d : Nat} (ok : SayOk a b c d s) (q : Play) {cl : List Ltr} (hc : cl ∈ s.cls) : live s q cl ↔ (cl.map (pickSo s q)).any id = false := by
  rw [List.any_map, List.any_eq_false]
  constructor
  · intro h l hl z
    have z : (decide (l.1 ∈ s.picks) && (q l.1 == l.2)) = true := z
    rw [Bool.and_eq_true, decide_eq_true_eq, beq_iff_eq] at z
    refine h l hl (fun w => ?_) z.2
    obtain ⟨o, ho, e⟩ := List.mem_map.mp w
    exact (ok.on o ho).2.1 (e ▸ z.1)
  · intro h l hl no e
    have lp : l.1 ∈ s.picks := by
      rcases List.mem_append.mp ((ok.ck cl hc).mem l hl) with z | z
      · exact z
      · exact absurd z no
    refine h l hl ?_
    show (decide (l.1 ∈ s.picks) && (q l.1 == l.2)) = true
    rw [decide_eq_true lp, e]
    cases l.2 <;> rfl
/-- the sights of a saying, as a dict -/
structure Sg (H : Hp) (aS : Addr) (s : Say) : Prop where
  ex : ∃ kvs, H aS = some (.dK kvs) ∧ (∀ o ∈ s.owns, ∃ t, valV kvs (.inr o.1) = some (.ref t) ∧ H t = some (.tup (o.2.map V.str))) ∧ ∀ n, n ∉ s.owns.map Prod.fst → valV kvs (.inr n) = none
theorem Sg.same {H H' : Hp} {aS : Addr} {s : Say} (h : Sg H aS s) (S : Same H H') : Sg H' aS s := by
  obtain ⟨kvs, e, h1, h2⟩ := h.ex
  exact ⟨kvs, S _ _ e, fun o ho => (let ⟨t, z1, z2⟩ := h1 o ho; ⟨t, z1, S _ _ z2⟩), h2⟩
theorem dats_blsX {H : Hp} : ∀ bs : List Bool, DatAll H (bs.map V.bl) (bs.map PyData.bool)
  | [] => .nil
  | b :: bs => .cons (.bl b) (dats_blsX bs)
theorem valV_mem {kvs : List (Key × V)} {k : Key} {v : V} : (kvs.map Prod.fst).Nodup → (k, v) ∈ kvs → valV kvs k = some v := by
  unfold valV
  induction kvs with
  | nil => exact fun _ h => absurd h (by simp)
  | cons p kvs ih =>
    intro nd h
    rw [List.map_cons, List.nodup_cons] at nd
    rw [List.find?_cons]
    rcases List.mem_cons.mp h with rfl | h
    · rw [decide_eq_true rfl]
      rfl
    · have ne : ¬ p.1 = k := fun z => nd.1 (z ▸ List.mem_map_of_mem (f := Prod.fst) h)
      rw [decide_eq_false ne]
      exact ih nd.2 h
theorem own_pairs {K : PySem.W.Frag} {H : Hp} : ∀ {T : List TRow} {owns : List Own}, RT ownD H T owns → ∃ kvs : List (Key × V), Paired (fun (p : Addr) kv => SqT K H p [kV kv.1, kv.2]) (T.map Prod.fst) kvs ∧ kvs.map Prod.fst = owns.map (fun o => Sum.inr o.1) ∧ ∀ o ∈ owns, ∃ t, ((Sum.inr o.1 : Key), V.ref t) ∈ kvs ∧ H t = some (.tup (o.2.map V.str))
  | [], [], _ => ⟨[], .nil, rfl, fun o ho => absurd ho (by simp)⟩
  | [], o :: os, h => by have z := h.len; simp at z
  | p :: T, [], h => by have z := h.len; simp at z
  | p :: T, o :: os, h => by
    have e := h.e
    rw [List.map_cons, List.map_cons] at e
    injection e with e1 e2
    obtain ⟨kvs, h1, h2, h3⟩ := own_pairs (K := K) (T := T) (owns := os) ⟨e2, fun q hq => h.D q (List.mem_cons_of_mem _ hq)⟩
    obtain ⟨t, g1, g2⟩ := own_row (q := p) e1 (h.D p List.mem_cons_self)
    refine ⟨(Sum.inr o.1, .ref t) :: kvs, .cons (SqT.of g1) h1, by rw [List.map_cons, List.map_cons, h2], fun o' ho' => ?_⟩
    rcases List.mem_cons.mp ho' with rfl | ho'
    · exact ⟨t, List.mem_cons_self, g2⟩
    · obtain ⟨t', z1, z2⟩ := h3 o' ho'
      exact ⟨t', List.mem_cons_of_mem _ z1, z2⟩
def spSpelled : Sp := fun vs H Q _ => ∃ (v : V) (s : Say), vs = [v] ∧ DatF H v s ∧ SayOk 6 8 120 40 s ∧ s.picks.length ≤ 4 ∧ s.owns.length ≤ 6 ∧
  ∀ (sp : Addr) (Ws : List Wt) (H' : Hp), Same H H' → H sp = none → Wl H' sp Ws → Ws.length = s.cls.length → (rowsW Ws).length ≤ 1000 → (∀ r, r ∈ rowsW Ws ↔ ∃ q ∈ PLs s, ∃ cl ∈ s.cls, live s q cl ∧ r = rowAt s q cl) → Q (.ref sp) H'
abbrev nSp : List Str := ["saying", "picks", "owns", "clauses", "sights", "games", "found", "clause", "told", "play", "name", "truth", "row", "pick"]
section
variable {P : Program} {w : World} {K : PySem.W.Frag} {mg : Str → Option Value} {base : Heap}
theorem scSp : FnScope nSp ["saying"] (defScope sLSpelled) := ⟨rfl, rfl, rfl, by decide +kernel, rfl, by decide +kernel, by decide +kernel⟩
theorem ok_lSpelled {f fP : Addr} {fd fdP : FuncData} (F : Fun K "_law_spelled" "_law_spelled" sLSpelled f fd) (B : Blt mg) (an : mg "any" = none) (Pl : Has K mg "_law_plays" sLPlays ["picks"] fP fdP) : FnOk P w K mg base CX0 2 f fd ["saying"] spSpelled := by
  have GP : FnOk P w K mg base CX0 1 fP fdP ["picks"] spPlays := ok_lPlays Pl.F B
  refine F.ok scSp (fun vs H Q E h => ?_) (fun cdv A outer s H vs Q E hr h => ?_)
  · obtain ⟨v, sy, rfl, _⟩ := h
    rfl
  · obtain ⟨v, sy, rfl, D, ok, p4, o6, q⟩ := h
    have hu : (A.deeper (envOfC "_law_spelled" (defScope sLSpelled) s.heap.objs.size f cdv)).units + 64 < cLine := hr.units
    have hu1 : (A.deeper (envOfC "_law_spelled" (defScope sLSpelled) s.heap.objs.size f cdv)).units + 1 < cLine := by omega
    have hu16 : (A.deeper (envOfC "_law_spelled" (defScope sLSpelled) s.heap.objs.size f cdv)).units + 16 < cLine := by omega
    refine ⟨_, pss_cons (ps_asg (pv 0) (pg_tup rfl (pgs_cons (pg_name (i := 1) scSp.nd rfl (.inl rfl)) (pgs_cons (pg_name (i := 2) scSp.nd rfl (.inl rfl)) (pgs_cons (pg_name (i := 3) scSp.nd rfl (.inl rfl)) pgs_nil)))))
      (pss_cons (ps_par3 (i := 4) (j := 5) (l := 6) rfl scSp.nd rfl rfl rfl (by decide) (by decide) (by decide) rfl rfl rfl
          (pa_cons (pe_callTy (call_dictZ rfl) (by rfl) B.dict (by decide +kernel) (pa_cons (pv 2) pa_nil)) (pa_cons (pe_call GP hr rfl Pl.g Pl.F.kp Pl.b .nil pass0 (pa_cons (pv 1) pa_nil)) (pa_cons (pe_lst pa_nil) pa_nil))) (by with_unfolding_all rfl))
      (pss_cons (ps_for PassesOwn.never rfl (pi_tup (pv 3)) (pg_name (i := 7) scSp.nd rfl (.inl rfl))
        (pss_cons (ps_set (i := 8) scSp.nd rfl (.inl rfl) pe_dnewK)
        (pss_cons (ps_for PassesOwn.never rfl (pi_list (pv 5)) (pg_name (i := 9) scSp.nd rfl (.inr rfl))
          (pss_one (ps_if (pt_not (pt_val (pe_callB (cr_any rfl) (by rfl) an (by decide +kernel) (pa_cons (pe_lc (own := [("name", 10), ("truth", 11)]) (g := gTup K 2 (gCons (gName 10) (gCons (gName 11) gNil))) (tt := tYes) (te := tAndV (tDIn (tVar 10) (tVar 9)) (tOp rEq (tDGet (tVar 9) (tVar 10)) (tVar 11))) rfl scSp.nd
                (pi_tup (pv 7)) (blkOk_by (N := nSp) (sc := defScope sLSpelled) (by decide +kernel)) (fun _ _ _ _ _ => by exact pg_tup rfl (pgs_cons (pg_name (i := 10) scSp.nd rfl (.inl rfl)) (pgs_cons (pg_name (i := 11) scSp.nd rfl (.inl rfl)) pgs_nil))) (fun _ _ _ _ _ => pts_nil)
                (fun _ _ _ _ _ => by exact pe_and (pe_cmp (pc_din (by exact hu1) (pv 10) (pv 9))) (pe_one (pe_cmpR op_eq (pe_dget (by exact hu1) (pv 9) (pv 10) (fun _ _ => rfl)) (pv 11) (nomark _))))) pa_nil))))
            (pss_cons (ps_set (i := 12) scSp.nd rfl (.inl rfl) (pe_lst pa_nil))
            (pss_cons (ps_for PassesOwn.never rfl (pi_tup (pv 7)) (pg_tup rfl (pgs_cons (pg_name (i := 10) scSp.nd rfl (.inl rfl)) (pgs_cons (pg_name (i := 11) scSp.nd rfl (.inl rfl)) pgs_nil)))
              (pss_one (ps_if (pt_cmp (pc_din (by exact hu1) (pv 10) (pv 4)))
                (pss_one (ps_expr (pe_bm PySem.F.plainAttrs_list PySem.F.slot_list_append PySem.F.type_list_append mt_append (pv 12) (pa_cons (pe_tup (pa_cons (pe_tup (pa_cons (pv 10) (pa_cons (pe_tupleOf rfl B.tuple (pe_lc (own := [("pick", 13)]) (g := gName 13) (tt := tYes) (te := tDGet (tVar 9) (tVar 13)) rfl scSp.nd
                    (pi_tup (pe_dget (by exact hu1) (pv 4) (pv 10) (fun _ _ => rfl))) (blkOk_by (N := nSp) (sc := defScope sLSpelled) (by decide +kernel)) (fun _ _ _ _ _ => pg_name (i := 13) scSp.nd rfl (Or.inl rfl)) (fun _ _ _ _ _ => pts_nil) (fun _ _ _ _ _ => by exact pe_dget (by exact hu1) (pv 9) (pv 13) (fun _ _ => rfl)))) pa_nil))) (pa_cons (pv 11) pa_nil))) pa_nil)))) pss_nil)))
            (pss_one (ps_nput (by exact hu16) (pv 8) (pe_tupleOf rfl B.tuple (pv 12)) pe_bl (by rfl))))) pss_nil)))
        (pss_one (ps_expr (pe_bm PySem.F.plainAttrs_list PySem.F.slot_list_append PySem.F.type_list_append mt_append (pv 6) (pa_cons (pe_callTy (call_listDn rfl) (by rfl) B.list (by decide +kernel) (pa_cons (pv 8) pa_nil)) pa_nil)))))))
      (pss_one (ps_ret (pv 6))))), ?_⟩
    have s2 : 2 ≤ sizeLine := by decide
    obtain ⟨a0, p1, o1, c1, rfl, e0, Dp, ⟨a2, us, rfl, fz, Du⟩, Dc⟩ := D
    obtain ⟨a1, rfl, e1⟩ := nms_at Dp
    obtain ⟨a3, rfl⟩ := tuple_ref (ds := sy.cls.map clD) Dc
    obtain ⟨T3, e3, R3⟩ := RT.back (g := clD) (L := sy.cls) Dc fun x => ⟨_, rfl⟩
    obtain ⟨To, rfl, eTo, hTo⟩ := rows_of_dat Du fun d hd => by
      obtain ⟨x, _, rfl⟩ := List.mem_map.mp hd
      exact ⟨_, rfl⟩
    obtain ⟨kvs, pr, ek, hk⟩ := own_pairs (K := K) (T := To) (owns := sy.owns) ⟨eTo.symm, hTo⟩
    have ndk : (kvs.map Prod.fst).Nodup := by
      rw [ek]
      have z : (sy.owns.map Prod.fst).Nodup := nodup_tlt (List.pairwise_map.mpr ok.ou)
      rw [show (sy.owns.map fun o => (Sum.inr o.1 : Key)) = (sy.owns.map Prod.fst).map Sum.inr by rw [List.map_map]; rfl]
      exact List.pairwise_map.mpr (z.imp fun {a b} ne e => ne (by injection e))
    refine ⟨_, rfl, a0, _, rfl, SqT.of e0, rfl, _, _, rfl, _, _, rfl, _, _, rfl, rfl, ?_⟩
    refine ⟨_, rfl, a2, To.map Prod.fst, kvs, rfl, by rw [List.map_map]; exact fz, pr, fun aS hS => ?_⟩
    rw [merge_nd kvs [] (by rw [List.nil_append]; exact ndk), List.nil_append]
    have S1 := same_new (o := .dK kvs) hS
    have sg0 : Sg (upd H aS (.dK kvs)) aS sy := ⟨kvs, upd_same, fun o ho => (let ⟨t, z1, z2⟩ := hk o ho; ⟨t, valV_mem ndk z1, S1 _ _ z2⟩), fun n hn => valV_no (by
      rw [ek]
      intro z
      obtain ⟨o, ho, e⟩ := List.mem_map.mp z
      injection e with e
      exact hn (List.mem_map.mpr ⟨o, ho, e⟩))⟩
    generalize upd H aS (.dK kvs) = H1 at S1 sg0 ⊢
    have ndp : sy.picks.Nodup := nodup_tlt ok.pu
    refine ⟨_, rfl, .ref a1, sy.picks, rfl, Dp.same S1, ndp, p4, fun aG as Hb S2 hG eG gm has => ⟨Nat.zero_le _, fun aL hL => ⟨_, _, _, rfl, ?_⟩⟩⟩
    have Sb := S1.trans S2
    have sgb := sg0.same S2
    have hLH : H aL = none := Sb.free hL
    have e3b := Sb _ _ e3
    have R3b := R3.same Sb
    have lg : (playsL sy.picks).length ≤ 16 := by
      rw [playsL_len]
      exact (show (16 : Nat) = 2 ^ 4 from rfl) ▸ Nat.pow_le_pow_right (by decide) p4
    have lc := ok.cl
    have las : as.length = (playsL sy.picks).length := Paired.length gm
    have S3 := same_new (o := .lst ([] : List V)) hL
    refine ⟨_, rfl, a3, rfl, ⟨_, SqT.of (S3 _ _ e3b)⟩, ?_⟩
    refine for_tup (K := K) (a := a3) (xs := T3.map TRow.v) (fun j σ H' => ∃ (o7 o8 o9 o10 o11 o12 o13 : Option V) (Ws : List Wt), σ = [some (.ref a0), some (.ref a1), some (.ref a2), some (.ref a3), some (.ref aS), some (.ref aG), some (.ref aL), o7, o8, o9, o10, o11, o12, o13] ∧ Same Hb H' ∧ H' aL = some (.lst (Ws.map fun x => V.ref x.1)) ∧
        (∀ x ∈ Ws, Rw H' x.1 x.2.1 x.2.2 ∧ x.1 ≠ aL) ∧ Ws.length = j ∧ (rowsW Ws).length ≤ 16 * j ∧ ∀ r, r ∈ rowsW Ws ↔ ∃ q ∈ PLs sy, ∃ cl ∈ sy.cls.take j, live sy q cl ∧ r = rowAt sy q cl)
      ⟨_, _, _, _, _, _, _, [], rfl, S3, upd_same, fun x hx => absurd hx (by simp), rfl, Nat.le_refl _, fun r => by simp [rowsW]⟩ (fun j σ H' _ ⟨_, _, _, _, _, _, _, _, _, S, _⟩ => SqT.of (S _ _ e3b)) ?_ ?_
    · rintro j y σ Hc hy ⟨o7, o8, o9, o10, o11, o12, o13, Ws, rfl, Sc, eL, hW, lW, lR, mR⟩
      rw [List.getElem?_map] at hy
      obtain ⟨p, hp, rfl⟩ := Option.map_eq_some_iff.mp hy
      obtain ⟨cl, hcl, ep, Dcl⟩ := (R3b.same Sc).at_ hp
      obtain ⟨tc, rfl⟩ : ∃ tc, p = (tc, clD cl) := ⟨p.1, by rw [← ep]⟩
      obtain ⟨Tc, etc, Rc⟩ := RT.back (g := ltD) (L := cl) Dcl fun x => ⟨_, rfl⟩
      have mcl := List.mem_of_getElem? hcl
      have jl : j < sy.cls.length := (List.getElem?_eq_some_iff.mp hcl).1
      have lcl := cl_len ok mcl
      refine fun aD hD => ?_
      have S4 := same_new (o := .dK []) hD
      refine ⟨_, rfl, aG, rfl, ⟨_, SqL.of (S4 _ _ (Sc _ _ eG))⟩, ?_⟩
      refine for_list (K := K) (a := aG) (xs := as.map V.ref) (fun i σ H' => ∃ (o9 o10 o11 o12 o13 : Option V) (Dd : List DRow) (o : HO) (L : List GRow), σ = [some (.ref a0), some (.ref a1), some (.ref a2), some (.ref a3), some (.ref aS), some (.ref aG), some (.ref aL), some (.ref tc), some (.ref aD), o9, o10, o11, o12, o13] ∧
          DnS w aD Dd o ∧ H' aD = some o ∧ RD H' Dd L ∧ Same Hc H' ∧ L.length ≤ i ∧ ∀ y, y ∈ L ↔ ∃ g ∈ (playsL sy.picks).take i, live sy (ofG g) cl ∧ y = rowAt sy (ofG g) cl)
        ⟨_, _, _, _, _, [], _, [], rfl, .inr ⟨rfl, rfl⟩, upd_same, RD.nil, S4, Nat.le_refl _, fun y => by simp⟩ (fun i σ H' _ ⟨_, _, _, _, _, _, _, _, _, _, _, _, S, _⟩ => SqL.of (S _ _ (Sc _ _ eG))) ?_ ?_
      · rintro i z σ Hd hz ⟨o9, o10, o11, o12, o13, Dd, o, L, rfl, hDn, eD, rd, Sd, lL, mL⟩
        rw [List.getElem?_map] at hz
        obtain ⟨a, ha, rfl⟩ := Option.map_eq_some_iff.mp hz
        obtain ⟨g, hg, ea⟩ := gm_at (gm_same gm (Sc.trans Sd)) ha
        have gp := (playsL_mem _).1 g (List.mem_of_getElem? hg)
        have etc' := Sd _ _ etc
        have Rc' := Rc.same Sd
        refine ⟨_, rfl, tc, rfl, ⟨_, SqT.of etc'⟩, fun Dl hDl => ?_⟩
        refine lc_mapT (K := K) (ys := (cl.map (pickSo sy (ofG g))).map V.bl) (SqT.of etc') hDl (by rw [List.length_map, List.length_map, List.length_map, Rc.len]) (by rw [List.length_map, Rc.len]; omega) (fun m x y H5 Qe hx hy S5 k => ?_) gPair_mono fun H5 e5 S5 => ?_
        · rw [List.getElem?_map] at hx
          obtain ⟨r, hr, rfl⟩ := Option.map_eq_some_iff.mp hx
          obtain ⟨l, hl, er, Dl⟩ := (Rc'.same S5).at_ hr
          obtain ⟨t, et, gt⟩ := lt_at Dl
          rw [List.getElem?_map, List.getElem?_map, hl] at hy
          cases hy
          refine ⟨t, _, et, SqT.of gt, rfl, _, _, rfl, _, _, rfl, rfl, rfl, ?_⟩
          refine ⟨_, rfl, _, rfl, a, _, rfl, DGet.k (k := .inr l.1) (S5 _ _ ea), _, rfl, ?_⟩
          by_cases lp : l.1 ∈ sy.picks
          · have hv := ofG_val (g := g) (y := l.1) (by rw [gp]; exact lp)
            rw [hv]
            show if true = true then _ else _
            rw [if_pos rfl]
            refine ⟨_, rfl, _, rfl, a, _, rfl, by have z := DGet.k (k := .inr l.1) (S5 _ _ ea); rw [hv] at z; exact z, _, rfl, rfl, ?_⟩
            have e : decide (V.bl (ofG g l.1) = V.bl l.2) = pickSo sy (ofG g) l := by
              unfold pickSo
              rw [decide_eq_true lp, Bool.true_and]
              cases ofG g l.1 <;> cases l.2 <;> rfl
            rw [e]
            exact k _ (Same.refl _)
          · rw [ofG_none (g := g) (y := l.1) (by rw [gp]; exact lp)]
            show if false = true then _ else _
            rw [if_neg (by decide)]
            have e : false = pickSo sy (ofG g) l := by
              unfold pickSo
              rw [decide_eq_false lp]
              rfl
            have z := k _ (Same.refl _)
            rw [← e] at z
            exact z
        · refine ⟨Dl, _, rfl, SqL.of e5, _, rfl, ?_⟩
          have hliv := live_iff ok (ofG g) mcl
          have S05 := Sd.trans S5
          have eD5 := S5 _ _ eD
          have rd5 := rd.same S5
          have il : i < (playsL sy.picks).length := (List.getElem?_eq_some_iff.mp hg).1
          by_cases hb : ((cl.map (pickSo sy (ofG g))).any id) = true
          · rw [hb]
            show if (!true) = true then _ else _
            rw [if_neg (by decide)]
            refine ⟨_, _, _, _, _, Dd, o, L, rfl, hDn, eD5, rd5, S05, by omega, fun y => ?_⟩
            have nl : ¬ live sy (ofG g) cl := fun z => by
              rw [hliv.mp z] at hb
              cases hb
            rw [mL y, take_next hg]
            constructor
            · rintro ⟨g', hg', z⟩
              exact ⟨g', List.mem_append_left _ hg', z⟩
            · rintro ⟨g', hg', z⟩
              rcases List.mem_append.mp hg' with w | w
              · exact ⟨g', w, z⟩
              · cases List.mem_singleton.mp w
                exact absurd z.1 nl
          · replace hb : ((cl.map (pickSo sy (ofG g))).any id) = false := by
              cases h : ((cl.map (pickSo sy (ofG g))).any id) with
              | false => rfl
              | true => exact absurd h hb
            rw [hb]
            show if (!false) = true then _ else _
            rw [if_pos (by decide)]
            have lv := hliv.mpr hb
            refine ⟨Nat.zero_le _, fun aR hR => ?_⟩
            have S6 := same_new (o := .lst ([] : List V)) hR
            have etc5 := S5 _ _ etc'
            have Rc5 := Rc'.same S5
            have sg5 := sgb.same (Sc.trans S05)
            have ea5 := S5 _ _ ea
            refine ⟨_, rfl, tc, rfl, ⟨_, SqT.of (S6 _ _ etc5)⟩, ?_⟩
            refine for_tup (K := K) (a := tc) (xs := Tc.map TRow.v) (fun k σ H' => ∃ (o10 o11 o13 : Option V) (Tr : List TRow), σ = [some (.ref a0), some (.ref a1), some (.ref a2), some (.ref a3), some (.ref aS), some (.ref aG), some (.ref aL), some (.ref tc), some (.ref aD), some (.ref a), o10, o11, some (.ref aR), o13] ∧
                H' aR = some (.lst (Tr.map TRow.v)) ∧ RT glD H' Tr (rowAt sy (ofG g) (cl.take k)) ∧ Same H5 H')
              ⟨_, _, _, [], rfl, upd_same, RT.nil, S6⟩ (fun k σ H' _ ⟨_, _, _, _, _, _, _, S⟩ => SqT.of (S _ _ etc5)) ?_ ?_
            · rintro k x σ H6 hx ⟨o10, o11, o13, Tr, rfl, eR, rT, S6⟩
              rw [List.getElem?_map] at hx
              obtain ⟨r, hr, rfl⟩ := Option.map_eq_some_iff.mp hx
              obtain ⟨l, hl, er, Dl⟩ := (Rc5.same S6).at_ hr
              obtain ⟨t, et, gt⟩ := lt_at Dl
              have kl : k < cl.length := (List.getElem?_eq_some_iff.mp hl).1
              have lTr : Tr.length ≤ k := by
                rw [rT.len]
                refine Nat.le_trans rowAt_len ?_
                rw [List.length_take]
                omega
              obtain ⟨kv, eS, hS1, hS2⟩ := (sg5.same S6).ex
              refine ⟨t, _, et, SqT.of gt, rfl, _, _, rfl, _, _, rfl, rfl, ?_⟩
              refine ⟨_, rfl, _, rfl, aS, _, rfl, DGet.k (k := .inr l.1) eS, _, rfl, ?_⟩
              by_cases lo : l.1 ∈ sy.owns.map Prod.fst
              · obtain ⟨ow, how, eow⟩ := List.mem_map.mp lo
                obtain ⟨ts, hts, gts⟩ := hS1 ow how
                rw [eow] at hts
                rw [hts]
                show if true = true then _ else _
                rw [if_pos rfl]
                have og := ok.on ow how
                have lw : ow.2.length ≤ 4 := by
                  have z := nodup_le (m := sy.picks) (nodup_tlt og.2.2.1) og.2.2.2
                  omega
                refine ⟨_, rfl, .inl ⟨rfl, _, SqL.of eR⟩, _, rfl, _, rfl, _, rfl, aS, _, rfl, by have z := DGet.k (k := .inr l.1) eS; rw [hts] at z; exact z, ts, rfl, ⟨_, SqT.of gts⟩, fun Dk hDk => ?_⟩
                refine lc_mapT (K := K) (ys := (ow.2.map (ofG g)).map V.bl) (SqT.of gts) hDk (by simp only [List.length_map]) (by rw [List.length_map]; omega) (fun m x y H7 Qe hx2 hy2 S7 kq => ?_) gName_mono fun H7 e7 S7 => ?_
                · rw [List.getElem?_map] at hx2
                  obtain ⟨pk, hpk, rfl⟩ := Option.map_eq_some_iff.mp hx2
                  rw [List.getElem?_map, List.getElem?_map, hpk] at hy2
                  cases hy2
                  have hv := ofG_val (g := g) (y := pk) (by rw [gp]; exact og.2.2.2 pk (List.mem_of_getElem? hpk))
                  exact ⟨rfl, _, rfl, _, rfl, a, _, rfl, by have z := DGet.k (k := .inr pk) (S7 _ _ (S6 _ _ ea5)); rw [hv] at z; exact z, kq _ (Same.refl _)⟩
                · refine .inl ⟨Dk, _, rfl, SqL.of e7, fun t1 ht1 => ⟨s2, fun t2 ht2 => ⟨_, rfl, s2, fun t3 ht3 => ?_⟩⟩⟩
                  have n1 := same_new (o := .tup ((ow.2.map (ofG g)).map V.bl)) ht1
                  have n2 := same_new (o := .tup [V.str l.1, .ref t1]) ht2
                  have n3 := same_new (o := .tup [V.ref t2, .bl l.2]) ht3
                  have S9 := (S7.trans n1).trans (n2.trans n3)
                  have eR9 := S9 _ _ eR
                  have Dc : Dat (upd (upd (upd H7 t1 (.tup ((ow.2.map (ofG g)).map V.bl))) t2 (.tup [V.str l.1, .ref t1])) t3 (.tup [V.ref t2, .bl l.2])) (.ref t3) (glD ((l.1, (sgOf sy l.1).map (ofG g)), l.2)) := by
                    rw [← eow, sgOf_own ok how, eow]
                    exact .tup upd_same (.cons (.tup (n3 _ _ upd_same) (.cons (.str _) (.cons (.tup (n3 _ _ (n2 _ _ upd_same)) (dats_blsX _)) .nil))) (.cons (.bl _) .nil))
                  refine ⟨aR, _, _, rfl, rfl, eR9, by rw [List.length_map]; exact small1000 (by omega), ?_⟩
                  have Kt : ∀ b xs, _ = some (HO.tup xs) → _ := tk_put (o := .lst (Tr.map TRow.v ++ [V.ref t3])) (lst_no eR9)
                  refine ⟨_, _, _, Tr ++ [(t3, glD ((l.1, (sgOf sy l.1).map (ofG g)), l.2))], rfl, by rw [upd_same, List.map_append]; rfl, ?_, same_upd (S6.trans S9) hR⟩
                  rw [rowAt_snoc hl]
                  unfold rowL
                  rw [if_pos (show ownL sy l = true from decide_eq_true lo)]
                  exact ((rT.same S9).tk keyable_gl Kt).snoc rfl (dat_tk Kt _ _ (keyable_gl _) Dc)
              · rw [hS2 l.1 lo]
                show if false = true then _ else _
                rw [if_neg (by decide)]
                refine ⟨_, _, _, Tr, rfl, eR, ?_, S6⟩
                rw [rowAt_snoc hl]
                unfold rowL
                rw [if_neg (show ¬ ownL sy l = true from fun z => lo (of_decide_eq_true z)), List.append_nil]
                exact rT
            · rintro σ H6 ⟨o10, o11, o13, Tr, rfl, eR, rT, S6⟩
              rw [List.length_map, Rc.len, List.take_length] at rT
              have S06 := S05.trans S6
              refine ⟨_, rfl, _, rfl, .inl ⟨aR, _, rfl, SqL.of eR, fun tr htr => ?_⟩⟩
              have n1 := same_new (o := .tup (Tr.map TRow.v)) htr
              have Dr : Dat (upd H6 tr (.tup (Tr.map TRow.v))) (.ref tr) (rowD (rowAt sy (ofG g) cl)) := (rT.same n1).dat upd_same
              have rd7 := rd.same ((S5.trans S6).trans n1)
              have eD7 := n1 _ _ (S6 _ _ eD5)
              obtain ⟨L', rd8, lL8, mL8⟩ := rd7.put (v := .bl true) Dr
              have lDd := rd.len
              refine ⟨aD, tr, Dd, rowD (rowAt sy (ofG g) cl), rfl, rfl, hDn.at eD7, rd7.keys, Dr, keyable_row _, by have := depth_row (rowAt sy (ofG g) cl); omega, small1000 (by omega), ?_⟩
              refine ⟨_, _, _, _, _, _, _, L', rfl, .inl rfl, upd_same, rd8.tk (tk_put fun xs z => hDn.nt xs (by rw [eD7] at z; exact Option.some.inj z)), same_upd (S06.trans n1) hD, by omega, fun y => ?_⟩
              rw [mL8, mL, take_next hg]
              constructor
              · rintro (⟨g', hg', z⟩ | z)
                · exact ⟨g', List.mem_append_left _ hg', z⟩
                · exact ⟨g, List.mem_append_right _ List.mem_cons_self, lv, z⟩
              · rintro ⟨g', hg', z⟩
                rcases List.mem_append.mp hg' with w | w
                · exact .inl ⟨g', w, z⟩
                · cases List.mem_singleton.mp w
                  exact .inr z.2
      · rintro σ Hd ⟨o9, o10, o11, o12, o13, Dd, o, L, rfl, hDn, eD, rd, Sd, lL, mL⟩
        rw [List.length_map, las] at lL mL
        rw [List.take_length] at mL
        have eLd := Sd _ _ eL
        refine ⟨_, rfl, .inl ⟨rfl, _, SqL.of eLd⟩, _, rfl, aD, Dd, rfl, hDn.at eD, rd.keys, fun bL hbL => ?_⟩
        have n1 := same_new (o := .lst ((Dd.map Prod.fst).map TRow.v)) hbL
        have eL2 := n1 _ _ eLd
        have nb : bL ≠ aL := (ne_of_none eLd hbL).symm
        refine ⟨aL, _, _, rfl, rfl, eL2, by rw [List.length_map, lW]; exact small1000 (by omega), ?_⟩
        have Kt := tk_put (o := .lst ((Ws.map fun x => V.ref x.1) ++ [V.ref bL])) (lst_no eL2)
        have Rn : Rw (upd Hd bL (.lst ((Dd.map Prod.fst).map TRow.v))) bL (Dd.map Prod.fst) L := ⟨upd_same, rd.R.same n1, by omega, fun r hr => by
          obtain ⟨g, _, _, e⟩ := (mL r).mp hr
          rw [e]
          exact rowAt_six ok o6 _ mcl⟩
        have eW : rowsW (Ws ++ [(bL, Dd.map Prod.fst, L)]) = rowsW Ws ++ L := by
          unfold rowsW
          rw [List.flatMap_append]
          simp
        refine ⟨_, _, _, _, _, _, _, Ws ++ [(bL, Dd.map Prod.fst, L)], rfl, same_upd (Sc.trans (Sd.trans n1)) hL, by rw [upd_same, List.map_append]; rfl, fun x hx => ?_, by rw [List.length_append, lW]; rfl, by rw [eW, List.length_append]; omega, fun r => ?_⟩
        · rcases List.mem_append.mp hx with z | z
          · exact ⟨((hW x z).1.same (Sd.trans n1)).put (hW x z).2.symm (lst_no eL2), (hW x z).2⟩
          · cases List.mem_singleton.mp z
            exact ⟨Rn.put nb.symm (lst_no eL2), nb⟩
        · rw [eW, List.mem_append, mR, mL, take_next hcl]
          constructor
          · rintro (⟨q', hq', c', hc', z⟩ | ⟨g, hg, z⟩)
            · exact ⟨q', hq', c', List.mem_append_left _ hc', z⟩
            · exact ⟨ofG g, List.mem_map_of_mem hg, cl, List.mem_append_right _ List.mem_cons_self, z⟩
          · rintro ⟨q', hq', c', hc', z⟩
            rcases List.mem_append.mp hc' with y | y
            · exact .inl ⟨q', hq', c', y, z⟩
            · cases List.mem_singleton.mp y
              obtain ⟨g, hg, rfl⟩ := List.mem_map.mp hq'
              exact .inr ⟨g, hg, z⟩
    · rintro σ Hd ⟨o7, o8, o9, o10, o11, o12, o13, Ws, rfl, Sd, eL, hW, lW, lR, mR⟩
      rw [List.length_map, R3.len] at lW lR mR
      rw [List.take_length] at mR
      exact ⟨_, rfl, q aL Ws Hd (Sb.trans Sd) hLH ⟨eL, fun x hx => (hW x hx).1⟩ lW (by omega) mR⟩
end
end S4

set_option Elab.async false
set_option linter.all false
set_option maxRecDepth 100000
set_option maxHeartbeats 4000000
/-! whether a saying has answers, as the law asks it -/
namespace S4
open PySem PySem.W PySem.Spec PyProof.Rows L2 S1
def spAsked : Sp := fun vs H Q _ => ∃ (v : V) (s : Say) (ro : Addr) (k : Int), vs = [v, .ref ro] ∧ DatF H v s ∧ SayOk 6 8 120 40 s ∧ s.picks.length ≤ 4 ∧ s.owns.length ≤ 6 ∧ H ro = some (.lst [.int k]) ∧ -2 ≤ k ∧ k ≤ 9000 ∧
  ∀ (b : Bool) (k' : Int) (H' : Hp), Kp ro H H' → H' ro = some (.lst [.int k']) → -2 ≤ k' → k' ≤ k → (0 < k' → (b = true ↔ Sat s)) → Q (.bl b) H'
section
variable {P : Program} {w : World} {K : PySem.W.Frag} {mg : Str → Option Value} {base : Heap}
theorem scAk : FnScope ["saying", "room", "spelled"] ["saying", "room"] (defScope sLAsked) := ⟨rfl, rfl, rfl, by decide +kernel, rfl, by decide +kernel, by decide +kernel⟩
theorem ok_lAsked {f fS fH fP fC fW : Addr} {fd fdS fdH fdP fdC fdW : FuncData} (F : Fun K "_law_asked" "_law_asked" sLAsked f fd) (B : Blt mg) (an : mg "any" = none) (Sp : Has K mg "_law_spelled" sLSpelled ["saying"] fS fdS) (Pl : Has K mg "_law_plays" sLPlays ["picks"] fP fdP)
    (Hs : Has K mg "_law_has" sLHas ["spelled", "lot", "room"] fH fdH) (Cn : Has K mg "_law_can" sLCan ["rows", "room"] fC fdC) (Wi : Has K mg "_law_with" sLWith ["rows", "copy", "truth"] fW fdW) : FnOk P w K mg base CX0 4 f fd ["saying", "room"] spAsked := by
  have GS : FnOk P w K mg base CX0 2 fS fdS ["saying"] spSpelled := ok_lSpelled Sp.F B an Pl
  have GH : FnOk P w K mg base CX0 3 fH fdH ["spelled", "lot", "room"] spHas := ok_lHas Hs.F B Cn Wi
  refine F.ok scAk (fun vs H Q E h => ?_) (fun cdv A outer s H vs Q E hr h => ?_)
  · obtain ⟨v, sy, ro, k, rfl, _⟩ := h
    rfl
  · obtain ⟨v, sy, ro, k, rfl, D, ok, p4, o6, er, km, kM, q⟩ := h
    refine ⟨_, pss_cons (ps_set (i := 2) scAk.nd rfl (.inl rfl) (pe_call GS (hr.mono (by decide)) rfl Sp.g Sp.F.kp Sp.b .nil pass0 (pa_cons (pv 0) pa_nil)))
      (pss_one (ps_ret (pe_call GH hr rfl Hs.g Hs.F.kp Hs.b .nil pass0 (pa_cons (pv 2) (pa_cons (pe_listRg rfl (by rfl) B.list (prg_1 (by rfl) B.range (pe_callB call_len_seq (by rfl) B.len (by decide +kernel) (pa_cons (pv 2) pa_nil)))) (pa_cons (pv 1) pa_nil)))))), ?_⟩
    have lc := ok.cl
    refine ⟨_, rfl, v, sy, rfl, D, ok, p4, o6, fun sp Ws H1 S1 hsp WL lW lR mR => ?_⟩
    refine ⟨_, rfl, _, rfl, _, _, rfl, .inl (SqL.of WL.e), ?_⟩
    refine ⟨_, rfl, RgOk.of_le (by decide) (by rw [List.length_map]; omega) (by decide) (by omega), fun lo hlo => ?_⟩
    have e : rgV 0 ((Ws.map fun x => V.ref x.1).length : Nat) = (List.range Ws.length).map fun i => V.int (i : Nat) := by
      unfold rgV
      rw [List.length_map, show (((Ws.length : Nat) : Int) - 0).toNat = Ws.length by omega]
      refine List.map_congr_left fun i _ => ?_
      rw [Int.zero_add]
    rw [e]
    have S2 := same_new (o := .lst ((List.range Ws.length).map fun i => V.int (i : Nat))) hlo
    have S12 := S1.trans S2
    refine ⟨_, rfl, sp, lo, ro, Ws, k, rfl, S12 _ _ er, WL.same S2, upd_same, lR, km, kM, fun b k' H' kp er' h1 h2 h3 => q b k' H' ((Kp.of S12).trans kp) er' h1 h2 fun p => (h3 p).trans ?_⟩
    exact sat_rows ok (pls_all sy) mR
end
end S4

set_option Elab.async false
set_option linter.all false
set_option maxRecDepth 100000
set_option maxHeartbeats 4000000
/-! sayings with planted answers, as the law draws them -/
namespace S4
open PySem PySem.W PySem.Spec PyProof.Rows L2 S1
/-- a copy, told at a play -/
def tCp (K : PySem.W.Frag) : TE := tTup (tCons (tVar 10) (tCons (tThen (tLc (iTup K (tVar 11)) (gName 17) tYes (tDGet (tVar 9) (tVar 17)) [17]) (kTup K)) tNil))
theorem cp_val {K : PySem.W.Frag} {σ : L2.St} {H : Hp} {o : Own} {g : List Ltr} {t' a : Addr} {Q : VK} (e10 : σ[10]? = some (some (.str o.1))) (e11 : σ[11]? = some (some (.ref t'))) (et : H t' = some (.tup (o.2.map V.str))) (ea : H a = some (.dK (ltK g)))
    (sub : ∀ y ∈ o.2, y ∈ g.map Prod.fst) (len : o.2.length ≤ 1000) (h9 : ∀ y : V, ((wipe σ [17]).set 17 (some y))[9]? = some (some (.ref a))) (h17 : ∀ y : V, ((wipe σ [17]).set 17 (some y))[17]? = some (some y)) (hw : ∀ y : V, wipe ((wipe σ [17]).set 17 (some y)) [17] = wipe σ [17])
    (q : ∀ (b : Addr) (H' : Hp), Same H H' → H b = none → Dat H' (.ref b) (cpD (o.1, o.2.map (ofG g))) → Q (.ref b) H') : tCp K σ H Q := by
  refine ⟨_, e10, _, e11, t', rfl, ⟨_, SqT.of et⟩, fun Dk hDk => ?_⟩
  refine lc_mapT (K := K) (ys := (o.2.map (ofG g)).map V.bl) (SqT.of et) hDk (by simp only [List.length_map]) (by rw [List.length_map]; omega) (fun m x y H7 Qe hx2 hy2 S7 kq => ?_) gName_mono fun H7 e7 S7 => ?_
  · rw [List.getElem?_map] at hx2
    obtain ⟨pk, hpk, rfl⟩ := Option.map_eq_some_iff.mp hx2
    rw [List.getElem?_map, List.getElem?_map, hpk] at hy2
    cases hy2
    have hv := ofG_val (g := g) (y := pk) (sub pk (List.mem_of_getElem? hpk))
    exact ⟨hw _, _, h9 _, _, h17 _, a, _, rfl, by have z := DGet.k (k := .inr pk) (S7 _ _ ea); rw [hv] at z; exact z, kq _ (Same.refl _)⟩
  · refine .inl ⟨Dk, _, rfl, SqL.of e7, fun t1 ht1 => ⟨(by show 2 ≤ sizeLine; decide), fun t2 ht2 => ?_⟩⟩
    have n1 := same_new (o := .tup ((o.2.map (ofG g)).map V.bl)) ht1
    have n2 := same_new (o := .tup [V.str o.1, .ref t1]) ht2
    exact q t2 _ (S7.trans (n1.trans n2)) ((S7.trans n1).free ht2) (.tup upd_same (.cons (.str _) (.cons (.tup (n2 _ _ upd_same) (dats_blsX _)) .nil)))
/-- a dict of drawn tables: keyed by copies, its values truths -/
structure TB (H : Hp) (D : List DRow) (L : List Cp) : Prop where
  R : RT cpD H (D.map Prod.fst) L
  v : ∀ x ∈ D, ∃ b, x.2 = .bl b
section
variable {H H' : Hp} {D : List DRow} {L : List Cp}
theorem TB.tk (h : TB H D L) (K : ∀ b xs, H b = some (.tup xs) → H' b = some (.tup xs)) : TB H' D L := ⟨h.R.tk keyable_cp K, h.v⟩
theorem TB.nil : TB H [] [] := ⟨RT.nil, fun x hx => absurd hx (by simp)⟩
theorem TB.len (h : TB H D L) : D.length = L.length := by
  have z := h.R.len
  rw [List.length_map] at z
  exact z
theorem TB.keys (h : TB H D L) : KeysAt H D := fun p hp => by
  obtain ⟨z1, z2, z3⟩ := h.R.keys keyable_cp (fun x => by have := depth_cp x; omega) p.1 (List.mem_map_of_mem hp)
  exact ⟨z1, z2, z3⟩
theorem TB.put {t : Addr} {x : Cp} {b : Bool} (h : TB H D L) (Dx : Dat H (.ref t) (cpD x)) (e : lookN D (cpD x) = none) : TB H (putN D (t, cpD x) (.bl b)) (L ++ [x]) := by
  rw [putN_new e]
  refine ⟨?_, fun y hy => ?_⟩
  · rw [List.map_append]
    exact h.R.snoc rfl Dx
  · rcases List.mem_append.mp hy with z | z
    · exact h.v y z
    · cases List.mem_singleton.mp z
      exact ⟨b, rfl⟩
theorem TB.look (h : TB H D L) {x : Cp} (hx : x ∈ L) : ∃ b, lookN D (cpD x) = some (.bl b) := by
  obtain ⟨i, hi⟩ := List.getElem?_of_mem hx
  obtain ⟨p, hp, ep, _⟩ := h.R.of hi
  obtain ⟨q, hq, rfl⟩ := List.mem_map.mp (List.mem_of_getElem? hp)
  cases e : lookN D (cpD x) with
  | none => exact absurd (by rw [ep]) (lookN_none.mp e q hq)
  | some v =>
    unfold lookN at e
    obtain ⟨r, hr, rfl⟩ := Option.map_eq_some_iff.mp e
    obtain ⟨b, hb⟩ := h.v r (List.mem_of_find?_eq_some hr)
    exact ⟨b, by rw [hb]⟩
theorem TB.there (h : TB H D L) {x : Cp} {v : V} (e : lookN D (cpD x) = some v) : x ∈ L := by
  have ns : lookN D (cpD x) ≠ none := by rw [e]; simp
  have : ∃ p ∈ D, nkey p.1.2 = nkey (cpD x) := Classical.byContradiction fun no => ns (lookN_none.mpr fun p hp ep => no ⟨p, hp, ep⟩)
  obtain ⟨p, hp, ep⟩ := this
  obtain ⟨i, hi⟩ := List.getElem?_of_mem (List.mem_map_of_mem (f := Prod.fst) hp)
  obtain ⟨x', hx', e', _⟩ := h.R.at_ hi
  rw [e'] at ep
  rw [← nkey_cp.mp ep]
  exact List.mem_of_getElem? hx'
end
theorem DnS.nz {w : World} {a : Addr} {D : List DRow} {o : HO} (h : DnS w a D o) : ∀ xs, o ≠ .lst xs := by
  rcases h with rfl | ⟨rfl, rfl⟩
  · exact fun xs z => by cases z
  · exact fun xs z => by cases z
theorem dr_tk {H G : Hp} {p : Addr} {c c0 : Nat} (d : Dr H p c G) (hs : Src H p c0) : ∀ b xs, H b = some (.tup xs) → G b = some (.tup xs) := fun b xs e => d.keep e fun z => by
  obtain ⟨ys, hy⟩ := hs.lst
  rw [z, hy] at e
  cases e
theorem gm_dr {H G : Hp} {p : Addr} {c c0 : Nat} {as : List Addr} {gs : List (List Ltr)} (g : Gm H as gs) (d : Dr H p c G) (hs : Src H p c0) : Gm G as gs := paired_mono (fun a x e => d.keep e fun z => by
  obtain ⟨ys, hy⟩ := hs.lst
  rw [z, hy] at e
  cases e) g
/-- the dicts of tables and of clauses, while draws are made -/
structure PI (w : World) (H1 : Hp) (p aT aF : Addr) (ws : List Str) (c : Nat) (G : Hp) (DT : List DRow) (LT : List Cp) (DF : List DRow) (cls : List (List Ltr)) : Prop where
  d : Dr H1 p c G
  eT : ∃ o, DnS w aT DT o ∧ G aT = some o
  eF : ∃ o, DnS w aF DF o ∧ G aF = some o
  T : TB G DT LT
  F : CD DF cls ws
  R : RT clD G (DF.map Prod.fst) cls
  hT : H1 aT = none
  hF : H1 aF = none
  nT : aT ≠ p
  nF : aF ≠ p
  n : aT ≠ aF
section
variable {w : World} {H1 G G2 : Hp} {p aT aF : Addr} {ws : List Str} {c c' : Nat} {DT DF : List DRow} {LT : List Cp} {cls : List (List Ltr)}
theorem PI.dr (h : PI w H1 p aT aF ws c G DT LT DF cls) (d2 : Dr G p c' G2) : PI w H1 p aT aF ws c' G2 DT LT DF cls := by
  obtain ⟨o1, z1, z2⟩ := h.eT
  obtain ⟨o2, y1, y2⟩ := h.eF
  exact ⟨h.d.trans d2, ⟨o1, z1, d2.keep z2 h.nT⟩, ⟨o2, y1, d2.keep y2 h.nF⟩, h.T.tk (dr_tk d2 h.d.s), h.F, h.R.tk keyable_cl (dr_tk d2 h.d.s), h.hT, h.hF, h.nT, h.nF, h.n⟩
theorem PI.same (h : PI w H1 p aT aF ws c G DT LT DF cls) (S : Same G G2) : PI w H1 p aT aF ws c G2 DT LT DF cls := h.dr ((Dr.start h.d.s).same S)
theorem PI.src {o : HO} (h : PI w H1 p aT aF ws c G DT LT DF cls) (hs : Src (upd G p o) p c') : PI w H1 p aT aF ws c' (upd G p o) DT LT DF cls := h.dr ((Dr.start h.d.s).src hs)
theorem PI.up (h : PI w H1 p aT aF ws c G DT LT DF cls) (le : c ≤ c') : PI w H1 p aT aF ws c' G DT LT DF cls := { h with d := h.d.up le }
theorem PI.ntT (h : PI w H1 p aT aF ws c G DT LT DF cls) : ∀ xs, G aT ≠ some (.tup xs) := fun xs z => by
  obtain ⟨o1, z1, z2⟩ := h.eT
  rw [z2] at z
  exact z1.nt xs (Option.some.inj z)
theorem PI.ntF (h : PI w H1 p aT aF ws c G DT LT DF cls) : ∀ xs, G aF ≠ some (.tup xs) := fun xs z => by
  obtain ⟨o1, z1, z2⟩ := h.eF
  rw [z2] at z
  exact z1.nt xs (Option.some.inj z)
theorem PI.putT {t : Addr} {x : Cp} {b : Bool} (h : PI w H1 p aT aF ws c G DT LT DF cls) (Dx : Dat G (.ref t) (cpD x)) (e : lookN DT (cpD x) = none) : PI w H1 p aT aF ws c (upd G aT (DnO w aT (putN DT (t, cpD x) (.bl b)))) (putN DT (t, cpD x) (.bl b)) (LT ++ [x]) DF cls := by
  obtain ⟨o2, y1, y2⟩ := h.eF
  exact ⟨h.d.put h.hT h.nT, ⟨_, .inl rfl, upd_same⟩, ⟨o2, y1, by rw [upd_ne h.n.symm]; exact y2⟩, (h.T.put Dx e).tk (tk_put h.ntT), h.F, h.R.tk keyable_cl (tk_put h.ntT), h.hT, h.hF, h.nT, h.nF, h.n⟩
end
end S4

set_option Elab.async false
set_option linter.all false
set_option maxRecDepth 100000
set_option maxHeartbeats 4000000
/-! _law_planted -/
namespace S4
open PySem PySem.W PySem.Spec PyProof.Rows L2 S1
theorem PI.putF {w : World} {H1 G : Hp} {p aT aF r : Addr} {ws : List Str} {c : Nat} {DT DF : List DRow} {LT : List Cp} {cls : List (List Ltr)} {cl : List Ltr} {v : V} (h : PI w H1 p aT aF ws c G DT LT DF cls) (Dc : Dat G (.ref r) (clD cl)) (ck : ClOk ws cl) :
    ∃ cls', cls'.length ≤ cls.length + 1 ∧ PI w H1 p aT aF ws c (upd G aF (DnO w aF (putN DF (r, clD cl) v))) DT LT (putN DF (r, clD cl) v) cls' := by
  obtain ⟨cls', cd', lc, mem⟩ := h.F.put (r := r) (v := v) ck
  obtain ⟨o1, z1, z2⟩ := h.eT
  refine ⟨cls', lc, h.d.put h.hF h.nF, ⟨o1, z1, by rw [upd_ne h.n]; exact z2⟩, ⟨_, .inl rfl, upd_same⟩, h.T.tk (tk_put h.ntF), cd', ⟨cd'.e, fun q hq => ?_⟩, h.hT, h.hF, h.nT, h.nF, h.n⟩
  rcases mem q hq with y | rfl
  · have m : q.2 ∈ cls.map clD := h.R.e ▸ List.mem_map_of_mem y
    obtain ⟨x, _, e⟩ := List.mem_map.mp m
    exact dat_tk (tk_put h.ntF) _ _ (by rw [← e]; exact keyable_cl x) (h.R.D q y)
  · exact dat_tk (tk_put h.ntF) _ _ (keyable_cl cl) Dc
def spPlanted : Sp := fun vs H Q _ => ∃ (p : Addr) (v : V) (c a b m d : Nat) (sy : Say), vs = [.ref p, v, .int 20] ∧ Src H p c ∧ c ≤ 30000 ∧ DatF H v sy ∧ SayOk a b m d sy ∧ a ≤ 4 ∧ b ≤ 6 ∧
  ∀ (v' : V) (sy' : Say) (H' : Hp), DatF H' v' sy' → SayOk a b m 20 sy' → Dr H p (c + 11000) H' → Q v' H'
abbrev nPt : List Str := ["pot", "saying", "clauses", "picks", "owns", "old", "games", "tables", "found", "play", "name", "sight", "copy", "turn", "clause", "so", "truths", "pick", "truth"]
section
variable {P : Program} {w : World} {K : PySem.W.Frag} {mg : Str → Option Value} {base : Heap}
theorem scPt : FnScope nPt ["pot", "saying", "clauses"] (defScope sLPlanted) := ⟨rfl, rfl, rfl, by decide +kernel, rfl, by decide +kernel, by decide +kernel⟩
theorem ok_lPlanted {f fP fC fG : Addr} {fd fdP fdC fdG : FuncData} (F : Fun K "_law_planted" "_law_planted" sLPlanted f fd) (Pk : Has K mg "_law_draw" sDraw ["pot", "top"] fP fdP) (Cl : Has K mg "_law_clause" sLClause ["pot", "picks", "owns", "most"] fC fdC) (Pl : Has K mg "_law_plays" sLPlays ["picks"] fG fdG)
    (B : Blt mg) (an : mg "any" = none) : FnOk P w K mg base CX0 3 f fd ["pot", "saying", "clauses"] spPlanted := by
  have GP : FnOk P w K mg base CX0 1 fP fdP ["pot", "top"] spPick := ok_pick Pk.F B
  have GC : FnOk P w K mg base CX0 2 fC fdC ["pot", "picks", "owns", "most"] spDrCl := ok_drCl Cl.F Pk B
  have GG : FnOk P w K mg base CX0 1 fG fdG ["picks"] spPlays := ok_lPlays Pl.F B
  refine F.ok scPt (fun vs H Q E h => ?_) (fun cdv A outer s H vs Q E hr h => ?_)
  · obtain ⟨p, v, c, a, b, m, d, sy, rfl, _⟩ := h
    rfl
  · obtain ⟨p, v, c, a, b, m, d, sy, rfl, hs, hc, D, ok, ha, hb, q⟩ := h
    have hu : (A.deeper (envOfC "_law_planted" (defScope sLPlanted) s.heap.objs.size f cdv)).units + 64 < cLine := hr.units
    have hu1 : (A.deeper (envOfC "_law_planted" (defScope sLPlanted) s.heap.objs.size f cdv)).units + 1 < cLine := by omega
    have hu16 : (A.deeper (envOfC "_law_planted" (defScope sLPlanted) s.heap.objs.size f cdv)).units + 16 < cLine := by omega
    have hr1 := hr.mono (show 1 ≤ 2 by decide)
    refine ⟨_, pss_cons (ps_asg (pv 1) (pg_tup rfl (pgs_cons (pg_name (i := 3) scPt.nd rfl (.inl rfl)) (pgs_cons (pg_name (i := 4) scPt.nd rfl (.inl rfl)) (pgs_cons (pg_name (i := 5) scPt.nd rfl (.inl rfl)) pgs_nil)))))
      (pss_cons (ps_par3 (i := 6) (j := 7) (l := 8) rfl scPt.nd rfl rfl rfl (by decide) (by decide) (by decide) rfl rfl rfl
          (pa_cons (pe_call GG hr1 rfl Pl.g Pl.F.kp Pl.b .nil pass0 (pa_cons (pv 3) pa_nil)) (pa_cons pe_dnewK (pa_cons pe_dnewK pa_nil))) (by with_unfolding_all rfl))
      (pss_cons (ps_for PassesOwn.never rfl (pi_list (pv 6)) (pg_name (i := 9) scPt.nd rfl (.inr rfl))
        (pss_one (ps_for PassesOwn.never rfl (pi_tup (pv 4)) (pg_tup rfl (pgs_cons (pg_name (i := 10) scPt.nd rfl (.inl rfl)) (pgs_cons (pg_name (i := 11) scPt.nd rfl (.inl rfl)) pgs_nil)))
          (pss_cons (ps_set (i := 12) scPt.nd rfl (.inl rfl) (pe_tup (pa_cons (pv 10) (pa_cons (pe_tupleOf rfl B.tuple (pe_lc (own := [("pick", 17)]) (g := gName 17) (tt := tYes) (te := tDGet (tVar 9) (tVar 17)) rfl scPt.nd (pi_tup (pv 11)) (blkOk_by (N := nPt) (sc := defScope sLPlanted) (by decide +kernel))
              (fun _ _ _ _ _ => pg_name (i := 17) scPt.nd rfl (Or.inl rfl)) (fun _ _ _ _ _ => pts_nil) (fun _ _ _ _ _ => by exact pe_dget (by exact hu1) (pv 9) (pv 17) (fun _ _ => rfl)))) pa_nil))))
          (pss_one (ps_if (pt_cmpR (op_notInN (by exact hu16)) (pv 12) (pv 7) (by with_unfolding_all rfl)) (pss_one (ps_nput (by exact hu16) (pv 7) (pv 12) (pe_cmpR op_eq (pe_call GP hr1 rfl Pk.g Pk.F.kp Pk.b .nil pass0 (pa_cons (pv 0) (pa_cons pe_int pa_nil))) pe_int (nomark _)) (by rfl))) pss_nil))))))
      (pss_cons (ps_for PassesOwn.never rfl (pi_range1 rfl B.range (pa_cons (pe_op op_mul pe_int (pv 2)) pa_nil)) (pg_name (i := 13) scPt.nd rfl (.inl rfl))
        (pss_cons (ps_par (i := 14) (j := 15) rfl scPt.nd rfl rfl (by decide) rfl rfl (pa_cons (pe_call GC hr rfl Cl.g Cl.F.kp Cl.b .nil pass0 (pa_cons (pv 0) (pa_cons (pv 3) (pa_cons (pv 4) (pa_cons pe_int pa_nil))))) (pa_cons pe_bl pa_nil)) (by with_unfolding_all rfl))
        (pss_cons (ps_for PassesOwn.never rfl (pi_list (pv 6)) (pg_name (i := 9) scPt.nd rfl (.inr rfl))
          (pss_cons (ps_set (i := 16) scPt.nd rfl (.inr rfl) (pe_callTy call_dictD (by rfl) B.dict (by decide +kernel) (pa_cons (pv 9) pa_nil)))
          (pss_cons (ps_for PassesOwn.never rfl (pi_tup (pv 4)) (pg_tup rfl (pgs_cons (pg_name (i := 10) scPt.nd rfl (.inl rfl)) (pgs_cons (pg_name (i := 11) scPt.nd rfl (.inl rfl)) pgs_nil)))
            (pss_one (ps_dput (by exact hu1) (pv 16) (pv 10) (pe_nget (by exact hu16) (pv 7) (pe_tup (pa_cons (pv 10) (pa_cons (pe_tupleOf rfl B.tuple (pe_lc (own := [("pick", 17)]) (g := gName 17) (tt := tYes) (te := tDGet (tVar 9) (tVar 17)) rfl scPt.nd (pi_tup (pv 11)) (blkOk_by (N := nPt) (sc := defScope sLPlanted) (by decide +kernel))
              (fun _ _ _ _ _ => pg_name (i := 17) scPt.nd rfl (Or.inl rfl)) (fun _ _ _ _ _ => pts_nil) (fun _ _ _ _ _ => by exact pe_dget (by exact hu1) (pv 9) (pv 17) (fun _ _ => rfl)))) pa_nil))) (fun _ _ => rfl)) (by rfl))))
          (pss_one (ps_set (i := 15) scPt.nd rfl (.inl rfl) (pe_and (pv 15) (pe_one (pe_callB (cr_any rfl) (by rfl) an (by decide +kernel) (pa_cons (pe_lc (own := [("name", 10), ("truth", 18)]) (g := gTup K 2 (gCons (gName 10) (gCons (gName 18) gNil))) (tt := tYes) (te := tOp rEq (tDGet (tVar 16) (tVar 10)) (tVar 18)) rfl scPt.nd
              (pi_tup (pv 14)) (blkOk_by (N := nPt) (sc := defScope sLPlanted) (by decide +kernel)) (fun _ _ _ _ _ => by exact pg_tup rfl (pgs_cons (pg_name (i := 10) scPt.nd rfl (.inl rfl)) (pgs_cons (pg_name (i := 18) scPt.nd rfl (.inl rfl)) pgs_nil))) (fun _ _ _ _ _ => pts_nil)
              (fun _ _ _ _ _ => by exact pe_cmpR op_eq (pe_dget (by exact hu1) (pv 16) (pv 10) (fun _ _ => rfl)) (pv 18) (nomark _))) pa_nil)))))))))
        (pss_one (ps_if (PW.pt (pw_and (pt_val (pv 15)) (pw_and1 (pt_cmpR op_lt (pe_callB call_lenN (by rfl) B.len (by decide +kernel) (pa_cons (pv 8) pa_nil)) (pv 2) (nomark _))))) (pss_one (ps_nput (by exact hu16) (pv 8) (pv 14) pe_bl (by rfl))) pss_nil)))))
      (pss_one (ps_ret (pe_tup (pa_cons (pv 3) (pa_cons (pv 4) (pa_cons (pe_tupleOf rfl B.tuple (pe_callB (cr_sortL (by exact hu)) (by rfl) B.sorted (by decide +kernel) (pa_cons (pe_callTy (call_listDn rfl) (by rfl) B.list (by decide +kernel) (pa_cons (pv 8) pa_nil)) pa_nil))) pa_nil))))))))), ?_⟩
    have s2 : 2 ≤ sizeLine := by decide
    obtain ⟨a0, p1, o1, c1, rfl, e0, Dp, ⟨a2, us, rfl, ⟨ob, hob, eb⟩, Du⟩, Dc⟩ := D
    obtain ⟨a1, rfl, e1⟩ := nms_at Dp
    have ndp : sy.picks.Nodup := nodup_tlt ok.pu
    have p4 : sy.picks.length ≤ 4 := Nat.le_trans ok.pl ha
    have o6 : sy.owns.length ≤ 6 := Nat.le_trans ok.ol hb
    have lus : us.length = sy.owns.length := by rw [Du.len, List.length_map]
    refine ⟨_, rfl, a0, _, rfl, SqT.of e0, rfl, _, _, rfl, _, _, rfl, _, _, rfl, rfl, ?_⟩
    refine ⟨_, rfl, .ref a1, sy.picks, rfl, Dp, ndp, p4, fun aG as H1 S1 hG eG gm has => ?_⟩
    refine fun aT hT => fun aF hF => ⟨_, _, _, rfl, ?_⟩
    have d01 := (Dr.start hs).same S1
    have hs1 : Src H1 p c := d01.s
    have nG : aG ≠ p := (hs.ne hG).symm
    have eb1 := S1 _ _ eb
    have Du1 := DatAll.same S1 Du
    have Dp1 := Dp.same S1
    have nb : a2 ≠ p := fun z => by
      obtain ⟨xs, hx⟩ := hs.lst
      rw [z, hx] at eb
      cases eb
    have ow : ∀ {G : Hp} {c' : Nat}, Dr H1 p c' G → FZ G a2 us ∧ DatAll G us (sy.owns.map ownD) := fun d => ⟨⟨ob, hob, d.keep eb1 nb⟩, dats_tk (dr_tk d hs1) _ _ (keyables_map ownD keyable_own _) Du1⟩
    have lg : (playsL sy.picks).length ≤ 16 := by
      rw [playsL_len]
      exact (show (16 : Nat) = 2 ^ 4 from rfl) ▸ Nat.pow_le_pow_right (by decide) p4
    have las : as.length = (playsL sy.picks).length := Paired.length gm
    have hF1 : H1 aF = none := (same_new (o := .dK []) hT).free hF
    have nTF : aT ≠ aF := ne_of_none (show upd H1 aT (.dK []) aT = _ from upd_same) hF
    have I0 : PI w H1 p aT aF (sy.picks ++ sy.owns.map Prod.fst) c (upd (upd H1 aT (.dK [])) aF (.dK [])) [] [] [] [] :=
      ⟨((Dr.start hs1).new hT).new hF, ⟨_, .inr ⟨rfl, rfl⟩, by rw [upd_ne nTF]; exact upd_same⟩, ⟨_, .inr ⟨rfl, rfl⟩, upd_same⟩, TB.nil, ⟨rfl, List.nodup_nil, fun x hx => absurd hx (by simp)⟩, RT.nil, hT, hF1, (hs1.ne hT).symm, (hs1.ne hF1).symm, nTF⟩
    generalize upd (upd H1 aT (.dK [])) aF (.dK []) = H2 at I0 ⊢
    refine ⟨_, rfl, aG, rfl, ⟨_, SqL.of (I0.d.keep eG nG)⟩, ?_⟩
    refine for_list (K := K) (a := aG) (xs := as.map V.ref) (fun i σ H' => ∃ (o9 o10 o11 o12 : Option V) (DT : List DRow) (LT : List Cp), σ = [some (.ref p), some (.ref a0), some (.int 20), some (.ref a1), some (.ref a2), some c1, some (.ref aG), some (.ref aT), some (.ref aF), o9, o10, o11, o12, none, none, none, none, none, none] ∧
        PI w H1 p aT aF (sy.picks ++ sy.owns.map Prod.fst) (c + 8 * i) H' DT LT [] [] ∧ LT.length ≤ 8 * i ∧ ∀ g ∈ (playsL sy.picks).take i, ∀ o ∈ sy.owns, (o.1, o.2.map (ofG g)) ∈ LT)
      ⟨_, _, _, _, [], [], rfl, I0, Nat.le_refl _, fun g hg => absurd hg (by simp)⟩ (fun i σ H' _ ⟨_, _, _, _, _, _, _, I, _⟩ => SqL.of (I.d.keep eG nG)) ?_ ?_
    · rintro i y σ G hy ⟨o9, o10, o11, o12, DT, LT, rfl, I, lT, mT⟩
      rw [List.getElem?_map] at hy
      obtain ⟨av, hav, rfl⟩ := Option.map_eq_some_iff.mp hy
      obtain ⟨g, hg, ea1⟩ := gm_at gm hav
      have il : i < (playsL sy.picks).length := (List.getElem?_eq_some_iff.mp hg).1
      have gp := (playsL_mem _).1 g (List.mem_of_getElem? hg)
      have nav : av ≠ p := fun z => by
        obtain ⟨xs, hx⟩ := hs1.lst
        rw [z, hx] at ea1
        cases ea1
      refine ⟨_, rfl, a2, rfl, ⟨_, FT.sq (ow I.d).1.ft⟩, ?_⟩
      refine for_tup (K := K) (a := a2) (xs := us) (fun k σ H' => ∃ (o10 o11 o12 : Option V) (DT : List DRow) (LT : List Cp), σ = [some (.ref p), some (.ref a0), some (.int 20), some (.ref a1), some (.ref a2), some c1, some (.ref aG), some (.ref aT), some (.ref aF), some (.ref av), o10, o11, o12, none, none, none, none, none, none] ∧
          PI w H1 p aT aF (sy.picks ++ sy.owns.map Prod.fst) (c + 8 * i + k) H' DT LT [] [] ∧ LT.length ≤ 8 * i + k ∧ (∀ g ∈ (playsL sy.picks).take i, ∀ o ∈ sy.owns, (o.1, o.2.map (ofG g)) ∈ LT) ∧ ∀ o ∈ sy.owns.take k, (o.1, o.2.map (ofG g)) ∈ LT)
        ⟨_, _, _, DT, LT, rfl, I, by omega, mT, fun o ho => absurd ho (by simp)⟩ (fun k σ H' _ ⟨_, _, _, _, _, _, I, _⟩ => FT.sq (ow I.d).1.ft) ?_ ?_
      · rintro k x σ G2 hx ⟨o10, o11, o12, DT, LT, rfl, I, lT, mT, kT⟩
        obtain ⟨d, hd, Dx⟩ := dats_get' (ow I.d).2 k x hx
        obtain ⟨o, ho, rfl⟩ := get_map hd
        obtain ⟨t, rfl⟩ := tuple_ref (ds := [.str o.1, nmsD o.2]) Dx
        obtain ⟨t', g1, g2⟩ := own_row (q := (t, ownD o)) rfl Dx
        have kl : k < sy.owns.length := (List.getElem?_eq_some_iff.mp ho).1
        have og := ok.on o (List.mem_of_getElem? ho)
        have lw : o.2.length ≤ 4 := by
          have z := nodup_le (m := sy.picks) (nodup_tlt og.2.2.1) og.2.2.2
          omega
        refine ⟨t, _, rfl, SqT.of g1, rfl, _, _, rfl, _, _, rfl, rfl, ?_⟩
        refine cp_val (K := K) (o := o) (g := g) rfl rfl g2 (I.d.keep ea1 nav) (fun y hy => by rw [gp]; exact og.2.2.2 y hy) (by omega) (fun _ => rfl) (fun _ => rfl) (fun _ => rfl) fun b G3 S3 hb3 Db => ?_
        have I3 := I.same S3
        obtain ⟨oT, hDT, eTT⟩ := I3.eT
        have lDT := I3.T.len
        refine ⟨_, rfl, _, rfl, b, aT, DT, _, rfl, rfl, hDT.at eTT, I3.T.keys, Db, keyable_cp _, by have := depth_cp (o.1, o.2.map (ofG g)); omega, _, rfl, ?_⟩
        cases e : lookN DT (cpD (o.1, o.2.map (ofG g))) with
        | some vv =>
          show if false = true then _ else _
          rw [if_neg (by decide)]
          refine ⟨_, _, _, DT, LT, rfl, I3.up (by omega), by omega, mT, fun o' ho' => ?_⟩
          rw [take_next ho] at ho'
          rcases List.mem_append.mp ho' with z | z
          · exact kT o' z
          · cases List.mem_singleton.mp z
            exact I3.T.there e
        | none =>
          show if true = true then _ else _
          rw [if_pos rfl]
          refine ⟨_, rfl, p, _, 2, rfl, I3.d.s, by omega, by decide, by decide, fun r o' r0 r1 hp1 => ⟨rfl, ?_⟩⟩
          have I4 := I3.src hp1
          have Db4 := dat_tk (dr_tk ((Dr.start I3.d.s).src hp1) I3.d.s) _ _ (keyable_cp _) Db
          obtain ⟨oT4, hDT4, eTT4⟩ := I4.eT
          refine ⟨_, rfl, _, rfl, aT, b, DT, _, rfl, rfl, hDT4.at eTT4, I4.T.keys, Db4, keyable_cp _, by have := depth_cp (o.1, o.2.map (ofG g)); omega, small1000 (by omega), ?_⟩
          refine ⟨_, _, _, _, _, rfl, (I4.putT Db4 e).up (by omega), by rw [List.length_append]; show LT.length + 1 ≤ _; omega, fun g' hg' o' ho' => List.mem_append_left _ (mT g' hg' o' ho'), fun o' ho' => ?_⟩
          rw [take_next ho] at ho'
          rcases List.mem_append.mp ho' with z | z
          · exact List.mem_append_left _ (kT o' z)
          · cases List.mem_singleton.mp z
            exact List.mem_append_right _ List.mem_cons_self
      · rintro σ G2 ⟨o10, o11, o12, DT, LT, rfl, I, lT, mT, kT⟩
        rw [lus, List.take_length] at kT
        rw [lus] at lT I
        refine ⟨_, _, _, _, DT, LT, rfl, I.up (by omega), by omega, fun g' hg' o' ho' => ?_⟩
        rw [take_next hg] at hg'
        rcases List.mem_append.mp hg' with z | z
        · exact mT g' z o' ho'
        · cases List.mem_singleton.mp z
          exact kT o' ho'
    · rintro σ G ⟨o9, o10, o11, o12, DT, LT, rfl, I, lT, mT⟩
      rw [List.length_map, las] at lT I mT
      rw [List.take_length] at mT
      have I := I.up (show _ ≤ c + 130 by omega)
      clear I0
      refine ⟨_, rfl, _, _, rfl, rfl, (by unfold CMul; decide), _, rfl, by decide, by decide, ?_⟩
      refine for_range (lo := 0) (n := 100) (fun i σ H' => ∃ (o9 o10 o11 o12 o13 o14 o15 o16 o17 o18 : Option V) (DF : List DRow) (cls : List (List Ltr)), σ = [some (.ref p), some (.ref a0), some (.int 20), some (.ref a1), some (.ref a2), some c1, some (.ref aG), some (.ref aT), some (.ref aF), o9, o10, o11, o12, o13, o14, o15, o16, o17, o18] ∧
          PI w H1 p aT aF (sy.picks ++ sy.owns.map Prod.fst) (c + 130 + 100 * i) H' DT LT DF cls ∧ cls.length ≤ 20) ?_ ?_ ?_
      · exact ⟨_, _, _, _, _, _, _, _, _, _, [], [], rfl, I, by decide⟩
      · clear I
        rintro i σ G2 hi ⟨o9, o10, o11, o12, o13, o14, o15, o16, o17, o18, DF, cls, rfl, I, lF⟩
        refine ⟨_, rfl, _, rfl, _, rfl, p, a1, a2, _, a, b, m, 2, sy.picks, sy.owns, rfl, I.d.s, by omega, dat_tk (dr_tk I.d hs1) _ _ (keyable_nms _) Dp1, ⟨a2, us, rfl, (ow I.d).1.ft, (ow I.d).2⟩, ok.fr, by omega, by omega, by decide, by decide, fun vc cl G3 Dc3 ck d3 => ⟨_, _, rfl, ?_⟩⟩
        have I3 := (I.dr d3).up (show _ ≤ c + 130 + 100 * (i + 1) by omega)
        clear I d3
        obtain ⟨tc, rfl⟩ := tuple_ref (ds := cl.map ltD) Dc3
        obtain ⟨Tc, etc, Rc⟩ := RT.back (g := ltD) (L := cl) Dc3 fun x => ⟨_, rfl⟩
        have lcl : cl.length ≤ 10 := by
          have z := nodup_le (m := sy.picks ++ sy.owns.map Prod.fst) (tlt_nodup ck.up) fun x hx => by
            obtain ⟨l, hl, rfl⟩ := List.mem_map.mp hx
            exact ck.mem l hl
          rw [List.length_map, List.length_append, List.length_map] at z
          omega
        refine ⟨_, rfl, aG, rfl, ⟨_, SqL.of (I3.d.keep eG nG)⟩, ?_⟩
        refine for_list (K := K) (a := aG) (xs := as.map V.ref) (fun k σ H' => ∃ (o9 o10 o11 o12 o13 o16 o17 o18 : Option V) (bs : Bool), σ = [some (.ref p), some (.ref a0), some (.int 20), some (.ref a1), some (.ref a2), some c1, some (.ref aG), some (.ref aT), some (.ref aF), o9, o10, o11, o12, o13, some (.ref tc), some (.bl bs), o16, o17, o18] ∧ Same G3 H')
          ⟨_, _, _, _, _, _, _, _, true, rfl, Same.refl _⟩ (fun k σ H' _ ⟨_, _, _, _, _, _, _, _, _, _, S⟩ => SqL.of (S _ _ (I3.d.keep eG nG))) ?_ ?_
        · rintro k y σ G4 hy ⟨o9, o10, o11, o12, o13, o16, o17, o18, bs, rfl, S4⟩
          rw [List.getElem?_map] at hy
          obtain ⟨av, hav, rfl⟩ := Option.map_eq_some_iff.mp hy
          obtain ⟨g, hg, ea1⟩ := gm_at gm hav
          have gp := (playsL_mem _).1 g (List.mem_of_getElem? hg)
          have nav : av ≠ p := fun z => by
            obtain ⟨xs, hx⟩ := hs1.lst
            rw [z, hx] at ea1
            cases ea1
          have I4 := I3.same S4
          have ea4 := I4.d.keep ea1 nav
          refine ⟨_, rfl, av, _, rfl, .inl ea4, fun aU hU => ?_⟩
          have S5 := same_new (o := .dK (ltK g)) hU
          have ltk : (ltK g).length ≤ 4 := by
            unfold ltK
            rw [List.length_map, ← List.length_map (f := Prod.fst), gp]
            exact p4
          refine ⟨_, rfl, a2, rfl, ⟨_, FT.sq (ow (I4.same S5).d).1.ft⟩, ?_⟩
          refine for_tup (K := K) (a := a2) (xs := us) (fun j σ H' => ∃ (o10 o11 o12 o13 o17 o18 : Option V) (kvs : List (Key × V)), σ = [some (.ref p), some (.ref a0), some (.int 20), some (.ref a1), some (.ref a2), some c1, some (.ref aG), some (.ref aT), some (.ref aF), some (.ref av), o10, o11, o12, o13, some (.ref tc), some (.bl bs), some (.ref aU), o17, o18] ∧
              H' aU = some (.dK kvs) ∧ kvs.length ≤ 4 + j ∧ (∀ n ∈ sy.picks, ∃ t, valV kvs (.inr n) = some (.bl t)) ∧ (∀ o ∈ sy.owns.take j, ∃ t, valV kvs (.inr o.1) = some (.bl t)) ∧ Same G4 H')
            ⟨_, _, _, _, _, _, ltK g, rfl, upd_same, by omega, fun n hn => ⟨_, ofG_val (by rw [gp]; exact hn)⟩, fun o ho => absurd ho (by simp), S5⟩ (fun j σ H' _ ⟨_, _, _, _, _, _, _, _, _, _, _, _, S⟩ => FT.sq (ow (I4.same S).d).1.ft) ?_ ?_
          · rintro j x σ G6 hx ⟨o10, o11, o12, o13, o17, o18, kvs, rfl, eU, lU, pU, oU, S6⟩
            have I6 := I4.same S6
            obtain ⟨d, hd, Dx⟩ := dats_get' (ow I6.d).2 j x hx
            obtain ⟨o, ho, rfl⟩ := get_map hd
            obtain ⟨t, rfl⟩ := tuple_ref (ds := [.str o.1, nmsD o.2]) Dx
            obtain ⟨t', g1, g2⟩ := own_row (q := (t, ownD o)) rfl Dx
            have jl : j < sy.owns.length := (List.getElem?_eq_some_iff.mp ho).1
            have og := ok.on o (List.mem_of_getElem? ho)
            have lw : o.2.length ≤ 4 := by
              have z := nodup_le (m := sy.picks) (nodup_tlt og.2.2.1) og.2.2.2
              omega
            refine ⟨t, _, rfl, SqT.of g1, rfl, _, _, rfl, _, _, rfl, rfl, ?_⟩
            refine ⟨_, rfl, ?_⟩
            refine cp_val (K := K) (o := o) (g := g) rfl rfl g2 (S6 _ _ ea4) (fun y hy => by rw [gp]; exact og.2.2.2 y hy) (by omega) (fun _ => rfl) (fun _ => rfl) (fun _ => rfl) fun b G7 S7 hb7 Db => ?_
            have I7 := I6.same S7
            obtain ⟨oT, hDT, eTT⟩ := I7.eT
            obtain ⟨bb, hbb⟩ := I7.T.look (mT g (List.mem_of_getElem? hg) o (List.mem_of_getElem? ho))
            have eU7 := S7 _ _ eU
            refine ⟨aT, b, DT, _, .bl bb, rfl, rfl, hDT.at eTT, I7.T.keys, Db, keyable_cp _, by have := depth_cp (o.1, o.2.map (ofG g)); omega, hbb, ?_⟩
            refine ⟨_, rfl, _, rfl, aU, _, rfl, .inl ⟨kvs, .inr o.1, eU7, rfl, small1000 (by omega), rfl⟩, ?_⟩
            refine ⟨_, _, _, _, _, _, _, rfl, upd_same, by have := length_putK kvs (Sum.inr o.1) (V.bl bb); omega, fun n hn => ?_, fun o' ho' => ?_, same_upd (S6.trans S7) hU⟩
            · rw [valV_put]
              split
              · exact ⟨bb, rfl⟩
              · exact pU n hn
            · rw [valV_put]
              split
              · exact ⟨bb, rfl⟩
              · rename_i ne
                rw [take_next ho] at ho'
                rcases List.mem_append.mp ho' with z | z
                · exact oU o' z
                · cases List.mem_singleton.mp z
                  exact absurd rfl ne
          · rintro σ G6 ⟨o10, o11, o12, o13, o17, o18, kvs, rfl, eU, lU, pU, oU, S6⟩
            rw [lus, List.take_length] at oU
            have S46 := S4.trans S6
            refine ⟨_, rfl, bs, rfl, ?_⟩
            by_cases hbs : bs = true
            · rw [if_pos hbs]
              have etc6 := S46 _ _ etc
              have Rc6 := Rc.same S46
              refine ⟨_, rfl, tc, rfl, ⟨_, SqT.of etc6⟩, fun Dl hDl => ?_⟩
              refine lc_mapT (K := K) (ys := (cl.map fun l => decide (valV kvs (.inr l.1) = some (V.bl l.2))).map V.bl) (SqT.of etc6) hDl (by simp only [List.length_map]; exact Rc.len.symm) (by rw [List.length_map, Rc.len]; omega) (fun n x y H7 Qe hx hy S7 kq => ?_) gPair_mono fun H7 e7 S7 => ?_
              · rw [List.getElem?_map] at hx
                obtain ⟨r, hr, rfl⟩ := Option.map_eq_some_iff.mp hx
                obtain ⟨l, hl, er, Dl⟩ := (Rc6.same S7).at_ hr
                obtain ⟨t, et, gt⟩ := lt_at Dl
                rw [List.getElem?_map, List.getElem?_map, hl] at hy
                cases hy
                have there : ∃ u, valV kvs (.inr l.1) = some (.bl u) := by
                  rcases List.mem_append.mp (ck.mem l (List.mem_of_getElem? hl)) with z | z
                  · exact pU _ z
                  · obtain ⟨o, ho, eo⟩ := List.mem_map.mp z
                    rw [← eo]
                    exact oU o ho
                obtain ⟨u, hv⟩ := there
                refine ⟨t, _, et, SqT.of gt, rfl, _, _, rfl, _, _, rfl, rfl, rfl, ?_⟩
                refine ⟨_, rfl, _, rfl, aU, _, rfl, by have z := DGet.k (k := .inr l.1) (S7 _ _ eU); rw [hv] at z; exact z, _, rfl, rfl, ?_⟩
                have e : decide (V.bl u = V.bl l.2) = decide (valV kvs (.inr l.1) = some (V.bl l.2)) := by
                  rw [hv]
                  simp only [Option.some.injEq]
                rw [e]
                exact kq _ (Same.refl _)
              · exact ⟨Dl, _, rfl, SqL.of e7, _, _, _, _, _, _, _, _, _, rfl, S46.trans S7⟩
            · rw [if_neg hbs]
              exact ⟨_, _, _, _, _, _, _, _, false, rfl, S46⟩
        · rintro σ G4 ⟨u9, u10, u11, u12, u13, u16, u17, u18, bs, rfl, S4⟩
          have I4 := I3.same S4
          have skip : ∃ (o9 o10 o11 o12 o13 o14 o15 o16 o17 o18 : Option V) (DF : List DRow) (cls : List (List Ltr)), [some (.ref p), some (.ref a0), some (.int 20), some (.ref a1), some (.ref a2), some c1, some (.ref aG), some (.ref aT), some (.ref aF), u9, u10, u11, u12, u13, some (.ref tc), some (.bl bs), u16, u17, u18] = [some (.ref p), some (.ref a0), some (.int 20), some (.ref a1), some (.ref a2), some c1, some (.ref aG), some (.ref aT), some (.ref aF), o9, o10, o11, o12, o13, o14, o15, o16, o17, o18] ∧
              PI w H1 p aT aF (sy.picks ++ sy.owns.map Prod.fst) (c + 130 + 100 * (i + 1)) G4 DT LT DF cls ∧ cls.length ≤ 20 := ⟨_, _, _, _, _, _, _, _, _, _, DF, cls, rfl, I4, lF⟩
          obtain ⟨oF, hDF, eFF⟩ := I4.eF
          have lDF := I4.F.len
          have kF : KeysAt G4 DF := I4.F.keys I4.R.D
          refine ⟨_, rfl, bs, rfl, ?_⟩
          refine and_tt (DF.length < 20) (fun Qb y n => ?_) (fun _ h20 => ?_) (fun _ => skip)
          · refine ⟨_, rfl, aF, DF, rfl, hDF.at eFF, kF, _, rfl, _, _, rfl, rfl, _, rfl, ?_⟩
            show Qb (decide (((DF.length : Nat) : Int) < 20)) G4
            by_cases h : DF.length < 20
            · rw [decide_eq_true (by omega)]
              exact y h
            · rw [decide_eq_false (by omega)]
              exact n h
          · have Dc4 := Dc3.same S4
            obtain ⟨cls', lc', I5⟩ := I4.putF (v := .bl true) Dc4 ck
            refine ⟨_, rfl, _, rfl, aF, tc, DF, clD cl, rfl, rfl, hDF.at eFF, kF, Dc4, keyable_cl cl, by have := depth_cl cl; omega, small1000 (by omega), ?_⟩
            exact ⟨_, _, _, _, _, _, _, _, _, _, _, cls', rfl, I5, by omega⟩
      · rintro σ G2 ⟨o9, o10, o11, o12, o13, o14, o15, o16, o17, o18, DF, cls, rfl, I, lF⟩
        obtain ⟨oF, hDF, eFF⟩ := I.eF
        refine ⟨_, rfl, _, rfl, _, rfl, aF, DF, rfl, hDF.at eFF, I.F.keys I.R.D, fun bL hbL => ?_⟩
        have n1 := same_new (o := .lst ((DF.map Prod.fst).map TRow.v)) hbL
        have I2 := I.same n1
        refine ⟨bL, DF.map Prod.fst, rfl, SqL.of upd_same, I2.R.D, I2.F.sorty, fun T' b9 pm2 _ up2 hb9 => .inl ⟨b9, _, rfl, SqL.of upd_same, fun t ht => ⟨(by show 3 ≤ sizeLine; decide), fun t3 ht3 => ?_⟩⟩⟩
        have n2 := same_new (o := .lst (T'.map TRow.v)) hb9
        have n3 := same_new (o := .tup (T'.map TRow.v)) ht
        have n4 := same_new (o := .tup [.ref a1, .ref a2, .ref t]) ht3
        have I5 := I2.same (n2.trans (n3.trans n4))
        obtain ⟨cls', e', up', ok', len'⟩ := I2.F.sorted pm2 up2
        have Dcs : Dat (upd (upd (upd (upd G2 bL (.lst ((DF.map Prod.fst).map TRow.v))) b9 (.lst (T'.map TRow.v))) t (.tup (T'.map TRow.v))) t3 (.tup [.ref a1, .ref a2, .ref t])) (.ref t) (.tuple (cls'.map clD)) := by
          rw [← e']
          exact .tup (n4 _ _ upd_same) (dats_rows fun q' hq' => I5.R.D q' (pm2.mem_iff.mp hq'))
        refine q _ ⟨sy.picks, sy.owns, cls'⟩ _ ⟨t3, _, _, _, rfl, upd_same, dat_tk (dr_tk I5.d hs1) _ _ (keyable_nms _) Dp1, ⟨a2, us, rfl, (ow I5.d).1, (ow I5.d).2⟩, Dcs⟩ ⟨ok.pu, ok.pn, ok.pl, ok.ou, ok.on, ok.ol, ok.oc, up', ok', by show cls'.length ≤ 20; omega⟩ ((d01.trans I5.d).up (by omega))
end
end S4

set_option Elab.async false
set_option linter.all false
set_option maxRecDepth 100000
set_option maxHeartbeats 4000000
/-! what any data is told to be: the questions, as data -/
namespace S2
open PySem PySem.W PySem.Spec PyProof.Rows L2 S1
def tyN : PyData → String
  | .none => "NoneType"
  | .bool _ => "bool"
  | .int _ => "int"
  | .str _ => "str"
  | .list _ => "list"
  | .tuple _ => "tuple"
  | .dict _ => "dict"
theorem ty_dat {K : PySem.W.Frag} {H : Hp} {v : V} {d : PyData} (D : Dat H v d) : TyX K H v (.type (tyN d)) := by
  cases D with
  | non => exact .base .non
  | bl b => exact .base (.bl b)
  | int i => exact .base (.int i)
  | str x => exact .base (.str x)
  | lst e _ => exact .base (.lst e)
  | tup e _ => exact .base (.tup e)
  | dct e _ => exact .base (.dK e)
def isTup : PyData → Bool
  | .tuple _ => true
  | _ => false
def isStr : PyData → Bool
  | .str _ => true
  | _ => false
def isTr : PyData → Bool
  | .bool _ => true
  | _ => false
theorem kit_tup : ∀ d : PyData, kitB (tyN d) "tuple" = some (isTup d)
  | .none => show kitB "NoneType" "tuple" = some false by decide +kernel
  | .bool _ => show kitB "bool" "tuple" = some false by decide +kernel
  | .int _ => show kitB "int" "tuple" = some false by decide +kernel
  | .str _ => show kitB "str" "tuple" = some false by decide +kernel
  | .list _ => show kitB "list" "tuple" = some false by decide +kernel
  | .tuple _ => show kitB "tuple" "tuple" = some true by decide +kernel
  | .dict _ => show kitB "dict" "tuple" = some false by decide +kernel
theorem kit_str : ∀ d : PyData, kitB (tyN d) "str" = some (isStr d)
  | .none => show kitB "NoneType" "str" = some false by decide +kernel
  | .bool _ => show kitB "bool" "str" = some false by decide +kernel
  | .int _ => show kitB "int" "str" = some false by decide +kernel
  | .str _ => show kitB "str" "str" = some true by decide +kernel
  | .list _ => show kitB "list" "str" = some false by decide +kernel
  | .tuple _ => show kitB "tuple" "str" = some false by decide +kernel
  | .dict _ => show kitB "dict" "str" = some false by decide +kernel
theorem kit_bool : ∀ d : PyData, kitB (tyN d) "bool" = some (isTr d)
  | .none => show kitB "NoneType" "bool" = some false by decide +kernel
  | .bool _ => show kitB "bool" "bool" = some true by decide +kernel
  | .int _ => show kitB "int" "bool" = some false by decide +kernel
  | .str _ => show kitB "str" "bool" = some false by decide +kernel
  | .list _ => show kitB "list" "bool" = some false by decide +kernel
  | .tuple _ => show kitB "tuple" "bool" = some false by decide +kernel
  | .dict _ => show kitB "dict" "bool" = some false by decide +kernel
def parts : PyData → List PyData
  | .tuple ds => ds
  | _ => []
def strOf : PyData → Str
  | .str x => x
  | _ => ""
def fstS (d : PyData) : Str := strOf ((parts d).headD .none)
mutual
/-- rows of at most a thousand parts -/
def lim : PyData → Bool
  | .list ds => decide (ds.length ≤ 1000) && lims ds
  | .tuple ds => decide (ds.length ≤ 1000) && lims ds
  | .str x => decide (x.length ≤ 1000)
  | _ => true
def lims : List PyData → Bool
  | [] => true
  | d :: ds => lim d && lims ds
end
theorem lims_mem : ∀ {ds : List PyData}, lims ds = true → ∀ d ∈ ds, lim d = true
  | [], _, d, h => nomatch h
  | x :: ds, t, d, h => by
    rw [lims, Bool.and_eq_true] at t
    rcases List.mem_cons.mp h with rfl | h
    · exact t.1
    · exact lims_mem t.2 d h
theorem lim_tup {ds : List PyData} (h : lim (.tuple ds) = true) : ds.length ≤ 1000 ∧ ∀ d ∈ ds, lim d = true := by
  rw [lim, Bool.and_eq_true, decide_eq_true_eq] at h
  exact ⟨h.1, lims_mem h.2⟩
/-- each below the next -/
def riseB : List PyData → Bool
  | x :: y :: r => dataLt x y && riseB (y :: r)
  | _ => true
def isNm : PyData → Bool
  | .str x => nmB x
  | _ => false
def isLt : PyData → Bool
  | .tuple [a, b] => isNm a && isTr b
  | _ => false
def isCl (d : PyData) : Bool := isTup d && ((parts d).all isLt && riseB ((parts d).map fun x => .str (fstS x)))
def isNames (m : Nat) (d : PyData) : Bool := isTup d && (decide ((parts d).length ≤ m) && ((parts d).all isNm && riseB (parts d)))
def isSightB (ps : List Str) (d : PyData) : Bool := isNames ps.length d && (parts d).all fun x => decide (strOf x ∈ ps)
def isOwnB (ps : List Str) : PyData → Bool
  | .tuple [a, b] => isNm a && (!decide (strOf a ∈ ps) && isSightB ps b)
  | _ => false
def sndLen : PyData → Nat
  | .tuple [_, b] => (parts b).length
  | _ => 0
def areOwnsB (ps : List Str) (d : PyData) : Bool :=
  isTup d && (decide ((parts d).length ≤ 8) && ((parts d).all (isOwnB ps) && (riseB ((parts d).map fun x => .str (fstS x)) && decide (((parts d).map fun x => 2 ^ sndLen x).sum ≤ 120))))
def isClO (ns : List Str) (d : PyData) : Bool := isCl d && (parts d).all fun x => decide (fstS x ∈ ns)
def areClsB (ns : List Str) (d : PyData) : Bool := isTup d && (decide ((parts d).length ≤ 40) && ((parts d).all (isClO ns) && riseB (parts d)))
def strsOf (d : PyData) : List Str := (parts d).map strOf
def namesD (p o : PyData) : List Str := strsOf p ++ (parts o).map fstS
def sayB : PyData → Bool
  | .tuple [p, o, c] => isNames 6 p && (areOwnsB (strsOf p) o && areClsB (namesD p o) c)
  | _ => false
def truthsB (n : Nat) (d : PyData) : Bool := isTup d && (decide ((parts d).length = n) && (parts d).all isTr)
section
variable {X : Cx}
/-- is True, is False -/
def rIsAny : R2 := fun x y H Q => ∃ (d : PyData) (b : Bool), Dat H x d ∧ y = .bl b ∧ Q (.bl (decide (x = .bl b))) H
theorem op_isAny : OpR X (compareOp .Is) rIsAny := by
  intro pins s σ H x y v u Q I rx ry h
  obtain ⟨d, b, D, rfl, q⟩ := h
  cases (show u = Value.bool b from ry)
  cases D with
  | non =>
    cases (show v = Value.none from rx)
    exact wpAny_is_other rfl (fun z => nomatch z) ⟨.bl false, H, I, rfl, q⟩
  | bl a =>
    cases (show v = Value.bool a from rx)
    by_cases e : a = b
    · subst e
      exact wpAny_is_self rfl ⟨.bl true, H, I, rfl, by simpa using q⟩
    · exact wpAny_is_other rfl (fun z => e (Value.bool.inj z)) ⟨.bl false, H, I, rfl, by simpa [e] using q⟩
  | int i =>
    obtain ⟨t, rfl⟩ := rx
    exact wpAny_is_other rfl (fun z => nomatch z) ⟨.bl false, H, I, rfl, q⟩
  | str i =>
    obtain ⟨t, rfl⟩ := rx
    exact wpAny_is_other rfl (fun z => nomatch z) ⟨.bl false, H, I, rfl, q⟩
  | @lst a _ _ _ _ =>
    cases (show v = Value.ref a from rx)
    exact wpAny_is_other rfl (fun z => nomatch z) ⟨.bl false, H, I, rfl, q⟩
  | @tup a _ _ _ _ =>
    cases (show v = Value.ref a from rx)
    exact wpAny_is_other rfl (fun z => nomatch z) ⟨.bl false, H, I, rfl, q⟩
  | @dct a _ _ _ _ =>
    cases (show v = Value.ref a from rx)
    exact wpAny_is_other rfl (fun z => nomatch z) ⟨.bl false, H, I, rfl, q⟩
end
end S2

set_option Elab.async false
set_option linter.all false
set_option maxRecDepth 100000
set_option maxHeartbeats 2000000
/-! the small questions of the program, of any data -/
namespace S2
open PySem PySem.W PySem.Spec PyProof.Rows L2 S1
theorem dats_get {H : Hp} : ∀ {xs : List V} {ds : List PyData}, DatAll H xs ds → ∀ (k : Nat) (d : PyData), ds[k]? = some d → ∃ x, xs[k]? = some x ∧ Dat H x d
  | _, _, .nil, _, _, h => by simp at h
  | _, _, .cons (v := v) h t, 0, d, e => by
    cases (show some _ = some d from e)
    exact ⟨v, rfl, h⟩
  | _, _, .cons h t, k + 1, d, e => dats_get t k d e
theorem dats_get' {H : Hp} : ∀ {xs : List V} {ds : List PyData}, DatAll H xs ds → ∀ (k : Nat) (x : V), xs[k]? = some x → ∃ d, ds[k]? = some d ∧ Dat H x d
  | _, _, .nil, _, _, h => by simp at h
  | _, _, .cons (d := d) h t, 0, x, e => by
    cases (show some _ = some x from e)
    exact ⟨d, rfl, h⟩
  | _, _, .cons h t, k + 1, x, e => dats_get' t k x e
theorem dat_tup {H : Hp} {v : V} {ds : List PyData} (D : Dat H v (.tuple ds)) : ∃ a xs, v = .ref a ∧ H a = some (.tup xs) ∧ DatAll H xs ds := by
  cases D with
  | tup e h => exact ⟨_, _, rfl, e, h⟩
theorem dat_str {H : Hp} {v : V} {x : Str} (D : Dat H v (.str x)) : v = .str x := by
  cases D
  rfl
theorem tup_of {d : PyData} (h : isTup d = true) : ∃ ds, d = .tuple ds := by
  cases d with
  | tuple ds => exact ⟨ds, rfl⟩
  | _ => cases h
theorem str_of {d : PyData} (h : isStr d = true) : ∃ x, d = .str x := by
  cases d with
  | str x => exact ⟨x, rfl⟩
  | _ => cases h
theorem nm_of' {d : PyData} (h : isNm d = true) : ∃ x, d = .str x ∧ nmB x = true := by
  cases d with
  | str x => exact ⟨x, rfl, h⟩
  | _ => cases h
theorem same_tup {K : PySem.W.Frag} {H H' : Hp} {a : Addr} {xs : List V} (S : Same H H') (h : SqT K H a xs) : SqT K H' a xs := by
  rcases h with h | h
  · refine .inl ?_
    rcases h with h | ⟨o, h⟩
    · exact .inl (S _ _ h)
    · exact .inr ⟨o, S _ _ h⟩
  · exact .inr h
theorem same_sq {K : PySem.W.Frag} {H H' : Hp} {a : Addr} {xs : List V} (S : Same H H') (h : SqL K H a xs ∨ SqT K H a xs) : SqL K H' a xs ∨ SqT K H' a xs := h.elim (fun h => .inl (S.seq h)) fun h => .inr (same_tup S h)
theorem ix_any {K : PySem.W.Frag} {H : Hp} {a : Addr} {xs : List V} {i : Int} {v : V} {Q : VK} (h : SqL K H a xs ∨ SqT K H a xs) (e : atI xs i = some v) (q : Q v H) : rIx K (.ref a) (.int i) H Q :=
  h.elim (fun h => .inl ⟨a, xs, i, v, rfl, rfl, h, e, q⟩) fun h => .inr (.inl ⟨a, xs, i, v, rfl, rfl, h, e, q⟩)
section
variable {X : Cx}
def rLtD : R2 := fun x y H Q => ∃ d e, Dat H x d ∧ Dat H y e ∧ alike d e = true ∧ d ≠ .none ∧ d.depth ≤ 8 ∧ Q (.bl (dataLt d e)) H
theorem op_ltD (hu : X.A.units + 64 < cLine) : OpR X (compareOp .Lt) rLtD := by
  intro pins s σ H x y v u Q I rx ry h
  obtain ⟨d, e, D1, D2, al, ne, dp, q⟩ := h
  obtain ⟨as, R1⟩ := reads_of_dat I.hok D1 rx
  obtain ⟨bs, R2⟩ := reads_of_dat I.hok D2 ry
  exact rcLt_alike d e X.A s v u as bs R1 R2 al ne (by have := Nat.min_le_left d.depth e.depth; omega) X.prog X.w X.xe _ ⟨.bl (dataLt d e), H, I, rfl, q⟩
end
section
variable {K : PySem.W.Frag} {g : TG} {te : TE} {vs : List Nat} {σ : L2.St} {H : Hp} {D : Addr} {Qd : Hp → Prop}
/-- [f(x) for x in a tuple], what it gives known one by one -/
theorem lc_mapT {a : Addr} {xs ys : List V} (sq : SqT K H a xs) (hD : H D = none) (ly : ys.length = xs.length) (len : xs.length ≤ 1000)
    (step : ∀ (i : Nat) (x y : V) (H4 : Hp) (Qe : VK), xs[i]? = some x → ys[i]? = some y → Same H H4 → (∀ H5, Same H4 H5 → Qe y H5) → g x (wipe σ vs) H4 fun σ2 H2 => wipe σ2 vs = wipe σ vs ∧ te σ2 H2 Qe)
    (gm : ∀ x σ1 H1 (A B : L2.St → Hp → Prop), (∀ σ2 H2, A σ2 H2 → B σ2 H2) → g x σ1 H1 A → g x σ1 H1 B)
    (hd : ∀ H5, H5 D = some (.lst ys) → Same H H5 → Qd H5) :
    ∃ W : Nat → Nat → Hp → Prop, (∃ m, W 0 m (upd H D (.lst []))) ∧ ∀ i m H, W i m H →
      ((Itt K a).stop i H ∧ Qd H) ∨ ((Itt K a).go i H ∧ ∃ Nx : Hp → Prop, (∀ H', Nx H' → ∃ m', m' < m ∧ W (i + 1) m' H') ∧ ∀ x H', (Itt K a).yld i H x H' → g x (wipe σ vs) H' fun σ2 H2 => wipe σ2 vs = wipe σ vs ∧ tYes σ2 H2 fun b H3 =>
        if b = true then te σ2 H3 fun y H4 => ∃ acc, H4 D = some (.lst acc) ∧ acc.length < sizeLine ∧ Nx (upd H4 D (.lst (acc ++ [y]))) else Nx H3) := by
  refine lc_tup (K := K) (a := a) (xs := xs) (fun j H4 => H4 D = some (.lst (ys.take j)) ∧ Same H H4) ⟨by rw [upd_same, List.take_zero], same_new hD⟩ (fun i H4 _ h => same_tup h.2 sq) (fun i x H4 hx h => ?_) (fun H5 h => hd H5 (by rw [h.1, ← ly, List.take_length]) h.2)
  have il : i < xs.length := (List.getElem?_eq_some_iff.mp hx).1
  obtain ⟨y, hy⟩ : ∃ y, ys[i]? = some y := ⟨_, List.getElem?_eq_getElem (by omega)⟩
  refine gm x _ _ _ _ (fun σ2 H2 z => ⟨z.1, yes_of z.2⟩) (step i x y H4 _ hx hy h.2 fun H5 S5 => ?_)
  have e5 := S5 _ _ h.1
  exact ⟨_, e5, by rw [List.length_take]; exact small1000 (by omega), by rw [upd_same, take_next hy], same_upd (h.2.trans S5) hD⟩
/-- [p(x) for x in a tuple of data] -/
theorem lc_allD {a : Addr} {xs : List V} {ds : List PyData} {p : PyData → Bool} (e : H a = some (.tup xs)) (Da : DatAll H xs ds) (hD : H D = none) (len : ds.length ≤ 1000)
    (step : ∀ (i : Nat) (x : V) (d : PyData) (H4 : Hp) (Qe : VK), ds[i]? = some d → Same H H4 → Dat H4 x d → (∀ H5, Same H4 H5 → Qe (.bl (p d)) H5) → g x (wipe σ vs) H4 fun σ2 H2 => wipe σ2 vs = wipe σ vs ∧ te σ2 H2 Qe)
    (gm : ∀ x σ1 H1 (A B : L2.St → Hp → Prop), (∀ σ2 H2, A σ2 H2 → B σ2 H2) → g x σ1 H1 A → g x σ1 H1 B)
    (hd : ∀ H5, H5 D = some (.lst ((ds.map p).map V.bl)) → Same H H5 → Qd H5) :
    ∃ W : Nat → Nat → Hp → Prop, (∃ m, W 0 m (upd H D (.lst []))) ∧ ∀ i m H, W i m H →
      ((Itt K a).stop i H ∧ Qd H) ∨ ((Itt K a).go i H ∧ ∃ Nx : Hp → Prop, (∀ H', Nx H' → ∃ m', m' < m ∧ W (i + 1) m' H') ∧ ∀ x H', (Itt K a).yld i H x H' → g x (wipe σ vs) H' fun σ2 H2 => wipe σ2 vs = wipe σ vs ∧ tYes σ2 H2 fun b H3 =>
        if b = true then te σ2 H3 fun y H4 => ∃ acc, H4 D = some (.lst acc) ∧ acc.length < sizeLine ∧ Nx (upd H4 D (.lst (acc ++ [y]))) else Nx H3) := by
  have lx : xs.length = ds.length := Da.len
  refine lc_mapT (K := K) (ys := (ds.map p).map V.bl) (SqT.of e) hD (by rw [List.length_map, List.length_map, lx]) (by omega) (fun i x y H4 Qe hx hy S4 k => ?_) gm hd
  obtain ⟨d, hd', Dx⟩ := dats_get' Da i x hx
  have ey : y = V.bl (p d) := by
    rw [List.getElem?_map, List.getElem?_map, hd'] at hy
    exact (Option.some.inj hy).symm
  rw [ey] at k
  exact step i x d H4 Qe hd' S4 (Dx.same S4) k
/-- [f(x) for x in a tuple of data], f giving values without an address -/
theorem lc_mapD {a : Addr} {xs : List V} {ds : List PyData} {f : PyData → V} (e : H a = some (.tup xs)) (Da : DatAll H xs ds) (hD : H D = none) (len : ds.length ≤ 1000)
    (step : ∀ (i : Nat) (x : V) (d : PyData) (H4 : Hp) (Qe : VK), ds[i]? = some d → Same H H4 → Dat H4 x d → (∀ H5, Same H4 H5 → Qe (f d) H5) → g x (wipe σ vs) H4 fun σ2 H2 => wipe σ2 vs = wipe σ vs ∧ te σ2 H2 Qe)
    (gm : ∀ x σ1 H1 (A B : L2.St → Hp → Prop), (∀ σ2 H2, A σ2 H2 → B σ2 H2) → g x σ1 H1 A → g x σ1 H1 B)
    (hd : ∀ H5, H5 D = some (.lst (ds.map f)) → Same H H5 → Qd H5) :
    ∃ W : Nat → Nat → Hp → Prop, (∃ m, W 0 m (upd H D (.lst []))) ∧ ∀ i m H, W i m H →
      ((Itt K a).stop i H ∧ Qd H) ∨ ((Itt K a).go i H ∧ ∃ Nx : Hp → Prop, (∀ H', Nx H' → ∃ m', m' < m ∧ W (i + 1) m' H') ∧ ∀ x H', (Itt K a).yld i H x H' → g x (wipe σ vs) H' fun σ2 H2 => wipe σ2 vs = wipe σ vs ∧ tYes σ2 H2 fun b H3 =>
        if b = true then te σ2 H3 fun y H4 => ∃ acc, H4 D = some (.lst acc) ∧ acc.length < sizeLine ∧ Nx (upd H4 D (.lst (acc ++ [y]))) else Nx H3) := by
  have lx : xs.length = ds.length := Da.len
  refine lc_mapT (K := K) (ys := ds.map f) (SqT.of e) hD (by rw [List.length_map, lx]) (by omega) (fun i x y H4 Qe hx hy S4 k => ?_) gm hd
  obtain ⟨d, hd', Dx⟩ := dats_get' Da i x hx
  have ey : y = f d := by
    rw [List.getElem?_map, hd'] at hy
    exact (Option.some.inj hy).symm
  rw [ey] at k
  exact step i x d H4 Qe hd' S4 (Dx.same S4) k
end
theorem gName_mono {i : Nat} : ∀ (x : V) (σ1 : L2.St) (H1 : Hp) (A B : L2.St → Hp → Prop), (∀ σ2 H2, A σ2 H2 → B σ2 H2) → gName i x σ1 H1 A → gName i x σ1 H1 B := fun x σ1 H1 A B h z => h _ _ z
theorem all_id {α : Type} (p : α → Bool) (l : List α) : (l.map p).all id = l.all p := by
  rw [List.all_map]
  rfl
/-- a question about any data -/
def spJ (p : PyData → Bool) : Sp := fun vs H Q _ => ∃ (v : V) (d : PyData), vs = [v] ∧ Dat H v d ∧ lim d = true ∧ ∀ H', Same H H' → Q (.bl (p d)) H'
def spTupN : Sp := fun vs H Q _ => ∃ (v : V) (d : PyData) (n : Nat), vs = [v, .int (n : Nat)] ∧ Dat H v d ∧ lim d = true ∧ ∀ H', Same H H' → Q (.bl (isTup d && decide ((parts d).length ≤ n))) H'
def pairB (d : PyData) : Bool := isTup d && decide ((parts d).length = 2)
/-- all that may be compared with one another -/
def Likes (ds : List PyData) : Prop := (∀ x ∈ ds, x ≠ .none ∧ x.depth ≤ 8) ∧ ∀ x ∈ ds, ∀ y ∈ ds, alike x y = true
def spRise (K : PySem.W.Frag) : Sp := fun vs H Q _ => ∃ (a : Addr) (xs : List V) (ds : List PyData), vs = [.ref a] ∧ (SqL K H a xs ∨ SqT K H a xs) ∧ DatAll H xs ds ∧ Likes ds ∧ ds.length ≤ 1000 ∧ ∀ H', Same H H' → Q (.bl (riseB ds)) H'
def ltAt (ds : List PyData) (k : Nat) : Bool := dataLt (ds.getD k .none) (ds.getD (k + 1) .none)
theorem rise_range : ∀ ds : List PyData, ((List.range (ds.length - 1)).map (ltAt ds)).all id = riseB ds
  | [] => rfl
  | [_] => rfl
  | x :: y :: r => by
    have h := rise_range (y :: r)
    have e : (List.range ((x :: y :: r).length - 1)).map (ltAt (x :: y :: r)) = dataLt x y :: (List.range ((y :: r).length - 1)).map (ltAt (y :: r)) := by
      show (List.range (r.length + 1)).map _ = _ :: (List.range r.length).map _
      rw [List.range_succ_eq_map, List.map_cons, List.map_map]
      rfl
    rw [e, List.all_cons, h]
    rfl
section
variable {P : Program} {w : World} {K : PySem.W.Frag} {mg : Str → Option Value} {base : Heap}
theorem scIsTruth : FnScope ["value"] ["value"] (defScope sIsTruth) := ⟨rfl, rfl, rfl, by decide +kernel, rfl, by decide +kernel, by decide +kernel⟩
theorem scIsTuple : FnScope ["value", "most"] ["value", "most"] (defScope sIsTuple) := ⟨rfl, rfl, rfl, by decide +kernel, rfl, by decide +kernel, by decide +kernel⟩
theorem scIsPair : FnScope ["value"] ["value"] (defScope sIsPair) := ⟨rfl, rfl, rfl, by decide +kernel, rfl, by decide +kernel, by decide +kernel⟩
theorem scIsRising : FnScope ["parts", "k"] ["parts"] (defScope sIsRising) := ⟨rfl, rfl, rfl, by decide +kernel, rfl, by decide +kernel, by decide +kernel⟩
theorem ok_isTruth {f : Addr} {fd : FuncData} (F : Fun K "is_truth" "is_truth" sIsTruth f fd) : FnOk P w K mg base CX0 1 f fd ["value"] (spJ isTr) := by
  refine F.ok scIsTruth (fun vs H Q E h => ?_) (fun cdv A outer s H vs Q E hr h => ?_)
  · obtain ⟨v, d, rfl, _⟩ := h
    rfl
  · obtain ⟨v, d, rfl, D, li, q⟩ := h
    refine ⟨_, pss_one (ps_ret (pe_or (pe_cmpR op_isAny (pv 0) pe_bl (nomark _)) (pe_one (pe_cmpR op_isAny (pv 0) pe_bl (nomark _))))), ?_⟩
    refine ⟨_, rfl, d, true, D, rfl, _, rfl, ?_⟩
    have q' := q H (Same.refl _)
    cases D with
    | bl b =>
      cases b with
      | true => exact q'
      | false => exact ⟨_, rfl, _, false, .bl false, rfl, q'⟩
    | non => exact ⟨_, rfl, _, false, .non, rfl, q'⟩
    | int i => exact ⟨_, rfl, _, false, .int i, rfl, q'⟩
    | str i => exact ⟨_, rfl, _, false, .str i, rfl, q'⟩
    | lst e h => exact ⟨_, rfl, _, false, .lst e h, rfl, q'⟩
    | tup e h => exact ⟨_, rfl, _, false, .tup e h, rfl, q'⟩
    | dct e h => exact ⟨_, rfl, _, false, .dct e h, rfl, q'⟩
theorem ok_isTuple {f : Addr} {fd : FuncData} (F : Fun K "is_tuple" "is_tuple" sIsTuple f fd) (B : Blt mg) : FnOk P w K mg base CX0 1 f fd ["value", "most"] spTupN := by
  refine F.ok scIsTuple (fun vs H Q E h => ?_) (fun cdv A outer s H vs Q E hr h => ?_)
  · obtain ⟨v, d, n, rfl, _⟩ := h
    rfl
  · obtain ⟨v, d, n, rfl, D, li, q⟩ := h
    refine ⟨_, pss_one (ps_ret (pe_and (pe_callB call_isi (by rfl) B.isi (by decide +kernel) (pa_cons (pv 0) (pa_cons (pe_bltn (v := V.ty "tuple") (by rfl) B.tuple (by decide +kernel) rfl) pa_nil)))
      (pe_one (pe_cmpR op_le (pe_callB call_len_seq (by rfl) B.len (by decide +kernel) (pa_cons (pv 0) pa_nil)) (pv 1) (nomark _))))), ?_⟩
    refine ⟨_, rfl, _, _, _, _, isTup d, rfl, .ty _, ty_dat D, kit_ty (kit_tup d), isTup d, rfl, ?_⟩
    have q' := q H (Same.refl _)
    cases h : isTup d with
    | false =>
      rw [h] at q'
      show if false = true then _ else _
      rw [if_neg (by decide)]
      exact q'
    | true =>
      rw [h] at q'
      show if true = true then _ else _
      rw [if_pos rfl]
      obtain ⟨ds, rfl⟩ := tup_of h
      obtain ⟨a, xs, rfl, e, Da⟩ := dat_tup D
      refine ⟨_, rfl, _, _, rfl, .inr (SqT.of e), _, rfl, _, _, rfl, rfl, ?_⟩
      rw [Da.len]
      have en : decide (((ds.length : Nat) : Int) ≤ ((n : Nat) : Int)) = decide (ds.length ≤ n) := by simp
      show Q (.bl (decide (((ds.length : Nat) : Int) ≤ ((n : Nat) : Int)))) H
      rw [en]
      exact q'
theorem ok_isPair {f : Addr} {fd : FuncData} (F : Fun K "is_pair" "is_pair" sIsPair f fd) (B : Blt mg) : FnOk P w K mg base CX0 1 f fd ["value"] (spJ pairB) := by
  refine F.ok scIsPair (fun vs H Q E h => ?_) (fun cdv A outer s H vs Q E hr h => ?_)
  · obtain ⟨v, d, rfl, _⟩ := h
    rfl
  · obtain ⟨v, d, rfl, D, li, q⟩ := h
    refine ⟨_, pss_one (ps_ret (pe_and (pe_callB call_isi (by rfl) B.isi (by decide +kernel) (pa_cons (pv 0) (pa_cons (pe_bltn (v := V.ty "tuple") (by rfl) B.tuple (by decide +kernel) rfl) pa_nil)))
      (pe_one (pe_cmpR op_eq (pe_callB call_len_seq (by rfl) B.len (by decide +kernel) (pa_cons (pv 0) pa_nil)) pe_int (nomark _))))), ?_⟩
    refine ⟨_, rfl, _, _, _, _, isTup d, rfl, .ty _, ty_dat D, kit_ty (kit_tup d), isTup d, rfl, ?_⟩
    have q' := q H (Same.refl _)
    cases h : isTup d with
    | false =>
      rw [pairB, h] at q'
      show if false = true then _ else _
      rw [if_neg (by decide)]
      exact q'
    | true =>
      rw [pairB, h] at q'
      show if true = true then _ else _
      rw [if_pos rfl]
      obtain ⟨ds, rfl⟩ := tup_of h
      obtain ⟨a, xs, rfl, e, Da⟩ := dat_tup D
      refine ⟨_, rfl, _, _, rfl, .inr (SqT.of e), rfl, ?_⟩
      rw [Da.len]
      have en : decide (V.int ((ds.length : Nat) : Int) = V.int 2) = decide (ds.length = 2) := by
        by_cases z : ds.length = 2
        · rw [z]; rfl
        · rw [decide_eq_false z, decide_eq_false (fun y => z (by injection y with y; omega))]
      show Q (.bl (decide (V.int ((ds.length : Nat) : Int) = V.int 2))) H
      rw [en]
      exact q'
theorem ok_isRising {f : Addr} {fd : FuncData} (F : Fun K "is_rising" "is_rising" sIsRising f fd) (B : Blt mg) : FnOk P w K mg base CX0 1 f fd ["parts"] (spRise K) := by
  refine F.ok scIsRising (fun vs H Q E h => ?_) (fun cdv A outer s H vs Q E hr h => ?_)
  · obtain ⟨a, xs, ds, rfl, _⟩ := h
    rfl
  · obtain ⟨a, xs, ds, rfl, sq, D, L, len, q⟩ := h
    have hu : (A.deeper (envOfC "is_rising" (defScope sIsRising) s.heap.objs.size f cdv)).units + 64 < cLine := hr.units
    refine ⟨_, pss_one (ps_ret (pe_callB (cr_all rfl) (by rfl) B.all (by decide +kernel) (pa_cons (pe_lc (own := [("k", 1)]) (g := gName 1) (tt := tYes) (te := tOp rLtD (tOp (rIx K) (tVar 0) (tVar 1)) (tOp (rIx K) (tVar 0) (tOp (rI0 fun i j => V.int (i + j)) (tVar 1) (tC (V.int 1))))) rfl scIsRising.nd (pi_range1 rfl B.range (pa_cons (pe_op op_sub (pe_callB call_len_seq (by rfl) B.len (by decide +kernel) (pa_cons (pv 0) pa_nil)) pe_int) pa_nil))
      (blkOk_by (N := ["parts", "k"]) (sc := defScope sIsRising) (by decide +kernel)) (fun _ _ _ _ _ => pg_name (i := 1) scIsRising.nd rfl (Or.inl rfl)) (fun _ _ _ _ _ => pts_nil)
      (fun _ _ _ _ _ => by exact pe_cmpR (op_ltD (by exact hu)) (pe_ix ix_seq (pv 0) (pv 1) (fun _ _ => rfl)) (pe_ix ix_seq (pv 0) (pe_op op_add (pv 1) pe_int) (fun _ _ => rfl)) (nomark _))) pa_nil))), ?_⟩
    have lx : xs.length = ds.length := D.len
    refine ⟨_, rfl, _, _, rfl, sq, _, _, rfl, rfl, _, rfl, by omega, by omega, fun D0 hD0 => ?_⟩
    refine lc_range (lo := 0) (n := ((xs.length : Int) - 1).toNat) (fun j H4 => H4 D0 = some (.lst (((List.range j).map (ltAt ds)).map V.bl)) ∧ Same H H4) ⟨upd_same, same_new hD0⟩ ?_ ?_
    · rintro j H4 hj ⟨eD, S⟩
      have j1 : j + 1 < ds.length := by omega
      obtain ⟨x, hx, Dx⟩ := dats_get D j _ (List.getElem?_eq_getElem (show j < ds.length by omega))
      obtain ⟨y, hy, Dy⟩ := dats_get D (j + 1) _ (List.getElem?_eq_getElem j1)
      have m1 := List.getElem_mem (show j < ds.length by omega)
      have m2 := List.getElem_mem j1
      have at1 : atI xs (0 + (j : Int)) = some x := by rw [Int.zero_add]; exact atI_nat hx
      have at2 : atI xs (0 + (j : Int) + 1) = some y := by
        have e : (0 : Int) + (j : Int) + 1 = ((j + 1 : Nat) : Int) := by omega
        rw [e]
        exact atI_nat hy
      refine ⟨rfl, yes_of ?_⟩
      refine ⟨_, rfl, _, rfl, ix_any (same_sq S sq) at1 ⟨_, rfl, _, rfl, _, _, rfl, rfl, ix_any (same_sq S sq) at2 ?_⟩⟩
      refine ⟨_, _, Dx.same S, Dy.same S, L.2 _ m1 _ m2, (L.1 _ m1).1, (L.1 _ m1).2, _, eD, by rw [List.length_map, List.length_map, List.length_range]; exact small1000 (by omega), ?_, same_upd S hD0⟩
      rw [upd_same, List.range_succ, List.map_append, List.map_append]
      have e1 : ltAt ds j = dataLt ds[j] ds[j + 1] := by
        unfold ltAt
        rw [List.getD_eq_getElem?_getD, List.getD_eq_getElem?_getD, List.getElem?_eq_getElem (show j < ds.length by omega), List.getElem?_eq_getElem j1]
        rfl
      rw [List.map_singleton, e1]
      rfl
    · rintro H4 ⟨eD, S⟩
      have en : ((xs.length : Int) - 1).toNat = ds.length - 1 := by omega
      rw [en] at eD
      refine ⟨D0, _, rfl, SqL.of eD, ?_⟩
      rw [rise_range]
      exact q H4 S
end
end S2

set_option Elab.async false
set_option linter.all false
set_option maxRecDepth 100000
set_option maxHeartbeats 2000000
/-! names, letters, clauses, rows: any data asked -/
namespace S2
open PySem PySem.W PySem.Spec PyProof.Rows L2 S1
/-- the numbers at the head of the program -/
structure Cst (mg : Str → Option Value) : Prop where
  small : ∃ t, mg "SMALL" = some (.str "abcdefghijklmnopqrstuvwxyz" t)
  signs : ∃ t, mg "MOST_SIGNS" = some (.int 8 t)
  picks : ∃ t, mg "MOST_PICKS" = some (.int 6 t)
  owns : ∃ t, mg "MOST_OWNS" = some (.int 8 t)
  clauses : ∃ t, mg "MOST_CLAUSES" = some (.int 40 t)
  copies : ∃ t, mg "MOST_COPIES" = some (.int 120 t)
def azB (c : Nat) : Bool := decide (97 ≤ c ∧ c ≤ 122)
theorem abc_iff (c : Nat) : decide (c ∈ ("abcdefghijklmnopqrstuvwxyz" : Str).cps.toList) = azB c := by
  have z : ∀ k, k < 123 → decide (k ∈ ("abcdefghijklmnopqrstuvwxyz" : Str).cps.toList) = azB k := by decide +kernel
  by_cases h : c < 123
  · exact z c h
  · have hm : c ∉ ("abcdefghijklmnopqrstuvwxyz" : Str).cps.toList := fun m => by
      have y : ∀ k ∈ ("abcdefghijklmnopqrstuvwxyz" : Str).cps.toList, k < 123 := by decide +kernel
      exact h (y c m)
    rw [decide_eq_false hm, azB, decide_eq_false (by omega)]
theorem nmB_eq (x : Str) : nmB x = (decide (1 ≤ x.length) && decide (x.length ≤ 8) && (x.cps.toList.map azB).all id) := by
  rw [all_id]
  rfl
section
variable {K : PySem.W.Frag} {g : TG} {te : TE} {vs : List Nat} {σ : L2.St} {H : Hp} {D : Addr} {Qd : Hp → Prop}
theorem lc_boolS {x : Str} {p : Nat → Bool} (hD : H D = none) (len : x.cps.size ≤ 1000)
    (step : ∀ (c : Nat) (H4 : Hp) (Qe : VK), c ∈ x.cps.toList → Same H H4 → (∀ H5, Same H4 H5 → Qe (.bl (p c)) H5) → g (.str ⟨#[c]⟩) (wipe σ vs) H4 fun σ2 H2 => wipe σ2 vs = wipe σ vs ∧ te σ2 H2 Qe)
    (gm : ∀ x σ1 H1 (A B : L2.St → Hp → Prop), (∀ σ2 H2, A σ2 H2 → B σ2 H2) → g x σ1 H1 A → g x σ1 H1 B)
    (hd : ∀ H5, H5 D = some (.lst ((x.cps.toList.map p).map V.bl)) → Same H H5 → Qd H5) :
    ∃ W : Nat → Nat → Hp → Prop, (∃ m, W 0 m (upd H D (.lst []))) ∧ ∀ i m H, W i m H →
      ((Its x).stop i H ∧ Qd H) ∨ ((Its x).go i H ∧ ∃ Nx : Hp → Prop, (∀ H', Nx H' → ∃ m', m' < m ∧ W (i + 1) m' H') ∧ ∀ y H', (Its x).yld i H y H' → g y (wipe σ vs) H' fun σ2 H2 => wipe σ2 vs = wipe σ vs ∧ tYes σ2 H2 fun b H3 =>
        if b = true then te σ2 H3 fun y H4 => ∃ acc, H4 D = some (.lst acc) ∧ acc.length < sizeLine ∧ Nx (upd H4 D (.lst (acc ++ [y]))) else Nx H3) := by
  refine ⟨fun i m H4 => m = x.cps.size - i ∧ i ≤ x.cps.size ∧ H4 D = some (.lst (((x.cps.toList.take i).map p).map V.bl)) ∧ Same H H4, ⟨_, rfl, Nat.zero_le _, upd_same, same_new hD⟩, ?_⟩
  rintro i m H4 ⟨rfl, hi, e4, S4⟩
  by_cases il : i < x.cps.size
  · refine .inr ⟨il, fun H5 => i + 1 ≤ x.cps.size ∧ H5 D = some (.lst (((x.cps.toList.take (i + 1)).map p).map V.bl)) ∧ Same H H5, fun H5 z => ⟨x.cps.size - (i + 1), by omega, rfl, z.1, z.2⟩, ?_⟩
    rintro y H' ⟨rfl, c, hc, rfl⟩
    have hc' : x.cps.toList[i]? = some c := by rw [Array.getElem?_toList]; exact hc
    have mc : c ∈ x.cps.toList := List.mem_of_getElem? hc'
    refine gm _ _ _ _ _ (fun σ2 H2 z => ⟨z.1, yes_of z.2⟩) (step c _ _ mc S4 fun H5 S5 => ?_)
    have e5 := S5 _ _ e4
    refine ⟨_, e5, ?_, il, ?_, same_upd (S4.trans S5) hD⟩
    · rw [List.length_map, List.length_map, List.length_take, Array.length_toList]
      exact small1000 (by omega)
    · rw [upd_same, take_next hc', List.map_append, List.map_append]
      rfl
  · have e : i = x.cps.size := by omega
    subst e
    rw [← Array.length_toList, List.take_length] at e4
    exact .inl ⟨Nat.le_refl _, hd H4 e4 S4⟩
end
theorem ite_yes {c A B : Prop} [Decidable c] (h : c) (k : A) : if c then A else B := by rw [if_pos h]; exact k
theorem let_eq (d : PyData) : isLt d = (pairB d && (isNm ((parts d).getD 0 .none) && isTr ((parts d).getD 1 .none))) := by
  cases d with
  | tuple ds =>
    match ds with
    | [] => rfl
    | [a] => rfl
    | [a, b] => rfl
    | a :: b :: c :: r =>
      have h : decide ((parts (.tuple (a :: b :: c :: r))).length = 2) = false := decide_eq_false (fun z => by simp [parts] at z)
      rw [pairB, h, Bool.and_false]
      rfl
  | _ => rfl
theorem pair_of {d : PyData} (h : pairB d = true) : ∃ a b, d = .tuple [a, b] := by
  unfold pairB at h
  rw [Bool.and_eq_true, decide_eq_true_eq] at h
  obtain ⟨ds, rfl⟩ := tup_of h.1
  match ds, h.2 with
  | [a, b], _ => exact ⟨a, b, rfl⟩
theorem dats_two {H : Hp} {xs : List V} {d e : PyData} (D : DatAll H xs [d, e]) : ∃ x y, xs = [x, y] ∧ Dat H x d ∧ Dat H y e := by
  cases D with
  | cons h1 D =>
    cases D with
    | cons h2 D =>
      cases D
      exact ⟨_, _, rfl, h1, h2⟩
theorem lim_two {d e : PyData} (h : lim (.tuple [d, e]) = true) : lim d = true ∧ lim e = true := by
  obtain ⟨_, h⟩ := lim_tup h
  exact ⟨h d List.mem_cons_self, h e (List.mem_cons_of_mem _ List.mem_cons_self)⟩
section
variable {P : Program} {w : World} {K : PySem.W.Frag} {mg : Str → Option Value} {base : Heap}
theorem scIsName : FnScope ["value", "sign"] ["value"] (defScope sIsName) := ⟨rfl, rfl, rfl, by decide +kernel, rfl, by decide +kernel, by decide +kernel⟩
theorem scIsLetter : FnScope ["value"] ["value"] (defScope sIsLetter) := ⟨rfl, rfl, rfl, by decide +kernel, rfl, by decide +kernel, by decide +kernel⟩
theorem scIsAnyClause : FnScope ["value", "part", "letter"] ["value"] (defScope sIsAnyClause) := ⟨rfl, rfl, rfl, by decide +kernel, rfl, by decide +kernel, by decide +kernel⟩
theorem scAreNames : FnScope ["value", "most", "part"] ["value", "most"] (defScope sAreNames) := ⟨rfl, rfl, rfl, by decide +kernel, rfl, by decide +kernel, by decide +kernel⟩
theorem ok_isName {f : Addr} {fd : FuncData} (F : Fun K "is_name" "is_name" sIsName f fd) (B : Blt mg) (C : Cst mg) : FnOk P w K mg base CX0 1 f fd ["value"] (spJ isNm) := by
  obtain ⟨t1, c1⟩ := C.small
  obtain ⟨t2, c2⟩ := C.signs
  refine F.ok scIsName (fun vs H Q E h => ?_) (fun cdv A outer s H vs Q E hr h => ?_)
  · obtain ⟨v, d, rfl, _⟩ := h
    rfl
  · obtain ⟨v, d, rfl, D, li, q⟩ := h
    refine ⟨_, pss_cons (ps_if (PW.pt (pw_or (pt_not (pt_val (pe_callB call_isi (by rfl) B.isi (by decide +kernel) (pa_cons (pv 0) (pa_cons (pe_bltn (v := V.ty "str") (by rfl) B.str (by decide +kernel) rfl) pa_nil)))))
        (pw_or1 (pt_not (pt_chain op_le op_le pe_int (pe_callB call_len_str (by rfl) B.len (by decide +kernel) (pa_cons (pv 0) pa_nil)) (pe_glob (v := V.int 8) rfl c2 ⟨_, rfl⟩)))))) (pss_one (ps_ret pe_bl)) pss_nil)
      (pss_one (ps_ret (pe_callB (cr_all rfl) (by rfl) B.all (by decide +kernel) (pa_cons (pe_lc (own := [("sign", 1)]) (g := gName 1) (tt := tYes) rfl scIsName.nd (pi_str (pv 0))
        (blkOk_by (N := ["value", "sign"]) (sc := defScope sIsName) (by decide +kernel)) (fun _ _ _ _ _ => pg_name (i := 1) scIsName.nd rfl (Or.inl rfl)) (fun _ _ _ _ _ => pts_nil)
        (fun _ _ _ _ _ => pe_cmpR op_in_sign (pv 1) (pe_glob (v := V.str "abcdefghijklmnopqrstuvwxyz") rfl c1 ⟨_, rfl⟩) (by with_unfolding_all rfl))) pa_nil)))), ?_⟩
    refine ⟨_, rfl, _, _, _, _, isStr d, rfl, .ty _, ty_dat D, kit_ty (kit_str d), isStr d, rfl, ?_⟩
    cases h : isStr d with
    | false =>
      show if (!false) = true then _ else _
      rw [if_pos (by decide)]
      show if true = true then _ else _
      rw [if_pos rfl]
      have e : isNm d = false := by cases d <;> first | rfl | cases h
      rw [e] at q
      exact q H (Same.refl _)
    | true =>
      obtain ⟨x, rfl⟩ := str_of h
      cases dat_str D
      have len1 : x.length ≤ 1000 := by rw [lim, decide_eq_true_eq] at li; exact li
      have len : x.length ≤ sizeLine := Nat.le_of_lt (small1000 len1)
      have e := nmB_eq x
      show if (!true) = true then _ else _
      rw [if_neg (by decide)]
      refine ⟨_, rfl, x, rfl, len, _, _, rfl, rfl, _, rfl, ?_⟩
      have fin0 : nmB x = false → Q (.bl false) H := fun z => by
        have q' := q H (Same.refl _)
        rw [show isNm (.str x) = nmB x from rfl, z] at q'
        exact q'
      refine ite2 (fun h1 => ?_) (fun h1 => ?_)
      · refine ⟨_, _, rfl, rfl, _, rfl, ?_⟩
        have l1 : (1 : Int) ≤ (x.length : Int) := of_decide_eq_true h1
        cases h2 : decide ((x.length : Int) ≤ 8) with
        | false =>
          show if (!false) = true then _ else _
          rw [if_pos (by decide)]
          have l8 : ¬ (x.length : Int) ≤ 8 := of_decide_eq_false h2
          exact fin0 (by rw [e, decide_eq_false (show ¬ x.length ≤ 8 by omega), Bool.and_false, Bool.false_and])
        | true =>
          show if (!true) = true then _ else _
          rw [if_neg (by decide)]
          have l8 : (x.length : Int) ≤ 8 := of_decide_eq_true h2
          have e' : isNm (.str x) = (x.cps.toList.map azB).all id := by
            show nmB x = _
            rw [e, decide_eq_true (show 1 ≤ x.length by omega), decide_eq_true (show x.length ≤ 8 by omega), Bool.true_and, Bool.true_and]
          refine ⟨_, rfl, x, rfl, fun D0 hD => ?_⟩
          refine lc_boolS (p := azB) hD (by show x.length ≤ 1000; omega) (fun c H4 Qe mc S4 k => ?_) gName_mono (fun H5 e5 S5 => ?_)
          · refine ⟨rfl, _, rfl, c, _, rfl, rfl, ?_⟩
            show Qe (.bl (decide _)) H4
            rw [abc_iff]
            exact k H4 (Same.refl _)
          · refine ⟨D0, _, rfl, SqL.of e5, ?_⟩
            rw [← e']
            exact q H5 S5
      · have l1 : ¬ (1 : Int) ≤ (x.length : Int) := fun z => h1 (decide_eq_true z)
        refine ⟨_, rfl, ?_⟩
        show if (!false) = true then _ else _
        rw [if_pos (by decide)]
        exact fin0 (by rw [e, decide_eq_false (show ¬ 1 ≤ x.length by omega), Bool.false_and, Bool.false_and])
theorem ok_isLetter {f fP fN fT : Addr} {fd fdP fdN fdT : FuncData} (F : Fun K "is_letter" "is_letter" sIsLetter f fd) (Pr : Has K mg "is_pair" sIsPair ["value"] fP fdP) (Nn : Has K mg "is_name" sIsName ["value"] fN fdN) (Tr : Has K mg "is_truth" sIsTruth ["value"] fT fdT)
    (B : Blt mg) (C : Cst mg) : FnOk P w K mg base CX0 2 f fd ["value"] (spJ isLt) := by
  have GP : FnOk P w K mg base CX0 1 fP fdP ["value"] (spJ pairB) := ok_isPair Pr.F B
  have GN : FnOk P w K mg base CX0 1 fN fdN ["value"] (spJ isNm) := ok_isName Nn.F B C
  have GT : FnOk P w K mg base CX0 1 fT fdT ["value"] (spJ isTr) := ok_isTruth Tr.F
  refine F.ok scIsLetter (fun vs H Q E h => ?_) (fun cdv A outer s H vs Q E hr h => ?_)
  · obtain ⟨v, d, rfl, _⟩ := h
    rfl
  · obtain ⟨v, d, rfl, D, li, q⟩ := h
    refine ⟨_, pss_one (ps_ret (pe_and (pe_call GP hr rfl Pr.g Pr.F.kp Pr.b .nil pass0 (pa_cons (pv 0) pa_nil)) (pe_and (pe_call GN hr rfl Nn.g Nn.F.kp Nn.b .nil pass0 (pa_cons (pe_ix ix_tup (pv 0) pe_int (fun _ _ => rfl)) pa_nil))
      (pe_one (pe_call GT hr rfl Tr.g Tr.F.kp Tr.b .nil pass0 (pa_cons (pe_ix ix_tup (pv 0) pe_int (fun _ _ => rfl)) pa_nil)))))), ?_⟩
    have e := let_eq d
    refine ⟨_, rfl, v, d, rfl, D, li, fun H1 S1 => ⟨pairB d, rfl, ?_⟩⟩
    cases h : pairB d with
    | false =>
      rw [h, Bool.false_and] at e
      rw [e] at q
      show if false = true then _ else _
      rw [if_neg (by decide)]
      exact q H1 S1
    | true =>
      obtain ⟨a, b, rfl⟩ := pair_of h
      obtain ⟨t, xs, rfl, et, Da⟩ := dat_tup D
      obtain ⟨x, y, rfl, D1, D2⟩ := dats_two Da
      obtain ⟨l1, l2⟩ := lim_two li
      show if true = true then _ else _
      rw [if_pos rfl]
      refine ⟨_, rfl, t, _, 0, _, rfl, rfl, SqT.of (S1 _ _ et), rfl, x, a, rfl, D1.same S1, l1, fun H2 S2 => ⟨isNm a, rfl, ?_⟩⟩
      have e2 : isLt (.tuple [a, b]) = (isNm a && isTr b) := rfl
      rw [e2] at q
      have S12 := S1.trans S2
      cases h2 : isNm a with
      | false =>
        rw [h2] at q
        show if false = true then _ else _
        rw [if_neg (by decide)]
        exact q H2 S12
      | true =>
        rw [h2] at q
        show if true = true then _ else _
        rw [if_pos rfl]
        exact ⟨_, rfl, t, _, 1, _, rfl, rfl, SqT.of (S12 _ _ et), rfl, y, b, rfl, D2.same S12, l2, fun H3 S3 => q H3 (S12.trans S3)⟩
theorem likes_strs {α : Type} (f : α → Str) (l : List α) : Likes (l.map fun x => PyData.str (f x)) := by
  refine ⟨fun d hd => ?_, fun d hd e he => ?_⟩
  · obtain ⟨x, _, rfl⟩ := List.mem_map.mp hd
    exact ⟨(fun z => nomatch z), Nat.zero_le _⟩
  · obtain ⟨x, _, rfl⟩ := List.mem_map.mp hd
    obtain ⟨y, _, rfl⟩ := List.mem_map.mp he
    simp [alike]
theorem likes_nms {ds : List PyData} (h : ds.all isNm = true) : Likes ds := by
  rw [List.all_eq_true] at h
  refine ⟨fun d hd => ?_, fun d hd e he => ?_⟩
  · obtain ⟨x, rfl, _⟩ := nm_of' (h d hd)
    exact ⟨(fun z => nomatch z), Nat.zero_le _⟩
  · obtain ⟨x, rfl, _⟩ := nm_of' (h d hd)
    obtain ⟨y, rfl, _⟩ := nm_of' (h e he)
    simp [alike]
theorem lt_of {d : PyData} (h : isLt d = true) : ∃ x b, d = .tuple [.str x, .bool b] ∧ nmB x = true := by
  rw [let_eq, Bool.and_eq_true, Bool.and_eq_true] at h
  obtain ⟨a, b, rfl⟩ := pair_of h.1
  obtain ⟨x, ex, hx⟩ := nm_of' h.2.1
  have h3 : isTr b = true := h.2.2
  cases b with
  | bool c =>
    have ex' : a = .str x := ex
    subst ex'
    exact ⟨x, c, rfl, hx⟩
  | _ => cases h3
theorem dats_strs' {H : Hp} {α : Type} (f : α → Str) : ∀ l : List α, DatAll H (l.map fun x => V.str (f x)) (l.map fun x => PyData.str (f x))
  | [] => .nil
  | x :: l => .cons (.str _) (dats_strs' f l)
theorem ok_isAnyClause {f fL fR : Addr} {fd fdL fdR : FuncData} (F : Fun K "is_any_clause" "is_any_clause" sIsAnyClause f fd) (Le : Has K mg "is_letter" sIsLetter ["value"] fL fdL) (GL : FnOk P w K mg base CX0 2 fL fdL ["value"] (spJ isLt))
    (Ri : Has K mg "is_rising" sIsRising ["parts"] fR fdR) (B : Blt mg) : FnOk P w K mg base CX0 3 f fd ["value"] (spJ isCl) := by
  have GR : FnOk P w K mg base CX0 1 fR fdR ["parts"] (spRise K) := ok_isRising Ri.F B
  refine F.ok scIsAnyClause (fun vs H Q E h => ?_) (fun cdv A outer s H vs Q E hr h => ?_)
  · obtain ⟨v, d, rfl, _⟩ := h
    rfl
  · obtain ⟨v, d, rfl, D, li, q⟩ := h
    have hr1 := hr.mono (show 1 ≤ 2 by decide)
    refine ⟨_, pss_cons (ps_if (PW.pt (pw_or (pt_not (pt_val (pe_callB call_isi (by rfl) B.isi (by decide +kernel) (pa_cons (pv 0) (pa_cons (pe_bltn (v := V.ty "tuple") (by rfl) B.tuple (by decide +kernel) rfl) pa_nil)))))
        (pw_or1 (pt_not (pt_val (pe_callB (cr_all rfl) (by rfl) B.all (by decide +kernel) (pa_cons (pe_lc (own := [("part", 1)]) (g := gName 1) (tt := tYes) rfl scIsAnyClause.nd (pi_tup (pv 0))
          (blkOk_by (N := ["value", "part", "letter"]) (sc := defScope sIsAnyClause) (by decide +kernel)) (fun _ _ _ _ _ => pg_name (i := 1) scIsAnyClause.nd rfl (Or.inl rfl)) (fun _ _ _ _ _ => pts_nil)
          (fun _ _ _ _ _ => pe_call GL (by exact hr) (by rfl) Le.g Le.F.kp Le.b .nil pass0 (pa_cons (pv 1) pa_nil))) pa_nil))))))) (pss_one (ps_ret pe_bl)) pss_nil)
      (pss_one (ps_ret (pe_call GR hr1 rfl Ri.g Ri.F.kp Ri.b .nil pass0 (pa_cons (pe_lc (own := [("letter", 2)]) (g := gName 2) (tt := tYes) (te := tOp (rIxT K) (tVar 2) (tC (V.int 0))) rfl scIsAnyClause.nd (pi_tup (pv 0))
          (blkOk_by (N := ["value", "part", "letter"]) (sc := defScope sIsAnyClause) (by decide +kernel)) (fun _ _ _ _ _ => pg_name (i := 2) scIsAnyClause.nd rfl (Or.inl rfl)) (fun _ _ _ _ _ => pts_nil)
          (fun _ _ _ _ _ => by exact pe_ix ix_tup (pv 2) pe_int (fun _ _ => rfl))) pa_nil)))), ?_⟩
    refine ⟨_, rfl, _, _, _, _, isTup d, rfl, .ty _, ty_dat D, kit_ty (kit_tup d), isTup d, rfl, ?_⟩
    cases h : isTup d with
    | false =>
      rw [isCl, h, Bool.false_and] at q
      show if (!false) = true then _ else _
      rw [if_pos (by decide)]
      show if true = true then _ else _
      rw [if_pos rfl]
      exact q H (Same.refl _)
    | true =>
      rw [isCl, h, Bool.true_and] at q
      obtain ⟨ds, rfl⟩ := tup_of h
      obtain ⟨a, xs, rfl, e, Da⟩ := dat_tup D
      obtain ⟨len, lm⟩ := lim_tup li
      show if (!true) = true then _ else _
      rw [if_neg (by decide)]
      refine ⟨_, rfl, a, rfl, ⟨_, SqT.of e⟩, fun D0 hD0 => lc_allD (K := K) (p := isLt) e Da hD0 len (fun i x d H4 Qe hd S4 Dx k => ?_) gName_mono (fun H5 e5 S5 => ?_)⟩
      · exact ⟨rfl, _, rfl, x, d, rfl, Dx, lm d (List.mem_of_getElem? hd), k⟩
      · refine ⟨D0, _, rfl, SqL.of e5, _, rfl, ?_⟩
        rw [all_id]
        have q1 : ∀ H', Same H H' → Q (.bl (ds.all isLt && riseB (ds.map fun x => .str (fstS x)))) H' := q
        cases h2 : ds.all isLt with
        | false =>
          rw [h2] at q1
          show if (!false) = true then _ else _
          rw [if_pos (by decide)]
          exact q1 H5 S5
        | true =>
          rw [h2] at q1
          show if (!true) = true then _ else _
          rw [if_neg (by decide)]
          refine ⟨_, rfl, a, rfl, ⟨_, SqT.of (S5 _ _ e)⟩, fun D1 hD1 => lc_mapD (K := K) (f := fun x => V.str (fstS x)) (S5 _ _ e) (DatAll.same S5 Da) hD1 len (fun i x d H4 Qe hd S4 Dx k => ?_) gName_mono (fun H6 e6 S6 => ?_)⟩
          · obtain ⟨z, b, rfl, _⟩ := lt_of (List.all_eq_true.mp h2 d (List.mem_of_getElem? hd))
            obtain ⟨t, ys, rfl, et, Dt⟩ := dat_tup Dx
            obtain ⟨u1, u2, rfl, D1', D2'⟩ := dats_two Dt
            cases dat_str D1'
            exact ⟨rfl, _, rfl, t, _, 0, _, rfl, rfl, SqT.of et, rfl, k H4 (Same.refl _)⟩
          · exact ⟨D1, _, _, rfl, .inl (SqL.of e6), dats_strs' fstS ds, likes_strs fstS ds, by rw [List.length_map]; exact len, fun H' S => q1 H' ((S5.trans S6).trans S)⟩
def spNames : Sp := fun vs H Q _ => ∃ (v : V) (d : PyData) (n : Nat), vs = [v, .int (n : Nat)] ∧ Dat H v d ∧ lim d = true ∧ ∀ H', Same H H' → Q (.bl (isNames n d)) H'
theorem ok_areNames {f fU fN fR : Addr} {fd fdU fdN fdR : FuncData} (F : Fun K "are_names" "are_names" sAreNames f fd) (Tu : Has K mg "is_tuple" sIsTuple ["value", "most"] fU fdU) (Nn : Has K mg "is_name" sIsName ["value"] fN fdN)
    (Ri : Has K mg "is_rising" sIsRising ["parts"] fR fdR) (B : Blt mg) (C : Cst mg) : FnOk P w K mg base CX0 2 f fd ["value", "most"] spNames := by
  have GU : FnOk P w K mg base CX0 1 fU fdU ["value", "most"] spTupN := ok_isTuple Tu.F B
  have GN : FnOk P w K mg base CX0 1 fN fdN ["value"] (spJ isNm) := ok_isName Nn.F B C
  have GR : FnOk P w K mg base CX0 1 fR fdR ["parts"] (spRise K) := ok_isRising Ri.F B
  refine F.ok scAreNames (fun vs H Q E h => ?_) (fun cdv A outer s H vs Q E hr h => ?_)
  · obtain ⟨v, d, n, rfl, _⟩ := h
    rfl
  · obtain ⟨v, d, n, rfl, D, li, q⟩ := h
    refine ⟨_, pss_cons (ps_if (PW.pt (pw_or (pt_not (pt_val (pe_call GU hr rfl Tu.g Tu.F.kp Tu.b .nil pass0 (pa_cons (pv 0) (pa_cons (pv 1) pa_nil)))))
        (pw_or1 (pt_not (pt_val (pe_callB (cr_all rfl) (by rfl) B.all (by decide +kernel) (pa_cons (pe_lc (own := [("part", 2)]) (g := gName 2) (tt := tYes) rfl scAreNames.nd (pi_tup (pv 0))
          (blkOk_by (N := ["value", "most", "part"]) (sc := defScope sAreNames) (by decide +kernel)) (fun _ _ _ _ _ => pg_name (i := 2) scAreNames.nd rfl (Or.inl rfl)) (fun _ _ _ _ _ => pts_nil)
          (fun _ _ _ _ _ => pe_call GN (by exact hr) (by rfl) Nn.g Nn.F.kp Nn.b .nil pass0 (pa_cons (pv 2) pa_nil))) pa_nil))))))) (pss_one (ps_ret pe_bl)) pss_nil)
      (pss_one (ps_ret (pe_call GR hr rfl Ri.g Ri.F.kp Ri.b .nil pass0 (pa_cons (pv 0) pa_nil)))), ?_⟩
    refine ⟨_, rfl, _, rfl, v, d, n, rfl, D, li, fun H1 S1 => ⟨_, rfl, ?_⟩⟩
    have eN : isNames n d = ((isTup d && decide ((parts d).length ≤ n)) && ((parts d).all isNm && riseB (parts d))) := by rw [isNames, Bool.and_assoc]
    rw [eN] at q
    cases h : (isTup d && decide ((parts d).length ≤ n)) with
    | false =>
      rw [h, Bool.false_and] at q
      show if (!false) = true then _ else _
      rw [if_pos (by decide)]
      show if true = true then _ else _
      rw [if_pos rfl]
      exact q H1 S1
    | true =>
      rw [h, Bool.true_and] at q
      rw [Bool.and_eq_true] at h
      obtain ⟨ds, rfl⟩ := tup_of h.1
      obtain ⟨a, xs, rfl, e, Da⟩ := dat_tup D
      obtain ⟨len, lm⟩ := lim_tup li
      show if (!true) = true then _ else _
      rw [if_neg (by decide)]
      refine ⟨_, rfl, a, rfl, ⟨_, SqT.of (S1 _ _ e)⟩, fun D0 hD0 => lc_allD (K := K) (p := isNm) (S1 _ _ e) (DatAll.same S1 Da) hD0 len (fun i x d H4 Qe hd S4 Dx k => ?_) gName_mono (fun H5 e5 S5 => ?_)⟩
      · exact ⟨rfl, _, rfl, x, d, rfl, Dx, lm d (List.mem_of_getElem? hd), k⟩
      · refine ⟨D0, _, rfl, SqL.of e5, _, rfl, ?_⟩
        rw [all_id]
        have S15 := S1.trans S5
        have q1 : ∀ H', Same H H' → Q (.bl (ds.all isNm && riseB ds)) H' := q
        cases h2 : ds.all isNm with
        | false =>
          rw [h2] at q1
          show if (!false) = true then _ else _
          rw [if_pos (by decide)]
          exact q1 H5 S15
        | true =>
          rw [h2] at q1
          show if (!true) = true then _ else _
          rw [if_neg (by decide)]
          exact ⟨_, rfl, a, _, ds, rfl, .inr (SqT.of (S15 _ _ e)), DatAll.same S15 Da, likes_nms h2, len, fun H' S => q1 H' (S15.trans S)⟩
end
end S2

set_option Elab.async false
set_option linter.all false
set_option maxRecDepth 100000
set_option maxHeartbeats 4000000
/-! rows of letters of viewers, judged whatever they be -/
namespace S2
open PySem PySem.W PySem.Spec PyProof.Rows L2 S1
def alB (ws : List Str) (d : PyData) : Bool := isTup d && ((parts d).all (fun x => isLt x && decide (fstS x ∈ ws)) && riseB (parts d))
/-- a letter among data -/
def lt_at (d : PyData) : Ltr := (fstS d, match (parts d).getD 1 .none with | .bool b => b | _ => false)
def ltrs (d : PyData) : List Ltr := (parts d).map lt_at
theorem isLt_is {d : PyData} (h : isLt d = true) : d = ltD (lt_at d) ∧ nmB (lt_at d).1 = true := by
  obtain ⟨x, b, rfl, h2⟩ := lt_of h
  exact ⟨rfl, h2⟩
theorem alB_is {ws : List Str} {d : PyData} (h : alB ws d = true) : d = clD (ltrs d) ∧ (∀ l ∈ ltrs d, l.1 ∈ ws) ∧ riseB ((ltrs d).map ltD) = true := by
  unfold alB at h
  rw [Bool.and_eq_true, Bool.and_eq_true, List.all_eq_true] at h
  obtain ⟨h1, h2, h3⟩ := h
  obtain ⟨ds, rfl⟩ := tup_of h1
  have e : ds = (ltrs (.tuple ds)).map ltD := by
    show ds = (ds.map lt_at).map ltD
    rw [List.map_map]
    conv => lhs; rw [← List.map_id ds]
    refine List.map_congr_left fun x hx => ?_
    have z := h2 x hx
    rw [Bool.and_eq_true] at z
    exact (isLt_is z.1).1
  refine ⟨congrArg PyData.tuple e, fun l hl => ?_, by rw [← e]; exact h3⟩
  obtain ⟨x, hx, rfl⟩ := List.mem_map.mp (show l ∈ ds.map lt_at from hl)
  have z := h2 x hx
  rw [Bool.and_eq_true] at z
  exact of_decide_eq_true z.2
def spAL : Sp := fun vs H Q _ => ∃ (v : V) (lv : Addr) (d : PyData) (ws : List Str), vs = [v, .ref lv] ∧ Dat H v d ∧ lim d = true ∧ H lv = some (.lst (ws.map V.str)) ∧ ∀ H', Same H H' → Q (.bl (alB ws d)) H'
section
variable {P : Program} {w : World} {K : PySem.W.Frag} {mg : Str → Option Value} {base : Heap}
theorem scAL : FnScope ["value", "viewers", "part"] ["value", "viewers"] (defScope sAreLetters) := ⟨rfl, rfl, rfl, by decide +kernel, rfl, by decide +kernel, by decide +kernel⟩
theorem ok_areLetters {f fL fR : Addr} {fd fdL fdR : FuncData} (F : Fun K "are_letters_of" "are_letters_of" sAreLetters f fd) (Le : Has K mg "is_letter" sIsLetter ["value"] fL fdL) (GL : FnOk P w K mg base CX0 2 fL fdL ["value"] (spJ isLt)) (Ri : Has K mg "is_rising" sIsRising ["parts"] fR fdR) (B : Blt mg) :
    FnOk P w K mg base CX0 3 f fd ["value", "viewers"] spAL := by
  have GR : FnOk P w K mg base CX0 1 fR fdR ["parts"] (S2.spRise K) := S2.ok_isRising Ri.F B
  refine F.ok scAL (fun vs H Q E h => ?_) (fun cdv A outer s H vs Q E hr h => ?_)
  · obtain ⟨v, lv, d, ws, rfl, _⟩ := h
    rfl
  · obtain ⟨v, lv, d, ws, rfl, D, li, ev, q⟩ := h
    have hr1 := hr.mono (show 1 ≤ 2 by decide)
    refine ⟨_, pss_cons (ps_if (PW.pt (pw_or (pt_not (pt_val (pe_callB call_isi (by rfl) B.isi (by decide +kernel) (pa_cons (pv 0) (pa_cons (pe_bltn (v := V.ty "tuple") (by rfl) B.tuple (by decide +kernel) rfl) pa_nil)))))
        (pw_or1 (pt_not (pt_val (pe_callB (cr_all rfl) (by rfl) B.all (by decide +kernel) (pa_cons (pe_lc (own := [("part", 2)]) (g := gName 2) (tt := tYes) (te := tAndV (tCall (spJ isLt) [] E0 (tCons (tVar 2) tNil)) (tOp (rIn K false) (tOp (rIxT K) (tVar 2) (tC (V.int 0))) (tVar 1))) rfl scAL.nd (pi_tup (pv 0))
          (blkOk_by (N := ["value", "viewers", "part"]) (sc := defScope sAreLetters) (by decide +kernel)) (fun _ _ _ _ _ => pg_name (i := 2) scAL.nd rfl (Or.inl rfl)) (fun _ _ _ _ _ => pts_nil)
          (fun _ _ _ _ _ => by
            refine pe_and ?_ ?_
            · exact pe_call GL (by exact hr) (by rfl) Le.g Le.F.kp Le.b .nil pass0 (pa_cons (pv 2) pa_nil)
            · refine pe_one ?_
              exact pe_cmpR op_in_seq (pe_ix ix_tup (pv 2) pe_int (fun _ _ => rfl)) (pv 1) (by with_unfolding_all rfl))) pa_nil))))))) (pss_one (ps_ret pe_bl)) pss_nil)
      (pss_one (ps_ret (pe_call GR hr1 rfl Ri.g Ri.F.kp Ri.b .nil pass0 (pa_cons (pv 0) pa_nil)))), ?_⟩
    unfold alB at q
    refine ⟨_, rfl, _, _, _, _, isTup d, rfl, .ty _, ty_dat D, kit_ty (kit_tup d), _, rfl, ?_⟩
    cases ht : isTup d with
    | false =>
      rw [ht] at q
      show if (!false) = true then _ else _
      rw [if_pos (by decide)]
      show if true = true then _ else _
      rw [if_pos rfl]
      exact q H (Same.refl _)
    | true =>
      rw [ht, Bool.true_and] at q
      obtain ⟨ds, rfl⟩ := tup_of ht
      obtain ⟨a, xs, rfl, e, Da⟩ := dat_tup D
      obtain ⟨len, lm⟩ := lim_tup li
      show if (!true) = true then _ else _
      rw [if_neg (by decide)]
      refine ⟨_, rfl, a, rfl, ⟨_, SqT.of e⟩, fun D0 hD0 => lc_allD (K := K) (p := fun x => isLt x && decide (fstS x ∈ ws)) e Da hD0 len (fun i x d H4 Qe hd S4 Dx k => ?_) gName_mono (fun H5 e5 S5 => ?_)⟩
      · refine ⟨rfl, _, rfl, x, d, rfl, Dx, lm d (List.mem_of_getElem? hd), fun H6 S6 => ⟨isLt d, rfl, ?_⟩⟩
        cases hl : isLt d with
        | false =>
          rw [hl] at k
          show if false = true then _ else _
          rw [if_neg (by decide)]
          exact k H6 S6
        | true =>
          rw [hl, Bool.true_and] at k
          obtain ⟨e1, _⟩ := isLt_is hl
          rw [e1] at Dx
          obtain ⟨b, rfl, eb⟩ := ltr_row Dx
          show if true = true then _ else _
          rw [if_pos rfl]
          refine ⟨_, rfl, b, _, 0, _, rfl, rfl, SqT.of (S6 _ _ eb), rfl, _, rfl, lv, _, rfl, .inl (SqL.of (S6 _ _ (S4 _ _ ev))), rfl, flat_strs _, ?_⟩
          show Qe (.bl (inV (V.str (lt_at d).1) (ws.map V.str))) H6
          rw [inV_str]
          exact k H6 S6
      · refine ⟨D0, _, rfl, SqL.of e5, _, rfl, ?_⟩
        rw [all_id]
        have q1 : ∀ H', Same H H' → Q (.bl (ds.all (fun x => isLt x && decide (fstS x ∈ ws)) && riseB ds)) H' := q
        cases h2 : ds.all (fun x => isLt x && decide (fstS x ∈ ws)) with
        | false =>
          rw [h2] at q1
          show if (!false) = true then _ else _
          rw [if_pos (by decide)]
          exact q1 H5 S5
        | true =>
          rw [h2] at q1
          show if (!true) = true then _ else _
          rw [if_neg (by decide)]
          have al : ∀ x ∈ ds, x = ltD (lt_at x) := fun x hx => by
            have z := List.all_eq_true.mp h2 x hx
            rw [Bool.and_eq_true] at z
            exact (isLt_is z.1).1
          refine ⟨_, rfl, a, _, ds, rfl, .inr (SqT.of (S5 _ _ e)), DatAll.same S5 Da, ⟨fun x hx => ?_, fun x hx y hy => ?_⟩, len, fun H' S => q1 H' (S5.trans S)⟩
          · rw [al x hx]
            exact ⟨(fun z => nomatch z), by have := depth_lt (lt_at x); omega⟩
          · rw [al x hx, al y hy]
            exact alike_lt _ _
end
end S2

set_option Elab.async false
set_option linter.all false
set_option maxRecDepth 100000
set_option maxHeartbeats 4000000
/-! closed rows of letters -/
namespace S2
open PySem PySem.W PySem.Spec PyProof.Rows L2 S1
/-- all that letters bring along -/
def askL (s : Say) (ws : List Str) (l0 : Ltr) (L : List Ltr) : List Ltr := bes s ws l0 ++ L.flatMap fun l => bes s ws (neg l)
def closB (s : Say) (ws : List Str) (l0 : Ltr) (L : List Ltr) : Bool := (askL s ws l0 L).all fun m => decide (m ∈ L)
def spClosed : Sp := fun vs H Q _ => ∃ (v u : V) (lv r : Addr) (s : Say) (ws : List Str) (l0 : Ltr) (L : List Ltr), vs = [v, .ref lv, .ref r, u] ∧ DatS H v s ∧ SayOk 6 8 120 40 s ∧ H lv = some (.lst (ws.map V.str)) ∧ Dat H (.ref r) (ltD l0) ∧ Dat H u (clD L) ∧ L.length ≤ 1000 ∧ ∀ H', Same H H' → Q (.bl (closB s ws l0 L)) H'
theorem bes_le {s : Say} (ok : SayOk 6 8 120 40 s) (ws : List Str) (l : Ltr) : (bes s ws l).length ≤ 560 := by
  have z := bes_len ws l 14 s.cls fun cl hcl => Nat.le_trans (cl_len (ok.ck cl hcl)) ok.nlen
  have y := ok.cl
  unfold bes
  omega
theorem ask_snoc (s : Say) (ws : List Str) (l0 : Ltr) (L : List Ltr) (l : Ltr) : askL s ws l0 (L ++ [l]) = askL s ws l0 L ++ bes s ws (neg l) := by
  unfold askL
  rw [List.flatMap_append, List.append_assoc]
  simp
theorem ask_len {s : Say} (ok : SayOk 6 8 120 40 s) (ws : List Str) (l0 : Ltr) : ∀ L : List Ltr, (askL s ws l0 L).length ≤ 560 * (L.length + 1) := fun L => by
  have z : ∀ M : List Ltr, (M.flatMap fun l => bes s ws (neg l)).length ≤ 560 * M.length := fun M => by
    induction M with
    | nil => exact Nat.zero_le _
    | cons l M ih =>
      have := bes_le ok ws (neg l)
      rw [List.flatMap_cons, List.length_append, List.length_cons, Nat.mul_succ]
      omega
  have h0 := bes_le ok ws l0
  have h1 := z L
  unfold askL
  rw [List.length_append, Nat.mul_succ]
  omega
section
variable {P : Program} {w : World} {K : PySem.W.Frag} {mg : Str → Option Value} {base : Heap}
abbrev nCl : List Str := ["saying", "viewers", "pick_letter", "letters", "asked", "name", "truth", "letter"]
theorem scIC : FnScope nCl ["saying", "viewers", "pick_letter", "letters"] (defScope sIsClosed) := ⟨rfl, rfl, rfl, by decide +kernel, rfl, by decide +kernel, by decide +kernel⟩
theorem ok_isClosed {f fB : Addr} {fd fdB : FuncData} (F : Fun K "is_closed" "is_closed" sIsClosed f fd) (Bs : Has K mg "letters_beside" sBeside ["saying", "viewers", "letter"] fB fdB) (B : Blt mg) : FnOk P w K mg base CX0 2 f fd ["saying", "viewers", "pick_letter", "letters"] spClosed := by
  have GB : FnOk P w K mg base CX0 1 fB fdB ["saying", "viewers", "letter"] spBeside := ok_beside Bs.F
  refine F.ok scIC (fun vs H Q E h => ?_) (fun cdv A outer s H vs Q E hr h => ?_)
  · obtain ⟨v, u, lv, r, sy, ws, l0, L, rfl, _⟩ := h
    rfl
  · obtain ⟨v, u, lv, r, sy, ws, l0, L, rfl, D, ok, ev, Dr, Du, lL, q⟩ := h
    have hu : (A.deeper (envOfC "is_closed" (defScope sIsClosed) s.heap.objs.size f cdv)).units + 64 < cLine := hr.units
    have hu2 : (A.deeper (envOfC "is_closed" (defScope sIsClosed) s.heap.objs.size f cdv)).units + 16 < cLine := by omega
    refine ⟨_, pss_cons (ps_set (i := 4) scIC.nd rfl (.inl rfl) (pe_call GB hr rfl Bs.g Bs.F.kp Bs.b .nil pass0 (pa_cons (pv 0) (pa_cons (pv 1) (pa_cons (pv 2) pa_nil)))))
      (pss_cons (ps_for PassesOwn.never rfl (pi_tup (pv 3)) (pg_tup rfl (pgs_cons (pg_name (i := 5) scIC.nd rfl (.inl rfl)) (pgs_cons (pg_name (i := 6) scIC.nd rfl (.inl rfl)) pgs_nil)))
        (pss_one (ps_expr (pe_bm PySem.F.plainAttrs_list PySem.F.slot_list_extend PySem.F.type_list_extend mt_extend (pv 4) (pa_cons (pe_call GB hr rfl Bs.g Bs.F.kp Bs.b .nil pass0 (pa_cons (pv 0) (pa_cons (pv 1) (pa_cons (pe_tup (pa_cons (pv 5) (pa_cons (pe_not (pv 6)) pa_nil))) pa_nil)))) pa_nil)))))
      (pss_one (ps_ret (pe_callB (cr_all rfl) (by rfl) B.all (by decide +kernel) (pa_cons (pe_lc (own := [("letter", 7)]) (g := gName 7) (tt := tYes) (te := tOp (rInT K false) (tVar 7) (tVar 3)) rfl scIC.nd (pi_list (pv 4))
          (blkOk_by (N := nCl) (sc := defScope sIsClosed) (by decide +kernel)) (fun _ _ _ _ _ => pg_name (i := 7) scIC.nd rfl (Or.inl rfl)) (fun _ _ _ _ _ => pts_nil)
          (fun _ _ _ _ _ => by exact pe_cmpR (op_inT (by exact hu2)) (pv 7) (pv 3) (by with_unfolding_all rfl))) pa_nil))))), ?_⟩
    have s2 : 2 ≤ sizeLine := by decide
    obtain ⟨a, TL, rfl, ea, dL, KL⟩ := cl_rows Du
    have lTL : TL.length = L.length := by
      have z := congrArg List.length dL
      rw [List.length_map, List.length_map] at z
      exact z
    refine ⟨_, rfl, _, rfl, _, rfl, v, lv, r, sy, ws, l0, rfl, D, ok, ev, Dr, fun l T H1 S1 hl el eT DT => ?_⟩
    have hl0 := hl
    have nvl : lv ≠ l := ne_of_none ev hl
    have nal : a ≠ l := ne_of_none ea hl
    refine ⟨_, rfl, a, rfl, ⟨_, SqT.of (S1 _ _ ea)⟩, ?_⟩
    refine for_tup (K := K) (a := a) (xs := TL.map TRow.v) (fun j σ H4 => ∃ (o5 o6 : Option V) (T4 : List TRow), σ = [some v, some (.ref lv), some (.ref r), some (.ref a), some (.ref l), o5, o6, none] ∧ H4 l = some (.lst (T4.map TRow.v)) ∧ T4.map Prod.snd = (askL sy ws l0 (L.take j)).map ltD ∧ (∀ q' ∈ T4, Dat H4 q'.v q'.2) ∧ Same H H4)
      ⟨_, _, T, rfl, el, by rw [eT]; show _ = (bes sy ws l0 ++ []).map ltD; rw [List.append_nil], DT, S1⟩ (fun j σ H4 _ ⟨_, _, _, _, _, _, _, S4⟩ => SqT.of (S4 _ _ ea)) ?_ ?_
    · rintro j x σ H4 hx ⟨o5, o6, T4, rfl, e4, d4, D4, S4⟩
      rw [List.getElem?_map] at hx
      obtain ⟨pr, hp, rfl⟩ := Option.map_eq_some_iff.mp hx
      have e1 : ∃ m, L[j]? = some m ∧ pr.2 = ltD m := by
        have z : (TL.map Prod.snd)[j]? = some pr.2 := by rw [List.getElem?_map, hp]; rfl
        rw [dL] at z
        obtain ⟨m, hm, e⟩ := get_map z
        exact ⟨m, hm, e⟩
      obtain ⟨m, hm, e1⟩ := e1
      have jl : j < L.length := (List.getElem?_eq_some_iff.mp hm).1
      have Dp := (KL pr (List.mem_of_getElem? hp)).1
      rw [e1] at Dp
      obtain ⟨b, eb, gb⟩ := ltr_row Dp
      rw [eb]
      refine ⟨b, _, rfl, SqT.of (S4 _ _ gb), rfl, _, _, rfl, _, _, rfl, rfl, ?_⟩
      refine ⟨_, rfl, .inl ⟨rfl, _, SqL.of e4⟩, _, rfl, _, rfl, _, rfl, _, rfl, m.2, rfl, s2, fun t ht => ?_⟩
      have S5 := same_new (o := .tup [V.str m.1, .bl (!m.2)]) ht
      refine ⟨v, lv, t, sy, ws, neg m, rfl, (D.same S4).same S5, ok, S5 _ _ (S4 _ _ ev), .tup upd_same (.cons (.str _) (.cons (.bl _) .nil)), fun l2 T2 H6 S6 hl2 el2 eT2 DT2 => ?_⟩
      have S56 := S5.trans S6
      have e6 := S56 _ _ e4
      have len4 := ask_len ok ws l0 (L.take j)
      have lenb := bes_le ok ws (neg m)
      rw [List.length_take] at len4
      have lT4 : T4.length = (askL sy ws l0 (L.take j)).length := by
        have z := congrArg List.length d4
        rw [List.length_map, List.length_map] at z
        exact z
      have lT2 : T2.length = (bes sy ws (neg m)).length := by
        have z := congrArg List.length eT2
        rw [List.length_map, List.length_map] at z
        exact z
      have kq : ∀ q' ∈ T4 ++ T2, keyable q'.2 = true := fun q' hq' => by
        rcases List.mem_append.mp hq' with h | h
        · have m2 : q'.2 ∈ (askL sy ws l0 (L.take j)).map ltD := d4 ▸ List.mem_map_of_mem h
          obtain ⟨z, _, hz⟩ := List.mem_map.mp m2
          rw [← hz]
          exact keyable_lt z
        · have m2 : q'.2 ∈ (bes sy ws (neg m)).map ltD := eT2 ▸ List.mem_map_of_mem h
          obtain ⟨z, _, hz⟩ := List.mem_map.mp m2
          rw [← hz]
          exact keyable_lt z
      refine ⟨l, l2, _, _, rfl, rfl, e6, el2, ?_, ?_⟩
      · rw [List.length_map, List.length_map]
        have : 560 * (min j L.length + 1) ≤ 560 * 1001 := Nat.mul_le_mul (Nat.le_refl _) (by omega)
        exact Nat.le_trans (show T4.length + T2.length ≤ 1000000 by omega) (by decide)
      · refine ⟨_, _, T4 ++ T2, rfl, by rw [upd_same, List.map_append], by rw [List.map_append, d4, eT2, take_next hm, ask_snoc, List.map_append], fun q' hq' => ?_, same_upd (S4.trans S56) hl0⟩
        refine dat_upd e6 (kq q' hq') ?_
        rcases List.mem_append.mp hq' with h | h
        · exact (D4 q' h).same S56
        · exact DT2 q' h
    · rintro σ H4 ⟨o5, o6, T4, rfl, e4, d4, D4, S4⟩
      rw [List.length_map, lTL, List.take_length] at d4
      have lT4 : T4.length = (askL sy ws l0 L).length := by
        have z := congrArg List.length d4
        rw [List.length_map, List.length_map] at z
        exact z
      have len4 := ask_len ok ws l0 L
      have big : T4.length ≤ 1000000 := by
        have : 560 * (L.length + 1) ≤ 560 * 1001 := Nat.mul_le_mul (Nat.le_refl _) (by omega)
        omega
      refine ⟨_, rfl, l, rfl, ⟨_, SqL.of e4⟩, fun D0 hD0 => ?_⟩
      refine lc_list (K := K) (a := l) (xs := T4.map TRow.v) (fun j H6 => H6 D0 = some (.lst ((((askL sy ws l0 L).take j).map fun m => decide (m ∈ L)).map V.bl)) ∧ Same H4 H6) ⟨upd_same, same_new hD0⟩ (fun j H6 _ h => SqL.of (h.2 _ _ e4)) ?_ ?_
      · rintro j x H6 hx ⟨e6, S6⟩
        rw [List.getElem?_map] at hx
        obtain ⟨pr, hp, rfl⟩ := Option.map_eq_some_iff.mp hx
        obtain ⟨m, hm, e1⟩ : ∃ m, (askL sy ws l0 L)[j]? = some m ∧ pr.2 = ltD m := by
          have z : (T4.map Prod.snd)[j]? = some pr.2 := by rw [List.getElem?_map, hp]; rfl
          rw [d4] at z
          exact get_map z
        have jl : j < T4.length := (List.getElem?_eq_some_iff.mp hp).1
        have Dp := (D4 pr (List.mem_of_getElem? hp)).same S6
        rw [e1] at Dp
        have S46 := S4.trans S6
        refine ⟨rfl, yes_of ⟨_, rfl, _, rfl, pr.1, a, ltD m, TL, rfl, rfl, .inr (SqT.of (S46 _ _ ea)), fun p hp => ⟨(KL p hp).1.same S46, (KL p hp).2⟩, Dp, keyable_lt m, by have := depth_lt m; omega, ?_⟩⟩
        refine ⟨_, e6, ?_, ?_, same_upd S6 hD0⟩
        · rw [List.length_map, List.length_map, List.length_take]
          exact Nat.lt_of_le_of_lt (show _ ≤ 1000000 by omega) (by decide)
        · rw [upd_same, take_next hm, List.map_append, List.map_append]
          show some (HO.lst (_ ++ [V.bl (inT (ltD m) TL)])) = _
          rw [inT_lt dL]
          rfl
      · rintro H6 ⟨e6, S6⟩
        rw [List.length_map, lT4, List.take_length] at e6
        refine ⟨D0, _, rfl, SqL.of e6, ?_⟩
        show Q (.bl (((askL sy ws l0 L).map fun m => decide (m ∈ L)).all id)) H6
        rw [all_id]
        exact q H6 (S4.trans S6)
end
end S2

set_option Elab.async false
set_option linter.all false
set_option maxRecDepth 100000
set_option maxHeartbeats 4000000
/-! idle_holds, idle_paper -/
namespace S2
open PySem PySem.W PySem.Spec PyProof.Rows L2 S1
def halvesB (ws : List Str) (d : PyData) : Bool := pairB d && (parts d).all (alB ws)
def lot1 (d : PyData) : List Ltr := ltrs ((parts d).getD 0 .none)
def lot2 (d : PyData) : List Ltr := ltrs ((parts d).getD 1 .none)
def holdsB (s : Say) (n x : Str) (d : PyData) : Bool :=
  decide (n ∈ vw s x) && (halvesB (vw s x) d && (!hangB (lot1 d) (lot2 d) n && (closB s (vw s x) (x, true) (lot1 d) && closB s (vw s x) (x, false) (lot2 d))))
theorem halves_is {ws : List Str} {d : PyData} (h : halvesB ws d = true) : ∃ a b, d = .tuple [a, b] ∧ alB ws a = true ∧ alB ws b = true := by
  unfold halvesB at h
  rw [Bool.and_eq_true] at h
  obtain ⟨a, b, rfl⟩ := pair_of h.1
  have z := List.all_eq_true.mp h.2
  exact ⟨a, b, rfl, z a List.mem_cons_self, z b (List.mem_cons_of_mem _ List.mem_cons_self)⟩
def spHolds : Sp := fun vs H Q _ => ∃ (v u : V) (s : Say) (o : Own) (x : Str) (d : PyData), vs = [v, .str o.1, .str x, u] ∧ DatS H v s ∧ SayOk 6 8 120 40 s ∧ o ∈ s.owns ∧ x ∈ s.picks ∧ Dat H u d ∧ lim d = true ∧ ∀ H', Same H H' → Q (.bl (holdsB s o.1 x d)) H'
def spPaperOf : Sp := fun vs H Q _ => ∃ (v : V) (s : Say) (o : Own) (x : Str), vs = [v, .str o.1, .str x] ∧ DatS H v s ∧ SayOk 6 8 120 40 s ∧ o ∈ s.owns ∧ x ∈ s.picks ∧
  ((o.1 ∉ vw s x ∨ hangR s x o.1) → ∀ H', Same H H' → Q .non H') ∧ (o.1 ∈ vw s x → ¬ hangR s x o.1 → ∀ (a : Addr) (M N : List Ltr) (H' : Hp), Same H H' → Pap H' a s x M N → Q (.ref a) H')
section
variable {P : Program} {w : World} {K : PySem.W.Frag} {mg : Str → Option Value} {base : Heap}
abbrev nIH : List Str := ["saying", "name", "pick", "value", "viewers", "half", "truth"]
theorem scIH : FnScope nIH ["saying", "name", "pick", "value"] (defScope sIdleHolds) := ⟨rfl, rfl, rfl, by decide +kernel, rfl, by decide +kernel, by decide +kernel⟩
theorem scIP : FnScope ["saying", "name", "pick", "paper"] ["saying", "name", "pick"] (defScope sIdlePaper) := ⟨rfl, rfl, rfl, by decide +kernel, rfl, by decide +kernel, by decide +kernel⟩
theorem ok_idlePaper {f fP fV fH : Addr} {fd fdP fdV fdH : FuncData} (F : Fun K "idle_paper" "idle_paper" sIdlePaper f fd) (e : Env1 K mg) (Wn : Wnt K mg) (W2 : Wnt2 K mg) (Pa : Has K mg "paper_of" sPaperOf ["saying", "pick"] fP fdP) (GP : FnOk P w K mg base CX0 3 fP fdP ["saying", "pick"] spPaper)
    (Vw : Has K mg "viewers_of" sViewersOf ["saying", "pick"] fV fdV) (Hb : Has K mg "hangs_by" sHangsBy ["paper", "name"] fH fdH) (an : mg "any" = none) : FnOk P w K mg base CX0 8 f fd ["saying", "name", "pick"] spPaperOf := by
  obtain ⟨fS, fdS, Ws, GS⟩ := g_wantSaying (P := P) (w := w) (base := base) e Wn
  obtain ⟨fO, fdO, Wo, GO⟩ := g_wantOwn (P := P) (w := w) (base := base) e W2
  obtain ⟨fK, fdK, Wk, GK⟩ := g_wantPick (P := P) (w := w) (base := base) e W2
  have GV : FnOk P w K mg base CX0 1 fV fdV ["saying", "pick"] spViewers := ok_viewersOf Vw.F
  have GH : FnOk P w K mg base CX0 1 fH fdH ["paper", "name"] spHangsBy := ok_hangsBy Hb.F an
  refine F.ok scIP (fun vs H Q E h => ?_) (fun cdv A outer s H vs Q E hr h => ?_)
  · obtain ⟨v, sy, o, x, rfl, _⟩ := h
    rfl
  · obtain ⟨v, sy, o, x, rfl, D, ok, ho, hx, q1, q2⟩ := h
    refine ⟨_, pss_cons (ps_expr (pe_call GS hr rfl Ws.g Ws.F.kp Ws.b .nil pass0 (pa_cons (pv 0) pa_nil)))
      (pss_cons (ps_expr (pe_call GO (hr.mono (by decide)) rfl Wo.g Wo.F.kp Wo.b .nil pass0 (pa_cons (pv 0) (pa_cons (pv 1) pa_nil))))
      (pss_cons (ps_expr (pe_call GK (hr.mono (by decide)) rfl Wk.g Wk.F.kp Wk.b .nil pass0 (pa_cons (pv 0) (pa_cons (pv 2) pa_nil))))
      (pss_cons (ps_set (i := 3) scIP.nd rfl (.inl rfl) (pe_call GP (hr.mono (by decide)) rfl Pa.g Pa.F.kp Pa.b .nil pass0 (pa_cons (pv 0) (pa_cons (pv 2) pa_nil))))
      (pss_cons (ps_if (PW.pt (pw_or (pt_cmpR op_notIn_seq (pv 1) (pe_call GV (hr.mono (by decide)) rfl Vw.g Vw.F.kp Vw.b .nil pass0 (pa_cons (pv 0) (pa_cons (pv 2) pa_nil))) (by with_unfolding_all rfl))
          (pw_or1 (pt_val (pe_call GH (hr.mono (by decide)) rfl Hb.g Hb.F.kp Hb.b .nil pass0 (pa_cons (pv 3) (pa_cons (pv 1) pa_nil))))))) (pss_one (ps_ret pe_non)) pss_nil)
      (pss_one (ps_ret (pv 3))))))), ?_⟩
    refine ⟨_, rfl, v, sy, rfl, D, ok, fun H1 S1 => ⟨_, rfl, _, rfl, v, sy, o, rfl, D.same S1, ok, ho, fun H2 S2 => ⟨_, rfl, _, rfl, v, sy, x, rfl, D.same (S1.trans S2), ok, hx, fun H3 S3 => ?_⟩⟩⟩
    have S03 := S1.trans (S2.trans S3)
    refine ⟨_, rfl, _, rfl, v, sy, x, rfl, D.same S03, ok, fun a M N H4 S4 pap => ?_⟩
    have S04 := S03.trans S4
    refine ⟨_, rfl, _, rfl, _, rfl, v, sy, x, rfl, D.same S04, ok, fun lv H5 S5 hlv ev => ?_⟩
    have S05 := S04.trans S5
    refine ⟨lv, _, rfl, .inl (SqL.of ev), rfl, flat_strs _, _, rfl, ?_⟩
    show if (!inV (V.str o.1) ((vw sy x).map V.str)) = true then _ else _
    rw [inV_str]
    obtain ⟨u1, u2, ea, p1, p2, r1, r2⟩ := pap
    by_cases hv : o.1 ∈ vw sy x
    · rw [decide_eq_true hv, if_neg (by decide)]
      refine ⟨_, rfl, _, rfl, a, o.1, M, N, u1, u2, rfl, S5 _ _ ea, p1.same S5, p2.same S5, fun H6 S6 => ⟨_, rfl, ?_⟩⟩
      have S56 := S5.trans S6
      have hi := hangB_iff (n := o.1) r1 r2
      cases hh : hangB M N o.1 with
      | true =>
        show if true = true then _ else _
        rw [if_pos rfl]
        exact q1 (.inr (hi.mp hh)) H6 (S05.trans S6)
      | false =>
        show if false = true then _ else _
        rw [if_neg (by decide)]
        exact ⟨_, rfl, q2 hv (fun z => by rw [hi.mpr z] at hh; cases hh) a M N H6 (S05.trans S6) ⟨u1, u2, S56 _ _ ea, p1.same S56, p2.same S56, r1, r2⟩⟩
    · rw [decide_eq_false hv, if_pos (by decide)]
      show if true = true then _ else _
      rw [if_pos rfl]
      exact q1 (.inl hv) H5 S05
end
end S2

set_option Elab.async false
set_option linter.all false
set_option maxRecDepth 100000
set_option maxHeartbeats 4000000
/-! idle_holds -/
namespace S2
open PySem PySem.W PySem.Spec PyProof.Rows L2 S1 RZ
theorem walk_zipT {K : PySem.W.Frag} {a b : Addr} {xs ys : List V} {n : Nat} (h1 : xs.length = n) (h2 : ys.length = n) : Walk (ItzT K a b) n (fun H => SqT K H a xs ∧ SqT K H b ys) (YPair (fun i => xs[i]?) (fun i => ys[i]?)) := by
  refine ⟨fun i H hi q => ⟨xs, ys, _, _, q.1, q.2, List.getElem?_eq_getElem (by omega), List.getElem?_eq_getElem (by omega)⟩, fun H q => ⟨xs, ys, q.1, q.2, .inl (by omega)⟩, fun i H x H' hi q y => ?_⟩
  obtain ⟨T, x, y, rfl, hT, rfl, f1, f2⟩ := y
  exact ⟨T, x, y, rfl, hT, rfl, f1 xs q.1, f2 ys q.2⟩
theorem lim_cl {L : List Ltr} (h : lim (clD L) = true) : L.length ≤ 1000 := by
  have z := (lim_tup h).1
  rwa [List.length_map] at z
section
variable {P : Program} {w : World} {K : PySem.W.Frag} {mg : Str → Option Value} {base : Heap}
theorem ok_idleHolds {f fV fP fA fH fC : Addr} {fd fdV fdP fdA fdH fdC : FuncData} (F : Fun K "idle_holds" "idle_holds" sIdleHolds f fd) (e : Env1 K mg) (Wn : Wnt K mg) (W2 : Wnt2 K mg) (Vw : Has K mg "viewers_of" sViewersOf ["saying", "pick"] fV fdV) (Pr : Has K mg "is_pair" sIsPair ["value"] fP fdP)
    (Al : Has K mg "are_letters_of" sAreLetters ["value", "viewers"] fA fdA) (GA : FnOk P w K mg base CX0 3 fA fdA ["value", "viewers"] spAL) (Hb : Has K mg "hangs_by" sHangsBy ["paper", "name"] fH fdH) (Cl : Has K mg "is_closed" sIsClosed ["saying", "viewers", "pick_letter", "letters"] fC fdC)
    (GC : FnOk P w K mg base CX0 2 fC fdC ["saying", "viewers", "pick_letter", "letters"] spClosed) (an : mg "any" = none) : FnOk P w K mg base CX0 8 f fd ["saying", "name", "pick", "value"] spHolds := by
  obtain ⟨fS, fdS, Ws, GS⟩ := g_wantSaying (P := P) (w := w) (base := base) e Wn
  obtain ⟨fO, fdO, Wo, GO⟩ := g_wantOwn (P := P) (w := w) (base := base) e W2
  obtain ⟨fK, fdK, Wk, GK⟩ := g_wantPick (P := P) (w := w) (base := base) e W2
  have GV : FnOk P w K mg base CX0 1 fV fdV ["saying", "pick"] spViewers := ok_viewersOf Vw.F
  have GP : FnOk P w K mg base CX0 1 fP fdP ["value"] (spJ pairB) := S2.ok_isPair Pr.F e.B
  have GH : FnOk P w K mg base CX0 1 fH fdH ["paper", "name"] spHangsBy := ok_hangsBy Hb.F an
  refine F.ok scIH (fun vs H Q E h => ?_) (fun cdv A outer s H vs Q E hr h => ?_)
  · obtain ⟨v, u, sy, o, x, d, rfl, _⟩ := h
    rfl
  · obtain ⟨v, u, sy, o, x, d, rfl, D, ok, ho, hx, Du, li, q⟩ := h
    have hr1 := hr.mono (show 1 ≤ 7 by decide)
    have hr2 := hr.mono (show 2 ≤ 7 by decide)
    have hr3 := hr.mono (show 3 ≤ 7 by decide)
    refine ⟨_, pss_cons (ps_expr (pe_call GS hr rfl Ws.g Ws.F.kp Ws.b .nil pass0 (pa_cons (pv 0) pa_nil)))
      (pss_cons (ps_expr (pe_call GO hr2 rfl Wo.g Wo.F.kp Wo.b .nil pass0 (pa_cons (pv 0) (pa_cons (pv 1) pa_nil))))
      (pss_cons (ps_expr (pe_call GK hr2 rfl Wk.g Wk.F.kp Wk.b .nil pass0 (pa_cons (pv 0) (pa_cons (pv 2) pa_nil))))
      (pss_cons (ps_set (i := 4) scIH.nd rfl (.inr rfl) (pe_call GV hr1 rfl Vw.g Vw.F.kp Vw.b .nil pass0 (pa_cons (pv 0) (pa_cons (pv 2) pa_nil))))
      (pss_cons (ps_if (PW.pt (pw_or (pt_cmpR op_notIn_seq (pv 1) (pv 4) (by with_unfolding_all rfl)) (pw_or (pt_not (pt_val (pe_call GP hr1 rfl Pr.g Pr.F.kp Pr.b .nil pass0 (pa_cons (pv 3) pa_nil))))
          (pw_or1 (pt_not (pt_val (pe_callB (cr_all rfl) (by rfl) e.B.all (by decide +kernel) (pa_cons (pe_lc (own := [("half", 5)]) (g := gName 5) (tt := tYes) (te := tCall spAL [] E0 (tCons (tVar 5) (tCons (tVar 4) tNil))) rfl scIH.nd (pi_tup (pv 3))
            (blkOk_by (N := nIH) (sc := defScope sIdleHolds) (by decide +kernel)) (fun _ _ _ _ _ => pg_name (i := 5) scIH.nd rfl (Or.inl rfl)) (fun _ _ _ _ _ => pts_nil)
            (fun _ _ _ _ _ => by exact pe_call GA (by exact hr3) (by rfl) Al.g Al.F.kp Al.b .nil pass0 (pa_cons (pv 5) (pa_cons (pv 4) pa_nil)))) pa_nil)))))))) (pss_one (ps_ret pe_bl)) pss_nil)
      (pss_cons (ps_if (pt_val (pe_call GH hr1 rfl Hb.g Hb.F.kp Hb.b .nil pass0 (pa_cons (pv 3) (pa_cons (pv 1) pa_nil)))) (pss_one (ps_ret pe_bl)) pss_nil)
      (pss_one (ps_ret (pe_callB (cr_all rfl) (by rfl) e.B.all (by decide +kernel) (pa_cons (pe_lc (own := [("truth", 6), ("half", 5)]) (g := gTup K 2 (gCons (gName 6) (gCons (gName 5) gNil))) (tt := tYes) (te := tCall spClosed [] E0 (tCons (tVar 0) (tCons (tVar 4) (tCons (tTup (tCons (tVar 2) (tCons (tVar 6) tNil))) (tCons (tVar 5) tNil))))) rfl scIH.nd
            (pi_zipA rfl e.B.zip (pa_cons (pe_tup (pa_cons pe_bl (pa_cons pe_bl pa_nil))) (pa_cons (pv 3) pa_nil))) (blkOk_by (N := nIH) (sc := defScope sIdleHolds) (by decide +kernel))
            (fun _ _ _ _ _ => by exact pg_tup rfl (pgs_cons (pg_name (i := 6) scIH.nd rfl (.inl rfl)) (pgs_cons (pg_name (i := 5) scIH.nd rfl (.inl rfl)) pgs_nil))) (fun _ _ _ _ _ => pts_nil)
            (fun _ _ _ _ _ => by exact pe_call GC (by exact hr2) (by rfl) Cl.g Cl.F.kp Cl.b .nil pass0 (pa_cons (pv 0) (pa_cons (pv 4) (pa_cons (pe_tup (pa_cons (pv 2) (pa_cons (pv 6) pa_nil))) (pa_cons (pv 5) pa_nil)))))) pa_nil))))))))), ?_⟩
    refine ⟨_, rfl, v, sy, rfl, D, ok, fun H1 S1 => ⟨_, rfl, _, rfl, v, sy, o, rfl, D.same S1, ok, ho, fun H2 S2 => ⟨_, rfl, _, rfl, v, sy, x, rfl, D.same (S1.trans S2), ok, hx, fun H3 S3 => ?_⟩⟩⟩
    have S03 := S1.trans (S2.trans S3)
    refine ⟨_, rfl, _, rfl, v, sy, x, rfl, D.same S03, ok, fun lv H4 S4 hlv ev => ?_⟩
    have S04 := S03.trans S4
    refine ⟨_, rfl, _, rfl, lv, _, rfl, .inl (SqL.of ev), rfl, flat_strs _, _, rfl, ?_⟩
    show if (!inV (V.str o.1) ((vw sy x).map V.str)) = true then _ else _
    rw [inV_str]
    unfold holdsB at q
    by_cases hv : o.1 ∈ vw sy x
    · rw [decide_eq_true hv, if_neg (by decide)]
      rw [decide_eq_true hv, Bool.true_and] at q
      refine ⟨_, rfl, u, d, rfl, Du.same S04, li, fun H5 S5 => ⟨_, rfl, ?_⟩⟩
      have S05 := S04.trans S5
      unfold halvesB at q
      cases hp : pairB d with
      | false =>
        rw [hp] at q
        show if (!false) = true then _ else _
        rw [if_pos (by decide)]
        show if true = true then _ else _
        rw [if_pos rfl]
        exact q H5 S05
      | true =>
        rw [hp, Bool.true_and] at q
        obtain ⟨d1, d2, rfl⟩ := pair_of hp
        obtain ⟨a, us, rfl, ea, Da⟩ := dat_tup (Du.same S05)
        obtain ⟨_, lm⟩ := lim_tup li
        have ev5 := S5 _ _ ev
        show if (!true) = true then _ else _
        rw [if_neg (by decide)]
        refine ⟨_, rfl, a, rfl, ⟨_, SqT.of ea⟩, fun D0 hD0 => lc_allD (K := K) (p := alB (vw sy x)) ea Da hD0 (by simp) (fun i y d H6 Qe hd S6 Dy k => ?_) gName_mono (fun H6 e6 S6 => ?_)⟩
        · exact ⟨rfl, _, rfl, _, rfl, y, lv, d, vw sy x, rfl, Dy, lm d (List.mem_of_getElem? hd), S6 _ _ ev5, k⟩
        · refine ⟨D0, _, rfl, SqL.of e6, _, rfl, ?_⟩
          rw [all_id]
          have S06 := S05.trans S6
          cases hA : [d1, d2].all (alB (vw sy x)) with
          | false =>
            have hA' : (parts (.tuple [d1, d2])).all (alB (vw sy x)) = false := hA
            rw [hA'] at q
            show if (!false) = true then _ else _
            rw [if_pos (by decide)]
            exact q H6 S06
          | true =>
            have hA' : (parts (.tuple [d1, d2])).all (alB (vw sy x)) = true := hA
            rw [hA', Bool.true_and] at q
            show if (!true) = true then _ else _
            rw [if_neg (by decide)]
            have z := List.all_eq_true.mp hA
            have a1 := alB_is (z d1 List.mem_cons_self)
            have a2 := alB_is (z d2 (List.mem_cons_of_mem _ List.mem_cons_self))
            have l1 : (ltrs d1).length ≤ 1000 := lim_cl (by rw [← a1.1]; exact lm d1 List.mem_cons_self)
            have l2 : (ltrs d2).length ≤ 1000 := lim_cl (by rw [← a2.1]; exact lm d2 (List.mem_cons_of_mem _ List.mem_cons_self))
            obtain ⟨y1, y2, rfl, E1, E2⟩ : ∃ y1 y2, us = [y1, y2] ∧ Dat H5 y1 (clD (ltrs d1)) ∧ Dat H5 y2 (clD (ltrs d2)) := by
              cases Da with
              | cons h1 h =>
                cases h with
                | cons h2 h =>
                  cases h
                  exact ⟨_, _, rfl, by rw [← a1.1]; exact h1, by rw [← a2.1]; exact h2⟩
            have q2 : ∀ H', Same H H' → Q (.bl (!hangB (ltrs d1) (ltrs d2) o.1 && (closB sy (vw sy x) (x, true) (ltrs d1) && closB sy (vw sy x) (x, false) (ltrs d2)))) H' := q
            refine ⟨_, rfl, _, rfl, a, o.1, ltrs d1, ltrs d2, y1, y2, rfl, S6 _ _ ea, E1.same S6, E2.same S6, fun H7 S7 => ⟨_, rfl, ?_⟩⟩
            have S07 := S06.trans S7
            have S67 := S6.trans S7
            cases hh : hangB (ltrs d1) (ltrs d2) o.1 with
            | true =>
              rw [hh] at q2
              show if true = true then _ else _
              rw [if_pos rfl]
              exact q2 H7 S07
            | false =>
              rw [hh] at q2
              show if false = true then _ else _
              rw [if_neg (by decide)]
              refine ⟨(by show 2 ≤ sizeLine; decide), fun tt htt => ?_⟩
              have S8 := same_new (o := .tup [V.bl true, .bl false]) htt
              have S68 := S67.trans S8
              refine ⟨_, rfl, tt, a, _, _, rfl, .inr ⟨SqT.of upd_same, SqT.of (S68 _ _ ea), fun D1 hD1 => ?_⟩⟩
              have S08 := S07.trans S8
              have et : upd H7 tt (.tup [V.bl true, .bl false]) tt = some (.tup [V.bl true, .bl false]) := upd_same
              have ea8 := S68 _ _ ea
              have ev8 := S68 _ _ ev5
              have E18 := E1.same S68
              have E28 := E2.same S68
              generalize upd H7 tt (.tup [V.bl true, .bl false]) = H8 at S08 et ea8 ev8 E18 E28 hD1 ⊢
              refine lc_it (walk_zipT (K := K) (a := tt) (b := a) (xs := [V.bl true, .bl false]) (ys := [y1, y2]) (n := 2) rfl rfl) (fun i H9 => H9 D1 = some (.lst (([closB sy (vw sy x) (x, true) (ltrs d1), closB sy (vw sy x) (x, false) (ltrs d2)].take i).map V.bl)) ∧ Same H8 H9) ⟨upd_same, same_new hD1⟩ (fun i H9 _ h => ⟨SqT.of (h.2 _ _ et), SqT.of (h.2 _ _ ea8)⟩) ?_ ?_
              · rintro i y H9 HA hi ⟨e9, S9⟩ ⟨T0, b0, y0, rfl, hT0, rfl, f1, f2⟩
                obtain ⟨b, L, rfl, Dl, lL, hc⟩ : ∃ b L, b0 = V.bl b ∧ Dat H8 y0 (clD L) ∧ L.length ≤ 1000 ∧ [closB sy (vw sy x) (x, true) (ltrs d1), closB sy (vw sy x) (x, false) (ltrs d2)][i]? = some (closB sy (vw sy x) (x, b) L) := by
                  match i, hi, f1, f2 with
                  | 0, _, f1, f2 =>
                    cases (show some _ = some _ from f1)
                    cases (show some _ = some _ from f2)
                    exact ⟨true, ltrs d1, rfl, E18, l1, rfl⟩
                  | 1, _, f1, f2 =>
                    cases (show some _ = some _ from f1)
                    cases (show some _ = some _ from f2)
                    exact ⟨false, ltrs d2, rfl, E28, l2, rfl⟩
                have SA := same_new (o := .tup [V.bl b, y0]) hT0
                refine ⟨T0, _, rfl, SqT.of upd_same, rfl, _, _, rfl, _, _, rfl, rfl, rfl, yes_of ?_⟩
                refine ⟨_, rfl, _, rfl, _, rfl, _, rfl, (by show 2 ≤ sizeLine; decide), fun t ht => ⟨_, rfl, ?_⟩⟩
                have SB := S9.trans (SA.trans (same_new (o := .tup [V.str x, .bl b]) ht))
                refine ⟨v, y0, lv, t, sy, vw sy x, (x, b), L, rfl, D.same (S08.trans SB), ok, SB _ _ ev8, .tup upd_same (.cons (.str _) (.cons (.bl _) .nil)), Dl.same SB, lL, fun HC SC => ?_⟩
                have SD := (SA.trans (same_new (o := .tup [V.str x, .bl b]) ht)).trans SC
                have eC := SD _ _ e9
                refine ⟨_, eC, ?_, ?_, same_upd (S9.trans SD) hD1⟩
                · rw [List.length_map, List.length_take]
                  exact Nat.lt_of_le_of_lt (show _ ≤ 2 by simp; omega) (by decide)
                · rw [upd_same, take_next hc, List.map_append]
                  rfl
              · rintro H9 ⟨e9, S9⟩
                refine ⟨D1, _, rfl, SqL.of e9, ?_⟩
                have eq : (([closB sy (vw sy x) (x, true) (ltrs d1), closB sy (vw sy x) (x, false) (ltrs d2)].take 2).all id) = (closB sy (vw sy x) (x, true) (ltrs d1) && closB sy (vw sy x) (x, false) (ltrs d2)) := by
                  show (_ && (_ && true)) = _
                  rw [Bool.and_true]
                  rfl
                show Q (.bl (([closB sy (vw sy x) (x, true) (ltrs d1), closB sy (vw sy x) (x, false) (ltrs d2)].take 2).all id)) H9
                rw [eq]
                exact q2 H9 (S08.trans S9)
    · rw [decide_eq_false hv, if_pos (by decide)]
      rw [decide_eq_false hv] at q
      show if true = true then _ else _
      rw [if_pos rfl]
      exact q H4 S04
end
end S2

set_option Elab.async false
set_option linter.all false
set_option maxRecDepth 100000
set_option maxHeartbeats 4000000
/-! rows of letters: the same as sorted without doubles; what the judges ask, apart -/
namespace S2
open PySem PySem.W PySem.Spec PyProof.Rows L2 S1
theorem eqvAll_lt : ∀ L M : List Ltr, PyData.eqvAll (L.map ltD) (M.map ltD) = decide (L = M)
  | [], [] => rfl
  | [], m :: M => by simp [PyData.eqvAll]
  | l :: L, [] => by simp [PyData.eqvAll]
  | l :: L, m :: M => by
    rw [List.map_cons, List.map_cons, PyData.eqvAll, eqv_lt, eqvAll_lt L M]
    by_cases h : l = m
    · by_cases h2 : L = M
      · simp [h, h2]
      · simp [h2]
    · simp [h]
theorem rise_iff : ∀ L : List Ltr, riseB (L.map ltD) = true ↔ L.Pairwise ltLt
  | [] => ⟨fun _ => .nil, fun _ => rfl⟩
  | [l] => ⟨fun _ => List.pairwise_singleton _ _, fun _ => rfl⟩
  | l :: m :: L => by
    have ih := rise_iff (m :: L)
    show (dataLt (ltD l) (ltD m) && riseB ((m :: L).map ltD)) = true ↔ _
    rw [Bool.and_eq_true, ih]
    constructor
    · rintro ⟨h1, h2⟩
      refine List.pairwise_cons.mpr ⟨fun y hy => ?_, h2⟩
      rcases List.mem_cons.mp hy with rfl | hy
      · exact h1
      · exact dataLt_trans h1 ((List.pairwise_cons.mp h2).1 y hy)
    · intro h
      obtain ⟨h1, h2⟩ := List.pairwise_cons.mp h
      exact ⟨h1 m List.mem_cons_self, h2⟩
/-- a row that is the same as its parts, sorted, without doubles -/
theorem rise_sorted {L M : List Ltr} (up : M.Pairwise ltLt) (mem : ∀ l, l ∈ M ↔ l ∈ L) : decide (L = M) = riseB (L.map ltD) := by
  rw [Bool.eq_iff_iff, decide_eq_true_eq, rise_iff]
  constructor
  · intro h
    rw [h]
    exact up
  · intro h
    exact rise_unique (r := ltLt) (fun x z => by unfold ltLt at z; rw [dataLt_irrefl] at z; cases z) (fun {x y z} a b => dataLt_trans a b) h up fun l => (mem l).symm
/-- a letter whose name is among some -/
def lwB (ws : List Str) (e : PyData) : Bool := isLt e && decide (fstS e ∈ ws)
def gLot (s : Say) (x : Str) (d : PyData) (t : Bool) : Bool := alB (vw s x) d && closB s (vw s x) (x, t) (ltrs d)
theorem holds_eq (s : Say) (n x : Str) (d1 d2 : PyData) : holdsB s n x (.tuple [d1, d2]) = (decide (n ∈ vw s x) && (gLot s x d1 true && (gLot s x d2 false && !hangB (ltrs d1) (ltrs d2) n))) := by
  unfold holdsB halvesB gLot
  show (decide (n ∈ vw s x) && ((true && (alB (vw s x) d1 && (alB (vw s x) d2 && true))) && (!hangB (ltrs d1) (ltrs d2) n && (closB s (vw s x) (x, true) (ltrs d1) && closB s (vw s x) (x, false) (ltrs d2))))) = _
  generalize decide (n ∈ vw s x) = a0
  generalize alB (vw s x) d1 = a1
  generalize alB (vw s x) d2 = a2
  generalize hangB (ltrs d1) (ltrs d2) n = a3
  generalize closB s (vw s x) (x, true) (ltrs d1) = a4
  generalize closB s (vw s x) (x, false) (ltrs d2) = a5
  revert a0 a1 a2 a3 a4 a5
  decide
theorem holds_pair {s : Say} {n x : Str} {d : PyData} (h : pairB d = false) : holdsB s n x d = false := by
  unfold holdsB halvesB
  rw [h]
  simp
theorem alB_lw {ws : List Str} {ds : List PyData} : alB ws (.tuple ds) = (ds.all (lwB ws) && riseB ds) := rfl
/-- names that are well formed -/
theorem lw_str {ws : List Str} (h : ∀ x ∈ ws, nmB x = true) (x : Str) (b : Bool) : lwB ws (.tuple [.str x, .bool b]) = decide (x ∈ ws) := by
  show ((nmB x && true) && decide (x ∈ ws)) = decide (x ∈ ws)
  by_cases hx : x ∈ ws
  · rw [decide_eq_true hx, h x hx]
    rfl
  · rw [decide_eq_false hx]
    simp
theorem nmB_of {x : Str} (h : Nm x) : nmB x = true := by
  unfold nmB
  rw [decide_eq_true h.lo, decide_eq_true h.hi, Bool.true_and, Bool.true_and, List.all_eq_true]
  exact fun c hc => decide_eq_true (h.az c hc)
theorem vw_nm {s : Say} (ok : SayOk 6 8 120 40 s) (x : Str) : ∀ y ∈ vw s x, nmB y = true := fun y hy => by
  unfold vw at hy
  obtain ⟨o, ho, rfl⟩ := List.mem_map.mp hy
  exact nmB_of (ok.on o (List.mem_filter.mp ho).1).1
/-- (name, truth) in a row of letters, a tuple -/
structure RU (H : Hp) (l : Addr) (T : List TRow) (M : List Ltr) : Prop where
  e : H l = some (.tup (T.map TRow.v))
  d : T.map Prod.snd = M.map ltD
  D : ∀ q ∈ T, Dat H q.v q.2
theorem RU.same {H H' : Hp} {l : Addr} {T : List TRow} {M : List Ltr} (h : RU H l T M) (S : Same H H') : RU H' l T M := ⟨S _ _ h.e, h.d, fun q hq => (h.D q hq).same S⟩
theorem sv_inU {K : PySem.W.Frag} {H : Hp} {l : Addr} {T : List TRow} {M : List Ltr} {σ : L2.St} {n : Str} {i j : Nat} (h : RU H l T M) (b : Bool) (e1 : σ[j]? = some (some (V.str n))) (ei : σ[i]? = some (some (V.ref l))) : SEv (tOp (rInT K false) (tTup (tCons (tVar j) (tCons (tC (V.bl b)) tNil))) (tVar i)) σ H (.bl (decide ((n, b) ∈ M))) := fun H1 S Q q => by
  refine ⟨_, e1, (by show 2 ≤ sizeLine; decide), fun t ht => ⟨_, ei, ?_⟩⟩
  have S2 := same_new (o := .tup [V.str n, .bl b]) ht
  have h2 := (h.same S).same S2
  refine ⟨t, l, ltD (n, b), T, rfl, rfl, .inr (SqT.of h2.e), fun p hp => ⟨h2.D p hp, key_lts h2.d p hp⟩, .tup upd_same (.cons (.str n) (.cons (.bl b) .nil)), keyable_lt _, by have := depth_lt (n, b); omega, ?_⟩
  show Q (.bl (inT (ltD (n, b)) T)) _
  rw [inT_lt h2.d]
  exact q _ S2
theorem sv_not {t : TE} {σ : L2.St} {H : Hp} {a : Bool} (h : SEv t σ H (.bl a)) : SEv (tNotV t) σ H (.bl (!a)) := fun H1 e Q q => h H1 e _ fun H2 e2 => ⟨a, rfl, q H2 e2⟩
end S2

set_option Elab.async false
set_option linter.all false
set_option maxRecDepth 100000
set_option maxHeartbeats 4000000
/-! papers of what is reached; a sight taken, a sight given -/
namespace S4
open PySem PySem.W PySem.Spec PyProof.Rows L2 S1
theorem ltrs_cl (L : List Ltr) : S2.ltrs (clD L) = L := by
  show (L.map ltD).map S2.lt_at = L
  rw [List.map_map]
  conv => rhs; rw [← List.map_id L]
  rfl
theorem g_lot {s : Say} {x : Str} {t : Bool} {L : List Ltr} (ok : SayOk 6 8 120 40 s) (r : RchOk s (vw s x) (x, t) L) : S2.gLot s x (clD L) t = true := by
  unfold S2.gLot
  rw [ltrs_cl, Bool.and_eq_true]
  constructor
  · show S2.alB (vw s x) (.tuple (L.map ltD)) = true
    rw [S2.alB_lw, Bool.and_eq_true, List.all_eq_true]
    refine ⟨fun d hd => ?_, (S2.rise_iff L).mpr r.up⟩
    obtain ⟨m, hm, rfl⟩ := List.mem_map.mp hd
    show S2.lwB (vw s x) (.tuple [.str m.1, .bool m.2]) = true
    rw [S2.lw_str (S2.vw_nm ok x)]
    exact decide_eq_true (reach_ws ((r.mem m).mp hm))
  · unfold S2.closB
    rw [List.all_eq_true]
    intro m hm
    refine decide_eq_true ((r.mem m).mpr ?_)
    rcases List.mem_append.mp hm with h | h
    · exact .start h
    · obtain ⟨l, hl, h⟩ := List.mem_flatMap.mp h
      exact .step ((r.mem l).mp hl) h
theorem holds_rch {s : Say} {n x : Str} {M N : List Ltr} (ok : SayOk 6 8 120 40 s) (r1 : RchOk s (vw s x) (x, true) M) (r2 : RchOk s (vw s x) (x, false) N) {b : Bool} (hb : b = true ↔ (n ∈ vw s x ∧ ¬ hangR s x n)) : S2.holdsB s n x (.tuple [clD M, clD N]) = b := by
  rw [S2.holds_eq, g_lot ok r1, g_lot ok r2, ltrs_cl, ltrs_cl, Bool.true_and, Bool.true_and, Bool.eq_iff_iff, hb, Bool.and_eq_true, decide_eq_true_eq, ← hangB_iff r1 r2]
  constructor
  · rintro ⟨h1, h2⟩
    exact ⟨h1, fun z => by rw [z] at h2; exact absurd h2 (by decide)⟩
  · rintro ⟨h1, h2⟩
    exact ⟨h1, by cases h : hangB M N n with
      | false => rfl
      | true => exact absurd h h2⟩
theorem lims_of {ds : List PyData} (h : ∀ d ∈ ds, S2.lim d = true) : S2.lims ds = true := by
  induction ds with
  | nil => rfl
  | cons d ds ih =>
    rw [S2.lims, h d List.mem_cons_self, ih fun e he => h e (List.mem_cons_of_mem _ he)]
    rfl
theorem lim_of {ds : List PyData} (h : ∀ d ∈ ds, S2.lim d = true) (l : ds.length ≤ 1000) : S2.lim (.tuple ds) = true := by
  rw [S2.lim, lims_of h, decide_eq_true l]
  rfl
theorem lim_rch {s : Say} {ws : List Str} {l0 : Ltr} {L : List Ltr} (ok : SayOk 6 8 120 40 s) (r : RchOk s ws l0 L) : S2.lim (clD L) = true := by
  refine lim_of (fun d hd => ?_) (by rw [List.length_map]; have := r.len ok; omega)
  obtain ⟨m, hm, rfl⟩ := List.mem_map.mp hd
  have n := (r.nm ok hm).hi
  refine lim_of (fun d hd => ?_) (by show 2 ≤ 1000; decide)
  rcases List.mem_cons.mp hd with rfl | hd
  · rw [S2.lim, decide_eq_true (by omega)]
  · cases List.mem_singleton.mp hd
    simp [S2.lim]
theorem lim_two {s : Say} {ws vs : List Str} {l0 l1 : Ltr} {L M : List Ltr} (ok : SayOk 6 8 120 40 s) (r : RchOk s ws l0 L) (r2 : RchOk s vs l1 M) : S2.lim (.tuple [clD L, clD M]) = true := by
  refine lim_of (fun d hd => ?_) (by show 2 ≤ 1000; decide)
  rcases List.mem_cons.mp hd with rfl | hd
  · exact lim_rch ok r
  · cases List.mem_singleton.mp hd
    exact lim_rch ok r2
theorem kb4 {K : PySem.W.Frag} {x qual a b c d : Str} {st : Stmt} {f : Addr} {fd : FuncData} (F : Fun K x qual st f fd)
    (h : ∀ (kV doc pm : Value) (an : Option Addr) (cdv ct u v z y : Value), bindArgs (PySem.W.fnOf x qual (defArgs st) (defBody st) (defScope st) .none kV doc pm an cdv ct) ⟨[], [(d, u), (c, v), (b, z), (a, y)]⟩ = pure [(a, y), (b, z), (c, v), (d, u)]) : KB0 K fd [a, b, c, d] [d, c, b, a] List.reverse List.reverse := by
  obtain ⟨oc, od, kV, doc, pm, an, cdv, ct, osl, rfl, lk, hcd⟩ := F.ex
  refine ⟨fun s ws X l => ?_, fun r => ?_⟩
  · match ws, l with
    | [u, v, z, y], _ => exact .of_eq (h kV doc pm an cdv ct u v z y)
  · exact vals_rev r
theorem rpr_say {s : Say} {c : Nat} (ok : SayOk 6 8 c 40 s) : Rpr s.d := rpr_of (shw_say ok) (by decide) (by decide)
theorem gen_q {t : TE} {σ : L2.St} {H : Hp} {Q : VK} (I : V → Hp → Prop) (h : ∀ Q' : VK, (∀ v H', I v H' → Q' v H') → t σ H Q') (k : ∀ v H', I v H' → Q v H') : t σ H Q := h Q k
theorem gen_seq {a b : TS} {D : Ends} {σ : L2.St} {H : Hp} (I : L2.St → Hp → Prop) (h1 : ∀ D' : Ends, (∀ σ' H', I σ' H' → D'.nx σ' H') → a D' σ H) (h2 : ∀ σ' H', I σ' H' → b D σ' H') : tSeq a b D σ H := h1 { D with nx := b D } h2
/-- what is no list stands as it stood -/
def NL (H H' : Hp) : Prop := ∀ b u, (∀ xs, u ≠ .lst xs) → H b = some u → H' b = some u
theorem NL.of_kp {ro : Addr} {H H' : Hp} {xs : List V} (h : Kp ro H H') (e : H ro = some (.lst xs)) : NL H H' := fun b u n hb => h b u (fun z => by
  rw [z, e] at hb
  exact n xs (Option.some.inj hb).symm) hb
theorem NL.of_dr {p : Addr} {c c0 : Nat} {H H' : Hp} (h : Dr H p c H') (hs : Src H p c0) : NL H H' := fun b u n hb => h.keep hb fun z => by
  obtain ⟨xs, e⟩ := hs.lst
  rw [z, e] at hb
  exact n xs (Option.some.inj hb).symm
theorem NL.of {H H' : Hp} (S : Same H H') : NL H H' := fun b u _ hb => S b u hb
theorem NL.trans {H H' H'' : Hp} (a : NL H H') (b : NL H' H'') : NL H H'' := fun x u n h => b x u n (a x u n h)
theorem NL.tk {H H' : Hp} (a : NL H H') : ∀ b xs, H b = some (.tup xs) → H' b = some (.tup xs) := fun b xs h => a b _ (fun ys z => by cases z) h
theorem NL.f {H H' : Hp} (a : NL H H') {v : V} {s : Say} (D : DatF H v s) : DatF H' v s := by
  obtain ⟨x, p, o, c, rfl, ea, Dp, ⟨b, us, rfl, ⟨ob, hob, eb⟩, Du⟩, Dc⟩ := D
  exact ⟨x, p, _, c, rfl, a.tk _ _ ea, dat_tk a.tk _ _ (keyable_nms _) Dp, ⟨b, us, rfl, ⟨ob, hob, a b _ (fun ys z => by cases z) eb⟩, dats_tk a.tk _ _ (keyables_map ownD keyable_own s.owns) Du⟩, dat_tk a.tk _ _ (keyables_map clD keyable_cl s.cls) Dc⟩
theorem inT_pr {T : List TRow} {L : List Pr} (e : T.map Prod.snd = L.map prD) (l : Pr) : inT (prD l) T = decide (l ∈ L) := by
  unfold inT
  have e2 : (T.any fun p => decide (nkey p.2 = nkey (prD l))) = (T.map Prod.snd).any fun d => decide (nkey d = nkey (prD l)) := by rw [List.any_map]; rfl
  rw [e2, e, List.any_map]
  rw [Bool.eq_iff_iff, List.any_eq_true, decide_eq_true_eq]
  constructor
  · rintro ⟨o, ho, z⟩
    have z := of_decide_eq_true z
    have z : o = l := by
      have y := nkey_inj _ _ (keyable_pr o) (keyable_pr l) (by simp [prD, alike, alikeAll]) z
      obtain ⟨a, b⟩ := o
      obtain ⟨c, d⟩ := l
      unfold prD at y
      injection y with y
      injection y with y1 y
      injection y with y2 y
      injection y1 with y1
      injection y2 with y2
      dsimp only at y1 y2
      rw [y1, y2]
    rw [← z]
    exact ho
  · intro h
    exact ⟨l, h, decide_eq_true rfl⟩
end S4

set_option Elab.async false
set_option linter.all false
set_option maxRecDepth 100000
set_option maxHeartbeats 4000000
/-! a sight taken, a sight given -/
namespace S4
open PySem PySem.W PySem.Spec PyProof.Rows L2 S1
theorem notT {A B : Prop} (h : B) : if (!true) = true then A else B := by
  rw [if_neg (by decide)]
  exact h
structure HasOk (s : Say) (has : Bool) (k : Int) : Prop where
  h : 0 < k → (has = true ↔ Sat s)
def spTaken : Sp := fun vs H Q _ => ∃ (v : V) (s : Say) (o : Own) (x : Str) (has : Bool) (ro : Addr) (k : Int), vs = [v, .str o.1, .str x, .bl has, .ref ro] ∧ DatF H v s ∧ SayOk 6 8 120 40 s ∧ s.picks.length ≤ 4 ∧ s.owns.length ≤ 6 ∧ o ∈ s.owns ∧ x ∈ s.picks ∧ o.1 ∈ vw s x ∧ ¬ hangR s x o.1 ∧ H ro = some (.lst [.int k]) ∧ -2 ≤ k ∧ k ≤ 9000 ∧ HasOk s has k ∧
  ∀ (b : Bool) (k' : Int) (H' : Hp), Kp ro H H' → H' ro = some (.lst [.int k']) → -2 ≤ k' → k' ≤ k → (0 < k' → b = true) → Q (.bl b) H'
def spGiven : Sp := fun vs H Q _ => ∃ (v : V) (s : Say) (o : Own) (x : Str) (has : Bool) (ro : Addr) (k : Int), vs = [v, .str o.1, .str x, .bl has, .ref ro] ∧ DatF H v s ∧ SayOk 6 8 120 40 s ∧ s.picks.length ≤ 4 ∧ s.owns.length ≤ 6 ∧ o ∈ s.owns ∧ x ∈ s.picks ∧ x ∉ o.2 ∧ copies (seen s o.1 x true).owns ≤ 120 ∧ ¬ hangR (seen s o.1 x true) x o.1 ∧ H ro = some (.lst [.int k]) ∧ -2 ≤ k ∧ k ≤ 9000 ∧ HasOk s has k ∧
  ∀ (b : Bool) (k' : Int) (H' : Hp), Kp ro H H' → H' ro = some (.lst [.int k']) → -2 ≤ k' → k' ≤ k → (0 < k' → b = true) → Q (.bl b) H'
abbrev nTk : List Str := ["saying", "name", "pick", "has", "room", "less"]
abbrev nGv : List Str := ["saying", "name", "pick", "has", "room", "more"]
theorem dpr (z : Pr) : (prD z).depth ≤ 8 := by simp [prD, PyData.depth, PyData.depthAll]
theorem bl_eq (a b : Bool) : decide (V.bl a = V.bl b) = (a == b) := by cases a <;> cases b <;> rfl
section
variable {P : Program} {w : World} {K : PySem.W.Frag} {mg : Str → Option Value} {base : Heap}
theorem scTk : FnScope nTk ["saying", "name", "pick", "has", "room"] (defScope sLTaken) := ⟨rfl, rfl, rfl, by decide +kernel, rfl, by decide +kernel, by decide +kernel⟩
theorem scGv : FnScope nGv ["saying", "name", "pick", "has", "room"] (defScope sLGivenR) := ⟨rfl, rfl, rfl, by decide +kernel, rfl, by decide +kernel, by decide +kernel⟩
theorem kb_idleHolds {f : Addr} {fd : FuncData} (F : Fun K "idle_holds" "idle_holds" sIdleHolds f fd) : KB0 K fd ["saying", "name", "pick", "value"] ["value", "pick", "name", "saying"] List.reverse List.reverse := S4.kb4 F fun _ _ _ _ _ _ _ _ _ _ => rfl
theorem ok_lTaken {f fO fS fG fA fH fI fP : Addr} {fd fdO fdS fdG fdA fdH fdI fdP : FuncData} (F : Fun K "_law_taken_right" "_law_taken_right" sLTaken f fd) (Wo : Has K mg "without_sight" sWithout ["saying", "name", "pick"] fO fdO) (GWo : FnOk P w K mg base CX0 8 fO fdO ["saying", "name", "pick"] spWithout)
    (Sm : Has K mg "_law_same" sLSame ["told", "due"] fS fdS) (GSm : FnOkG P w K mg base 1 fS fdS ["told", "due"] spLSame) (Sg : Has K mg "_law_sighted" sLSighted ["saying", "name", "pick", "truth"] fG fdG) (GSg : FnOk P w K mg base CX0 1 fG fdG ["saying", "name", "pick", "truth"] spSighted)
    (As : Has K mg "_law_asked" sLAsked ["saying", "room"] fA fdA) (GAs : FnOk P w K mg base CX0 4 fA fdA ["saying", "room"] spAsked) (Ha : Has K mg "hangs" sHangs ["saying", "name", "pick"] fH fdH) (GHa : FnOk P w K mg base CX0 8 fH fdH ["saying", "name", "pick"] spHangs)
    (Ho : Has K mg "idle_holds" sIdleHolds ["saying", "name", "pick", "value"] fI fdI) (GHo : FnOk P w K mg base CX0 8 fI fdI ["saying", "name", "pick", "value"] _root_.S2.spHolds) (Pa : Has K mg "idle_paper" sIdlePaper ["saying", "name", "pick"] fP fdP) (GPa : FnOk P w K mg base CX0 8 fP fdP ["saying", "name", "pick"] _root_.S2.spPaperOf) :
    FnOkG P w K mg base 9 f fd ["saying", "name", "pick", "has", "room"] spTaken := by
  refine F.okG scTk (fun vs H Q E h => ?_) (fun cdv A outer s H vs Q E hG0 hr h => ?_)
  · obtain ⟨v, sy, o, x, has, ro, k, rfl, _⟩ := h
    rfl
  · obtain ⟨v, sy, o, x, has, ro, k, rfl, D, ok, p4, o6, ho, hx, hv, nh, er, km, kM, hok, q⟩ := h
    have hG : (A.deeper (envOfC "_law_taken_right" (defScope sLTaken) s.heap.objs.size f cdv)).guards = some [] := hG0
    have hr1 := hr.mono (show 1 ≤ 8 by decide)
    have hr4 := hr.mono (show 4 ≤ 8 by decide)
    refine ⟨_, pss_cons (ps_set (i := 5) scTk.nd rfl (.inl rfl) (pe_call GWo hr rfl Wo.g Wo.F.kp Wo.b .nil pass0 (pa_cons (pv 0) (pa_cons (pv 1) (pa_cons (pv 2) pa_nil)))))
      (pss_cons (ps_if (PW.pt (pw_or (pt_not (pt_val (pe_callG hG GSm hr1 rfl Sm.g Sm.F.kp Sm.b (pa_cons (pv 5) (pa_cons (pe_call GSg hr1 rfl Sg.g Sg.F.kp Sg.b .nil pass0 (pa_cons (pv 0) (pa_cons (pv 1) (pa_cons (pv 2) (pa_cons pe_bl pa_nil))))) pa_nil)))))
          (pw_or1 (pt_cmpR op_ne (pe_call GAs hr4 rfl As.g As.F.kp As.b .nil pass0 (pa_cons (pv 5) (pa_cons (pv 4) pa_nil))) (pv 3) (nomark _))))) (pss_one (ps_ret pe_bl)) pss_nil)
      (pss_cons (ps_if (pt_cmpR op_isnot_bl (pe_call GHa hr rfl Ha.g Ha.F.kp Ha.b .nil pass0 (pa_cons (pv 0) (pa_cons (pv 1) (pa_cons (pv 2) pa_nil)))) pe_bl (nomark _)) (pss_one (ps_ret pe_bl)) pss_nil)
      (pss_one (ps_ret (pe_cmpR op_is_bl (pe_callK0 GHo hr rfl Ho.g Ho.F.kp (kb_idleHolds Ho.F) pass0 (pk_cons (pe_call GPa hr rfl Pa.g Pa.F.kp Pa.b .nil pass0 (pa_cons (pv 0) (pa_cons (pv 1) (pa_cons (pv 2) pa_nil)))) (pk_cons (pv 2) (pk_cons (pv 1) (pk_cons (pv 0) pk_nil))))) pe_bl (nomark _)))))), ?_⟩
    have okL := less_ok ok o.1 x
    refine ⟨_, rfl, _, rfl, _, rfl, v, sy, o, x, rfl, D.s, ok, ho, hx, fun vL H1 S1 D1 => ?_⟩
    refine ⟨_, rfl, _, rfl, _, rfl, _, rfl, v, sy, o.1, x, false, rfl, (D.same S1).s, ok, fun vd H2 S2 D2 => ?_⟩
    refine ⟨vL, vd, _, rfl, datF_v (D1.same S2), .of D2, rpr_say okL, true, rfl, notT ?_⟩
    have S12 := S1.trans S2
    have p4L : (seen sy o.1 x false).picks.length ≤ 4 := p4
    have o6L : (seen sy o.1 x false).owns.length ≤ 6 := by
      show (sy.owns.map _).length ≤ 6
      rw [List.length_map]
      exact o6
    refine ⟨_, rfl, _, rfl, vL, _, ro, k, rfl, D1.same S2, okL, p4L, o6L, S12 _ _ er, km, kM, fun b1 k1 H3 K3 er3 k1m k1k hb1 => ?_⟩
    have K03 : Kp ro H H3 := (Kp.of S12).trans K3
    refine ⟨_, rfl, rfl, _, rfl, ?_⟩
    rw [bl_eq]
    show if (!(b1 == has)) = true then _ else _
    by_cases hne : (!(b1 == has)) = true
    · rw [if_pos hne]
      refine q false k1 H3 K03 er3 k1m k1k fun pos => ?_
      have e1 := hb1 pos
      rw [idle_sat ok hx (List.mem_map_of_mem ho) nh, ← hok.h (by omega)] at e1
      have : b1 = has := Bool.eq_iff_iff.mpr e1
      rw [this] at hne
      cases has <;> cases hne
    · rw [if_neg hne]
      have N3 : NL H H3 := NL.of_kp K03 er
      have D3 := N3.f D
      refine ⟨_, rfl, _, rfl, _, rfl, v, sy, o, x, rfl, D3.s, ok, ho, hx, fun d1 H4 S4 h4 => ?_⟩
      have e4 : d1 = false := by
        cases h : d1 with
        | false => rfl
        | true => exact absurd (h4.mp h) nh
      subst e4
      refine ⟨false, false, rfl, rfl, _, rfl, ?_⟩
      show if false = true then _ else _
      rw [if_neg (by decide)]
      refine ⟨_, rfl, _, rfl, _, rfl, v, sy, o, x, rfl, (D3.same S4).s, ok, ho, hx, fun z => ?_, fun _ _ a M N H5 S5 pap => ?_⟩
      · rcases z with z | z
        · exact absurd hv z
        · exact absurd z nh
      obtain ⟨w1, w2, ea, p1, p2, q1, q2⟩ := pap
      have Da : Dat H5 (.ref a) (.tuple [clD M, clD N]) := .tup ea (.cons p1 (.cons p2 .nil))
      refine ⟨_, rfl, _, rfl, _, rfl, rfl, v, .ref a, sy, o, x, _, rfl, (D3.same (S4.trans S5)).s, ok, ho, hx, Da, lim_two ok q1 q2, fun H6 S6 => ?_⟩
      rw [holds_rch ok q1 q2 (b := true) ⟨fun _ => ⟨hv, nh⟩, fun _ => rfl⟩]
      refine ⟨true, true, rfl, rfl, ?_⟩
      have S36 := S4.trans (S5.trans S6)
      exact q _ k1 H6 (K03.same S36) (S36 _ _ er3) k1m k1k fun _ => rfl
theorem ok_lGiven {f fO fS fG fA fI : Addr} {fd fdO fdS fdG fdA fdI : FuncData} (F : Fun K "_law_given_right" "_law_given_right" sLGivenR f fd) (Wi : Has K mg "with_sight" sWith ["saying", "name", "pick"] fO fdO) (GWi : FnOk P w K mg base CX0 8 fO fdO ["saying", "name", "pick"] spMore1)
    (Sm : Has K mg "_law_same" sLSame ["told", "due"] fS fdS) (GSm : FnOkG P w K mg base 1 fS fdS ["told", "due"] spLSame) (Sg : Has K mg "_law_sighted" sLSighted ["saying", "name", "pick", "truth"] fG fdG) (GSg : FnOk P w K mg base CX0 1 fG fdG ["saying", "name", "pick", "truth"] spSighted)
    (As : Has K mg "_law_asked" sLAsked ["saying", "room"] fA fdA) (GAs : FnOk P w K mg base CX0 4 fA fdA ["saying", "room"] spAsked) (Id : Has K mg "idle" sIdle ["saying"] fI fdI) (GId : FnOk P w K mg base CX0 8 fI fdI ["saying"] spAllIdle) :
    FnOkG P w K mg base 9 f fd ["saying", "name", "pick", "has", "room"] spGiven := by
  refine F.okG scGv (fun vs H Q E h => ?_) (fun cdv A outer s H vs Q E hG0 hr h => ?_)
  · obtain ⟨v, sy, o, x, has, ro, k, rfl, _⟩ := h
    rfl
  · obtain ⟨v, sy, o, x, has, ro, k, rfl, D, ok, p4, o6, ho, hx, nx, hc, nh, er, km, kM, hok, q⟩ := h
    have hG : (A.deeper (envOfC "_law_given_right" (defScope sLGivenR) s.heap.objs.size f cdv)).guards = some [] := hG0
    have hu : (A.deeper (envOfC "_law_given_right" (defScope sLGivenR) s.heap.objs.size f cdv)).units + 64 < cLine := hr.units
    have hu16 : (A.deeper (envOfC "_law_given_right" (defScope sLGivenR) s.heap.objs.size f cdv)).units + 16 < cLine := by omega
    have hr1 := hr.mono (show 1 ≤ 8 by decide)
    have hr4 := hr.mono (show 4 ≤ 8 by decide)
    refine ⟨_, pss_cons (ps_set (i := 5) scGv.nd rfl (.inl rfl) (pe_call GWi hr rfl Wi.g Wi.F.kp Wi.b .nil pass0 (pa_cons (pv 0) (pa_cons (pv 1) (pa_cons (pv 2) pa_nil)))))
      (pss_cons (ps_if (PW.pt (pw_or (pt_not (pt_val (pe_callG hG GSm hr1 rfl Sm.g Sm.F.kp Sm.b (pa_cons (pv 5) (pa_cons (pe_call GSg hr1 rfl Sg.g Sg.F.kp Sg.b .nil pass0 (pa_cons (pv 0) (pa_cons (pv 1) (pa_cons (pv 2) (pa_cons pe_bl pa_nil))))) pa_nil)))))
          (pw_or1 (pt_cmpR (op_notInT (by exact hu16)) (pe_tup (pa_cons (pv 1) (pa_cons (pv 2) pa_nil))) (pe_call GId hr rfl Id.g Id.F.kp Id.b .nil pass0 (pa_cons (pv 5) pa_nil)) (by with_unfolding_all rfl))))) (pss_one (ps_ret pe_bl)) pss_nil)
      (pss_one (ps_ret (pe_cmpR op_eq (pe_call GAs hr4 rfl As.g As.F.kp As.b .nil pass0 (pa_cons (pv 5) (pa_cons (pv 4) pa_nil))) (pv 3) (nomark _))))), ?_⟩
    have okM := (more_ok ok o.1 x).fit hc
    refine ⟨_, rfl, _, rfl, _, rfl, v, sy, o, x, rfl, D.s, ok, ho, hx, hc, fun vL H1 S1 D1 => ?_⟩
    refine ⟨_, rfl, _, rfl, _, rfl, _, rfl, v, sy, o.1, x, true, rfl, (D.same S1).s, ok, fun vd H2 S2 D2 => ?_⟩
    refine ⟨vL, vd, _, rfl, datF_v (D1.same S2), .of D2, rpr_say okM, true, rfl, notT ?_⟩
    have S12 := S1.trans S2
    refine ⟨_, rfl, _, rfl, (by show 2 ≤ sizeLine; decide), fun tt htt => ?_⟩
    have S3 := same_new (o := .tup [V.str o.1, .str x]) htt
    refine ⟨_, rfl, vL, _, rfl, (D1.same (S2.trans S3)).s, okM, fun l T L H4 S4 hl el eL dl il => ?_⟩
    have Dt : Dat H4 (.ref tt) (prD (o.1, x)) := (Dat.tup (show upd H2 tt (.tup [V.str o.1, .str x]) tt = _ from upd_same) (.cons (.str _) (.cons (.str _) .nil))).same S4
    have kk : ∀ p ∈ T, Dat H4 p.v p.2 ∧ keyable p.2 = true ∧ p.2.depth ≤ 8 := fun p hp => by
      have m : p.2 ∈ L.map prD := eL ▸ List.mem_map_of_mem hp
      obtain ⟨z, _, e⟩ := List.mem_map.mp m
      exact ⟨dl p hp, by rw [← e]; exact keyable_pr z, by rw [← e]; exact dpr z⟩
    refine ⟨tt, l, prD (o.1, x), T, rfl, rfl, .inl (SqL.of el), kk, Dt, keyable_pr _, dpr _, _, rfl, ?_⟩
    have hm : (o.1, x) ∈ L := (il.mem (o.1, x)).mpr ⟨hx, vwI.mpr ⟨(o.1, seenF sy.picks o.1 x true o), List.mem_map.mpr ⟨o, ho, rfl⟩, rfl, by
      unfold seenF
      rw [if_pos rfl]
      exact sgh_mem.mpr ⟨hx, .inr ⟨rfl, rfl⟩⟩⟩, nh⟩
    have e : inT (prD (o.1, x)) T = true := by
      rw [inT_pr eL]
      exact decide_eq_true hm
    show if (!inT (prD (o.1, x)) T) = true then _ else _
    rw [e, if_neg (by decide)]
    have S14 := S12.trans (S3.trans S4)
    have o6M : (seen sy o.1 x true).owns.length ≤ 6 := by
      show (sy.owns.map _).length ≤ 6
      rw [List.length_map]
      exact o6
    refine ⟨_, rfl, _, rfl, vL, _, ro, k, rfl, D1.same (S2.trans (S3.trans S4)), okM, p4, o6M, S14 _ _ er, km, kM, fun b1 k1 H5 K5 er5 k1m k1k hb1 => ?_⟩
    refine ⟨_, rfl, rfl, q _ k1 H5 ((Kp.of S14).trans K5) er5 k1m k1k fun pos => ?_⟩
    have e1 := hb1 pos
    rw [more_sat ok okM hx ho rfl nx nh, ← hok.h (by omega)] at e1
    rw [bl_eq, Bool.eq_iff_iff.mpr e1]
    cases has <;> rfl
end
end S4

set_option Elab.async false
set_option linter.all false
set_option maxRecDepth 100000
set_option maxHeartbeats 4000000
/-! _law_right -/
namespace S4
open PySem PySem.W PySem.Spec PyProof.Rows L2 S1 RZ
theorem thin_idle {s t : Say} (h : Thin s t) : IdleAll t [] := by
  induction h with
  | stop h => exact h
  | step _ _ ih => exact ih
/-- owns, one by one: the names stand, sights lose picks alone -/
structure Sub (s t : Say) : Prop where
  p : t.picks = s.picks
  c : t.cls = s.cls
  l : t.owns.length = s.owns.length
  o : ∀ (i : Nat) (a b : Own), s.owns[i]? = some a → t.owns[i]? = some b → b.1 = a.1 ∧ ∀ y ∈ b.2, y ∈ a.2
theorem thin_sub {s t : Say} (h : Thin s t) : Sub s t := by
  induction h with
  | stop _ => exact ⟨rfl, rfl, rfl, fun i a b h1 h2 => by rw [h1] at h2; cases h2; exact ⟨rfl, fun _ h => h⟩⟩
  | @step s t q L _ _ ih =>
    refine ⟨ih.p, ih.c, by rw [ih.l]; exact List.length_map .., fun i a b h1 h2 => ?_⟩
    have h3 : (seen s q.1 q.2 false).owns[i]? = some (a.1, seenF s.picks q.1 q.2 false a) := by
      show (s.owns.map _)[i]? = _
      rw [List.getElem?_map, h1]
      rfl
    obtain ⟨z1, z2⟩ := ih.o i _ b h3 h2
    exact ⟨z1, fun y hy => less_sub (z2 y hy)⟩
theorem cou_mem {s : Say} {q : Pr} (h : q ∈ couL s) : ∃ o ∈ s.owns, q.1 = o.1 ∧ q.2 ∈ s.picks ∧ q.2 ∉ o.2 ∧ copies (seen s o.1 q.2 true).owns ≤ 120 ∧ ¬ hangR (seen s o.1 q.2 true) q.2 o.1 := by
  unfold couL couT at h
  obtain ⟨o, ho, h⟩ := List.mem_flatMap.mp h
  unfold couO at h
  obtain ⟨x, hx, rfl⟩ := List.mem_map.mp h
  obtain ⟨h1, h2⟩ := List.mem_filter.mp hx
  unfold couB wbiB at h2
  rw [Bool.and_eq_true, Bool.and_eq_true, decide_eq_true_eq, @decide_eq_true_eq _ (Classical.propDecidable _), Bool.not_eq_true', decide_eq_false_iff_not] at h2
  exact ⟨o, ho, rfl, h1, h2.1, h2.2.1, h2.2.2⟩
theorem rpr_pc {s : Say} {c : Nat} (ok : SayOk 6 8 c 40 s) : Rpr (.list [nmsD s.picks, .tuple (s.cls.map clD)]) := by
  have hp : Shw 507 1 (nmsD s.picks) := shw_nms ok.pn ok.pl
  have hn : ∀ x ∈ s.names, Nm x := fun x hx => by
    rcases List.mem_append.mp hx with m | m
    · exact ok.pn x m
    · obtain ⟨o, mo, rfl⟩ := List.mem_map.mp m
      exact (ok.on o mo).1
  have hc : Shw 97083 3 (.tuple (s.cls.map clD)) := shw_map (b := 2425) (k := 2) (n := 40) (fun cl m => by
    have ck := ok.ck cl m
    refine shw_map (b := 171) (k := 1) (n := 14) (fun l ml => ?_) (S4.cl_len ok m)
    refine shw_tup (b := 82) (k := 0) (n := 2) (ds := [.str l.1, .bool l.2]) (fun d hd => ?_) (Nat.le_refl _)
    rcases List.mem_cons.mp hd with rfl | hd
    · exact shw_nm (hn _ (ck.mem l ml))
    · cases List.mem_singleton.mp hd
      exact (shw_bl _).up (by decide) (by decide)) ok.cl
  refine rpr_of (shw_lst (b := 97083) (k := 3) (n := 2) (fun d hd => ?_) (Nat.le_refl _)) (by decide) (by decide)
  rcases List.mem_cons.mp hd with rfl | hd
  · exact hp.up (by decide) (by decide)
  · cases List.mem_singleton.mp hd
    exact hc
theorem rpr_nil : Rpr (.list []) := rpr_of (shw_lst (b := 0) (k := 0) (n := 0) (fun d hd => absurd hd (by simp)) (Nat.le_refl _)) (by decide) (by decide)
/-- what stands while sights are asked about -/
structure RS (H0 : Hp) (p ro : Addr) (v : V) (s : Say) (l1 : Addr) (T1 : List TRow) (L1 : List Pr) (l2 : Addr) (T2 : List TRow) (L2' : List Pr) (c : Nat) (k : Int) (G : Hp) : Prop where
  k2 : ∀ b u, b ≠ p → b ≠ ro → H0 b = some u → G b = some u
  sr : Src G p c
  r : G ro = some (.lst [.int k])
  D : DatF G v s
  e1 : G l1 = some (.lst (T1.map TRow.v))
  R1 : RT prD G T1 L1
  e2 : G l2 = some (.lst (T2.map TRow.v))
  R2 : RT prD G T2 L2'
  n1 : l1 ≠ p ∧ l1 ≠ ro
  n2 : l2 ≠ p ∧ l2 ≠ ro
  n : ro ≠ p
section
variable {H0 G G2 : Hp} {p ro l1 l2 : Addr} {v : V} {s : Say} {T1 T2 : List TRow} {L1 L2' : List Pr} {c c' : Nat} {k k' : Int}
theorem RS.kp (h : RS H0 p ro v s l1 T1 L1 l2 T2 L2' c k G) (K : Kp ro G G2) (e : G2 ro = some (.lst [.int k'])) : RS H0 p ro v s l1 T1 L1 l2 T2 L2' c k' G2 := by
  have N := NL.of_kp K h.r
  obtain ⟨xs, hx⟩ := h.sr.lst
  exact ⟨fun b u n1 n2 z => K b u n2 (h.k2 b u n1 n2 z), h.sr.mono (by rw [hx, K p _ h.n.symm hx]) (Nat.le_refl _), e, N.f h.D, K _ _ h.n1.2 h.e1, h.R1.tk keyable_pr N.tk, K _ _ h.n2.2 h.e2, h.R2.tk keyable_pr N.tk, h.n1, h.n2, h.n⟩
theorem RS.dr (h : RS H0 p ro v s l1 T1 L1 l2 T2 L2' c k G) (d : Dr G p c' G2) : RS H0 p ro v s l1 T1 L1 l2 T2 L2' c' k G2 := by
  have N := NL.of_dr d h.sr
  exact ⟨fun b u n1 n2 z => d.keep (h.k2 b u n1 n2 z) n1, d.s, d.keep h.r h.n, N.f h.D, d.keep h.e1 h.n1.1, h.R1.tk keyable_pr N.tk, d.keep h.e2 h.n2.1, h.R2.tk keyable_pr N.tk, h.n1, h.n2, h.n⟩
theorem RS.same (h : RS H0 p ro v s l1 T1 L1 l2 T2 L2' c k G) (S : Same G G2) : RS H0 p ro v s l1 T1 L1 l2 T2 L2' c k G2 := h.dr ((Dr.start h.sr).same S)
end
def spRight : Sp := fun vs H Q _ => ∃ (p : Addr) (v : V) (ro : Addr) (c : Nat) (s : Say) (k : Int), vs = [.ref p, v, .ref ro] ∧ Src H p c ∧ c ≤ 60000 ∧ DatF H v s ∧ SayOk 6 8 120 40 s ∧ s.picks.length ≤ 4 ∧ s.owns.length ≤ 6 ∧ H ro = some (.lst [.int k]) ∧ -2 ≤ k ∧ k ≤ 9000 ∧ ro ≠ p ∧
  ∀ (b : Bool) (k' : Int) (H' : Hp), (∀ b u, b ≠ p → b ≠ ro → H b = some u → H' b = some u) → H' ro = some (.lst [.int k']) → (0 < k' → b = true) → Q (.bl b) H'
abbrev nRi : List Str := ["pot", "saying", "room", "has", "some", "could", "name", "pick", "turn", "less", "own", "other"]
section
variable {P : Program} {w : World} {K : PySem.W.Frag} {mg : Str → Option Value} {base : Heap}
theorem scRi : FnScope nRi ["pot", "saying", "room"] (defScope sLRight) := ⟨rfl, rfl, rfl, by decide +kernel, rfl, by decide +kernel, by decide +kernel⟩
theorem kb_thinned {f : Addr} {fd : FuncData} (F : Fun K "thinned" "thinned" sThinned f fd) : KB0 K fd ["saying"] ["saying"] id id := Fun.kb1 F fun _ _ _ _ _ _ _ => rfl
theorem kb_could {f : Addr} {fd : FuncData} (F : Fun K "could_see" "could_see" sCould f fd) : KB0 K fd ["saying"] ["saying"] id id := Fun.kb1 F fun _ _ _ _ _ _ _ => rfl
theorem ok_lRight {f fP fA fI fC fS fL fT fG fN : Addr} {fd fdP fdA fdI fdC fdS fdL fdT fdG fdN : FuncData} (F : Fun K "_law_right" "_law_right" sLRight f fd) (B : Blt mg) (Pk : Has K mg "_law_draw" sDraw ["pot", "top"] fP fdP)
    (As : Has K mg "_law_asked" sLAsked ["saying", "room"] fA fdA) (GAs : FnOk P w K mg base CX0 4 fA fdA ["saying", "room"] spAsked) (Id : Has K mg "idle" sIdle ["saying"] fI fdI) (GId : FnOk P w K mg base CX0 8 fI fdI ["saying"] spAllIdle)
    (Co : Has K mg "could_see" sCould ["saying"] fC fdC) (GCo : FnOk P w K mg base CX0 8 fC fdC ["saying"] spCould) (Sm : Has K mg "_law_same" sLSame ["told", "due"] fS fdS) (GSm : FnOkG P w K mg base 1 fS fdS ["told", "due"] spLSame)
    (Li : Has K mg "_law_idle" sLIdle ["saying"] fL fdL) (GLi : FnOk P w K mg base CX0 3 fL fdL ["saying"] spAllIdle) (Tk : Has K mg "_law_taken_right" sLTaken ["saying", "name", "pick", "has", "room"] fT fdT) (GTk : FnOkG P w K mg base 9 fT fdT ["saying", "name", "pick", "has", "room"] spTaken)
    (Gv : Has K mg "_law_given_right" sLGivenR ["saying", "name", "pick", "has", "room"] fG fdG) (GGv : FnOkG P w K mg base 9 fG fdG ["saying", "name", "pick", "has", "room"] spGiven) (Th : Has K mg "thinned" sThinned ["saying"] fN fdN) (GTh : FnOk P w K mg base CX0 8 fN fdN ["saying"] spThinned) :
    FnOkG P w K mg base 10 f fd ["pot", "saying", "room"] spRight := by
  have GP : FnOk P w K mg base CX0 1 fP fdP ["pot", "top"] spPick := ok_pick Pk.F B
  refine F.okG scRi (fun vs H Q E h => ?_) (fun cdv A outer s H vs Q E hG0 hr h => ?_)
  · obtain ⟨p, v, ro, c, sy, k, rfl, _⟩ := h
    rfl
  · obtain ⟨p, v, ro, c, sy, k, rfl, hs, hc, D, ok, p4, o6, er, km, kM, nrp, q⟩ := h
    have hG : (A.deeper (envOfC "_law_right" (defScope sLRight) s.heap.objs.size f cdv)).guards = some [] := hG0
    have hu : (A.deeper (envOfC "_law_right" (defScope sLRight) s.heap.objs.size f cdv)).units + 64 < cLine := hr.units
    have hr1 := hr.mono (show 1 ≤ 9 by decide)
    have hr3 := hr.mono (show 3 ≤ 9 by decide)
    have hr4 := hr.mono (show 4 ≤ 9 by decide)
    have hr8 := hr.mono (show 8 ≤ 9 by decide)
    refine ⟨_, pss_cons (ps_par3 (i := 3) (j := 4) (l := 5) rfl scRi.nd rfl rfl rfl (by decide) (by decide) (by decide) rfl rfl rfl
          (pa_cons (pe_call GAs hr4 rfl As.g As.F.kp As.b .nil pass0 (pa_cons (pv 1) (pa_cons (pv 2) pa_nil))) (pa_cons (pe_call GId hr8 rfl Id.g Id.F.kp Id.b .nil pass0 (pa_cons (pv 1) pa_nil)) (pa_cons (pe_callK0 GCo hr8 rfl Co.g Co.F.kp (kb_could Co.F) pass0 (pk_cons (pv 1) pk_nil)) pa_nil))) (by with_unfolding_all rfl))
      (pss_cons (ps_if (pt_not (pt_val (pe_callG hG GSm hr1 rfl Sm.g Sm.F.kp Sm.b (pa_cons (pv 4) (pa_cons (pe_call GLi hr3 rfl Li.g Li.F.kp Li.b .nil pass0 (pa_cons (pv 1) pa_nil)) pa_nil))))) (pss_one (ps_ret pe_bl)) pss_nil)
      (pss_cons (ps_for PassesOwn.never rfl (pi_list (pv 4)) (pg_tup rfl (pgs_cons (pg_name (i := 6) scRi.nd rfl (.inl rfl)) (pgs_cons (pg_name (i := 7) scRi.nd rfl (.inl rfl)) pgs_nil)))
        (pss_one (ps_if (pt_not (pt_val (pe_callG hG GTk hr rfl Tk.g Tk.F.kp Tk.b (pa_cons (pv 1) (pa_cons (pv 6) (pa_cons (pv 7) (pa_cons (pv 3) (pa_cons (pv 2) pa_nil)))))))) (pss_one (ps_ret pe_bl)) pss_nil)))
      (pss_cons (ps_for PassesOwn.never rfl (pi_range1 rfl B.range (pa_cons (pe_callB (call_min2 rfl) (by rfl) B.min (by decide +kernel) (pa_cons pe_int (pa_cons (pe_callB call_len_seq (by rfl) B.len (by decide +kernel) (pa_cons (pv 5) pa_nil)) pa_nil))) pa_nil)) (pg_name (i := 8) scRi.nd rfl (.inl rfl))
        (pss_cons (ps_asg (pe_ix ix_list (pv 5) (pe_call GP hr1 rfl Pk.g Pk.F.kp Pk.b .nil pass0 (pa_cons (pv 0) (pa_cons (pe_callB call_len_seq (by rfl) B.len (by decide +kernel) (pa_cons (pv 5) pa_nil)) pa_nil))) (fun _ _ => rfl)) (pg_tup rfl (pgs_cons (pg_name (i := 6) scRi.nd rfl (.inl rfl)) (pgs_cons (pg_name (i := 7) scRi.nd rfl (.inl rfl)) pgs_nil))))
        (pss_one (ps_if (pt_not (pt_val (pe_callG hG GGv hr rfl Gv.g Gv.F.kp Gv.b (pa_cons (pv 1) (pa_cons (pv 6) (pa_cons (pv 7) (pa_cons (pv 3) (pa_cons (pv 2) pa_nil)))))))) (pss_one (ps_ret pe_bl)) pss_nil))))
      (pss_cons (ps_set (i := 9) scRi.nd rfl (.inl rfl) (pe_callK0 GTh hr8 rfl Th.g Th.F.kp (kb_thinned Th.F) pass0 (pk_cons (pv 1) pk_nil)))
      (pss_cons (ps_if (PW.pt (pw_or (pt_not (pt_val (pe_callB call_isi (by rfl) B.isi (by decide +kernel) (pa_cons (pv 9) (pa_cons (pe_bltn (v := V.ty "tuple") (by rfl) B.tuple (by decide +kernel) rfl) pa_nil)))))
          (pw_or (pt_cmpR op_ne (pe_callB call_len_seq (by rfl) B.len (by decide +kernel) (pa_cons (pv 9) pa_nil)) pe_int (nomark _))
          (pw_or1 (pt_not (pt_val (pe_callG hG GSm hr1 rfl Sm.g Sm.F.kp Sm.b (pa_cons (pe_lst (pa_cons (pe_ix ix_tup (pv 9) pe_int (fun _ _ => rfl)) (pa_cons (pe_ix ix_tup (pv 9) pe_int (fun _ _ => rfl)) pa_nil))) (pa_cons (pe_lst (pa_cons (pe_ix ix_tup (pv 1) pe_int (fun _ _ => rfl)) (pa_cons (pe_ix ix_tup (pv 1) pe_int (fun _ _ => rfl)) pa_nil))) pa_nil))))))))) (pss_one (ps_ret pe_bl)) pss_nil)
      (pss_cons (ps_for PassesOwn.never rfl (pi_zipA rfl B.zip (pa_cons (pe_ix ix_tup (pv 1) pe_int (fun _ _ => rfl)) (pa_cons (pe_ix ix_tup (pv 9) pe_int (fun _ _ => rfl)) pa_nil))) (pg_tup rfl (pgs_cons (pg_name (i := 10) scRi.nd rfl (.inr rfl)) (pgs_cons (pg_name (i := 11) scRi.nd rfl (.inl rfl)) pgs_nil)))
        (pss_one (ps_if (PW.pt (pw_or (pt_cmpR op_ne (pe_ix ix_tup (pv 10) pe_int (fun _ _ => rfl)) (pe_ix ix_tup (pv 11) pe_int (fun _ _ => rfl)) (nomark _))
            (pw_or1 (pt_not (pt_val (pe_callB (cr_all rfl) (by rfl) B.all (by decide +kernel) (pa_cons (pe_lc (own := [("pick", 7)]) (g := gName 7) (tt := tYes) (te := tOp (rIn K false) (tVar 7) (tOp (rIxT K) (tVar 10) (tC (V.int 1)))) rfl scRi.nd (pi_tup (pe_ix ix_tup (pv 11) pe_int (fun _ _ => rfl)))
              (blkOk_by (N := nRi) (sc := defScope sLRight) (by decide +kernel)) (fun _ _ _ _ _ => pg_name (i := 7) scRi.nd rfl (Or.inl rfl)) (fun _ _ _ _ _ => pts_nil) (fun _ _ _ _ _ => by exact pe_cmpR op_in_seq (pv 7) (pe_ix ix_tup (pv 10) pe_int (fun _ _ => rfl)) (by with_unfolding_all rfl))) pa_nil))))))) (pss_one (ps_ret pe_bl)) pss_nil)))
      (pss_one (ps_ret (pe_and (pe_cmpR (op_eqP (by exact hu)) (pe_call GLi hr3 rfl Li.g Li.F.kp Li.b .nil pass0 (pa_cons (pv 9) pa_nil)) (pe_lst pa_nil) (by with_unfolding_all rfl))
        (pe_and (pe_callG hG GSm hr1 rfl Sm.g Sm.F.kp Sm.b (pa_cons (pe_call GId hr8 rfl Id.g Id.F.kp Id.b .nil pass0 (pa_cons (pv 9) pa_nil)) (pa_cons (pe_lst pa_nil) pa_nil)))
        (pe_one (pe_cmpR op_eq (pe_call GAs hr4 rfl As.g As.F.kp As.b .nil pass0 (pa_cons (pv 9) (pa_cons (pv 2) pa_nil))) (pv 3) (nomark _))))))))))))), ?_⟩
    have s2 : 2 ≤ sizeLine := by decide
    -- what is asked first
    refine ⟨_, rfl, _, rfl, v, sy, ro, k, rfl, D, ok, p4, o6, er, km, kM, fun has k1 H1 K1 er1 k1m k1k hh1 => ?_⟩
    have N1 := NL.of_kp K1 er
    have D1 := N1.f D
    refine ⟨_, rfl, v, sy, rfl, D1.s, ok, fun l1 T1 L1 H2 S2 hl1 el1 eL1 dl1 il1 => ?_⟩
    refine ⟨_, rfl, rfl, v, sy, rfl, (D1.same S2).s, ok, fun l2 T2 H3 S3 hl2 el2 eL2 dl2 => ⟨_, _, _, rfl, ?_⟩⟩
    obtain ⟨xp, hxp⟩ := hs.lst
    have hs1 : Src H1 p c := hs.mono (by rw [hxp, K1 p _ nrp.symm hxp]) (Nat.le_refl _)
    have W0 : RS H p ro v sy l1 T1 L1 l2 T2 (couL sy) c k1 H3 := ⟨fun b u n1 n2 z => S3 _ _ (S2 _ _ (K1 b u n2 z)), ((Dr.start hs1).same (S2.trans S3)).s, S3 _ _ (S2 _ _ er1), (D1.same S2).same S3, S3 _ _ el1, ⟨eL1, fun q' hq' => (dl1 q' hq').same S3⟩, el2, ⟨eL2, dl2⟩,
      ⟨fun z => (by rw [z, hs1.lst.choose_spec] at hl1; cases hl1), fun z => (by rw [z, er1] at hl1; cases hl1)⟩, ⟨fun z => (by
        obtain ⟨ys, hy⟩ := ((Dr.start hs1).same S2).s.lst
        rw [z, hy] at hl2; cases hl2), fun z => (by rw [z, S2 _ _ er1] at hl2; cases hl2)⟩, nrp⟩
    have ho1 : HasOk sy has k1 := ⟨hh1⟩
    clear K1 S2 S3 el1 dl1 el2 dl2 N1 D1 er1 hh1 hl1 hl2 hs1
    -- idle, as the law finds it
    refine ⟨_, rfl, _, rfl, v, sy, rfl, W0.D.s, ok, fun l3 T3 L3 H4 S4 hl3 el3 eL3 dl3 il3 => ?_⟩
    have eLL : L3 = L1 := il3.uniq il1
    subst eLL
    have W1 := W0.same S4
    refine ⟨.ref l1, .ref l3, .list (L3.map prD), rfl, .of (by rw [← W1.R1.e]; exact .lst W1.e1 (dats_rows W1.R1.D)), .of (by rw [← eL3]; exact .lst el3 (dats_rows dl3)), il3.rpr ok, true, rfl, notT ?_⟩
    clear W0 S4 el3 eL3 dl3 hl3
    have lL1 := il3.len ok
    -- sights taken
    refine ⟨_, rfl, l1, rfl, ⟨_, SqL.of W1.e1⟩, ?_⟩
    refine for_list (K := K) (a := l1) (xs := T1.map TRow.v) (fun j σ H' => ∃ (o6 o7 : Option V) (k2 : Int), σ = [some (.ref p), some v, some (.ref ro), some (.bl has), some (.ref l1), some (.ref l2), o6, o7, none, none, none, none] ∧ RS H p ro v sy l1 T1 L3 l2 T2 (couL sy) c k2 H' ∧ k2 ≤ k1 ∧ -2 ≤ k2 ∧ k2 ≤ k)
      ⟨_, _, k1, rfl, W1, Int.le_refl _, k1m, k1k⟩ (fun j σ H' _ ⟨_, _, _, _, W, _⟩ => SqL.of W.e1) ?_ ?_
    · rintro j y σ G hy ⟨u6, u7, k2, rfl, W, k21, k2m, k2k⟩
      rw [List.getElem?_map] at hy
      obtain ⟨r, hr, rfl⟩ := Option.map_eq_some_iff.mp hy
      obtain ⟨qq, hqq, er', Dq⟩ := W.R1.at_ hr
      obtain ⟨b, eb, gb⟩ := pr_row Dq
      obtain ⟨m1, m2, m3⟩ := (il3.mem qq).mp (List.mem_of_getElem? hqq)
      obtain ⟨o, ho, eo, hxo⟩ := vwI.mp m2
      refine ⟨b, _, eb, SqT.of gb, rfl, _, _, rfl, _, _, rfl, rfl, ?_⟩
      refine ⟨_, rfl, _, rfl, _, rfl, _, rfl, _, rfl, v, sy, o, qq.2, has, ro, k2, by rw [eo]; rfl, W.D, ok, p4, o6, ho, m1, by rw [eo]; exact m2, by rw [eo]; exact m3, W.r, k2m, by omega, ⟨fun z => ho1.h (by omega)⟩, fun bb k3 G2 K2 er2 k3m k3k hb => ?_⟩
      have W2 := W.kp K2 er2
      refine ⟨bb, rfl, ?_⟩
      cases bb with
      | true => exact notT ⟨_, _, k3, rfl, W2, by omega, k3m, by omega⟩
      | false =>
        show if (!false) = true then _ else _
        rw [if_pos (by decide)]
        exact q false k3 G2 W2.k2 er2 hb
    · rintro σ G ⟨u6, u7, k2, rfl, W, k21, k2m, k2k⟩
      clear W1
      have lT2 : T2.length = (couL sy).length := W.R2.len
      have lC : (couL sy).length ≤ 48 := by
        have z := couT_len sy sy.owns
        have z1 := ok.pl
        have z2 := ok.ol
        have : sy.picks.length * sy.owns.length ≤ 6 * 8 := Nat.mul_le_mul z1 z2
        unfold couL
        omega
      refine ⟨_, rfl, l2, _, rfl, .inl (SqL.of W.e2), 4, _, rfl, ?_⟩
      obtain ⟨m, em, hm, hm2⟩ : ∃ m : Nat, (if (((T2.map TRow.v).length : Nat) : Int) < 4 then (((T2.map TRow.v).length : Nat) : Int) else 4) = (m : Int) ∧ m ≤ 4 ∧ m ≤ (couL sy).length := by
        rw [List.length_map, lT2]
        split
        · exact ⟨(couL sy).length, rfl, by omega, Nat.le_refl _⟩
        · exact ⟨4, rfl, Nat.le_refl _, by omega⟩
      show ∃ n : Int, _
      rw [em]
      refine ⟨_, rfl, by omega, by omega, ?_⟩
      rw [Int.toNat_natCast]
      -- sights given
      refine for_range (lo := 0) (n := m) (fun i σ H' => ∃ (o6 o7 o8 : Option V) (k2 : Int), σ = [some (.ref p), some v, some (.ref ro), some (.bl has), some (.ref l1), some (.ref l2), o6, o7, o8, none, none, none] ∧ RS H p ro v sy l1 T1 L3 l2 T2 (couL sy) (c + i) k2 H' ∧ k2 ≤ k1 ∧ -2 ≤ k2 ∧ k2 ≤ k) ?_ ?_ ?_
      · exact ⟨_, _, _, k2, rfl, W, k21, k2m, k2k⟩
      · clear W k21 k2m k2k
        rintro i σ G1 hi ⟨v6, v7, v8, k2, rfl, W, k21, k2m, k2k⟩
        refine ⟨_, rfl, _, rfl, _, rfl, _, _, rfl, .inl (SqL.of W.e2), p, _, _, rfl, W.sr, by omega, by rw [List.length_map]; omega, by rw [List.length_map]; omega, fun r o r0 r1 hp1 => ?_⟩
        have W2 := W.dr ((Dr.start W.sr).src hp1)
        rw [List.length_map] at r1
        obtain ⟨vv, hv, _, hv2⟩ := at_ok (xs := T2.map TRow.v) r0 (by rw [List.length_map]; exact r1)
        rw [List.getElem?_map] at hv2
        obtain ⟨rw2, hrw, rfl⟩ := Option.map_eq_some_iff.mp hv2
        obtain ⟨qq, hqq, er', Dq⟩ := W2.R2.at_ hrw
        obtain ⟨b, eb, gb⟩ := pr_row Dq
        obtain ⟨ow, how, eo, m1, m2, m3, m4⟩ := cou_mem (List.mem_of_getElem? hqq)
        refine ⟨l2, _, r, _, rfl, rfl, SqL.of W2.e2, hv, b, _, eb, SqT.of gb, rfl, _, _, rfl, _, _, rfl, rfl, ?_⟩
        refine ⟨_, rfl, _, rfl, _, rfl, _, rfl, _, rfl, v, sy, ow, qq.2, has, ro, k2, by rw [eo]; rfl, W2.D, ok, p4, o6, how, m1, m2, m3, m4, W2.r, k2m, by omega, ⟨fun z => ho1.h (by omega)⟩, fun bb k3 G2 K2 er2 k3m k3k hb => ?_⟩
        have W3 := W2.kp K2 er2
        refine ⟨bb, rfl, ?_⟩
        cases bb with
        | true => exact notT ⟨_, _, _, k3, rfl, W3, by omega, k3m, by omega⟩
        | false =>
          show if (!false) = true then _ else _
          rw [if_pos (by decide)]
          exact q false k3 G2 W3.k2 er2 hb
      · clear W k21 k2m k2k
        rintro σ G1 ⟨v6, v7, v8, k2, rfl, W, k21, k2m, k2k⟩
        refine ⟨_, rfl, rfl, v, sy, rfl, W.D, ok, fun vt t G2 S2 Dt okt th => ?_⟩
        have W2 := W.same S2
        have sb := thin_sub th
        have ie := thin_idle th
        have e3 := thin_sat th ok
        obtain ⟨at0, pt, ot, ct, rfl, eat, Dpt, ⟨bt, ust, rfl, fzt, Dut⟩, Dct⟩ := Dt
        have Dt : DatF G2 (.ref at0) t := ⟨at0, pt, _, ct, rfl, eat, Dpt, ⟨bt, ust, rfl, fzt, Dut⟩, Dct⟩
        obtain ⟨a0, p0, o0, c0, rfl, ea0, Dp0, ⟨b0, us0, rfl, fz0, Du0⟩, Dc0⟩ := W2.D
        have D2 : DatF G2 (.ref a0) sy := ⟨a0, p0, _, c0, rfl, ea0, Dp0, ⟨b0, us0, rfl, fz0, Du0⟩, Dc0⟩
        refine ⟨_, rfl, _, _, _, _, true, rfl, .ty _, .base (.tup eat), kit_ty (by decide +kernel), true, rfl, notT ?_⟩
        refine ⟨_, rfl, _, _, rfl, .inr (SqT.of eat), rfl, _, rfl, ?_⟩
        show if (!decide (V.int 3 = V.int 3)) = true then _ else _
        rw [if_neg (by decide)]
        refine ⟨_, rfl, at0, _, 0, _, rfl, rfl, SqT.of eat, rfl, _, rfl, at0, _, 2, _, rfl, rfl, SqT.of eat, rfl, s2, fun lr hlr => ?_⟩
        have n1 := same_new (o := .lst [pt, ct]) hlr
        refine ⟨_, rfl, a0, _, 0, _, rfl, rfl, SqT.of (n1 _ _ ea0), rfl, _, rfl, a0, _, 2, _, rfl, rfl, SqT.of (n1 _ _ ea0), rfl, s2, fun lq hlq => ?_⟩
        have n2 := same_new (o := .lst [p0, c0]) hlq
        have n12 := n1.trans n2
        have ept := Dpt.same n12
        have ect := Dct.same n12
        rw [sb.p] at ept
        rw [sb.c] at ect
        refine ⟨.ref lr, .ref lq, .list [nmsD sy.picks, .tuple (sy.cls.map clD)], rfl, .of (.lst (n2 _ _ upd_same) (.cons ept (.cons ect .nil))), .of (.lst upd_same (.cons (Dp0.same n12) (.cons (Dc0.same n12) .nil))), rpr_pc ok, true, rfl, notT ?_⟩
        have W3 := W2.same n12
        have Dt3 := Dt.same n12
        have D3 := D2.same n12
        have eat3 := n12 _ _ eat
        have ea03 := n12 _ _ ea0
        have fzt3 := fzt.same n12
        have fz03 := fz0.same n12
        have Dut3 := DatAll.same n12 Dut
        have Du03 := DatAll.same n12 Du0
        clear W W2 n1 n2 hlr hlq ept ect
        generalize upd (upd G2 lr (.lst [pt, ct])) lq (.lst [p0, c0]) = G3 at W3 Dt3 D3 eat3 ea03 fzt3 fz03 Dut3 Du03 ⊢
        -- own by own
        have lu0 : us0.length = sy.owns.length := by rw [Du03.len, List.length_map]
        have lut : ust.length = sy.owns.length := by rw [Dut3.len, List.length_map, sb.l]
        refine ⟨_, rfl, a0, _, 1, _, rfl, rfl, SqT.of ea03, rfl, _, rfl, at0, _, 1, _, rfl, rfl, SqT.of eat3, rfl, b0, bt, us0, ust, rfl, .inr ⟨FT.sq fz03.ft, FT.sq fzt3.ft, ?_⟩⟩
        refine for_it (_root_.S2.walk_zipT (K := K) (a := b0) (b := bt) lu0 lut) (fun i σ H' => ∃ (o6 o7 o8 o10 o11 : Option V), σ = [some (.ref p), some (.ref a0), some (.ref ro), some (.bl has), some (.ref l1), some (.ref l2), o6, o7, o8, some (.ref at0), o10, o11] ∧ Same G3 H')
          ⟨_, _, _, _, _, rfl, Same.refl _⟩ (fun i σ H' _ ⟨_, _, _, _, _, _, S⟩ => ⟨FT.sq (fz03.ft.same S), FT.sq (fzt3.ft.same S)⟩) ?_ ?_
        · rintro i x σ H4 H5 hi ⟨w6, w7, w8, w10, w11, rfl, S4⟩ ⟨T0, y, z, rfl, hT0, rfl, fy, fz⟩
          have n1 := same_new (o := .tup [y, z]) hT0
          have S45 := S4.trans n1
          obtain ⟨d1, hd1, Dy⟩ := dats_get' (DatAll.same S45 Du03) i y fy
          obtain ⟨oa, hoa, rfl⟩ := get_map hd1
          obtain ⟨d2, hd2, Dz⟩ := dats_get' (DatAll.same S45 Dut3) i z fz
          obtain ⟨ob, hob, rfl⟩ := get_map hd2
          obtain ⟨e1, e2⟩ := sb.o i oa ob hoa hob
          obtain ⟨ta, rfl⟩ := tuple_ref (ds := [.str oa.1, nmsD oa.2]) Dy
          obtain ⟨tb, rfl⟩ := tuple_ref (ds := [.str ob.1, nmsD ob.2]) Dz
          obtain ⟨ta', ga1, ga2⟩ := own_row (q := (ta, ownD oa)) rfl Dy
          obtain ⟨tb', gb1, gb2⟩ := own_row (q := (tb, ownD ob)) rfl Dz
          have ogb := okt.on ob (List.mem_of_getElem? hob)
          have lob : ob.2.length ≤ 6 := by
            have z1 := nodup_le (m := t.picks) (nodup_tlt ogb.2.2.1) ogb.2.2.2
            have z2 := okt.pl
            omega
          refine ⟨T0, _, rfl, SqT.of upd_same, rfl, _, _, rfl, _, _, rfl, rfl, ?_⟩
          refine ⟨_, rfl, ta, _, 0, _, rfl, rfl, SqT.of ga1, rfl, _, rfl, tb, _, 0, _, rfl, rfl, SqT.of gb1, rfl, rfl, _, rfl, ?_⟩
          rw [e1]
          show if (!decide (V.str oa.1 = V.str oa.1)) = true then _ else _
          rw [if_neg (by rw [decide_eq_true rfl]; decide)]
          refine ⟨_, rfl, tb, _, 1, _, rfl, rfl, SqT.of gb1, rfl, tb', rfl, ⟨_, SqT.of gb2⟩, fun D0 hD0 => ?_⟩
          refine lc_allT (K := K) (SqT.of gb2) hD0 (by rw [List.length_map]; omega) (fun j x H6 Qe hx S6 kq => ?_) gName_mono (fun H6 e6 S6 => ?_)
          · rw [List.getElem?_map] at hx
            obtain ⟨pk, hpk, rfl⟩ := Option.map_eq_some_iff.mp hx
            refine ⟨rfl, _, rfl, _, rfl, ta, _, 1, _, rfl, rfl, SqT.of (S6 _ _ ga1), rfl, ta', _, rfl, .inr (SqT.of (S6 _ _ ga2)), rfl, flat_strs _, ?_⟩
            have z1 := kq H6 (Same.refl _)
            have z2 : inV (V.str pk) (oa.2.map V.str) = true := by
              rw [inV_str]
              exact decide_eq_true (e2 pk (List.mem_of_getElem? hpk))
            show Qe (.bl (inV (V.str pk) (oa.2.map V.str))) H6
            rw [z2]
            exact z1
          · refine ⟨D0, _, rfl, SqL.of e6, _, rfl, ?_⟩
            rw [trues_all]
            exact notT ⟨_, _, _, _, _, rfl, S45.trans S6⟩
        · rintro σ G4 ⟨w6, w7, w8, w10, w11, rfl, S4⟩
          have Dt4 := Dt3.same S4
          have W4 := W3.same S4
          refine ⟨_, rfl, .ref at0, t, rfl, Dt4.s, okt, fun l5 T5 L5 G5 S5 hl5 el5 eL5 dl5 il5 => ?_⟩
          have e5 : L5 = [] := il5.uniq ie
          subst e5
          have eT5 : T5 = [] := by
            cases T5 with
            | nil => rfl
            | cons x xs => cases eL5
          subst eT5
          refine ⟨Nat.zero_le _, fun te hte => ?_⟩
          have n1 := same_new (o := .lst ([] : List V)) hte
          refine ⟨.list [], .list [], .lst (n1 _ _ el5) .nil, .lst upd_same .nil, rfl, rfl, by decide, ?_⟩
          refine ⟨true, rfl, ?_⟩
          rw [if_pos rfl]
          have S6 := S5.trans n1
          refine ⟨_, rfl, .ref at0, t, rfl, (Dt4.same S6).s, okt, fun l7 T7 L7 G7 S7 hl7 el7 eL7 dl7 il7 => ?_⟩
          have e7 : L7 = [] := il7.uniq ie
          subst e7
          have eT7 : T7 = [] := by
            cases T7 with
            | nil => rfl
            | cons x xs => cases eL7
          subst eT7
          refine ⟨Nat.zero_le _, fun tg htg => ?_⟩
          have n3 := same_new (o := .lst ([] : List V)) htg
          refine ⟨.ref l7, .ref tg, .list [], rfl, .of (.lst (n3 _ _ el7) .nil), .of (.lst upd_same .nil), rpr_nil, ?_⟩
          refine ⟨true, rfl, ?_⟩
          rw [if_pos rfl]
          have S8 := S6.trans (S7.trans n3)
          have W5 := W4.same S8
          have p4t : t.picks.length ≤ 4 := by rw [sb.p]; exact p4
          have o6t : t.owns.length ≤ 6 := by rw [sb.l]; exact o6
          refine ⟨_, rfl, _, rfl, .ref at0, t, ro, k2, rfl, Dt4.same S8, okt, p4t, o6t, W5.r, k2m, by omega, fun b1 k3 G9 K9 er9 k3m k3k hb1 => ?_⟩
          have W6 := W5.kp K9 er9
          refine ⟨_, rfl, rfl, q _ k3 G9 W6.k2 er9 fun pos => ?_⟩
          have z1 := hb1 pos
          rw [e3, ← ho1.h (by omega)] at z1
          rw [bl_eq, Bool.eq_iff_iff.mpr z1]
          cases has <;> rfl
end
end S4

set_option Elab.async false
set_option linter.all false
set_option maxRecDepth 100000
set_option maxHeartbeats 4000000
/-! the law -/
namespace S1
open PySem PySem.W PySem.Spec PyProof.Rows L2
def spLaw (K : PySem.W.Frag) : Sp := fun vs H Q _ => ∃ (a : Addr) (ns : List Int), vs = [.ref a] ∧ SqL K H a (ns.map V.int) ∧ ns.length ≤ 63 ∧ ∀ H', Q (.bl true) H'
end S1
namespace S4
open PySem PySem.W PySem.Spec PyProof.Rows L2 S1
section
variable {P : Program} {w : World} {K : PySem.W.Frag} {mg : Str → Option Value} {base : Heap}
theorem scLaw : FnScope ["script", "k", "pot", "saying", "room"] ["script"] (defScope sLaw) := ⟨rfl, rfl, rfl, by decide +kernel, rfl, by decide +kernel, by decide +kernel⟩
theorem ok_law {f fS fP fF fC fR fT : Addr} {fd fdS fdP fdF fdC fdR fdT : FuncData} (F : Fun K "law" "law" sLaw f fd) (B : Blt mg) (en : mg "enumerate" = none) (So : Has K mg "_law_pot" sPot ["script", "k"] fS fdS) (Pk : Has K mg "_law_draw" sDraw ["pot", "top"] fP fdP)
    (Fr : Has K mg "_law_saying" sLSaying ["pot", "sizes", "clauses", "space"] fF fdF) (Cl : Has K mg "_law_chained" sLChained ["pot", "saying"] fC fdC) (Ri : Has K mg "_law_right" sLRight ["pot", "saying", "room"] fR fdR) (Pt : Has K mg "_law_planted" sLPlanted ["pot", "saying", "clauses"] fT fdT)
    (GF : FnOk P w K mg base CX0 4 fF fdF ["pot", "sizes", "clauses", "space"] spDrSay) (GC : FnOk P w K mg base CX0 2 fC fdC ["pot", "saying"] spChained)
    (GR : FnOkG P w K mg base 10 fR fdR ["pot", "saying", "room"] spRight) (GT : FnOk P w K mg base CX0 3 fT fdT ["pot", "saying", "clauses"] spPlanted) : FnOkG P w K mg base 11 f fd ["script"] (spLaw K) := by
  have GS : FnOk P w K mg base CX0 1 fS fdS ["script", "k"] (spPot K) := ok_pot So.F B en
  have GP : FnOk P w K mg base CX0 1 fP fdP ["pot", "top"] spPick := ok_pick Pk.F B
  refine F.okG scLaw (fun vs H Q E h => ?_) (fun cdv A outer s H vs Q E hG0 hr h => ?_)
  · obtain ⟨a, ns, rfl, _⟩ := h
    rfl
  · obtain ⟨a, ns, rfl, hS, hlen, q⟩ := h
    have hr1 := hr.mono (show 1 ≤ 10 by decide)
    have hr2 := hr.mono (show 2 ≤ 10 by decide)
    have hr3 := hr.mono (show 3 ≤ 10 by decide)
    have hr4 := hr.mono (show 4 ≤ 10 by decide)
    have hG : (A.deeper (envOfC "law" (defScope sLaw) s.heap.objs.size f cdv)).guards = some [] := hG0
    refine ⟨_, pss_cons (ps_for PassesOwn.never rfl (pi_range1 rfl B.range (pa_cons (pe_callB (call_max2 rfl) (by rfl) B.max (by decide +kernel) (pa_cons pe_int (pa_cons (pe_callB (call_min2 rfl) (by rfl) B.min (by decide +kernel) (pa_cons pe_int (pa_cons (pe_callB call_len_seq (by rfl) B.len (by decide +kernel) (pa_cons (pv 0) pa_nil)) pa_nil))) pa_nil))) pa_nil)) (pg_name (i := 1) scLaw.nd rfl (Or.inl rfl))
        (pss_cons (ps_set (i := 2) scLaw.nd rfl (.inl rfl) (pe_call GS hr1 rfl So.g So.F.kp So.b .nil pass0 (pa_cons (pv 0) (pa_cons (pv 1) pa_nil))))
        (pss_cons (ps_set (i := 3) scLaw.nd rfl (.inl rfl) (pe_call GF hr4 rfl Fr.g Fr.F.kp Fr.b .nil pass0 (pa_cons (pv 2) (pa_cons (pe_lst (pa_cons pe_int (pa_cons pe_int pa_nil)))
          (pa_cons (pe_ix ix_list (pe_lst (pa_cons pe_int (pa_cons pe_int pa_nil))) (pe_call GP hr1 rfl Pk.g Pk.F.kp Pk.b .nil pass0 (pa_cons (pv 2) (pa_cons pe_int pa_nil))) (fun _ _ => rfl)) (pa_cons pe_int pa_nil))))))
        (pss_cons (ps_if (pt_cmpR op_eq (pe_call GP hr1 rfl Pk.g Pk.F.kp Pk.b .nil pass0 (pa_cons (pv 2) (pa_cons pe_int pa_nil))) pe_int (nomark _))
            (pss_one (ps_set (i := 3) scLaw.nd rfl (.inl rfl) (pe_call GC hr2 rfl Cl.g Cl.F.kp Cl.b .nil pass0 (pa_cons (pv 2) (pa_cons (pe_call GF hr4 rfl Fr.g Fr.F.kp Fr.b .nil pass0 (pa_cons (pv 2) (pa_cons (pe_lst (pa_cons pe_int (pa_cons pe_int pa_nil))) (pa_cons pe_int (pa_cons pe_int pa_nil))))) pa_nil)))))
            (pss_one (ps_if (pt_cmpR op_eq (pe_call GP hr1 rfl Pk.g Pk.F.kp Pk.b .nil pass0 (pa_cons (pv 2) (pa_cons pe_int pa_nil))) pe_int (nomark _))
              (pss_one (ps_set (i := 3) scLaw.nd rfl (.inl rfl) (pe_call GT hr3 rfl Pt.g Pt.F.kp Pt.b .nil pass0 (pa_cons (pv 2) (pa_cons (pv 3) (pa_cons pe_int pa_nil)))))) pss_nil)))
        (pss_cons (ps_set (i := 4) scLaw.nd rfl (.inl rfl) (pe_lst (pa_cons pe_int pa_nil)))
        (pss_one (ps_if (PW.pt (pw_and (pt_not (pt_val (pe_callG hG GR hr rfl Ri.g Ri.F.kp Ri.b (pa_cons (pv 2) (pa_cons (pv 3) (pa_cons (pv 4) pa_nil)))))) (pw_and1 (pt_cmpR op_gt (pe_ix ix_list (pv 4) pe_int (fun _ _ => rfl)) pe_int (nomark _))))) (pss_one (ps_ret pe_bl)) pss_nil)))))))
      (pss_one (ps_ret pe_bl)), ?_⟩
    refine ⟨_, rfl, a, _, rfl, .inl hS, _, _, rfl, _, _, rfl, _, rfl, ?_, ?_, ?_⟩
    · repeat' split <;> omega
    · repeat' split <;> omega
    refine for_range (lo := 0) (fun i σ H' => ∃ v1 v2 v3 v4 : Option V, σ = [some (.ref a), v1, v2, v3, v4] ∧ Same H H') ⟨_, _, _, _, rfl, Same.refl _⟩ ?_ ?_
    · rintro i σ H1 hi ⟨v1, v2, v3, v4, rfl, s1⟩
      have hi2 : (i : Int) < 1000 := by
        have : (i : Nat) < 1000 := Nat.lt_of_lt_of_le hi (by repeat' split <;> omega)
        omega
      refine ⟨_, rfl, _, rfl, a, ns, _, rfl, s1.seq hS, hlen, by omega, by omega, fun p H2 hp s2 P2 => ?_⟩
      have S02 := s1.trans s2
      have hp0 : H p = none := s1.free hp
      have W0 := Wk.start P2
      refine ⟨_, rfl, (by show 2 ≤ sizeLine; decide), fun z hz => ⟨(by show 2 ≤ sizeLine; decide), fun l2 hl2 => ?_⟩⟩
      have W1 := W0.new (o := .lst [.int 4, .int 6]) hz
      have W2 := W1.new (o := .lst ([10, 20].map V.int)) hl2
      refine ⟨_, rfl, p, _, 2, rfl, W2.s, by omega, by decide, by decide, fun r o r0 r1 hp1 => ?_⟩
      have W3 := W2.src hp1
      obtain ⟨vv, hv, hm4, _⟩ := at_ok (xs := ([10, 20] : List Int).map V.int) r0 (by simpa using r1)
      obtain ⟨sh, hsh, rfl⟩ := List.mem_map.mp hm4
      obtain ⟨d, hd, hd40⟩ : ∃ d : Nat, sh = (d : Int) ∧ d ≤ 40 := by
        simp only [List.mem_cons, List.not_mem_nil, or_false] at hsh
        rcases hsh with h | h
        · exact ⟨10, h, by decide⟩
        · exact ⟨20, h, by decide⟩
      subst hd
      refine ⟨l2, _, r, _, rfl, rfl, SqL.of (W3.at 0 rfl), hv, p, z, _, 4, 6, 40, d, rfl, W3.s, by omega, W3.at 1 rfl, W3.np 1 rfl, by decide, by decide, by decide, by decide, by decide, by decide, hd40, fun v sy H4 Ds ok d4 => ?_⟩
      have d24 := W3.d.trans d4
      refine ⟨_, rfl, p, _, 3, rfl, d24.s, by omega, by decide, by decide, fun r2 o2 r20 r21 hp2 => ⟨rfl, _, rfl, ?_⟩⟩
      have d5 := d24.src hp2
      have Ds5 := (NL.of_dr ((Dr.start d24.s).src hp2) d24.s).f Ds
      have okS := ok.le (Nat.le_refl 4) (Nat.le_refl 6) (Nat.le_refl 40) hd40
      refine branchH (fun G => Dr H2 p 5002 G ∧ DatF G v sy) ⟨d5.up (by omega), Ds5⟩ (fun σ' G => ∃ (v : V) (sy : Say), σ' = [some (.ref a), some (.int (0 + (i : Int))), some (.ref p), some v, v4] ∧ SayOk 4 6 40 40 sy ∧ DatF G v sy ∧ Dr H2 p 17000 G) ?_ (fun _ G W R => ?_) (fun _ G W R => ?_)
      · rintro σ' G ⟨v, sy, rfl, ok, DG, dG⟩
        refine ⟨(by show 1 ≤ sizeLine; decide), fun ro hro => ?_⟩
        have nrp := dG.ne hro
        have hroH : H ro = none := S02.free (dG.free hro)
        have d6 := dG.new (o := .lst [.int 9000]) hro
        refine ⟨_, rfl, _, rfl, _, rfl, p, v, ro, _, sy, 9000, rfl, d6.s, by omega, DG.same (same_new hro), ok.le (by decide) (by decide) (by decide) (Nat.le_refl _), ok.pl, ok.ol, upd_same, by decide, by decide, nrp, fun b k' G2 K2 er2 hb => ⟨b, rfl, ?_⟩⟩
        have fin : Same H G2 := fun x u hx => K2 x u (ne_of_none hx hp0) (ne_of_none hx hroH) (d6.keep (S02 _ _ hx) (ne_of_none hx hp0))
        cases b with
        | true =>
          show if (!true) = true then _ else _
          rw [if_neg (by decide)]
          exact ⟨_, _, _, _, rfl, fin⟩
        | false =>
          show if (!false) = true then _ else _
          rw [if_pos (by decide)]
          have nk : ¬ 0 < k' := fun z => by
            have := hb z
            cases this
          refine ⟨_, rfl, ro, _, 0, _, rfl, rfl, SqL.of er2, rfl, _, _, rfl, rfl, _, rfl, ?_⟩
          show if decide (0 < k') = true then _ else _
          rw [if_neg (by rw [decide_eq_false nk]; decide)]
          exact ⟨_, _, _, _, rfl, fin⟩
      · obtain ⟨dG, DG⟩ := W
        refine ⟨_, rfl, _, rfl, (by show 2 ≤ sizeLine; decide), fun z3 hz3 => ?_⟩
        have d6 := dG.new (o := .lst [.int 3, .int 5]) hz3
        refine ⟨p, z3, _, 3, 5, 24, 6, rfl, d6.s, by omega, upd_same, dG.ne hz3, by decide, by decide, by decide, by decide, by decide, by decide, by decide, fun v3 sy3 G3 D3 ok3 d7 => ?_⟩
        have d67 := d6.trans d7
        refine ⟨p, v3, _, 3, 5, 24, 6, sy3, rfl, d67.s, by omega, D3, ok3, by decide, by decide, by decide, fun v' sy' G4 D4 ok4 d8 => R _ _ ⟨v', sy', rfl, ok4.le (by decide) (by decide) (by decide) (Nat.le_refl _), D4, (d67.trans d8).up (by omega)⟩⟩
      · obtain ⟨dG, DG⟩ := W
        refine ⟨_, rfl, p, _, 2, rfl, dG.s, by omega, by decide, by decide, fun r3 o3 r30 r31 hp3 => ⟨rfl, _, rfl, ?_⟩⟩
        have d6 := dG.src hp3
        have D6 := (NL.of_dr ((Dr.start dG.s).src hp3) dG.s).f DG
        refine ite2 (fun _ => ?_) (fun _ => R _ _ ⟨v, sy, rfl, okS, D6, d6.up (by omega)⟩)
        refine ⟨_, rfl, _, rfl, p, v, _, 4, 6, 40, 40, sy, rfl, d6.s, by omega, D6, okS, by decide, by decide, fun v' sy' G4 D4 ok4 d8 => R _ _ ⟨v', sy', rfl, ok4.le (Nat.le_refl _) (Nat.le_refl _) (Nat.le_refl _) (by decide), D4, (d6.trans d8).up (by omega)⟩⟩
    · rintro σ H1 ⟨v1, v2, v3, v4, rfl, s1⟩
      exact q H1
end
end S4

set_option Elab.async false
set_option linter.all false
set_option maxRecDepth 100000
set_option maxHeartbeats 4000000
/-! all that the text has written -/
namespace S1
open PySem PySem.Spec PyProof.Rows L2
/-- a def of the text stands under its name at f -/
def HasE (K : PySem.W.Frag) (x : Str) (st : Stmt) (f : Addr) : Prop :=
  PySem.W.nsIn K mainGlobals x = some (some (.ref f)) ∧ (∃ (oc : Value) (od : Option Addr) (kV doc pm : Value) (an : Option Addr) (cdv ct : Value) (osl : Array (Option Value)), K.lookup f = some ⟨oc, od, .func (PySem.W.fnOf x x (defArgs st) (defBody st) (defScope st) .none kV doc pm an cdv ct), osl⟩ ∧ PySem.W.codeIn K cdv x = true) ∧ PySem.W.keepIn K (.ref f) = true
theorem has_of {K : PySem.W.Frag} {h : Heap} {mg : Str → Option Value} {x : Str} {st : Stmt} {f : Addr} {ps : List Str} (X : K.In h) (G : h.Ns mainGlobals mg) (e : HasE K x st f)
    (hb : ∀ (kV doc pm : Value) (an : Option Addr) (cdv ct : Value) (us : List Value), us.length = ps.length → bindArgs (PySem.W.fnOf x x (defArgs st) (defBody st) (defScope st) .none kV doc pm an cdv ct) ⟨us, []⟩ = pure (ps.zip us)) : ∃ fd, Has K mg x st ps f fd := by
  obtain ⟨e1, ⟨oc, od, kV, doc, pm, an, cdv, ct, osl, e2, e3⟩, e4⟩ := e
  have F := fun_mk (st := st) e2 e3 e4
  exact ⟨_, F, PySem.W.mg_of X G e1, F.binds hb⟩
theorem all_mk {l : PySem.W.OpenLaw} {w : World} {K : PySem.W.Frag} {h : Heap} {mg : Str → Option Value} {fa fL f_y_isTruth f_y_isTuple f_y_isPair f_y_isRising f_y_isName f_y_isLetter f_y_isAnyClause f_y_areNames f_y_isSight f_y_isOwn f_y_areOwns f_y_isClauseOver f_y_areClauses f_y_namesOf f_y_fitsSaying f_w_saying f_u_own f_u_pick f_o_Rn f_o_Vw f_o_Bs f_o_Ar f_o_Pa f_o_Hb f_o_Io f_o_Ai f_o_Ws f_o_Le f_o_Mo f_o_Wo f_o_Wi f_o_Th f_o_Wb f_o_Co f_o_Po f_o_Pk f_o_Nn f_o_Pt f_o_Ow f_o_Cl f_o_Sy f_o_Ch f_o_LV f_o_LR f_o_LI f_o_LG f_o_LS f_o_Ha f_o_Id f_o_Al f_o_Ic f_o_IH f_o_IP f_o_Gm f_o_Pn f_o_Sp f_o_Wt f_o_Cn f_o_Hs f_o_Ak f_o_Tk f_o_Gv f_o_Ri : Addr} {t0 t1 t2 t3 t4 t5 : Tok} {fI eC eS : Addr} (X : K.In h) (G : h.Ns mainGlobals mg) (hfa : mg "law" = some (.ref fa))
    (h_y_isTruth : HasE K "is_truth" sIsTruth f_y_isTruth)
    (h_y_isTuple : HasE K "is_tuple" sIsTuple f_y_isTuple)
    (h_y_isPair : HasE K "is_pair" sIsPair f_y_isPair)
    (h_y_isRising : HasE K "is_rising" sIsRising f_y_isRising)
    (h_y_isName : HasE K "is_name" sIsName f_y_isName)
    (h_y_isLetter : HasE K "is_letter" sIsLetter f_y_isLetter)
    (h_y_isAnyClause : HasE K "is_any_clause" sIsAnyClause f_y_isAnyClause)
    (h_y_areNames : HasE K "are_names" sAreNames f_y_areNames)
    (h_y_isSight : HasE K "is_sight" sIsSight f_y_isSight)
    (h_y_isOwn : HasE K "is_own" sIsOwn f_y_isOwn)
    (h_y_areOwns : HasE K "are_owns" sAreOwns f_y_areOwns)
    (h_y_isClauseOver : HasE K "is_clause_over" sIsClauseOver f_y_isClauseOver)
    (h_y_areClauses : HasE K "are_clauses" sAreClauses f_y_areClauses)
    (h_y_namesOf : HasE K "names_of" sNamesOf f_y_namesOf)
    (h_y_fitsSaying : HasE K "fits_saying" sFitsSaying f_y_fitsSaying)
    (h_w_saying : HasE K "want_saying" sWantSaying f_w_saying)
    (h_u_own : HasE K "want_own" sWantOwn f_u_own)
    (h_u_pick : HasE K "want_pick" sWantPick f_u_pick)
    (h_o_Rn : HasE K "renewed" sRenewed f_o_Rn)
    (h_o_Vw : HasE K "viewers_of" sViewersOf f_o_Vw)
    (h_o_Bs : HasE K "letters_beside" sBeside f_o_Bs)
    (h_o_Ar : HasE K "all_reached" sAllReached f_o_Ar)
    (h_o_Pa : HasE K "paper_of" sPaperOf f_o_Pa)
    (h_o_Hb : HasE K "hangs_by" sHangsBy f_o_Hb)
    (h_o_Io : HasE K "idle_owns" sIdleOwns f_o_Io)
    (h_o_Ai : HasE K "all_idle" sAllIdle f_o_Ai)
    (h_o_Ws : HasE K "with_sights" sWithSights f_o_Ws)
    (h_o_Le : HasE K "less_seen" sLess f_o_Le)
    (h_o_Mo : HasE K "more_seen" sMore f_o_Mo)
    (h_o_Wo : HasE K "without_sight" sWithout f_o_Wo)
    (h_o_Wi : HasE K "with_sight" sWith f_o_Wi)
    (h_o_Th : HasE K "thinned" sThinned f_o_Th)
    (h_o_Wb : HasE K "would_be_idle" sWouldBe f_o_Wb)
    (h_o_Co : HasE K "could_see" sCould f_o_Co)
    (h_o_Po : HasE K "_law_pot" sPot f_o_Po)
    (h_o_Pk : HasE K "_law_draw" sDraw f_o_Pk)
    (h_o_Nn : HasE K "_law_names" sLNames f_o_Nn)
    (h_o_Pt : HasE K "_law_part" sLPart f_o_Pt)
    (h_o_Ow : HasE K "_law_owns" sLOwns f_o_Ow)
    (h_o_Cl : HasE K "_law_clause" sLClause f_o_Cl)
    (h_o_Sy : HasE K "_law_saying" sLSaying f_o_Sy)
    (h_o_Ch : HasE K "_law_chained" sLChained f_o_Ch)
    (h_o_LV : HasE K "_law_viewers" sLViewers f_o_LV)
    (h_o_LR : HasE K "_law_reached" sLReached f_o_LR)
    (h_o_LI : HasE K "_law_idle" sLIdle f_o_LI)
    (h_o_LG : HasE K "_law_sighted" sLSighted f_o_LG)
    (h_o_LS : HasE K "_law_same" sLSame f_o_LS)
    (h_o_Ha : HasE K "hangs" sHangs f_o_Ha)
    (h_o_Id : HasE K "idle" sIdle f_o_Id)
    (h_o_Al : HasE K "are_letters_of" sAreLetters f_o_Al)
    (h_o_Ic : HasE K "is_closed" sIsClosed f_o_Ic)
    (h_o_IH : HasE K "idle_holds" sIdleHolds f_o_IH)
    (h_o_IP : HasE K "idle_paper" sIdlePaper f_o_IP)
    (h_o_Gm : HasE K "_law_plays" sLPlays f_o_Gm)
    (h_o_Pn : HasE K "_law_planted" sLPlanted f_o_Pn)
    (h_o_Sp : HasE K "_law_spelled" sLSpelled f_o_Sp)
    (h_o_Wt : HasE K "_law_with" sLWith f_o_Wt)
    (h_o_Cn : HasE K "_law_can" sLCan f_o_Cn)
    (h_o_Hs : HasE K "_law_has" sLHas f_o_Hs)
    (h_o_Ak : HasE K "_law_asked" sLAsked f_o_Ak)
    (h_o_Tk : HasE K "_law_taken_right" sLTaken f_o_Tk)
    (h_o_Gv : HasE K "_law_given_right" sLGivenR f_o_Gv)
    (h_o_Ri : HasE K "_law_right" sLRight f_o_Ri)
    (hL : HasE K "law" sLaw fL)
    (c0 : PySem.W.nsIn K mainGlobals "SMALL" = some (some (.str "abcdefghijklmnopqrstuvwxyz" t0)))
    (c1 : PySem.W.nsIn K mainGlobals "MOST_SIGNS" = some (some (.int 8 t1)))
    (c2 : PySem.W.nsIn K mainGlobals "MOST_PICKS" = some (some (.int 6 t2)))
    (c3 : PySem.W.nsIn K mainGlobals "MOST_OWNS" = some (some (.int 8 t3)))
    (c4 : PySem.W.nsIn K mainGlobals "MOST_CLAUSES" = some (some (.int 40 t4)))
    (c5 : PySem.W.nsIn K mainGlobals "MOST_COPIES" = some (some (.int 120 t5)))
    (zlen : PySem.W.nsIn K mainGlobals "len" = some none)
    (zsum : PySem.W.nsIn K mainGlobals "sum" = some none)
    (zint : PySem.W.nsIn K mainGlobals "int" = some none)
    (zmax : PySem.W.nsIn K mainGlobals "max" = some none)
    (zmin : PySem.W.nsIn K mainGlobals "min" = some none)
    (zabs : PySem.W.nsIn K mainGlobals "abs" = some none)
    (zstr : PySem.W.nsIn K mainGlobals "str" = some none)
    (zbool : PySem.W.nsIn K mainGlobals "bool" = some none)
    (zdict : PySem.W.nsIn K mainGlobals "dict" = some none)
    (zlist : PySem.W.nsIn K mainGlobals "list" = some none)
    (zset : PySem.W.nsIn K mainGlobals "set" = some none)
    (ztuple : PySem.W.nsIn K mainGlobals "tuple" = some none)
    (zsorted : PySem.W.nsIn K mainGlobals "sorted" = some none)
    (zzip : PySem.W.nsIn K mainGlobals "zip" = some none)
    (zall : PySem.W.nsIn K mainGlobals "all" = some none)
    (zrange : PySem.W.nsIn K mainGlobals "range" = some none)
    (zisinstance : PySem.W.nsIn K mainGlobals "isinstance" = some none)
    (zenumerate : PySem.W.nsIn K mainGlobals "enumerate" = some none)
    (zrepr : PySem.W.nsIn K mainGlobals "repr" = some none)
    (zany : PySem.W.nsIn K mainGlobals "any" = some none)
    (cC : PySem.W.nsIn K mainGlobals "InvalidSaying" = some (some (.ref eC)))
    (cS : PySem.W.nsIn K mainGlobals "SightError" = some (some (.ref eS)))
    (eI : ∃ (oc : Value) (od : Option Addr) (kV doc pm : Value) (an : Option Addr) (cdv ct : Value) (osl : Array (Option Value)), PySem.W.findIn K (.ref eS) "__init__" = some (some (.ref fI)) ∧ K.lookup fI = some ⟨oc, od, .func (PySem.W.fnOf "__init__" "SightError.__init__" (defArgs sInit) (defBody sInit) (defScope sInit) .none kV doc pm an cdv ct), osl⟩ ∧ PySem.W.codeIn K cdv "SightError.__init__" = true ∧ PySem.W.keepIn K (.ref fI) = true ∧ PySem.W.typeIn K (.ref fI) = some (.type "function"))
    (xC : ∃ nm q N bs bm sn sub ab col dd k0 k1 k2 k3 k5, K.lookup eC = some (excClassObj nm q eC N bs bm true sn sub ab col dd k0 k1 k2 k3 k5 "ValueError.__new__") ∧ PySem.HandSPX.refsVE bm = true)
    (eb : errB K fI eC = true)
    (iC : PySem.W.kitOne K (.ref eC) (.ref eC) = some true)
    (iS : PySem.W.exmOne K (.ref eC) (.ref eS) = some true)
    (hn : PySem.W.specialIn K (.builtin "object.__class__") "__get__" = some (some (.builtin "getset_descriptor.__get__")))
    (ht : PySem.W.takesIn K (.builtin "object.__class__") = some true)
    : ∃ fd : FuncData, (∀ (s : Shared) (u : Value), BindsTo s fd ⟨[u], []⟩ [("script", u)]) ∧ ∀ base : Heap, K.In base → base.Ns mainGlobals mg → FnOkG l.prog w K mg base 11 fa fd ["script"] (spLaw K) := by
  obtain ⟨e1, ⟨oc, od, kV, doc, pm, an, cdv, ct, osl, e2, e3⟩, e4⟩ := hL
  have e := hfa.symm.trans (PySem.W.mg_of X G e1)
  cases e
  have FL := fun_mk (st := sLaw) e2 e3 e4
  obtain ⟨fd_y_isTruth, y_isTruth⟩ := has_of (ps := ["value"]) X G h_y_isTruth fun _ _ _ _ _ _ us hl => match us, hl with | [_], _ => rfl
  obtain ⟨fd_y_isTuple, y_isTuple⟩ := has_of (ps := ["value", "most"]) X G h_y_isTuple fun _ _ _ _ _ _ us hl => match us, hl with | [_, _], _ => rfl
  obtain ⟨fd_y_isPair, y_isPair⟩ := has_of (ps := ["value"]) X G h_y_isPair fun _ _ _ _ _ _ us hl => match us, hl with | [_], _ => rfl
  obtain ⟨fd_y_isRising, y_isRising⟩ := has_of (ps := ["parts"]) X G h_y_isRising fun _ _ _ _ _ _ us hl => match us, hl with | [_], _ => rfl
  obtain ⟨fd_y_isName, y_isName⟩ := has_of (ps := ["value"]) X G h_y_isName fun _ _ _ _ _ _ us hl => match us, hl with | [_], _ => rfl
  obtain ⟨fd_y_isLetter, y_isLetter⟩ := has_of (ps := ["value"]) X G h_y_isLetter fun _ _ _ _ _ _ us hl => match us, hl with | [_], _ => rfl
  obtain ⟨fd_y_isAnyClause, y_isAnyClause⟩ := has_of (ps := ["value"]) X G h_y_isAnyClause fun _ _ _ _ _ _ us hl => match us, hl with | [_], _ => rfl
  obtain ⟨fd_y_areNames, y_areNames⟩ := has_of (ps := ["value", "most"]) X G h_y_areNames fun _ _ _ _ _ _ us hl => match us, hl with | [_, _], _ => rfl
  obtain ⟨fd_y_isSight, y_isSight⟩ := has_of (ps := ["value", "picks"]) X G h_y_isSight fun _ _ _ _ _ _ us hl => match us, hl with | [_, _], _ => rfl
  obtain ⟨fd_y_isOwn, y_isOwn⟩ := has_of (ps := ["value", "picks"]) X G h_y_isOwn fun _ _ _ _ _ _ us hl => match us, hl with | [_, _], _ => rfl
  obtain ⟨fd_y_areOwns, y_areOwns⟩ := has_of (ps := ["value", "picks"]) X G h_y_areOwns fun _ _ _ _ _ _ us hl => match us, hl with | [_, _], _ => rfl
  obtain ⟨fd_y_isClauseOver, y_isClauseOver⟩ := has_of (ps := ["value", "names"]) X G h_y_isClauseOver fun _ _ _ _ _ _ us hl => match us, hl with | [_, _], _ => rfl
  obtain ⟨fd_y_areClauses, y_areClauses⟩ := has_of (ps := ["value", "names"]) X G h_y_areClauses fun _ _ _ _ _ _ us hl => match us, hl with | [_, _], _ => rfl
  obtain ⟨fd_y_namesOf, y_namesOf⟩ := has_of (ps := ["picks", "owns"]) X G h_y_namesOf fun _ _ _ _ _ _ us hl => match us, hl with | [_, _], _ => rfl
  obtain ⟨fd_y_fitsSaying, y_fitsSaying⟩ := has_of (ps := ["value"]) X G h_y_fitsSaying fun _ _ _ _ _ _ us hl => match us, hl with | [_], _ => rfl
  obtain ⟨fd_w_saying, w_saying⟩ := has_of (ps := ["saying"]) X G h_w_saying fun _ _ _ _ _ _ us hl => match us, hl with | [_], _ => rfl
  obtain ⟨fd_u_own, u_own⟩ := has_of (ps := ["saying", "name"]) X G h_u_own fun _ _ _ _ _ _ us hl => match us, hl with | [_, _], _ => rfl
  obtain ⟨fd_u_pick, u_pick⟩ := has_of (ps := ["saying", "pick"]) X G h_u_pick fun _ _ _ _ _ _ us hl => match us, hl with | [_, _], _ => rfl
  obtain ⟨fd_o_Rn, o_Rn⟩ := has_of (ps := ["value"]) X G h_o_Rn fun _ _ _ _ _ _ us hl => match us, hl with | [_], _ => rfl
  obtain ⟨fd_o_Vw, o_Vw⟩ := has_of (ps := ["saying", "pick"]) X G h_o_Vw fun _ _ _ _ _ _ us hl => match us, hl with | [_, _], _ => rfl
  obtain ⟨fd_o_Bs, o_Bs⟩ := has_of (ps := ["saying", "viewers", "letter"]) X G h_o_Bs fun _ _ _ _ _ _ us hl => match us, hl with | [_, _, _], _ => rfl
  obtain ⟨fd_o_Ar, o_Ar⟩ := has_of (ps := ["saying", "pick", "truth"]) X G h_o_Ar fun _ _ _ _ _ _ us hl => match us, hl with | [_, _, _], _ => rfl
  obtain ⟨fd_o_Pa, o_Pa⟩ := has_of (ps := ["saying", "pick"]) X G h_o_Pa fun _ _ _ _ _ _ us hl => match us, hl with | [_, _], _ => rfl
  obtain ⟨fd_o_Hb, o_Hb⟩ := has_of (ps := ["paper", "name"]) X G h_o_Hb fun _ _ _ _ _ _ us hl => match us, hl with | [_, _], _ => rfl
  obtain ⟨fd_o_Io, o_Io⟩ := has_of (ps := ["saying", "pick"]) X G h_o_Io fun _ _ _ _ _ _ us hl => match us, hl with | [_, _], _ => rfl
  obtain ⟨fd_o_Ai, o_Ai⟩ := has_of (ps := ["saying"]) X G h_o_Ai fun _ _ _ _ _ _ us hl => match us, hl with | [_], _ => rfl
  obtain ⟨fd_o_Ws, o_Ws⟩ := has_of (ps := ["saying", "sights"]) X G h_o_Ws fun _ _ _ _ _ _ us hl => match us, hl with | [_, _], _ => rfl
  obtain ⟨fd_o_Le, o_Le⟩ := has_of (ps := ["saying", "name", "pick"]) X G h_o_Le fun _ _ _ _ _ _ us hl => match us, hl with | [_, _, _], _ => rfl
  obtain ⟨fd_o_Mo, o_Mo⟩ := has_of (ps := ["saying", "name", "pick"]) X G h_o_Mo fun _ _ _ _ _ _ us hl => match us, hl with | [_, _, _], _ => rfl
  obtain ⟨fd_o_Wo, o_Wo⟩ := has_of (ps := ["saying", "name", "pick"]) X G h_o_Wo fun _ _ _ _ _ _ us hl => match us, hl with | [_, _, _], _ => rfl
  obtain ⟨fd_o_Wi, o_Wi⟩ := has_of (ps := ["saying", "name", "pick"]) X G h_o_Wi fun _ _ _ _ _ _ us hl => match us, hl with | [_, _, _], _ => rfl
  obtain ⟨fd_o_Th, o_Th⟩ := has_of (ps := ["saying"]) X G h_o_Th fun _ _ _ _ _ _ us hl => match us, hl with | [_], _ => rfl
  obtain ⟨fd_o_Wb, o_Wb⟩ := has_of (ps := ["saying", "name", "pick"]) X G h_o_Wb fun _ _ _ _ _ _ us hl => match us, hl with | [_, _, _], _ => rfl
  obtain ⟨fd_o_Co, o_Co⟩ := has_of (ps := ["saying"]) X G h_o_Co fun _ _ _ _ _ _ us hl => match us, hl with | [_], _ => rfl
  obtain ⟨fd_o_Po, o_Po⟩ := has_of (ps := ["script", "k"]) X G h_o_Po fun _ _ _ _ _ _ us hl => match us, hl with | [_, _], _ => rfl
  obtain ⟨fd_o_Pk, o_Pk⟩ := has_of (ps := ["pot", "top"]) X G h_o_Pk fun _ _ _ _ _ _ us hl => match us, hl with | [_, _], _ => rfl
  obtain ⟨fd_o_Nn, o_Nn⟩ := has_of (ps := ["pot", "size"]) X G h_o_Nn fun _ _ _ _ _ _ us hl => match us, hl with | [_, _], _ => rfl
  obtain ⟨fd_o_Pt, o_Pt⟩ := has_of (ps := ["pot", "items", "shares"]) X G h_o_Pt fun _ _ _ _ _ _ us hl => match us, hl with | [_, _, _], _ => rfl
  obtain ⟨fd_o_Ow, o_Ow⟩ := has_of (ps := ["pot", "picks", "names", "space"]) X G h_o_Ow fun _ _ _ _ _ _ us hl => match us, hl with | [_, _, _, _], _ => rfl
  obtain ⟨fd_o_Cl, o_Cl⟩ := has_of (ps := ["pot", "picks", "owns", "most"]) X G h_o_Cl fun _ _ _ _ _ _ us hl => match us, hl with | [_, _, _, _], _ => rfl
  obtain ⟨fd_o_Sy, o_Sy⟩ := has_of (ps := ["pot", "sizes", "clauses", "space"]) X G h_o_Sy fun _ _ _ _ _ _ us hl => match us, hl with | [_, _, _, _], _ => rfl
  obtain ⟨fd_o_Ch, o_Ch⟩ := has_of (ps := ["pot", "saying"]) X G h_o_Ch fun _ _ _ _ _ _ us hl => match us, hl with | [_, _], _ => rfl
  obtain ⟨fd_o_LV, o_LV⟩ := has_of (ps := ["saying", "pick"]) X G h_o_LV fun _ _ _ _ _ _ us hl => match us, hl with | [_, _], _ => rfl
  obtain ⟨fd_o_LR, o_LR⟩ := has_of (ps := ["saying", "pick", "truth"]) X G h_o_LR fun _ _ _ _ _ _ us hl => match us, hl with | [_, _, _], _ => rfl
  obtain ⟨fd_o_LI, o_LI⟩ := has_of (ps := ["saying"]) X G h_o_LI fun _ _ _ _ _ _ us hl => match us, hl with | [_], _ => rfl
  obtain ⟨fd_o_LG, o_LG⟩ := has_of (ps := ["saying", "name", "pick", "truth"]) X G h_o_LG fun _ _ _ _ _ _ us hl => match us, hl with | [_, _, _, _], _ => rfl
  obtain ⟨fd_o_LS, o_LS⟩ := has_of (ps := ["told", "due"]) X G h_o_LS fun _ _ _ _ _ _ us hl => match us, hl with | [_, _], _ => rfl
  obtain ⟨fd_o_Ha, o_Ha⟩ := has_of (ps := ["saying", "name", "pick"]) X G h_o_Ha fun _ _ _ _ _ _ us hl => match us, hl with | [_, _, _], _ => rfl
  obtain ⟨fd_o_Id, o_Id⟩ := has_of (ps := ["saying"]) X G h_o_Id fun _ _ _ _ _ _ us hl => match us, hl with | [_], _ => rfl
  obtain ⟨fd_o_Al, o_Al⟩ := has_of (ps := ["value", "viewers"]) X G h_o_Al fun _ _ _ _ _ _ us hl => match us, hl with | [_, _], _ => rfl
  obtain ⟨fd_o_Ic, o_Ic⟩ := has_of (ps := ["saying", "viewers", "pick_letter", "letters"]) X G h_o_Ic fun _ _ _ _ _ _ us hl => match us, hl with | [_, _, _, _], _ => rfl
  obtain ⟨fd_o_IH, o_IH⟩ := has_of (ps := ["saying", "name", "pick", "value"]) X G h_o_IH fun _ _ _ _ _ _ us hl => match us, hl with | [_, _, _, _], _ => rfl
  obtain ⟨fd_o_IP, o_IP⟩ := has_of (ps := ["saying", "name", "pick"]) X G h_o_IP fun _ _ _ _ _ _ us hl => match us, hl with | [_, _, _], _ => rfl
  obtain ⟨fd_o_Gm, o_Gm⟩ := has_of (ps := ["picks"]) X G h_o_Gm fun _ _ _ _ _ _ us hl => match us, hl with | [_], _ => rfl
  obtain ⟨fd_o_Pn, o_Pn⟩ := has_of (ps := ["pot", "saying", "clauses"]) X G h_o_Pn fun _ _ _ _ _ _ us hl => match us, hl with | [_, _, _], _ => rfl
  obtain ⟨fd_o_Sp, o_Sp⟩ := has_of (ps := ["saying"]) X G h_o_Sp fun _ _ _ _ _ _ us hl => match us, hl with | [_], _ => rfl
  obtain ⟨fd_o_Wt, o_Wt⟩ := has_of (ps := ["rows", "copy", "truth"]) X G h_o_Wt fun _ _ _ _ _ _ us hl => match us, hl with | [_, _, _], _ => rfl
  obtain ⟨fd_o_Cn, o_Cn⟩ := has_of (ps := ["rows", "room"]) X G h_o_Cn fun _ _ _ _ _ _ us hl => match us, hl with | [_, _], _ => rfl
  obtain ⟨fd_o_Hs, o_Hs⟩ := has_of (ps := ["spelled", "lot", "room"]) X G h_o_Hs fun _ _ _ _ _ _ us hl => match us, hl with | [_, _, _], _ => rfl
  obtain ⟨fd_o_Ak, o_Ak⟩ := has_of (ps := ["saying", "room"]) X G h_o_Ak fun _ _ _ _ _ _ us hl => match us, hl with | [_, _], _ => rfl
  obtain ⟨fd_o_Tk, o_Tk⟩ := has_of (ps := ["saying", "name", "pick", "has", "room"]) X G h_o_Tk fun _ _ _ _ _ _ us hl => match us, hl with | [_, _, _, _, _], _ => rfl
  obtain ⟨fd_o_Gv, o_Gv⟩ := has_of (ps := ["saying", "name", "pick", "has", "room"]) X G h_o_Gv fun _ _ _ _ _ _ us hl => match us, hl with | [_, _, _, _, _], _ => rfl
  obtain ⟨fd_o_Ri, o_Ri⟩ := has_of (ps := ["pot", "saying", "room"]) X G h_o_Ri fun _ _ _ _ _ _ us hl => match us, hl with | [_, _, _], _ => rfl
  have B : Blt mg := {len := PySem.W.mg_none_of X G zlen, sum := PySem.W.mg_none_of X G zsum, int := PySem.W.mg_none_of X G zint, max := PySem.W.mg_none_of X G zmax, min := PySem.W.mg_none_of X G zmin, abs := PySem.W.mg_none_of X G zabs, str := PySem.W.mg_none_of X G zstr, bool := PySem.W.mg_none_of X G zbool, dict := PySem.W.mg_none_of X G zdict, list := PySem.W.mg_none_of X G zlist, set := PySem.W.mg_none_of X G zset, tuple := PySem.W.mg_none_of X G ztuple, sorted := PySem.W.mg_none_of X G zsorted, zip := PySem.W.mg_none_of X G zzip, all := PySem.W.mg_none_of X G zall, range := PySem.W.mg_none_of X G zrange, isi := PySem.W.mg_none_of X G zisinstance}
  have nenumerate := PySem.W.mg_none_of X G zenumerate
  have nrepr := PySem.W.mg_none_of X G zrepr
  have nany := PySem.W.mg_none_of X G zany
  have C : Cst mg := {small := ⟨_, PySem.W.mg_of X G c0⟩, signs := ⟨_, PySem.W.mg_of X G c1⟩, picks := ⟨_, PySem.W.mg_of X G c2⟩, owns := ⟨_, PySem.W.mg_of X G c3⟩, clauses := ⟨_, PySem.W.mg_of X G c4⟩, copies := ⟨_, PySem.W.mg_of X G c5⟩}
  have Y : Shp K mg := {isTruth := ⟨_, _, y_isTruth⟩, isTuple := ⟨_, _, y_isTuple⟩, isPair := ⟨_, _, y_isPair⟩, isRising := ⟨_, _, y_isRising⟩, isName := ⟨_, _, y_isName⟩, isLetter := ⟨_, _, y_isLetter⟩, isAnyClause := ⟨_, _, y_isAnyClause⟩, areNames := ⟨_, _, y_areNames⟩, isSight := ⟨_, _, y_isSight⟩, isOwn := ⟨_, _, y_isOwn⟩, areOwns := ⟨_, _, y_areOwns⟩, isClauseOver := ⟨_, _, y_isClauseOver⟩, areClauses := ⟨_, _, y_areClauses⟩, namesOf := ⟨_, _, y_namesOf⟩, fitsSaying := ⟨_, _, y_fitsSaying⟩}
  have Wn : Wnt K mg := {saying := ⟨_, _, w_saying⟩}
  have W2 : Wnt2 K mg := {own := ⟨_, _, u_own⟩, pick := ⟨_, _, u_pick⟩}
  have ev : Env1 K mg := ⟨B, C, Y⟩
  refine ⟨PySem.W.fnOf "law" "law" (defArgs sLaw) (defBody sLaw) (defScope sLaw) .none kV doc pm an cdv ct, fun s v => .of_eq rfl, fun base _ _ => ?_⟩
  obtain ⟨_, _, _, _, _, _, _, _, _, i1, i2, i3, i4, i5⟩ := eI
  have FI := fun_mk (st := sInit) i2 i3 i4
  have Er : ErrS K mg fI _ eC eS := {c := errB_ok eb xC, gC := PySem.W.mg_of X G cC, gS := PySem.W.mg_of X G cS, F := FI, t := i5, hn := hn, ht := ht, iC := iC, iS := iS}
  have GNn : FnOk l.prog w K mg base CX0 2 _ _ ["pot", "size"] spNames := ok_names o_Nn.F o_Pk B
  have GOw : FnOk l.prog w K mg base CX0 3 _ _ ["pot", "picks", "names", "space"] spOwns := ok_owns o_Ow.F o_Pk o_Pt B nenumerate
  have GCl : FnOk l.prog w K mg base CX0 2 _ _ ["pot", "picks", "owns", "most"] spDrCl := ok_drCl o_Cl.F o_Pk B
  have GSy : FnOk l.prog w K mg base CX0 4 _ _ ["pot", "sizes", "clauses", "space"] spDrSay := ok_drSay o_Sy.F o_Pk o_Nn o_Ow o_Cl GNn GOw GCl B
  have GCh : FnOk l.prog w K mg base CX0 2 _ _ ["pot", "saying"] spChained := ok_chained o_Ch.F o_Pk B
  have GAr : FnOk l.prog w K mg base CX0 2 _ _ ["saying", "pick", "truth"] spAllReached := ok_allReached o_Ar.F B o_Vw o_Bs
  have GPa : FnOk l.prog w K mg base CX0 3 _ _ ["saying", "pick"] spPaper := ok_paperOf o_Pa.F o_Ar GAr
  have GIo : FnOk l.prog w K mg base CX0 4 _ _ ["saying", "pick"] spIdleOwns := ok_idleOwns o_Io.F o_Pa o_Vw o_Hb GPa nany
  have GAi : FnOk l.prog w K mg base CX0 5 _ _ ["saying"] spAllIdle := ok_allIdle o_Ai.F B o_Io GIo
  have GLe : FnOk l.prog w K mg base CX0 2 _ _ ["saying", "name", "pick"] spLess := ok_less o_Le.F B o_Ws
  have GMo : FnOk l.prog w K mg base CX0 2 _ _ ["saying", "name", "pick"] spMore := ok_more o_Mo.F B o_Ws
  have GHa : FnOk l.prog w K mg base CX0 8 _ _ ["saying", "name", "pick"] spHangs := ok_hangs o_Ha.F ev Wn W2 o_Pa o_Hb GPa nany
  have GId : FnOk l.prog w K mg base CX0 8 _ _ ["saying"] spAllIdle := ok_idle o_Id.F ev Wn o_Ai GAi
  have HLt : FnOk l.prog w K mg base CX0 2 _ _ ["value"] (S2.spJ S2.isLt) := S2.ok_isLetter y_isLetter.F y_isPair y_isName y_isTruth B ⟨C.small, C.signs, C.picks, C.owns, C.clauses, C.copies⟩
  have GAl : FnOk l.prog w K mg base CX0 3 _ _ ["value", "viewers"] S2.spAL := S2.ok_areLetters o_Al.F y_isLetter HLt y_isRising B
  have GIc : FnOk l.prog w K mg base CX0 2 _ _ ["saying", "viewers", "pick_letter", "letters"] S2.spClosed := S2.ok_isClosed o_Ic.F o_Bs B
  have GIH : FnOk l.prog w K mg base CX0 8 _ _ ["saying", "name", "pick", "value"] S2.spHolds := S2.ok_idleHolds o_IH.F ev Wn W2 o_Vw y_isPair o_Al GAl o_Hb o_Ic GIc nany
  have GIP : FnOk l.prog w K mg base CX0 8 _ _ ["saying", "name", "pick"] S2.spPaperOf := S2.ok_idlePaper o_IP.F ev Wn W2 o_Pa GPa o_Vw o_Hb nany
  have GWo : FnOk l.prog w K mg base CX0 8 _ _ ["saying", "name", "pick"] spWithout := ok_without o_Wo.F ev Wn W2 o_Le GLe
  have GWi0 : FnOk l.prog w K mg base (L2.CX l.prog w) 8 _ _ ["saying", "name", "pick"] spMore1 := ok_with o_Wi.F ev Wn W2 Er o_Mo GMo o_Rn
  have GWi : FnOk l.prog w K mg base CX0 8 _ _ ["saying", "name", "pick"] spMore1 := fn_with GWi0
  have GTh : FnOk l.prog w K mg base CX0 8 _ _ ["saying"] spThinned := ok_thinned o_Th.F ev Wn o_Ai GAi o_Le GLe
  have GWb : FnOk l.prog w K mg base CX0 7 _ _ ["saying", "name", "pick"] spWbi := ok_wouldBe o_Wb.F ev o_Mo GMo o_Pa GPa o_Hb nany
  have GCo : FnOk l.prog w K mg base CX0 8 _ _ ["saying"] spCould := ok_could o_Co.F ev Wn o_Wb GWb
  have GLR : FnOk l.prog w K mg base CX0 2 _ _ ["saying", "pick", "truth"] spLReached := ok_lReached o_LR.F B o_LV
  have GLI : FnOk l.prog w K mg base CX0 3 _ _ ["saying"] spAllIdle := ok_lIdle o_LI.F B o_LV o_LR GLR
  have GLG : FnOk l.prog w K mg base CX0 1 _ _ ["saying", "name", "pick", "truth"] spSighted := ok_lSighted o_LG.F B
  have GLS : FnOkG l.prog w K mg base 1 _ _ ["told", "due"] spLSame := ok_lSame o_LS.F nrepr
  have GAk : FnOk l.prog w K mg base CX0 4 _ _ ["saying", "room"] S4.spAsked := S4.ok_lAsked o_Ak.F B nany o_Sp o_Gm o_Hs o_Cn o_Wt
  have GPn : FnOk l.prog w K mg base CX0 3 _ _ ["pot", "saying", "clauses"] S4.spPlanted := S4.ok_lPlanted o_Pn.F o_Pk o_Cl o_Gm B nany
  have GTk : FnOkG l.prog w K mg base 9 _ _ ["saying", "name", "pick", "has", "room"] S4.spTaken := S4.ok_lTaken o_Tk.F o_Wo GWo o_LS GLS o_LG GLG o_Ak GAk o_Ha GHa o_IH GIH o_IP GIP
  have GGv : FnOkG l.prog w K mg base 9 _ _ ["saying", "name", "pick", "has", "room"] S4.spGiven := S4.ok_lGiven o_Gv.F o_Wi GWi o_LS GLS o_LG GLG o_Ak GAk o_Id GId
  have GRi : FnOkG l.prog w K mg base 10 _ _ ["pot", "saying", "room"] S4.spRight := S4.ok_lRight o_Ri.F B o_Pk o_Ak GAk o_Id GId o_Co GCo o_LS GLS o_LI GLI o_Tk GTk o_Gv GGv o_Th GTh
  exact S4.ok_law FL B nenumerate o_Po o_Pk o_Sy o_Ch o_Ri o_Pn GSy GCh GRi GPn
theorem walk {l : PySem.W.OpenLaw} {q : Program} {loose : List Str} {XP : (Str → Option Value) → Heap → Prop} {YP : World → Heap → Prop} {d : DefRec} {K : Params → PySem.W.Frag} (hn : l.most = some 63) (hdf : d.params.defaults = []) (hY : ∀ (w : World) (h : Heap), YP w h → (K w.params).In h)
    (F : ∀ (w : World) (mg : Str → Option Value) (fa : Addr) (h : Heap), (K w.params).In h → h.Ns mainGlobals mg → mg d.name = some (.ref fa) →
      ∃ fd : FuncData, (∀ (s : Shared) (u : Value), BindsTo s fd ⟨[u], []⟩ [("script", u)]) ∧ ∀ base : Heap, (K w.params).In base → base.Ns mainGlobals mg → FnOkG l.prog w (K w.params) mg base 11 fa fd ["script"] (spLaw (K w.params))) :
    PySem.W.WalkO q loose XP YP l.row.toRowW d [] (fun f vs => PySem.call f vs) :=
  walk_ofG (n := 63) (k := 11) (sp := spLaw) hn (by decide) hdf ⟨rfl, by decide, by decide⟩ hY F fun _ _ a ns hl _ hS => ⟨a, ns, rfl, hS, hl, fun _ => rfl⟩
end S1

open PySem PySem.W PyProof.Rows
set_option maxRecDepth 100000 in
set_option maxHeartbeats 0 in
theorem PySem.Challenge.cw_onlyseen_k47_whole_idle_sights_taken_holds : PySem.Challenge.rw_onlyseen_k47_whole_idle_sights_taken.Holds := by
  w_on; o_law; k_head; (case hw => w_witness2)
  k_fill
  refine S1.walk (l := PySem.Challenge.rw_onlyseen_k47_whole_idle_sights_taken) rfl rfl (fun w h Y => PySem.W.kIn_of Y) ?F
  case F =>
    intro w mg fa h KX G hmg
    refine' S1.all_mk KX G hmg ?h_y_isTruth ?h_y_isTuple ?h_y_isPair ?h_y_isRising ?h_y_isName ?h_y_isLetter ?h_y_isAnyClause ?h_y_areNames ?h_y_isSight ?h_y_isOwn ?h_y_areOwns ?h_y_isClauseOver ?h_y_areClauses ?h_y_namesOf ?h_y_fitsSaying ?h_w_saying ?h_u_own ?h_u_pick ?h_o_Rn ?h_o_Vw ?h_o_Bs ?h_o_Ar ?h_o_Pa ?h_o_Hb ?h_o_Io ?h_o_Ai ?h_o_Ws ?h_o_Le ?h_o_Mo ?h_o_Wo ?h_o_Wi ?h_o_Th ?h_o_Wb ?h_o_Co ?h_o_Po ?h_o_Pk ?h_o_Nn ?h_o_Pt ?h_o_Ow ?h_o_Cl ?h_o_Sy ?h_o_Ch ?h_o_LV ?h_o_LR ?h_o_LI ?h_o_LG ?h_o_LS ?h_o_Ha ?h_o_Id ?h_o_Al ?h_o_Ic ?h_o_IH ?h_o_IP ?h_o_Gm ?h_o_Pn ?h_o_Sp ?h_o_Wt ?h_o_Cn ?h_o_Hs ?h_o_Ak ?h_o_Tk ?h_o_Gv ?h_o_Ri ?hL ?c0 ?c1 ?c2 ?c3 ?c4 ?c5 ?zlen ?zsum ?zint ?zmax ?zmin ?zabs ?zstr ?zbool ?zdict ?zlist ?zset ?ztuple ?zsorted ?zzip ?zall ?zrange ?zisinstance ?zenumerate ?zrepr ?zany ?cC ?cS ?eI ?xC ?eb ?iC ?iS ?hn ?ht
    (case h_y_isTruth => exact ⟨by k_is, ⟨_, _, _, _, _, _, _, _, _, by k_is, by k_is⟩, by k_is⟩)
    (case h_y_isTuple => exact ⟨by k_is, ⟨_, _, _, _, _, _, _, _, _, by k_is, by k_is⟩, by k_is⟩)
    (case h_y_isPair => exact ⟨by k_is, ⟨_, _, _, _, _, _, _, _, _, by k_is, by k_is⟩, by k_is⟩)
    (case h_y_isRising => exact ⟨by k_is, ⟨_, _, _, _, _, _, _, _, _, by k_is, by k_is⟩, by k_is⟩)
    (case h_y_isName => exact ⟨by k_is, ⟨_, _, _, _, _, _, _, _, _, by k_is, by k_is⟩, by k_is⟩)
    (case h_y_isLetter => exact ⟨by k_is, ⟨_, _, _, _, _, _, _, _, _, by k_is, by k_is⟩, by k_is⟩)
    (case h_y_isAnyClause => exact ⟨by k_is, ⟨_, _, _, _, _, _, _, _, _, by k_is, by k_is⟩, by k_is⟩)
    (case h_y_areNames => exact ⟨by k_is, ⟨_, _, _, _, _, _, _, _, _, by k_is, by k_is⟩, by k_is⟩)
    (case h_y_isSight => exact ⟨by k_is, ⟨_, _, _, _, _, _, _, _, _, by k_is, by k_is⟩, by k_is⟩)
    (case h_y_isOwn => exact ⟨by k_is, ⟨_, _, _, _, _, _, _, _, _, by k_is, by k_is⟩, by k_is⟩)
    (case h_y_areOwns => exact ⟨by k_is, ⟨_, _, _, _, _, _, _, _, _, by k_is, by k_is⟩, by k_is⟩)
    (case h_y_isClauseOver => exact ⟨by k_is, ⟨_, _, _, _, _, _, _, _, _, by k_is, by k_is⟩, by k_is⟩)
    (case h_y_areClauses => exact ⟨by k_is, ⟨_, _, _, _, _, _, _, _, _, by k_is, by k_is⟩, by k_is⟩)
    (case h_y_namesOf => exact ⟨by k_is, ⟨_, _, _, _, _, _, _, _, _, by k_is, by k_is⟩, by k_is⟩)
    (case h_y_fitsSaying => exact ⟨by k_is, ⟨_, _, _, _, _, _, _, _, _, by k_is, by k_is⟩, by k_is⟩)
    (case h_w_saying => exact ⟨by k_is, ⟨_, _, _, _, _, _, _, _, _, by k_is, by k_is⟩, by k_is⟩)
    (case h_u_own => exact ⟨by k_is, ⟨_, _, _, _, _, _, _, _, _, by k_is, by k_is⟩, by k_is⟩)
    (case h_u_pick => exact ⟨by k_is, ⟨_, _, _, _, _, _, _, _, _, by k_is, by k_is⟩, by k_is⟩)
    (case h_o_Rn => exact ⟨by k_is, ⟨_, _, _, _, _, _, _, _, _, by k_is, by k_is⟩, by k_is⟩)
    (case h_o_Vw => exact ⟨by k_is, ⟨_, _, _, _, _, _, _, _, _, by k_is, by k_is⟩, by k_is⟩)
    (case h_o_Bs => exact ⟨by k_is, ⟨_, _, _, _, _, _, _, _, _, by k_is, by k_is⟩, by k_is⟩)
    (case h_o_Ar => exact ⟨by k_is, ⟨_, _, _, _, _, _, _, _, _, by k_is, by k_is⟩, by k_is⟩)
    (case h_o_Pa => exact ⟨by k_is, ⟨_, _, _, _, _, _, _, _, _, by k_is, by k_is⟩, by k_is⟩)
    (case h_o_Hb => exact ⟨by k_is, ⟨_, _, _, _, _, _, _, _, _, by k_is, by k_is⟩, by k_is⟩)
    (case h_o_Io => exact ⟨by k_is, ⟨_, _, _, _, _, _, _, _, _, by k_is, by k_is⟩, by k_is⟩)
    (case h_o_Ai => exact ⟨by k_is, ⟨_, _, _, _, _, _, _, _, _, by k_is, by k_is⟩, by k_is⟩)
    (case h_o_Ws => exact ⟨by k_is, ⟨_, _, _, _, _, _, _, _, _, by k_is, by k_is⟩, by k_is⟩)
    (case h_o_Le => exact ⟨by k_is, ⟨_, _, _, _, _, _, _, _, _, by k_is, by k_is⟩, by k_is⟩)
    (case h_o_Mo => exact ⟨by k_is, ⟨_, _, _, _, _, _, _, _, _, by k_is, by k_is⟩, by k_is⟩)
    (case h_o_Wo => exact ⟨by k_is, ⟨_, _, _, _, _, _, _, _, _, by k_is, by k_is⟩, by k_is⟩)
    (case h_o_Wi => exact ⟨by k_is, ⟨_, _, _, _, _, _, _, _, _, by k_is, by k_is⟩, by k_is⟩)
    (case h_o_Th => exact ⟨by k_is, ⟨_, _, _, _, _, _, _, _, _, by k_is, by k_is⟩, by k_is⟩)
    (case h_o_Wb => exact ⟨by k_is, ⟨_, _, _, _, _, _, _, _, _, by k_is, by k_is⟩, by k_is⟩)
    (case h_o_Co => exact ⟨by k_is, ⟨_, _, _, _, _, _, _, _, _, by k_is, by k_is⟩, by k_is⟩)
    (case h_o_Po => exact ⟨by k_is, ⟨_, _, _, _, _, _, _, _, _, by k_is, by k_is⟩, by k_is⟩)
    (case h_o_Pk => exact ⟨by k_is, ⟨_, _, _, _, _, _, _, _, _, by k_is, by k_is⟩, by k_is⟩)
    (case h_o_Nn => exact ⟨by k_is, ⟨_, _, _, _, _, _, _, _, _, by k_is, by k_is⟩, by k_is⟩)
    (case h_o_Pt => exact ⟨by k_is, ⟨_, _, _, _, _, _, _, _, _, by k_is, by k_is⟩, by k_is⟩)
    (case h_o_Ow => exact ⟨by k_is, ⟨_, _, _, _, _, _, _, _, _, by k_is, by k_is⟩, by k_is⟩)
    (case h_o_Cl => exact ⟨by k_is, ⟨_, _, _, _, _, _, _, _, _, by k_is, by k_is⟩, by k_is⟩)
    (case h_o_Sy => exact ⟨by k_is, ⟨_, _, _, _, _, _, _, _, _, by k_is, by k_is⟩, by k_is⟩)
    (case h_o_Ch => exact ⟨by k_is, ⟨_, _, _, _, _, _, _, _, _, by k_is, by k_is⟩, by k_is⟩)
    (case h_o_LV => exact ⟨by k_is, ⟨_, _, _, _, _, _, _, _, _, by k_is, by k_is⟩, by k_is⟩)
    (case h_o_LR => exact ⟨by k_is, ⟨_, _, _, _, _, _, _, _, _, by k_is, by k_is⟩, by k_is⟩)
    (case h_o_LI => exact ⟨by k_is, ⟨_, _, _, _, _, _, _, _, _, by k_is, by k_is⟩, by k_is⟩)
    (case h_o_LG => exact ⟨by k_is, ⟨_, _, _, _, _, _, _, _, _, by k_is, by k_is⟩, by k_is⟩)
    (case h_o_LS => exact ⟨by k_is, ⟨_, _, _, _, _, _, _, _, _, by k_is, by k_is⟩, by k_is⟩)
    (case h_o_Ha => exact ⟨by k_is, ⟨_, _, _, _, _, _, _, _, _, by k_is, by k_is⟩, by k_is⟩)
    (case h_o_Id => exact ⟨by k_is, ⟨_, _, _, _, _, _, _, _, _, by k_is, by k_is⟩, by k_is⟩)
    (case h_o_Al => exact ⟨by k_is, ⟨_, _, _, _, _, _, _, _, _, by k_is, by k_is⟩, by k_is⟩)
    (case h_o_Ic => exact ⟨by k_is, ⟨_, _, _, _, _, _, _, _, _, by k_is, by k_is⟩, by k_is⟩)
    (case h_o_IH => exact ⟨by k_is, ⟨_, _, _, _, _, _, _, _, _, by k_is, by k_is⟩, by k_is⟩)
    (case h_o_IP => exact ⟨by k_is, ⟨_, _, _, _, _, _, _, _, _, by k_is, by k_is⟩, by k_is⟩)
    (case h_o_Gm => exact ⟨by k_is, ⟨_, _, _, _, _, _, _, _, _, by k_is, by k_is⟩, by k_is⟩)
    (case h_o_Pn => exact ⟨by k_is, ⟨_, _, _, _, _, _, _, _, _, by k_is, by k_is⟩, by k_is⟩)
    (case h_o_Sp => exact ⟨by k_is, ⟨_, _, _, _, _, _, _, _, _, by k_is, by k_is⟩, by k_is⟩)
    (case h_o_Wt => exact ⟨by k_is, ⟨_, _, _, _, _, _, _, _, _, by k_is, by k_is⟩, by k_is⟩)
    (case h_o_Cn => exact ⟨by k_is, ⟨_, _, _, _, _, _, _, _, _, by k_is, by k_is⟩, by k_is⟩)
    (case h_o_Hs => exact ⟨by k_is, ⟨_, _, _, _, _, _, _, _, _, by k_is, by k_is⟩, by k_is⟩)
    (case h_o_Ak => exact ⟨by k_is, ⟨_, _, _, _, _, _, _, _, _, by k_is, by k_is⟩, by k_is⟩)
    (case h_o_Tk => exact ⟨by k_is, ⟨_, _, _, _, _, _, _, _, _, by k_is, by k_is⟩, by k_is⟩)
    (case h_o_Gv => exact ⟨by k_is, ⟨_, _, _, _, _, _, _, _, _, by k_is, by k_is⟩, by k_is⟩)
    (case h_o_Ri => exact ⟨by k_is, ⟨_, _, _, _, _, _, _, _, _, by k_is, by k_is⟩, by k_is⟩)
    (case hL => exact ⟨by k_is, ⟨_, _, _, _, _, _, _, _, _, by k_is, by k_is⟩, by k_is⟩)
    (case c0 => k_is)
    (case c1 => k_is)
    (case c2 => k_is)
    (case c3 => k_is)
    (case c4 => k_is)
    (case c5 => k_is)
    (case zlen => k_is)
    (case zsum => k_is)
    (case zint => k_is)
    (case zmax => k_is)
    (case zmin => k_is)
    (case zabs => k_is)
    (case zstr => k_is)
    (case zbool => k_is)
    (case zdict => k_is)
    (case zlist => k_is)
    (case zset => k_is)
    (case ztuple => k_is)
    (case zsorted => k_is)
    (case zzip => k_is)
    (case zall => k_is)
    (case zrange => k_is)
    (case zisinstance => k_is)
    (case zenumerate => k_is)
    (case zrepr => k_is)
    (case zany => k_is)
    (case cC => k_is)
    (case cS => k_is)
    (case eI => exact ⟨_, _, _, _, _, _, _, _, _, by k_is, by k_is, by k_is, by k_is, by k_is⟩)
    (case xC => exact ⟨_, _, _, _, _, _, _, _, _, _, _, _, _, _, _, by k_is, by rfl⟩)
    (case hn => k_is)
    (case ht => k_is)
    (case eb => kernel_rfl)
    (case iC => kernel_rfl)
    (case iS => kernel_rfl)
