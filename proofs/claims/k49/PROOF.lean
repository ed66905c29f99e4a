import PyProof.Rows.All
import Wide.All
import OpenK.AllK
import Wide.FinOn
import HandS.ForMost
import HandS.ExcInit
import PyProof.ReprReads
import PyProof.ReprRoads
import HandS.Conv
import KE.KExcIs
import HandS.Defaults
import HandS.Wide
import KE.SortData
import KE.KeyNested
import HandS.TupSets
import HandS.Words
import KE.IntBitsLaws
import HandS.Iter
import HandS.Style
import PyProof.ListStr
import PyProof.Rows.CountFlat
import HandS.IsInst
import HandS.TupLe
import HandS.Dict
import HandS.TupLen
import PyProof.Rows.TupTab
import KE.DataEq
import HandS.Walk
import KE.KDictSum
import KE.KDictCopyH
import KE.KDictKeyed
import HandS.Zip
import KE.GoesZip
import KE.GoesMore
import HandS.TupAny
import HandS.ExcValue
import HandS.ExcField
import HandS.ExcOwn
import HandS.CallSlots
import HandS.WordsExc
import PySem.Challenge.RW_onlyseen_k49_whole_chains_of_letters
set_option Elab.async false
set_option linter.all false
set_option maxRecDepth 100000
set_option maxHeartbeats 4000000
namespace PySem
namespace KwX
open Builtin Builtin.ObjectAttr PySem.HandSPX
section
variable {M : Model} {A : Around} {E : Value → Shared → Prop} {h : Heap} {g : Array GenState} {d : Drawn} {t : Nat} {os : OsState}
variable {nm q : Str} {C N : Addr} {bs bm bmB : List Value} {hdct : Bool} {sn : List Str} {sub : List Value} {ab : Bool} {col : Option Bool} {dd : Option Addr} {k0 k1 k2 k3 k5 : Option Value} {B newId initId : String}
theorem check_new_kw (F : ExcBaseFacts B newId initId bmB) (hT : ∀ X : String, bm.contains (.type X) = bmB.contains (.type X)) {kx : Str} {kv : Value} {Q : Unit → Shared → Prop}
    (hC : h.get? C = some (excClassObj nm q C N bs bm hdct sn sub ab col dd k0 k1 k2 k3 k5 newId)) (hq : Q () ⟨h, g, d, t, os⟩) : wpAny M A (checkBuiltinCall newId ⟨[.ref C], [(kx, kv)]⟩) Q E ⟨h, g, d, t, os⟩ := by
  have hcont : (Value.ref C :: bm).contains (.type B) = true := by rw [List.contains_cons, hT, F.hasB, Bool.or_true]
  have hstar := F.noStar
  simp only [checkBuiltinCall, F.newKind, F.newSplit, F.newRow]
  repeat (first | refine wpAny_loadPart_at hC ?_ | (refine wpAny_isSubtype_exc hC ?_; rw [hcont]) | refine wpAny_staticBase_exc hC ?_ | refine wpAny_madeBy_exc hC ?_ | simp only [bne_self_eq_false, Bool.false_eq_true, if_false] | wp_step)
  exact hq
end
section
variable {prog : Program} {w : World} {A : Around} {E : Value → Shared → Prop} {R : Result → Shared → Prop} {h : Heap} {g : Array GenState} {d : Drawn} {t : Nat} {os : OsState}
variable {nm q : Str} {C N : Addr} {bs bm bmB : List Value} {hdct : Bool} {sn : List Str} {sub : List Value} {ab : Bool} {col : Option Bool} {dd : Option Addr} {k0 k1 k2 k3 k5 : Option Value} {B newId initId : String}
theorem new_kw (F : ExcBaseFacts B newId initId bmB) (hT : ∀ X : String, bm.contains (.type X) = bmB.contains (.type X)) {kx : Str} {kv : Value}
    (hC : h.get? C = some (excClassObj nm q C N bs bm hdct sn sub ab col dd k0 k1 k2 k3 k5 newId))
    (hq : R (.ok (.ret (.ref (h.objs.size + 1)))) ⟨(h.push { cls := .type "tuple", data := .seq #[] }).push
      { cls := .ref C, data := .fields #[.ref h.objs.size, .none, .none, .none, .bool false, .none] }, g, d, t, os⟩) :
    codeAny (model prog w) A (.builtin newId ⟨[.ref C], [(kx, kv)]⟩) R ⟨h, g, d, t, os⟩ := by
  have hends := F.ends
  have hrest : ([] : List Value).length ≤ sizeLine := Nat.zero_le _
  have hcB : (Value.ref C :: bm).contains (.type B) = true := by rw [List.contains_cons, hT, F.hasB, Bool.or_true]
  have hcA : (Value.ref C :: bm).contains (.type "AttributeError") = false := by rw [List.contains_cons, hT, F.noAttr]; rfl
  have hcN : (Value.ref C :: bm).contains (.type "NameError") = false := by rw [List.contains_cons, hT, F.noName]; rfl
  refine codeAny_builtinAt F.entry ?_
  unfold Builtin.«BaseException.__new__»
  refine wpAt_bind ?_
  show wpAt _ _ _ (stack >>= _) _ _ _
  refine wpAt_bind (wpAt_stack fun p below => wpAt_of_wpAny ?_)
  wp_walk
  refine wpAt_of_wpAny ?_
  rw [F.owner]
  repeat (first | with_reducible refine wpAny_madeHere_exc F.canon hC ?_ | with_reducible refine wpAny_loadPart_at hC ?_ | (with_reducible refine wpAny_isSubtype_exc hC ?_; first | rw [hcB] | rw [hcA] | rw [hcN]) | wp_step)
  show R _ _
  rw [Heap.size_push]
  exact hq
theorem type_call_kw (F : ExcBaseFacts B newId initId bmB) (hT : ∀ X : String, bm.contains (.type X) = bmB.contains (.type X)) {kx : Str} {kv : Value} {fI : Addr} {Q : Fin → Shared → Prop}
    (hC : h.get? C = some (excClassObj nm q C N bs bm hdct sn sub ab col dd k0 k1 k2 k3 k5 newId))
    (hi : W.Looks (model prog w) h (typeLookup (.ref C) "__init__") (some (.ref fI))) (hb : ∀ self, W.Looks (model prog w) h (bindSpecial (.ref fI) self) (.ref fI, [self]))
    (hq : codeAny (model prog w) A (.call (.ref fI) ⟨[.ref (h.objs.size + 1)], [(kx, kv)]⟩)
      (fun r s' => match r with | .ok (.ret v) => v = .none ∧ Q (.done (.ret (.ref (h.objs.size + 1)))) s' | .ok _ => False | .error e => E e s')
      ⟨(h.push (W.kdv_tup [])).push (excO C h.objs.size), g, d, t, os⟩) :
    wpAny (model prog w) A (Builtin.«type.__call__» ⟨[.ref C], [(kx, kv)]⟩) Q E ⟨h, g, d, t, os⟩ := by
  repeat (first | with_reducible refine wpAny_loadPart_at hC ?_ | with_reducible refine wpAny_madeBy_exc hC ?_ | wp_step)
  refine codeAny_call_builtin_code (Code.quiet_builtin _ F.quiet) (check_new_kw F hT hC ?_)
  refine new_kw F hT hC ?_
  show wpAny _ _ _ _ _ _
  have k : ∀ b o, h.get? b = some o → ((h.push (W.kdv_tup [])).push (excO C h.objs.size)).get? b = some o := fun b o e => Heap.get?_push_of_some _ (Heap.get?_push_of_some _ e)
  have hC₁ := k _ _ hC
  have hget : ((h.push (W.kdv_tup [])).push (excO C h.objs.size)).get? (h.objs.size + 1) = some (excO C h.objs.size) := by heap_get
  have hcC : (Value.ref C :: bm).contains (.ref C) = true := by simp
  have i1 := hi.keeps k
  have b1 := (hb (.ref (h.objs.size + 1))).keeps k
  unfold isInstance
  repeat (first | with_reducible refine wpAny_loadPart_at hget ?_ | (with_reducible refine wpAny_isSubtype_exc hC₁ ?_; rw [hcC]) | wp_step)
  show wpAny _ _ (typeLookup (.ref C) _) _ _ _
  refine i1.at ?_
  refine wpAny_holding (wpAny_bind (b1.at ?_))
  refine wpAny_bind (wpAny_call (codeAny_mono hq fun r s' z => ?_))
  rcases r with e | (v | _ | _ | _) <;> first | exact z | exact z.elim | skip
  obtain ⟨rfl, z⟩ := z
  first
    | exact wpAny_pure (wpAny_pure z)
    | (wp_walk; exact z)
theorem call_kw (F : ExcBaseFacts B newId initId bmB) (hT : ∀ X : String, bm.contains (.type X) = bmB.contains (.type X)) {kx : Str} {kv : Value} {fI : Addr}
    (hC : h.get? C = some (excClassObj nm q C N bs bm hdct sn sub ab col dd k0 k1 k2 k3 k5 newId))
    (hi : W.Looks (model prog w) h (typeLookup (.ref C) "__init__") (some (.ref fI))) (hb : ∀ self, W.Looks (model prog w) h (bindSpecial (.ref fI) self) (.ref fI, [self]))
    (hq : codeAny (model prog w) (A.under (.builtin "type.__call__" ⟨[.ref C], [(kx, kv)]⟩)) (.call (.ref fI) ⟨[.ref (h.objs.size + 1)], [(kx, kv)]⟩) (W.InitBack (h.objs.size + 1) R)
      ⟨(h.push (W.kdv_tup [])).push (excO C h.objs.size), g, d, t, os⟩) :
    codeAny (model prog w) A (.call (.ref C) ⟨[], [(kx, kv)]⟩) R ⟨h, g, d, t, os⟩ := by
  have f1 := tc_lookup
  have f2 := tc_bind (.ref C)
  have hTy : (⟨h, g, d, t, os⟩ : Shared).TypeIs (.ref C) "type" := ⟨_, hC, rfl⟩
  refine codeAny_of_tree ?_
  show wpAny _ _ (callAny (.ref C) _) _ _ _
  repeat (any_goals (first | assumption | with_reducible refine wpAny_loadPart_at hC ?_ | wp_step))
  refine ⟨rfl, ?_⟩
  refine codeAny_call_builtin_at (Code.quiet_builtin _ (by decide +kernel)) entry_typeCall (wpAny_check_type_call_sub hC (type_call_kw F hT hC hi hb ?_))
  refine codeAny_mono hq fun r s' z => ?_
  rcases r with e | (v | _ | _ | _) <;> exact z
end
end KwX
end PySem

set_option Elab.async false
set_option linter.all false
set_option maxRecDepth 100000
set_option maxHeartbeats 4000000
namespace L2
open PySem PySem.Spec PyProof.Rows
def keyD : Key → PyData
  | .inl i => .int i
  | .inr x => .str x
mutual
inductive Dat (H : Hp) : V → PyData → Prop
  | non : Dat H .non .none
  | bl (b : Bool) : Dat H (.bl b) (.bool b)
  | int (i : Int) : Dat H (.int i) (.int i)
  | str (x : Str) : Dat H (.str x) (.str x)
  | lst {a : Addr} {xs : List V} {ds : List PyData} : H a = some (.lst xs) → DatAll H xs ds → Dat H (.ref a) (.list ds)
  | tup {a : Addr} {xs : List V} {ds : List PyData} : H a = some (.tup xs) → DatAll H xs ds → Dat H (.ref a) (.tuple ds)
  | dct {a : Addr} {kvs : List (Key × V)} {ds : List (PyData × PyData)} : H a = some (.dK kvs) → DatKv H kvs ds → Dat H (.ref a) (.dict ds)
inductive DatAll (H : Hp) : List V → List PyData → Prop
  | nil : DatAll H [] []
  | cons {v : V} {d : PyData} {vs : List V} {ds : List PyData} : Dat H v d → DatAll H vs ds → DatAll H (v :: vs) (d :: ds)
inductive DatKv (H : Hp) : List (Key × V) → List (PyData × PyData) → Prop
  | nil : DatKv H [] []
  | cons {k : Key} {v : V} {d : PyData} {kvs : List (Key × V)} {ds : List (PyData × PyData)} : Dat H v d → DatKv H kvs ds → DatKv H ((k, v) :: kvs) ((keyD k, d) :: ds)
end
mutual
theorem Dat.same {H H' : Hp} (S : Same H H') : ∀ {v : V} {d : PyData}, Dat H v d → Dat H' v d
  | _, _, .non => .non
  | _, _, .bl b => .bl b
  | _, _, .int i => .int i
  | _, _, .str x => .str x
  | _, _, .lst e h => .lst (S _ _ e) (DatAll.same S h)
  | _, _, .tup e h => .tup (S _ _ e) (DatAll.same S h)
  | _, _, .dct e h => .dct (S _ _ e) (DatKv.same S h)
theorem DatAll.same {H H' : Hp} (S : Same H H') : ∀ {vs : List V} {ds : List PyData}, DatAll H vs ds → DatAll H' vs ds
  | _, _, .nil => .nil
  | _, _, .cons h t => .cons (Dat.same S h) (DatAll.same S t)
theorem DatKv.same {H H' : Hp} (S : Same H H') : ∀ {kvs : List (Key × V)} {ds : List (PyData × PyData)}, DatKv H kvs ds → DatKv H' kvs ds
  | _, _, .nil => .nil
  | _, _, .cons h t => .cons (Dat.same S h) (DatKv.same S t)
end
theorem DatAll.snoc {H : Hp} : ∀ {vs : List V} {ds : List PyData} {v : V} {d : PyData}, DatAll H vs ds → Dat H v d → DatAll H (vs ++ [v]) (ds ++ [d])
  | _, _, _, _, .nil, h => .cons h .nil
  | _, _, _, _, .cons a t, h => .cons a (DatAll.snoc t h)
theorem DatAll.len {H : Hp} : ∀ {vs : List V} {ds : List PyData}, DatAll H vs ds → vs.length = ds.length
  | _, _, .nil => rfl
  | _, _, .cons _ t => by rw [List.length_cons, List.length_cons, DatAll.len t]
section
variable {P : Program} {w : World} {H : Hp} {h : Heap}
mutual
theorem reads_of_dat (ok : HOk P w H h) : ∀ {v : V} {d : PyData} {u : Value}, Dat H v d → RelV v u → ∃ as, Reads h u d as
  | _, _, _, .non, r => by cases (show _ = Value.none from r); exact ⟨_, .none⟩
  | _, _, _, .bl b, r => by cases (show _ = Value.bool b from r); exact ⟨_, .bool b⟩
  | _, _, _, .int i, r => by obtain ⟨t, rfl⟩ := r; exact ⟨_, .int i t⟩
  | _, _, _, .str x, r => by obtain ⟨t, rfl⟩ := r; exact ⟨_, .str x t⟩
  | _, _, _, .lst (a := a) e hh, r => by
    cases (show _ = Value.ref a from r)
    obtain ⟨_, its, n, rv, e1⟩ := (show ObjOk P w H h a (.lst _) from ok a _ e)
    obtain ⟨as, R⟩ := readsAll_of_dat ok hh rv
    exact ⟨_, .list e1 rfl rfl R⟩
  | _, _, _, .tup (a := a) e hh, r => by
    cases (show _ = Value.ref a from r)
    obtain ⟨_, its, rv, o, e1, e2, n, e3⟩ := (show ObjOk P w H h a (.tup _) from ok a _ e)
    obtain ⟨as, R⟩ := readsAll_of_dat ok hh rv
    exact ⟨_, .tuple e1 e2 e3 R⟩
  | _, _, _, .dct (a := a) e hh, r => by
    cases (show _ = Value.ref a from r)
    obtain ⟨_, _, vs, rv, o, es, ep, e1, e2, e3, e4, e5, e6⟩ := (show ObjOk P w H h a (.dK _) from ok a _ e)
    obtain ⟨⟨as, A⟩, ⟨bs, B⟩⟩ := readsKv_of_dat ok hh rv e5
    exact ⟨_, .dict e1 e2.1 e3 A B⟩
theorem readsAll_of_dat (ok : HOk P w H h) : ∀ {vs : List V} {ds : List PyData} {us : List Value}, DatAll H vs ds → Vals vs us → ∃ as, ReadsAll h us ds as
  | _, _, _, .nil, .nil => ⟨_, .nil⟩
  | _, _, _, .cons a t, .cons r q => by
    obtain ⟨as, A⟩ := reads_of_dat ok a r
    obtain ⟨bs, B⟩ := readsAll_of_dat ok t q
    exact ⟨_, .cons A B⟩
theorem readsKv_of_dat (ok : HOk P w H h) : ∀ {kvs : List (Key × V)} {ds : List (PyData × PyData)} {vs : List (Key × Value)} {es : List DictEntry}, DatKv H kvs ds → KV kvs vs → Pairs (mixKind P w) es vs →
    (∃ as, ReadsAll h (es.map (·.key)) (ds.map (·.1)) as) ∧ ∃ bs, ReadsAll h (es.map (·.val)) (ds.map (·.2)) bs
  | _, _, _, _, .nil, .nil, .nil => ⟨⟨_, .nil⟩, ⟨_, .nil⟩⟩
  | _, _, _, _, .cons (k := k) hd hq, .cons r q, .cons k1 e1 p => by
    obtain ⟨rk, rv⟩ := r
    obtain ⟨⟨as, A⟩, ⟨bs, B⟩⟩ := readsKv_of_dat ok hq q p
    obtain ⟨cs, C⟩ := reads_of_dat ok hd rv
    refine ⟨?_, ⟨_, .cons (by show Reads h (DictEntry.val _) _ _; rw [e1]; exact C) B⟩⟩
    dsimp only at rk
    subst rk
    rcases keyIs_shape k1 with ⟨i, t, ek, e⟩ | ⟨x, t, ek, e⟩
    · rw [ek]; exact ⟨_, .cons (by show Reads h (DictEntry.key _) (PyData.int i) _; rw [e]; exact .int i t) A⟩
    · rw [ek]; exact ⟨_, .cons (by show Reads h (DictEntry.key _) (PyData.str x) _; rw [e]; exact .str x t) A⟩
end
theorem reprKeys_of {as : List Addr} {d : Nat} : ∀ {kvs : List (Key × V)} {ds : List (PyData × PyData)} {vs : List (Key × Value)} {es : List DictEntry}, DatKv H kvs ds → KV kvs vs → Pairs (mixKind P w) es vs → PyData.showableAll (ds.map (·.1)) = true →
    (∀ t ∈ PyData.shownAll (ds.map (·.1)), t.length ≤ sizeLine) → ReprAllK P w as h d (es.map (·.key)) (PyData.shownAll (ds.map (·.1)))
  | _, _, _, _, .nil, .nil, .nil, _, _ => by simp only [List.map_nil, PyData.shownAll]; exact .nil
  | _, _, _, _, .cons (k := k) hd hq, .cons r q, .cons k1 e1 p, hs, hz => by
    obtain ⟨rk, rv⟩ := r
    dsimp only at rk
    subst rk
    simp only [List.map_cons, PyData.showableAll, Bool.and_eq_true] at hs
    simp only [List.map_cons, PyData.shownAll] at hz ⊢
    refine .cons ?_ (reprKeys_of hq q p hs.2 fun t ht => hz t (List.mem_cons_of_mem _ ht))
    rcases keyIs_shape k1 with ⟨i, t, ek, e⟩ | ⟨x, t, ek, e⟩
    · rw [ek] at hs ⊢
      rw [e]
      simp only [keyD, PyData.shown]
      exact .of_is (ReprIs.int t (by simpa [keyD, PyData.showable] using hs.1)) _ _ _
    · rw [ek] at hz ⊢
      rw [e]
      simp only [keyD, PyData.shown]
      exact .of_is (ReprIs.str x t (by have := hz _ (List.mem_cons_self ..); simpa only [keyD, PyData.shown] using this)) _ _ _
mutual
theorem reprK_of_dat (ok : HOk P w H h) : ∀ {v : V} {d : PyData} {u : Value}, Dat H v d → RelV v u → d.showable = true → d.shown.length ≤ sizeLine → ∃ bs, ReadAtMost h d.depth bs ∧ ReprK P w bs h d.depth u d.shown
  | _, _, _, .non, r, _, _ => by cases (show _ = Value.none from r); exact ⟨[], (fun _ h => nomatch h), by simp only [PyData.shown]; exact .of_is ReprIs.none _ _ _⟩
  | _, _, _, .bl b, r, _, _ => by cases (show _ = Value.bool b from r); exact ⟨[], (fun _ h => nomatch h), by simp only [PyData.shown]; exact .of_is (ReprIs.bool b) _ _ _⟩
  | _, _, _, .int i, r, hs, _ => by obtain ⟨t, rfl⟩ := r; exact ⟨[], (fun _ h => nomatch h), by simp only [PyData.shown]; exact .of_is (ReprIs.int t (by simpa [PyData.showable] using hs)) _ _ _⟩
  | _, _, _, .str x, r, _, hz => by obtain ⟨t, rfl⟩ := r; exact ⟨[], (fun _ h => nomatch h), by simp only [PyData.shown]; exact .of_is (ReprIs.str x t (by simpa only [PyData.shown] using hz)) _ _ _⟩
  | _, _, _, .lst (a := a) (xs := xs) (ds := ds) e hh, r, hs, hz => by
    obtain ⟨as, R0⟩ := reads_of_dat ok (Dat.lst e hh) r
    cases (show _ = Value.ref a from r)
    obtain ⟨_, its, n, rv, e1⟩ := (show ObjOk P w H h a (.lst _) from ok a _ e)
    have hz' : (listText (PyData.shownAll ds)).length ≤ sizeLine := by simpa only [PyData.shown] using hz
    obtain ⟨bs, hb, hk⟩ := reprAllK_of_dat ok hh rv (by simpa [PyData.showable] using hs) (fun t ht => Nat.le_trans (listText_mem_le ht) hz')
    have hna : a ∉ bs := not_mem_of_deeper R0 (by simp only [PyData.depth]; omega) hb
    refine ⟨a :: bs, ReadAtMost.cons R0 (by simp only [PyData.depth]; omega) hb, ?_⟩
    simp only [PyData.depth, PyData.shown]
    cases its with
    | nil =>
      cases rv
      cases hh
      simp only [PyData.shownAll, listText_nil]
      exact ReprK.listEmpty e1 rfl rfl
    | cons x l => exact ReprK.list e1 rfl rfl hna (by simpa using hk.length_eq) (fun i y e => hk.item i y (by simpa using e))
  | _, _, _, .tup (a := a) (xs := xs) (ds := ds) e hh, r, hs, hz => by
    obtain ⟨as, R0⟩ := reads_of_dat ok (Dat.tup e hh) r
    cases (show _ = Value.ref a from r)
    obtain ⟨_, its, rv, o, e1, e2, n, e3⟩ := (show ObjOk P w H h a (.tup _) from ok a _ e)
    have hz' : (tupleText (PyData.shownAll ds)).length ≤ sizeLine := by simpa only [PyData.shown] using hz
    obtain ⟨bs, hb, hk⟩ := reprAllK_of_dat ok hh rv (by simpa [PyData.showable] using hs) (fun t ht => Nat.le_trans (tupleText_mem_le ht) hz')
    have hna : a ∉ bs := not_mem_of_deeper R0 (by simp only [PyData.depth]; omega) hb
    refine ⟨a :: bs, ReadAtMost.cons R0 (by simp only [PyData.depth]; omega) hb, ?_⟩
    simp only [PyData.depth, PyData.shown]
    exact ReprK.tuple e1 e2 e3 hna (by simpa using hk)
  | _, _, _, .dct (a := a) (kvs := kvs) (ds := ds) e hh, r, hs, hz => by
    obtain ⟨as, R0⟩ := reads_of_dat ok (Dat.dct e hh) r
    cases (show _ = Value.ref a from r)
    obtain ⟨_, hsys, vs, rv, o, es, ep, e1, e2, e3, e4, e5, e6⟩ := (show ObjOk P w H h a (.dK _) from ok a _ e)
    have hz' : (dictText (PyData.shownKv ds)).length ≤ sizeLine := by simpa only [PyData.shown] using hz
    obtain ⟨hs1, hs2⟩ := PyData.showableKv_split ds (by simpa [PyData.showable] using hs)
    have k1 : ReprAllK P w [] h (PyData.depthKv ds) (es.toList.map (·.key)) (PyData.shownAll (ds.map (·.1))) := reprKeys_of hh rv e5 hs1 (fun t ht => let ⟨p, hp, hl⟩ := PyData.shownKv_key_le ds t ht; Nat.le_trans hl (Nat.le_trans (dictText_mem_le hp) hz'))
    obtain ⟨b2, hb2, k2⟩ := reprVals_of_dat ok hh rv e5 hs2 (fun t ht => let ⟨p, hp, hl⟩ := PyData.shownKv_val_le ds t ht; Nat.le_trans hl (Nat.le_trans (dictText_mem_le hp) hz'))
    have hb : ReadAtMost h (PyData.depthKv ds) b2 := hb2.mono (PyData.depthAll_vals_le ds)
    have hna : a ∉ b2 := not_mem_of_deeper R0 (by simp only [PyData.depth]; omega) hb
    refine ⟨a :: b2, ReadAtMost.cons R0 (by simp only [PyData.depth]; omega) hb, ?_⟩
    simp only [PyData.depth, PyData.shown, PyData.shownKv_eq]
    exact ReprK.dict e1 e2.1 e3 hsys hna (ReprEntriesK.of_two es.toList _ _
      (k1.more_le (fun b hb => absurd hb (by simp)) (Nat.le_refl _)) (k2.more_le (fun b hb => hb) (PyData.depthAll_vals_le ds)))
theorem reprAllK_of_dat (ok : HOk P w H h) : ∀ {vs : List V} {ds : List PyData} {us : List Value}, DatAll H vs ds → Vals vs us → PyData.showableAll ds = true → (∀ t ∈ PyData.shownAll ds, t.length ≤ sizeLine) →
    ∃ bs, ReadAtMost h (PyData.depthAll ds) bs ∧ ReprAllK P w bs h (PyData.depthAll ds) us (PyData.shownAll ds)
  | _, _, _, .nil, .nil, _, _ => ⟨[], (fun _ h => nomatch h), by simp only [PyData.shownAll]; exact .nil⟩
  | _, _, _, .cons (d := d) (ds := ds) a t, .cons r q, hs, hz => by
    have hs' : d.showable = true ∧ PyData.showableAll ds = true := by simpa [PyData.showableAll] using hs
    obtain ⟨b1, hb1, k1⟩ := reprK_of_dat ok a r hs'.1 (hz _ (by simp only [PyData.shownAll]; exact List.mem_cons_self ..))
    obtain ⟨b2, hb2, k2⟩ := reprAllK_of_dat ok t q hs'.2 (fun t ht => hz t (by simp only [PyData.shownAll]; exact List.mem_cons_of_mem _ ht))
    refine ⟨b1 ++ b2, ?_, ?_⟩
    · simp only [PyData.depthAll]
      exact (hb1.mono (Nat.le_max_left _ _)).append (hb2.mono (Nat.le_max_right _ _))
    · simp only [PyData.depthAll, PyData.shownAll]
      exact .cons ((k1.more fun b hb => List.mem_append_left _ hb).level_le (Nat.le_max_left _ _)) (k2.more_le (fun b hb => List.mem_append_right _ hb) (Nat.le_max_right _ _))
theorem reprVals_of_dat (ok : HOk P w H h) : ∀ {kvs : List (Key × V)} {ds : List (PyData × PyData)} {vs : List (Key × Value)} {es : List DictEntry}, DatKv H kvs ds → KV kvs vs → Pairs (mixKind P w) es vs → PyData.showableAll (ds.map (·.2)) = true → (∀ t ∈ PyData.shownAll (ds.map (·.2)), t.length ≤ sizeLine) →
    ∃ bs, ReadAtMost h (PyData.depthAll (ds.map (·.2))) bs ∧ ReprAllK P w bs h (PyData.depthAll (ds.map (·.2))) (es.map (·.val)) (PyData.shownAll (ds.map (·.2)))
  | _, _, _, _, .nil, .nil, .nil, _, _ => ⟨[], (fun _ h => nomatch h), by simp only [List.map_nil, PyData.shownAll]; exact .nil⟩
  | _, _, _, _, .cons (d := d) (ds := ds) a t, .cons r q, .cons k1 e1 p, hs, hz => by
    obtain ⟨rk, rv⟩ := r
    have hs' : d.showable = true ∧ PyData.showableAll (ds.map (·.2)) = true := by simpa [PyData.showableAll] using hs
    obtain ⟨b1, hb1, k1⟩ := reprK_of_dat ok a rv hs'.1 (hz _ (by simp only [List.map_cons, PyData.shownAll]; exact List.mem_cons_self ..))
    obtain ⟨b2, hb2, k2⟩ := reprVals_of_dat ok t q p hs'.2 (fun t ht => hz t (by simp only [List.map_cons, PyData.shownAll]; exact List.mem_cons_of_mem _ ht))
    refine ⟨b1 ++ b2, ?_, ?_⟩
    · simp only [List.map_cons, PyData.depthAll]
      exact (hb1.mono (Nat.le_max_left _ _)).append (hb2.mono (Nat.le_max_right _ _))
    · simp only [List.map_cons, PyData.depthAll, PyData.shownAll]
      rw [e1]
      exact .cons ((k1.more fun b hb => List.mem_append_left _ hb).level_le (Nat.le_max_left _ _)) (k2.more_le (fun b hb => List.mem_append_right _ hb) (Nat.le_max_right _ _))
end
end
section
variable {X : Cx}
def rRepr : List V → Hp → VK → Prop := fun xs H Q => ∃ v d, xs = [v] ∧ Dat H v d ∧ d.showable = true ∧ d.depth ≤ 50 ∧ d.shown.length ≤ sizeLine ∧ Q (.str d.shown) H
theorem call_reprD (hg : X.A.guards = some []) (hu : X.A.units + 64 < cLine) : CallR X (.builtin "repr") rRepr := by
  intro pins s σ H xs us Q I r h
  obtain ⟨v, d, rfl, D, hs, hd, hz, q⟩ := h
  obtain ⟨u, rfl, ru⟩ := vals1 r
  have fin : ∀ (h' : Heap) (tk tk' : Tok), (∀ b o, s.heap.get? b = some o → h'.get? b = some o) → EP X pins σ Q (.str d.shown tk') { s with heap := h', toks := tk } := fun h' tk tk' k => ⟨.str d.shown, H, I.kept (t' := tk) k, ⟨_, rfl⟩, q⟩
  have nl : ∀ {b : Addr}, Clear ([] : List Code) b := fun {b} => Clear.nil b
  cases D with
  | non =>
    cases (show _ = Value.none from ru)
    simp only [PyData.shown] at fin
    exact PySem.P.repr_of_none (fin s.heap _ _ fun _ _ e => e)
  | bl b =>
    cases (show _ = Value.bool b from ru)
    simp only [PyData.shown] at fin
    exact PySem.P.repr_of_bool (fin s.heap _ _ fun _ _ e => e)
  | int i =>
    obtain ⟨t, rfl⟩ := ru
    simp only [PyData.shown] at fin
    exact PySem.P.repr_of_int (by simpa [PyData.showable] using hs) (fin s.heap _ _ fun _ _ e => e)
  | str x =>
    obtain ⟨t, rfl⟩ := ru
    simp only [PyData.shown] at fin
    exact PySem.P.repr_of_str (fin s.heap _ _ fun _ _ e => e) (by simpa only [PyData.shown] using hz)
  | @lst a xs ds e hh =>
    obtain ⟨as, R0⟩ := reads_of_dat I.hok (Dat.lst e hh) ru
    cases (show _ = Value.ref a from ru)
    obtain ⟨_, its, n, rv, e1⟩ := (show ObjOk X.prog X.w H s.heap a (.lst _) from I.hok a _ e)
    have hz' : (listText (PyData.shownAll ds)).length ≤ sizeLine := by simpa only [PyData.shown] using hz
    obtain ⟨bs, hb, hk⟩ := reprAllK_of_dat I.hok hh rv (by simpa [PyData.showable] using hs) (fun t ht => Nat.le_trans (listText_mem_le ht) hz')
    have hna : a ∉ bs := not_mem_of_deeper R0 (by simp only [PyData.depth]; omega) hb
    simp only [PyData.shown] at fin
    simp only [PyData.depth] at hd
    refine call_repr_slot (by omega) ⟨_, e1, rfl⟩ F.slot_list_repr.toG ?_
    cases its with
    | nil =>
      cases rv
      cases hh
      simp only [PyData.shownAll, listText_nil] at fin
      exact call_list_repr_empty ⟨_, e1, rfl⟩ e1 rfl ⟨_, _, rfl, fin s.heap _ _ fun _ _ e => e⟩
    | cons x l =>
      exact call_list_reprK (h₀ := s.heap) e1 rfl rfl hna (by simpa using hk.length_eq) (fun i y e => hk.item i y (by simpa using e)) hg (fun b _ => Clear.nil b) (by show X.A.units + 1 + _ < cLine; omega) (fun _ _ e => e) (fun h' u tk k => ⟨_, _, rfl, fin h' tk u k⟩) hz'
  | @tup a xs ds e hh =>
    obtain ⟨as, R0⟩ := reads_of_dat I.hok (Dat.tup e hh) ru
    cases (show _ = Value.ref a from ru)
    obtain ⟨_, its, rv, o, e1, e2, n, e3⟩ := (show ObjOk X.prog X.w H s.heap a (.tup _) from I.hok a _ e)
    have hz' : (tupleText (PyData.shownAll ds)).length ≤ sizeLine := by simpa only [PyData.shown] using hz
    obtain ⟨bs, hb, hk⟩ := reprAllK_of_dat I.hok hh rv (by simpa [PyData.showable] using hs) (fun t ht => Nat.le_trans (tupleText_mem_le ht) hz')
    have hna : a ∉ bs := not_mem_of_deeper R0 (by simp only [PyData.depth]; omega) hb
    simp only [PyData.shown] at fin
    simp only [PyData.depth] at hd
    refine call_repr_slot (by omega) ⟨_, e1, e2⟩ F.slot_tuple_repr ?_
    exact call_tuple_reprK (h₀ := s.heap) e1 e2 e3 hna (by simpa using hk) hg (fun b _ => Clear.nil b) (by show X.A.units + 1 + _ < cLine; omega) (fun _ _ e => e) (fun h' u tk k => ⟨_, _, rfl, fin h' tk u k⟩) hz'
  | @dct a kvs ds e hh =>
    obtain ⟨as, R0⟩ := reads_of_dat I.hok (Dat.dct e hh) ru
    cases (show _ = Value.ref a from ru)
    obtain ⟨_, hsys, vs, rv, o, es, ep, e1, e2, e3, e4, e5, e6⟩ := (show ObjOk X.prog X.w H s.heap a (.dK _) from I.hok a _ e)
    have hz' : (dictText (PyData.shownKv ds)).length ≤ sizeLine := by simpa only [PyData.shown] using hz
    obtain ⟨hs1, hs2⟩ := PyData.showableKv_split ds (by simpa [PyData.showable] using hs)
    have k1 : ReprAllK X.prog X.w [] s.heap (PyData.depthKv ds) (es.toList.map (·.key)) (PyData.shownAll (ds.map (·.1))) := reprKeys_of hh rv e5 hs1 (fun t ht => let ⟨p, hp, hl⟩ := PyData.shownKv_key_le ds t ht; Nat.le_trans hl (Nat.le_trans (dictText_mem_le hp) hz'))
    obtain ⟨b2, hb2, k2⟩ := reprVals_of_dat I.hok hh rv e5 hs2 (fun t ht => let ⟨p, hp, hl⟩ := PyData.shownKv_val_le ds t ht; Nat.le_trans hl (Nat.le_trans (dictText_mem_le hp) hz'))
    have hb : ReadAtMost s.heap (PyData.depthKv ds) b2 := hb2.mono (PyData.depthAll_vals_le ds)
    have hna : a ∉ b2 := not_mem_of_deeper R0 (by simp only [PyData.depth]; omega) hb
    simp only [PyData.shown, PyData.shownKv_eq] at fin
    simp only [PyData.depth] at hd
    refine call_repr_slot (by omega) ⟨_, e1, e2.1⟩ F.slot_dict_repr ?_
    exact call_dict_reprK (h₀ := s.heap) e1 e2.1 e3 hsys hna (ReprEntriesK.of_two es.toList _ _ (k1.more_le (fun b hb => absurd hb (by simp)) (Nat.le_refl _)) (k2.more_le (fun b hb => hb) (PyData.depthAll_vals_le ds)))
      hg (fun b _ => Clear.nil b) (by show X.A.units + 1 + _ < cLine; omega) (fun _ _ e => e) (fun h' u tk k => ⟨_, _, rfl, fin h' tk u k⟩) (by rw [← PyData.shownKv_eq]; exact hz')
end
end L2

set_option Elab.async false
set_option linter.all false
set_option maxRecDepth 100000
set_option maxHeartbeats 4000000
namespace L2
open PySem PySem.Spec PyProof.Rows
/-- what isinstance and the field's reading ask of an error class -/
def errB (K : PySem.W.Frag) (fI C : Addr) : Bool :=
  decide (PySem.W.findIn K (.ref C) "__setattr__" = some (some (.builtin "object.__setattr__"))) && (decide (PySem.W.findIn K (.ref C) "__getattribute__" = some (some (.builtin "BaseException.__getattribute__"))) &&
  (decide (PySem.W.findIn K (.ref C) "__getattr__" = some none) && (decide (PySem.W.findIn K (.ref C) "value" = some none) && (decide (PySem.W.findIn K (.ref C) "__init__" = some (some (.ref fI))) &&
  (decide (PySem.W.subIn K (.ref C) (.type "BaseException") = some true) && (decide (PySem.W.typeIn K (.ref C) = some (.type "type")) && (PySem.W.keepIn K (.ref C) && (PySem.W.hasDictIn K C &&
  (decide (PySem.W.findIn K (.ref C) "__class__" = some (some (.builtin "object.__class__"))) && decide (PySem.W.mroIn K C (.type "object") = some true))))))))))
structure ErrC (K : PySem.W.Frag) (fI C : Addr) : Prop where
  o : OexC K C
  ga : PySem.W.findIn K (.ref C) "__getattribute__" = some (some (.builtin "BaseException.__getattribute__"))
  gg : PySem.W.findIn K (.ref C) "__getattr__" = some none
  no : PySem.W.findIn K (.ref C) "value" = some none
  iC : PySem.W.findIn K (.ref C) "__init__" = some (some (.ref fI))
  hd : PySem.W.hasDictIn K C = true
  cl : PySem.W.findIn K (.ref C) "__class__" = some (some (.builtin "object.__class__"))
  mo : PySem.W.mroIn K C (.type "object") = some true
theorem errB_ok {K : PySem.W.Frag} {fI C : Addr} (h : errB K fI C = true) (cls : ∃ nm q N bs bm sn sub ab col dd k0 k1 k2 k3 k5, K.lookup C = some (excClassObj nm q C N bs bm true sn sub ab col dd k0 k1 k2 k3 k5 "ValueError.__new__") ∧ PySem.HandSPX.refsVE bm = true) : ErrC K fI C := by
  obtain ⟨h1, h⟩ := Bool.and_eq_true_iff.mp h
  obtain ⟨h2, h⟩ := Bool.and_eq_true_iff.mp h
  obtain ⟨h3, h⟩ := Bool.and_eq_true_iff.mp h
  obtain ⟨h4, h⟩ := Bool.and_eq_true_iff.mp h
  obtain ⟨h5, h⟩ := Bool.and_eq_true_iff.mp h
  obtain ⟨h6, h⟩ := Bool.and_eq_true_iff.mp h
  obtain ⟨h7, h⟩ := Bool.and_eq_true_iff.mp h
  obtain ⟨h8, h⟩ := Bool.and_eq_true_iff.mp h
  obtain ⟨h9, h⟩ := Bool.and_eq_true_iff.mp h
  obtain ⟨h10, h11⟩ := Bool.and_eq_true_iff.mp h
  exact ⟨⟨cls, of_decide_eq_true h1, of_decide_eq_true h6, of_decide_eq_true h7, h8⟩, of_decide_eq_true h2, of_decide_eq_true h3, of_decide_eq_true h4, of_decide_eq_true h5, h9, of_decide_eq_true h10, of_decide_eq_true h11⟩
/-- an error of the class at C that keeps v stands at e, its own dict at d -/
def Err (H : Hp) (e d C : Addr) (v : V) : Prop := H e = some (exo e C (some d)) ∧ H d = some (exd d [(("value" : Str), v)])
theorem Err.same {H H' : Hp} {e d C : Addr} {v : V} (h : Err H e d C v) (S : Same H H') : Err H' e d C v := ⟨S _ _ h.1, S _ _ h.2⟩
/-- the promise of SightError.__init__ -/
def spInit (K : PySem.W.Frag) : Sp := fun vs H Q _ => ∃ (a C : Addr) (v : V), vs = [.ref a, v] ∧ OexC K C ∧ PySem.W.findIn K (.ref C) "value" = some none ∧ H a = some (exo a C none) ∧
  ∀ d, H d = none → d ≠ a → Q .non (upd (upd H d (exd d [(("value" : Str), v)])) a (exo a C (some d)))
/-- C(e), C(value=e): a new error -/
def tMkE (C : Addr) (te : TE) : TE := fun σ H Q => te σ H fun v H1 => ∀ (a d : Addr) (H2 : Hp), H1 a = none → H1 d = none → d ≠ a → Err H2 a d C v → Same H1 H2 → Q (.ref a) H2
theorem err_made {H1 : Hp} {a d C : Addr} {v : V} (na : H1 a = none) (hd : upd H1 a (exo a C none) d = none) (ne : d ≠ a) : H1 d = none ∧ Err (upd (upd (upd H1 a (exo a C none)) d (exd d [(("value" : Str), v)])) a (exo a C (some d))) a d C v ∧ Same H1 (upd (upd (upd H1 a (exo a C none)) d (exd d [(("value" : Str), v)])) a (exo a C (some d))) := by
  rw [upd_ne ne] at hd
  refine ⟨hd, ⟨upd_same, by rw [upd_ne ne, upd_same]⟩, fun b o e => ?_⟩
  rw [upd_ne (ne_of_none e na), upd_ne (ne_of_none e hd), upd_ne (ne_of_none e na)]
  exact e
section
variable {X : Cx} {fI C : Addr} {k : Nat} {fd : FuncData} {x : Str} {e : Expr} {te : TE} {p pos kp : Pos}
theorem run_err {pins : List (Addr × Obj)} {σ : St} {H1 : Hp} {Q : VK} {hp : Heap} {g : Array GenState} {d : Drawn} {t : Nat} {os : OsState} {v : V} {u : Value} {args : Args} {us : List Value} {kw : List (Str × Value)} (T : ErrC X.K fI C)
    (F1 : FnOk X.prog X.w X.K X.mg X.base CX0 k fI fd ["self", "value"] (spInit X.K)) (hr : Room (k + 1) X.A) (I1 : Inv X pins σ H1 ⟨hp, g, d, t, os⟩) (rv : RelV v u) {tp : Obj}
    (hb : ∀ s : Shared, BindsTo s fd ⟨.ref (hp.objs.size + 1) :: us, kw⟩ ((["self", "value"] : List Str).zip [Value.ref (hp.objs.size + 1), u]))
    (q : ∀ (a d : Addr) (H2 : Hp), H1 a = none → H1 d = none → d ≠ a → Err H2 a d C v → Same H1 H2 → Q (.ref a) H2) :
    codeAny (model X.prog X.w) (X.A.under (.builtin "type.__call__" ⟨.ref C :: us, kw⟩)) (.call (.ref fI) ⟨.ref (hp.objs.size + 1) :: us, kw⟩) (PySem.W.InitBack (hp.objs.size + 1) fun r s' => ∃ u, r = .ok (.ret u) ∧ EP X pins σ Q u s')
      ⟨(hp.push tp).push (PySem.HandSPX.excO C hp.objs.size), g, d, t, os⟩ := by
  have hsz : hp.objs.size ≤ hp.objs.size + 1 := Nat.le_succ _
  have hn : H1 (hp.objs.size + 1) = none := I1.hok.fresh hsz
  have kk : ∀ b o, hp.get? b = some o → ((hp.push tp).push (PySem.HandSPX.excO C hp.objs.size)).get? b = some o := fun b o e => Heap.get?_push_of_some _ (Heap.get?_push_of_some _ e)
  have hget : ((hp.push tp).push (PySem.HandSPX.excO C hp.objs.size)).get? (hp.objs.size + 1) = some (PySem.HandSPX.excO C hp.objs.size) := by heap_get
  have I2 : Inv X pins σ (upd H1 (hp.objs.size + 1) (exo (hp.objs.size + 1) C none)) ⟨(hp.push tp).push (PySem.HandSPX.excO C hp.objs.size), g, d, t, os⟩ :=
    I1.laid (t' := t) (a := hp.objs.size + 1) (o := exo (hp.objs.size + 1) C none) (h' := (hp.push tp).push (PySem.HandSPX.excO C hp.objs.size)) kk hsz (exo_ok hget)
  have r2 : Vals [V.ref (hp.objs.size + 1), v] [Value.ref (hp.objs.size + 1), u] := .cons rfl (.cons rv .nil)
  have hq : spInit X.K [V.ref (hp.objs.size + 1), v] (upd H1 (hp.objs.size + 1) (exo (hp.objs.size + 1) C none)) (fun y H2 => y = .non ∧ Q (.ref (hp.objs.size + 1)) H2) E0 :=
    ⟨_, C, v, rfl, T.o, T.no, upd_same, fun d hd ne => ⟨rfl, let ⟨z1, z2, z3⟩ := err_made hn hd ne; q _ d _ hn z1 ne z2 z3⟩⟩
  refine codeAny_mono (F1.run _ X.stack _ _ _ [Value.ref (hp.objs.size + 1), u] _ _ E0 (hr.make C us kw) (I2.env0.make C us kw) (hb _) r2 hq) fun r s' hq' => ?_
  cases r with
  | error er => exact False.elim hq'
  | ok fl =>
    cases fl with
    | ret y =>
      obtain ⟨w, H', I3, rw', ew, q3⟩ := I2.after hq'
      subst ew
      exact ⟨rw', _, rfl, V.ref (hp.objs.size + 1), H', I3, rfl, q3⟩
    | next => exact False.elim hq'
    | brk => exact False.elim hq'
    | cont => exact False.elim hq'
theorem pe_err (T : ErrC X.K fI C) (tI : PySem.W.typeIn X.K (.ref fI) = some (.type "function")) (F1 : FnOk X.prog X.w X.K X.mg X.base CX0 k fI fd ["self", "value"] (spInit X.K)) (hr : Room (k + 1) X.A)
    (hb : ∀ (s : Shared) (a u : Value), BindsTo s fd ⟨[a, u], []⟩ ((["self", "value"] : List Str).zip [a, u])) (hg : Gl X x) (hm : X.mg x = some (.ref C)) (he : PE X e te)
    (hdb : (x == ("__debug__" : Str)) = false := by decide) (hs : starEach [e] X.env = (false, eval e X.env) :: starEach [] X.env := by rfl) : PE X (.Call (.Name x p) [e] [] pos) (tMkE C te) := by
  refine ⟨fun pins s σ H Q I h => ?_⟩
  obtain ⟨nm, q, N, bs, bm, sn, sub, ab, col, dd, k0, k1, k2, k3, k5, hC, hbm⟩ := T.o.cls
  refine wpAny_Call_Name_kw (ld_glob I hg hm ?_ hdb)
  refine PySem.W.callWith_K (h₀ := X.base) I.ok.mod.kin T.o.kC ?_ hs (by rfl)
  rw [hs]
  show wpAny _ _ (spliced ((false, eval e X.env) :: backTo pos (starEach [] X.env))) _ _ s
  refine Calls.spliced_cons (thn (he.run pins s σ H _ I h) fun u s1 ⟨v, H1, I1, r1, q1⟩ => ?_)
  refine Calls.spliced_nil ⟨I1.kIn, ?_⟩
  show wpAny _ _ (call (.ref C) [u]) _ _ _
  obtain ⟨hp, g, dr, tk, os⟩ := s1
  refine wpAny_call (codeAny_mono (PySem.HandSPX.call_own F.excBase_ValueError (fun Y => PySem.HandSPX.refsVE_contains Y bm hbm) (I1.kIn _ _ hC) (PySem.W.looks_findIn I1.kIn T.iC) (fun self => PySem.W.bind_fn I1.kIn self tI) (by show 1 ≤ sizeLine; rw [sizeLine_eq]; omega)
    (run_err (kw := []) (us := [u]) (args := ⟨[], []⟩) T F1 hr I1 r1 (fun s => hb s _ u) q1)) fun r s' hq => ?_)
  obtain ⟨y, rfl, ep⟩ := hq
  exact ep
theorem pe_errK (T : ErrC X.K fI C) (tI : PySem.W.typeIn X.K (.ref fI) = some (.type "function")) (F1 : FnOk X.prog X.w X.K X.mg X.base CX0 k fI fd ["self", "value"] (spInit X.K)) (hr : Room (k + 1) X.A)
    (hb : ∀ (s : Shared) (a u : Value), BindsTo s fd ⟨[a], [("value", u)]⟩ ((["self", "value"] : List Str).zip [a, u])) (hg : Gl X x) (hm : X.mg x = some (.ref C)) (he : PE X e te)
    (hdb : (x == ("__debug__" : Str)) = false := by decide) (hall : (backToKw pos (keywordEach [⟨some "value", e, kp⟩] X.env)).all (·.1.isSome) = true := by rfl) (hks : (backToKw pos (keywordEach [⟨some "value", e, kp⟩] X.env)).filterMap (·.1) = [("value" : Str)] := by rfl)
    (hpl : ((backTo pos (starEach [] X.env)).any (·.1) || (backToKw pos (keywordEach [⟨some "value", e, kp⟩] X.env)).any (·.1.isNone)) = false := by rfl) : PE X (.Call (.Name x p) [] [⟨some "value", e, kp⟩] pos) (tMkE C te) := by
  refine ⟨fun pins s σ H Q I h => ?_⟩
  obtain ⟨nm, q, N, bs, bm, sn, sub, ab, col, dd, k0, k1, k2, k3, k5, hC, hbm⟩ := T.o.cls
  refine wpAny_Call_Name_kw (ld_glob I hg hm ?_ hdb)
  refine PySem.W.callWith_KW0 (h₀ := X.base) I.ok.mod.kin T.o.kC hall ?_ hpl
  refine thn ((pk_cons he pk_nil).run pos pins s σ H (fun vs H1 => ∃ v, vs = [v] ∧ ∀ (a d : Addr) (H2 : Hp), H1 a = none → H1 d = none → d ≠ a → Err H2 a d C v → Same H1 H2 → Q (.ref a) H2) I ?_) fun ws s2 ⟨zs, H2, I2, rz, q2⟩ => ?_
  · refine (?_ : te σ H _)
    have h' : te σ H (fun v H1 => ∀ (a d : Addr) (H2 : Hp), H1 a = none → H1 d = none → d ≠ a → Err H2 a d C v → Same H1 H2 → Q (.ref a) H2) := h
    have e : (fun (v : V) (H1 : Hp) => ∀ (a d : Addr) (H2 : Hp), H1 a = none → H1 d = none → d ≠ a → Err H2 a d C v → Same H1 H2 → Q (.ref a) H2) = (fun x H1 => tNil σ H1 fun xs H2 => ∃ v, x :: xs = [v] ∧ ∀ (a d : Addr) (H3 : Hp), H2 a = none → H2 d = none → d ≠ a → Err H3 a d C v → Same H2 H3 → Q (.ref a) H3) := by
      funext v H1
      refine propext ⟨fun z => ⟨v, rfl, z⟩, fun ⟨w, e, z⟩ => ?_⟩
      cases e
      exact z
    rw [e] at h'
    exact h'
  · obtain ⟨v, rfl, q1⟩ := q2
    obtain ⟨u, rfl, r1⟩ := vals1 rz
    refine ⟨I2.kIn, ?_⟩
    rw [hks]
    show wpAny _ _ (call (.ref C) [] [(("value" : Str), u)]) _ _ _
    obtain ⟨hp, g, dr, tk, os⟩ := s2
    refine wpAny_call (codeAny_mono (PySem.KwX.call_kw F.excBase_ValueError (fun Y => PySem.HandSPX.refsVE_contains Y bm hbm) (I2.kIn _ _ hC) (PySem.W.looks_findIn I2.kIn T.iC) (fun self => PySem.W.bind_fn I2.kIn self tI)
      (run_err (kw := [(("value" : Str), u)]) (us := []) (args := ⟨[], []⟩) T F1 hr I2 r1 (fun s => hb s _ u) q1)) fun r s' hq => ?_)
    obtain ⟨y, rfl, ep⟩ := hq
    exact ep
/-- e.value -/
def tErrV (K : PySem.W.Frag) (fI : Addr) (te : TE) : TE := fun σ H Q => te σ H fun x H1 => ∃ (a d C : Addr) (v : V), x = .ref a ∧ ErrC K fI C ∧ Err H1 a d C v ∧ Q v H1
theorem pe_errV (he : PE X e te) (hb : attributeBase e "value" X.env (eval e X.env) = eval e X.env := by rfl) : PE X (.Attribute e "value" pos) (tErrV X.K fI te) := by
  refine ⟨fun pins s σ H Q I h => ?_⟩
  refine attr_of hb (thn (he.run pins s σ H _ I h) fun u s1 hh => ?_)
  obtain ⟨x, H1, I1, rx, a, d, C, v, rfl, T, ⟨e1, e2⟩, q⟩ := hh
  obtain rfl : u = Value.ref a := rx
  obtain ⟨t1, ho⟩ := exo_at I1.hok e1
  obtain ⟨mA, hns, hr⟩ := exd_at I1.hok e2
  obtain ⟨od, hod, hl⟩ := lookIn_ns hns
  obtain ⟨w, hu, ru⟩ := RelO.some_of (v := v) (o := mA "value") (by have z := hr "value"; rw [lookup_put, if_pos rfl] at z; exact z)
  have J : PySem.W.InstAt s1.heap a { cls := .ref C, dict := some d, data := .fields #[.ref t1, .none, .none, .none, .bool false, .none] } C (some od) := ⟨ho, rfl, rfl, hod⟩
  exact HandSPX.exc_get I1.kIn J T.ga T.gg T.o.exC (PySem.W.findObj_own T.hd T.no rfl (by rw [hl, hu])) (handed_of ru) ⟨v, H1, I1.tok _, ru, q⟩
/-- isinstance(e, c) -/
def rIsErr (K : PySem.W.Frag) (fI : Addr) : List V → Hp → VK → Prop := fun xs H Q => ∃ (a d C : Addr) (v c : V) (cv : Value) (b : Bool), xs = [.ref a, c] ∧ ErrC K fI C ∧ Err H a d C v ∧ (∀ u, RelV c u → u = cv) ∧ PySem.W.kitOne K (.ref C) cv = some b ∧ Q (.bl b) H
theorem call_isErr (hn : PySem.W.specialIn X.K (.builtin "object.__class__") "__get__" = some (some (.builtin "getset_descriptor.__get__"))) (htk : PySem.W.takesIn X.K (.builtin "object.__class__") = some true) : CallR X (.builtin "isinstance") (rIsErr X.K fI) := by
  intro pins s σ H xs us Q I r h
  obtain ⟨a, d, C, v, c, cv, b, rfl, T, ⟨e1, e2⟩, hcv, e, q⟩ := h
  obtain ⟨u1, u2, rfl, r1, r2⟩ := vals2 r
  have ec := hcv _ r2
  subst ec
  cases (show u1 = Value.ref a from r1)
  obtain ⟨t1, ho⟩ := exo_at I.hok e1
  obtain ⟨mA, hns, hr⟩ := exd_at I.hok e2
  obtain ⟨od, hod, hl⟩ := lookIn_ns hns
  have J : PySem.W.InstAt s.heap a { cls := .ref C, dict := some d, data := .fields #[.ref t1, .none, .none, .none, .bool false, .none] } C (some od) := ⟨ho, rfl, rfl, hod⟩
  exact PySem.W.kia_one (PySem.W.kitx_exc (by obtain ⟨cd, hc, _⟩ := PySem.W.any_some T.hd; rw [hc]; rfl) T.ga T.gg T.o.exC T.cl hn htk T.mo) I.kIn J e (fun z => nomatch z) fun tk => ⟨.bl b, H, I.kept (t' := tk) fun _ _ z => z, rfl, q⟩
end
/-! ### defs that need to know the guards around (repr) -/
structure FnOkG (P : Program) (w : World) (K : PySem.W.Frag) (mg : Str → Option Value) (base : Heap) (k : Nat) (f : Addr) (fd : FuncData) (ps : List Str) (sp : Sp) : Prop where
  len : ∀ vs H Q E, sp vs H Q E → vs.length = ps.length
  run : ∀ (A : Around) (outer : List Env) (s : Shared) (H : Hp) (args : Args) (us : List Value) (vs : List V) (Q : VK) (E : XK), A.guards = some [] → Room k A → Env0 P w K mg base A outer s H → BindsTo s fd args (ps.zip us) → Vals vs us → sp vs H Q E →
    codeAny (model P w) A (.call (.ref f) args) (CR CX0 outer P w H s Q E) s
section
variable {P : Program} {w : World} {K : PySem.W.Frag} {mg : Str → Option Value} {base : Heap}
/-- one call of a def of the text, at one place: from its body's reading there -/
theorem run_once {x qual : Str} {st : Stmt} {f : Addr} {fd : FuncData} {N ps : List Str} (F : Fun K x qual st f fd) (S : FnScope N ps (defScope st)) {A : Around} {outer : List Env} {s : Shared} {H : Hp} {args : Args} {us : List Value} {vs : List V} {Q : VK} {E : XK}
    (hd : A.handled = none) (dp : A.depth < recursionLimit) (e0 : Env0 P w K mg base A outer s H) (hb : BindsTo s fd args (ps.zip us)) (r : Vals vs us) (hl : vs.length = ps.length)
    (body : ∀ cdv : Value, ∃ t, PSs (cxOf CX0 P w K mg base N qual (defScope st) f cdv A outer s H E).nox (defBody st) t ∧ t { nx := fun _ H' => Q .non H', rt := Q } (start N vs) H) :
    codeAny (model P w) A (.call (.ref f) args) (CR CX0 outer P w H s Q E) s := by
  obtain ⟨oc, od, kV, doc, pm, an, cdv, ct, osl, rfl, lk, hcd⟩ := F.ex
  have keep : ∀ b o, base.get? b = some o → s.heap.get? b = some o := fun b o e => (e0.bs b o e).1
  have KX : K.In s.heap := e0.mod.kin.keeps keep
  refine codeAny_call_function dp (KX _ _ lk) rfl S.co S.gen rfl (PySem.W.codeRec_of KX hcd) (hb _ _ _ _ ?_)
  refine wpAny_newFunctionEnv_cells S.kind (fun y hy => ?_) fun env he s1 z => ?_
  · rcases S.par y.1 (List.of_mem_zip hy).1 with q | q
    · exact .inl q
    · exact .inr ⟨q, PySem.W.cellsFrom_some _ _ _ (.inl q)⟩
  · subst he
    refine ⟨(e0.mod.nolimit.keeps keep).keeps z.toInCall.keep, codeAny_func ?_⟩
    obtain ⟨t, ht, hq⟩ := body cdv
    have I : Inv (cxOf CX0 P w K mg base N qual (defScope st) f cdv A outer s H E) [] (start N vs) H s1 := inv_start S hd e0 hl r z
    refine wpAny_mono (ht.nox.run [] s1 (start N vs) H _ I hq) (fun fl s' hs => ?_) fun e s' hs => hs
    cases fl with
    | ret u =>
      obtain ⟨v, _, H', J, rv, q⟩ := hs
      exact ⟨v, H', J.os, J.bare, J.base, J.hok, rv, q⟩
    | next =>
      obtain ⟨_, H', J, q⟩ := hs
      exact ⟨V.non, H', J.os, J.bare, J.base, J.hok, rfl, q⟩
    | brk => exact (hs.choose_spec.choose_spec.2 : False).elim
    | cont => exact (hs.choose_spec.choose_spec.2 : False).elim
theorem Fun.okG {x qual : Str} {st : Stmt} {f : Addr} {fd : FuncData} {N ps : List Str} {k : Nat} {sp : Sp} (F : Fun K x qual st f fd) (S : FnScope N ps (defScope st)) (len : ∀ vs H Q E, sp vs H Q E → vs.length = ps.length)
    (hbody : ∀ (cdv : Value) (A : Around) (outer : List Env) (s : Shared) (H : Hp) (vs : List V) (Q : VK) (E : XK), A.guards = some [] → Room k (A.deeper (envOfC qual (defScope st) s.heap.objs.size f cdv)) → sp vs H Q E →
      ∃ t, PSs (cxOf CX0 P w K mg base N qual (defScope st) f cdv A outer s H E).nox (defBody st) t ∧ t { nx := fun _ H' => Q .non H', rt := Q } (start N vs) H) : FnOkG P w K mg base (k + 1) f fd ps sp :=
  ⟨len, fun A outer s H args us vs Q E hg hr e0 hb r hsp => run_once F S hr.hd hr.depth e0 hb r (len _ _ _ _ hsp) fun cdv => hbody cdv A outer s H vs Q E hg (hr.deeper _) hsp⟩
end
section
variable {X : Cx} {k : Nat} {f : Addr} {fd : FuncData} {ps : List Str} {sp : Sp} {x : Str} {p pos : Pos} {e : Expr} {es : List Expr} {t : TA}
/-- f(e, ..), f a def that wants the guards known -/
theorem pe_callG (hG : X.A.guards = some []) (F : FnOkG X.prog X.w X.K X.mg X.base k f fd ps sp) (hr : Room k X.A) (hg : Gl X x) (hm : X.mg x = some (.ref f)) (hk : PySem.W.keepIn X.K (.ref f) = true) (hb : Binds X.K fd ps [])
    (ha : PA X (e :: es) t) (hdb : (x == ("__debug__" : Str)) = false := by decide) (he : starEach (e :: es) X.env = (false, eval e X.env) :: starEach es X.env := by rfl) (hpl : (backTo pos (starEach es X.env)).any (·.1) = false := by rfl) :
    PE X (.Call (.Name x p) (e :: es) [] pos) (tCall sp [] E0 t) := by
  refine ⟨fun pins s σ H Q I h => ?_⟩
  refine wpAny_Call_Name_kw (ld_glob I hg hm ?_ hdb)
  refine PySem.W.callWith_K (h₀ := X.base) I.ok.mod.kin hk (thn (ha.run pos pins s σ H _ I h) fun us s1 ⟨vs, H1, I1, r, q⟩ => ⟨I1.kIn, ?_⟩) he hpl
  have hl : (us ++ []).length = ps.length := by rw [List.append_nil, ← r.length, ← F.len _ _ _ _ q, List.append_nil]
  show wpAny _ _ (call (.ref f) us) _ _ _
  refine wpAny_call (codeAny_mono (F.run X.A X.stack s1 H1 ⟨us, []⟩ (us ++ []) (vs ++ []) Q E0 hG hr I1.env0 (hb s1 us I1.kIn hl) (r.append .nil) q) fun res s' hq => ?_)
  cases res with
  | error er => exact False.elim hq
  | ok fl =>
    cases fl with
    | ret u => exact I1.after hq
    | next => exact False.elim hq
    | brk => exact False.elim hq
    | cont => exact False.elim hq
end
/-! ### the end of a law row for such a def -/
theorem enter_law {P : Program} {w : World} {K : PySem.W.Frag} {mg mb : Str → Option Value} {k : Nat} {fa a : Addr} {fd : FuncData} {x : Str} {sp : Sp} {s1 : Shared} {us : List Value} {H : Hp}
    (F : ∀ base : Heap, K.In base → base.Ns mainGlobals mg → FnOkG P w K mg base k fa fd [x] sp) (hr : Room k callerA) (hbind : ∀ (s : Shared) (u : Value), BindsTo s fd ⟨[u], []⟩ [(x, u)])
    (KX : K.In s1.heap) (hns : s1.heap.Ns mainGlobals mg) (hb : s1.heap.Ns builtinsNs mb) (hbb : ∀ x : Str, x ≠ "__name__" → mb x = bootBuiltins x) (hlim : s1.heap.NoLimit) (hg : s1.gens = #[])
    (ha : s1.heap.get? a = some { cls := .type "list", data := .seq us.toArray }) (ok : HOk P w H s1.heap) (only : ∀ b o, H b = some o → b = a ∧ K.lookup a = none ∧ ∃ xs, o = .frz { cls := .type "list", data := .seq us.toArray } (.lst xs))
    (hsp : sp [.ref a] H (fun v _ => v = .bl true) E0) :
    codeAny (model P w) callerA (.call (.ref fa) ⟨[.ref a], []⟩) (fun r s' => r = .ok (.ret (.bool true)) ∧ OldK s1.heap s'.heap ∧ s'.os = s1.os ∧ AllBare s'.gens) s1 := by
  have free : ∀ {b : Addr} {o : Obj}, s1.heap.get? b = some o → (∀ z : Array Value, ∀ n, o.data ≠ .seq z n) → H b = none := fun {b o} e d => by
    cases q : H b with
    | none => rfl
    | some u =>
      obtain ⟨rfl, _⟩ := only b u q
      rw [ha] at e
      cases e
      exact (d _ _ rfl).elim
  have ns2 : ∀ {b : Addr} {m : Str → Option Value}, s1.heap.Ns b m → (hidT s1.heap H).Ns b m := fun {b m} n => by
    obtain ⟨o, es, ep, e, d, r⟩ := n
    exact ⟨o, es, ep, hidT_get e (free e (fun z n y => by rw [d] at y; cases y)), d, r⟩
  have kin : K.In (hidT s1.heap H) := fun b o e => hidT_get (KX b o e) (by
    cases q : H b with
    | none => rfl
    | some u =>
      obtain ⟨rfl, z, _⟩ := only b u q
      rw [z] at e
      cases e)
  have M : Mod K mg (hidT s1.heap H) := ⟨kin, ns2 hns, ⟨mb, ns2 hb, hbb⟩, by obtain ⟨mc, z1, z2⟩ := hlim; exact ⟨mc, ns2 z1, z2⟩⟩
  have e0 : Env0 P w K mg (hidT s1.heap H) callerA [] s1 H := ⟨rfl, M, fun b o e => of_hidT e, Nat.le_of_eq (hidT_size _ _), trivial, (fun b z => absurd (show b ∈ ([] : List Addr) from z) (by simp)), ok, .of_eq hg⟩
  refine codeAny_mono ((F _ kin (ns2 hns)).run callerA [] s1 H _ [.ref a] [.ref a] _ _ rfl hr e0 (hbind s1 (.ref a)) (.cons rfl .nil) hsp) fun r s' h => ?_
  cases r with
  | error e => exact False.elim h
  | ok fl =>
    cases fl with
    | next => exact False.elim h
    | brk => exact False.elim h
    | cont => exact False.elim h
    | ret u =>
      obtain ⟨v, H', os, bare, un, ok', rv, q⟩ := h
      subst q
      obtain rfl : u = Value.bool true := rv
      refine ⟨rfl, OldK.of_keep fun b o e => ?_, os, bare⟩
      cases q : H b with
      | none => exact un.keep b o e q (fun z => absurd (show b ∈ ([] : List Addr) from z) (by simp)) (by simp)
      | some y =>
        obtain ⟨rfl, _, xs, rfl⟩ := only b y q
        obtain ⟨e1, _⟩ := ok' b _ (un.frzs b _ _ q)
        rw [ha] at e
        cases e
        exact e1
theorem walk_ofG {l : PySem.W.OpenLaw} {n k : Nat} {q : Program} {loose : List Str} {XP : (Str → Option Value) → Heap → Prop} {YP : World → Heap → Prop} {d : DefRec} {K : Params → PySem.W.Frag} {sp : PySem.W.Frag → Sp} {x : Str}
    (hn : l.most = some n) (hn2 : n ≤ sizeLine) (hdf : d.params.defaults = []) (hr : Room k callerA) (hY : ∀ (w : World) (h : Heap), YP w h → (K w.params).In h)
    (F : ∀ (w : World) (mg : Str → Option Value) (fa : Addr) (h : Heap), (K w.params).In h → h.Ns mainGlobals mg → mg d.name = some (.ref fa) →
      ∃ fd : FuncData, (∀ (s : Shared) (u : Value), BindsTo s fd ⟨[u], []⟩ [(x, u)]) ∧ ∀ base : Heap, (K w.params).In base → base.Ns mainGlobals mg → FnOkG l.prog w (K w.params) mg base k fa fd [x] (sp (K w.params)))
    (hsp : ∀ (K : PySem.W.Frag) (H : Hp) (a : Addr) (ns : List Int), ns.length ≤ n → Only H → SqL K H a (ns.map V.int) → sp K [.ref a] H (fun v _ => v = .bl true) E0) :
    PySem.W.WalkO q loose XP YP l.row.toRowW d [] (fun f vs => PySem.call f vs) := by
  refine Att.attach_call hn hdf fun w s0 s1 mg mb fa o pm cd doc a us ns G Y ho hd hcd hmg hobj hints hlen hg => ?_
  have KX := hY w _ Y
  obtain ⟨fd, hb, hF⟩ := F w mg fa _ KX G.T.g hmg
  have rv := vals_ints hints
  have hz : (ns.map V.int).length ≤ sizeLine := by rw [List.length_map]; omega
  cases hk : (K w.params).lookup a with
  | some ob =>
    have e := KX a ob hk
    rw [hobj] at e
    cases e
    have S : SqL (K w.params) (fun _ => none) a (ns.map V.int) := .inr ⟨_, us.toArray, _, hk, rfl, rfl, rfl, by rw [List.size_toArray, ← rv.length]; exact hz, by simpa using rv⟩
    exact enter_law (H := fun _ => none) hF hr hb KX G.T.g G.T.b G.T.builtins G.T.nolimit hg hobj (fun b u z => by cases (show (none : Option HO) = some u from z)) (fun b u z => by cases (show (none : Option HO) = some u from z))
      (hsp _ _ a ns hlen (fun b => .inl rfl) S)
  | none =>
    refine enter_law (H := upd (fun _ => none) a (.frz { cls := .type "list", data := .seq us.toArray } (.lst (ns.map V.int)))) hF hr hb KX G.T.g G.T.b G.T.builtins G.T.nolimit hg hobj (fun b u z => ?_) (fun b u z => ?_)
      (hsp _ _ a ns hlen (fun b => ?_) (.inl (.inr ⟨_, upd_same⟩)))
    · by_cases e : b = a
      · subst e
        rw [upd_same] at z
        cases z
        exact ⟨hobj, hz, us, _, rv, hobj⟩
      · rw [upd_ne e] at z
        cases z
    · by_cases e : b = a
      · subst e
        rw [upd_same] at z
        cases z
        exact ⟨rfl, hk, _, rfl⟩
      · rw [upd_ne e] at z
        cases z
    · by_cases e : b = a
      · subst e
        exact .inr ⟨_, _, upd_same⟩
      · exact .inl (upd_ne e)
end L2

set_option Elab.async false
set_option linter.all false
set_option maxRecDepth 100000
set_option maxHeartbeats 4000000
/-! sorting tuples of any lengths, the empty one too -/
namespace L2
open PySem PySem.W PySem.SeqAt PySem.Spec PyProof.Rows
section
variable {prog : Program} {w : World} {A : Around} {E : Value → Shared → Prop} {s : Shared}
theorem tupLt_call {Q : Value → Shared → Prop} {x y : Addr} {us vs : Array Value} {eqs lts : Nat → Bool} (hx : s.heap.IsTuple x us) (hy : s.heap.IsTuple y vs)
    (h1 : ∀ j (a : j < us.size) (b : j < vs.size), EqAt A.in1 s us[j] vs[j] (eqs j))
    (h2 : ∀ j (a : j < us.size) (b : j < vs.size), eqs j = false → RcLt A.in1 s us[j] vs[j] (lts j))
    (hq : Q (.bool (firstLt eqs lts (decide (us.size < vs.size)) (List.range (min us.size vs.size)))) s) :
    wpAny (model prog w) A (call (.builtin "tuple.__lt__") [.ref x, .ref y]) Q E s := by
  obtain ⟨⟨kx, dx, tx, sx⟩, gx, rfl, nx, rfl⟩ := hx
  obtain ⟨⟨ky, dy, ty, sy⟩, gy, rfl, ny, rfl⟩ := hy
  exact call_meets F.slot_tuple_lt ⟨_, gx, rfl⟩ F.entry_tuple_lt (F.args_tuple_lt_2 _ _) (tuple_ltAt x y us vs nx ny dx dy sx sy eqs lts) ⟨gx, gy, h1, h2, hq⟩
theorem oneLt_tups {f : Bool} {xs ys : List PyData} {u v : Value} {as bs : List Addr} {Q : Bool → Shared → Prop} (ra : Reads s.heap u (.tuple xs) as) (rb : Reads s.heap v (.tuple ys) bs) (hal : alikeAll xs ys = true)
    (hu : A.units + min (PyData.tuple xs).depth (PyData.tuple ys).depth < cLine) (hq : Q (dataLt (.tuple xs) (.tuple ys)) s) : wpAny (model prog w) A (oneLt' f u v) Q E s := by
  cases f with
  | false => exact oneLt_alike (fun z => nomatch z) ra rb (by simpa [alike] using hal) (fun z => nomatch z) hu hq
  | true =>
    cases ra with
    | @tuple x ox us nx _ cs g1 g2 g3 g4 =>
      cases rb with
      | @tuple y oy vs ny _ ds k1 k2 k3 k4 =>
        have l1 : us.size = xs.length := by simpa using SeqAt.ReadsAll.length _ _ _ g4
        have l2 : vs.size = ys.length := by simpa using SeqAt.ReadsAll.length _ _ _ k4
        rw [dataLt_tuple, ← firstLt_toks xs ys hal, ← l1, ← l2] at hq
        rw [oneLt'_eq, if_pos rfl]
        have hroom := room_in hu
        refine wpAny_bind (wpAny_cRoomFor (room_here hu) ?_)
        refine wpAny_bind (wpAny_callSpecialIfBound?_slot (T := "tuple") ⟨_, g1, g2⟩ F.slot_tuple_lt ?_)
        refine tupLt_call (eqs := pairEq xs ys) (lts := fun j => dataLt (xs.getD j .none) (ys.getD j .none)) ⟨_, g1, g2, _, g3⟩ ⟨_, k1, k2, _, k3⟩ (fun j a b => ?_) (fun j a b hj => ?_) ?_
        · have z := eqAt_alikeAll xs ys A.in1 s us.toList vs.toList _ _ g4 k4 hal hroom j (by simpa using a) (by simpa using b)
          rwa [Array.getElem_toList, Array.getElem_toList] at z
        · have z := rcLt_alikeAll xs ys A.in1 s us.toList vs.toList _ _ g4 k4 hal hroom j (by simpa using a) (by simpa using b) hj
          rwa [Array.getElem_toList, Array.getElem_toList] at z
        · exact wpAny_truthy_bool hq
end
/-- the first item of a tuple of the heap -/
def headAt (h : Heap) : Value → Option Value
  | .ref a => match h.get? a with
    | some o => match o.data with
      | .seq us _ => us[0]?
      | _ => none
    | none => none
  | _ => none
def IsTup (h : Heap) (v : Value) : Prop := ∃ a us, v = .ref a ∧ h.IsTuple a us
section
variable {M : Model} {A : Around} {E : Value → Shared → Prop} {s : Shared}
theorem heads_run : ∀ (vs : List Value) {Q : List (Option Value) → Shared → Prop}, (∀ v ∈ vs, IsTup s.heap v) → Q (vs.map (headAt s.heap)) s → wpAny M A (vs.mapM firstOfTuple') Q E s
  | [], _, _, q => by rw [List.mapM_nil]; exact wpAny_pure q
  | v :: vs, Q, hv, q => by
    obtain ⟨a, us, rfl, o, g1, g2, n, g3⟩ := hv v List.mem_cons_self
    rw [List.mapM_cons, kas_first_eq]
    refine wpAny_bind (wpAny_bind (Looks.here ((Looks.ld g1).andThen .now) ?_))
    rw [g2, if_neg (by decide)]
    refine wpAny_bind (listItems_at g1 g3 (wpAny_pure ?_))
    have e : headAt s.heap (.ref a) = us[0]? := by
      show (match s.heap.get? a with | some o => _ | none => none) = _
      rw [g1]
      show (match o.data with | .seq us _ => us[0]? | _ => none) = _
      rw [g3]
    rw [← e]
    exact wpAny_bind (heads_run vs (fun u hu => hv u (List.mem_cons_of_mem _ hu)) (wpAny_pure q))
theorem kind_mixed {vs : List Value} (h2 : 2 ≤ vs.length) (hv : ∀ v ∈ vs, IsTup s.heap v) (hm : ∃ v ∈ vs, headAt s.heap v = none) :
    ∃ f : Bool, ∀ (E : Value → Shared → Prop) {Q : SortKind → Shared → Prop}, Q (if f = true then oneType' else general') s → wpAny M A (keyKind' vs.toArray) Q E s := by
  obtain ⟨v, l, rfl⟩ : ∃ v l, vs = v :: l := by
    cases vs with
    | nil => exact absurd h2 (by simp)
    | cons v l => exact ⟨v, l, rfl⟩
  refine ⟨(headAt s.heap v).isNone, fun E Q q => ?_⟩
  rw [keyKind'_eq, List.mapM_toArray, map_eq_pure_bind]
  refine wpAny_bind (wpAny_bind (heads_run _ hv (wpAny_pure ?_)))
  have no : ¬ (((v :: l).map (headAt s.heap)).toArray.all fun z => z.isSome) = true := by
    obtain ⟨u, hu, e⟩ := hm
    intro z
    simp only [List.all_toArray, List.all_map, List.all_eq_true] at z
    have := z u hu
    simp [e] at this
  rw [if_neg no]
  have e0 : ((v :: l).map (headAt s.heap)).toArray[0]? = some (headAt s.heap v) := by simp
  rw [e0]
  cases hh : headAt s.heap v with
  | some f =>
    rw [hh] at q
    exact wpAny_pure q
  | none =>
    rw [hh] at q
    show wpAny M A (oneTypeOnly' _ >>= fun z => pure (if z.isSome = true then oneType' else general')) Q E s
    rw [oneTypeOnly'_eq, List.mapM_toArray, map_eq_pure_bind]
    refine wpAny_bind (wpAny_bind (wpAny_bind (kas_mapM (r := Value.type "tuple") _ (fun u hu Q' hq => ?_) (wpAny_pure ?_))))
    · obtain ⟨a, us, rfl, o, g1, g2, _⟩ := hv u hu
      exact Looks.here (show Looks M s.heap (typeOf (.ref a)) (.type "tuple") from g2 ▸ (Looks.ld g1).andThen .now) hq
    · have e1 : (List.map (fun _ => Value.type "tuple") (v :: l)).toArray[0]? = some (Value.type "tuple") := by simp
      rw [e1]
      have e2 : ((List.map (fun _ => Value.type "tuple") (v :: l)).toArray.all fun z => z == Value.type "tuple") = true := by
        simp only [List.all_toArray, List.all_map, List.all_eq_true]
        exact fun _ _ => beq_self_eq_true _
      simp only [e2, if_true]
      exact wpAny_pure (wpAny_pure q)
end
section
variable {prog : Program} {w : World} {A : Around} {s : Shared}
theorem each_isTup {h : Heap} {vs : List Value} {ds : List PyData} (e : EachIs (fun v d => ∃ as, Reads h v d as) vs ds) (ht : ∀ d ∈ ds, ∃ xs, d = .tuple xs) : ∀ v ∈ vs, IsTup h v := fun v hv => by
  obtain ⟨d, hd, as, r⟩ := e.left v hv
  obtain ⟨xs, rfl⟩ := ht d hd
  cases r with
  | tuple g1 g2 g3 _ => exact ⟨_, _, rfl, _, g1, g2, _, g3⟩
theorem each_back {R : Value → PyData → Prop} : ∀ {vs : List Value} {ds : List PyData}, EachIs R vs ds → ∀ d ∈ ds, ∃ v ∈ vs, R v d
  | _, _, .nil, d, hd => absurd hd (by simp)
  | _, _, .cons (a := a) r t, d, hd => by
    rcases List.mem_cons.mp hd with rfl | hd
    · exact ⟨a, List.mem_cons_self, r⟩
    · obtain ⟨v, hv, q⟩ := each_back t d hd
      exact ⟨v, List.mem_cons_of_mem _ hv, q⟩
/-- tuples of any lengths can be sorted -/
theorem sortsAt_tups {vs : List Value} {ds : List PyData} (e : EachIs (fun v d => ∃ as, Reads s.heap v d as) vs ds) (hal : AllAlike ds) (ht : ∀ d ∈ ds, ∃ xs, d = .tuple xs) (hu : ∀ d, d ∈ ds → A.units + d.depth < cLine) :
    SortsAt prog w A s (dataKind s.heap ds) vs := by
  rcases Classical.em (∀ d ∈ ds, ∃ x r, d = PyData.tuple (x :: r)) with c | c
  · exact SortsAt.data e hal (.inl c) hu
  · have key : ∀ v ∈ vs, ∃ a, (dataKind s.heap ds).keyOf v = some a := fun v hv => by
      obtain ⟨d, hd, as, r⟩ := e.left v hv
      exact ⟨_, dataKind_some hal hd r⟩
    refine ⟨key, ?_⟩
    rcases Nat.lt_or_ge vs.length 2 with z | z
    · refine ⟨general', ?_, fun h2 => absurd h2 (by omega)⟩
      intro E u v a b Q ha hb hq
      obtain ⟨d, as, hd, ra, rfl⟩ := dataKind_inv ha
      obtain ⟨d', bs, hd', rb, rfl⟩ := dataKind_inv hb
      obtain ⟨xs, rfl⟩ := ht d hd
      obtain ⟨ys, rfl⟩ := ht d' hd'
      exact oneLt_tups (f := false) ra rb (by simpa [alike] using hal _ hd _ hd') (Nat.lt_of_le_of_lt (Nat.add_le_add_left (Nat.min_le_left _ _) _) (hu _ hd)) hq
    · have hm : ∃ v ∈ vs, headAt s.heap v = none := by
        obtain ⟨d, c⟩ := Classical.not_forall.mp c
        obtain ⟨hd, c⟩ := Classical.not_imp.mp c
        obtain ⟨xs, rfl⟩ := ht d hd
        cases xs with
        | cons x r => exact absurd ⟨x, r, rfl⟩ c
        | nil =>
          obtain ⟨v, hv, as, r⟩ := each_back e _ hd
          refine ⟨v, hv, ?_⟩
          cases r with
          | @tuple a o us n _ _ g1 g2 g3 g4 =>
            have l : us.size = 0 := by simpa using SeqAt.ReadsAll.length _ _ _ g4
            have e0 : us[0]? = none := by simp [l]
            show (match s.heap.get? a with | some o => _ | none => none) = _
            rw [g1]
            show (match o.data with | .seq us _ => us[0]? | _ => none) = _
            rw [g3]
            exact e0
      obtain ⟨f, hf⟩ := kind_mixed (M := model prog w) (A := A) z (each_isTup e ht) hm
      refine ⟨if f = true then oneType' else general', ?_, fun _ E Q q => hf E q⟩
      intro E u v a b Q ha hb hq
      obtain ⟨d, as, hd, ra, rfl⟩ := dataKind_inv ha
      obtain ⟨d', bs, hd', rb, rfl⟩ := dataKind_inv hb
      obtain ⟨xs, rfl⟩ := ht d hd
      obtain ⟨ys, rfl⟩ := ht d' hd'
      have g := fun f => oneLt_tups (prog := prog) (w := w) (E := E) (f := f) ra rb (by simpa [alike] using hal _ hd _ hd') (Nat.lt_of_le_of_lt (Nat.add_le_add_left (Nat.min_le_left _ _) _) (hu _ hd)) hq
      cases f with
      | true => exact g true
      | false => exact g false
end
end L2

set_option Elab.async false
set_option linter.all false
set_option maxRecDepth 100000
set_option maxHeartbeats 4000000
/-! sets of nested tuples: the small questions -/
namespace L2
open PySem PySem.SeqAt PySem.Spec PyProof.Rows
section
variable {P : Program} {w : World}
/-- no class statement of the program made anything of it -/
def NoClass (P : Program) (w : World) (n : Nat) (s : Shared) (v : Value) : Prop := ∀ (A : Around) (E : Value → Shared → Prop) (Q : Bool → Shared → Prop), Q false s → wpAny (model P w) A (ofAClassStatement n v) Q E s
theorem NoClass.leaf {n : Nat} {s : Shared} {v : Value} (h : ofAClassStatement n v = pure false) : NoClass P w n s v := fun A E Q q => by
  rw [h]
  exact wpAny_pure q
theorem NoClass.tup {n : Nat} {s : Shared} {a : Addr} {o : Obj} {us : Array Value} {m : Nat} (g1 : s.heap.get? a = some o) (g2 : o.cls = .type "tuple") (g3 : o.data = .seq us m) (hu : ∀ u ∈ us.toList, NoClass P w n s u) : NoClass P w (n + 1) s (.ref a) := fun A E Q q => by
  unfold ofAClassStatement
  refine wpAny_bind (wpAny_typeOf ⟨o, g1, g2⟩ ?_)
  dsimp only
  have e : (("tuple" : String) == "tuple") = true := by decide
  rw [if_pos e]
  refine wpAny_bind (wpAny_pure ?_)
  rw [if_neg (by decide)]
  refine wpAny_bind (wpAny_seqItems g1 g3 ?_)
  dsimp only
  refine wpAny_bind ?_
  rw [← Array.forIn_toList]
  refine wpAny_forIn_list _ (fun left acc s' => acc.1 = none ∧ s' = s ∧ ∀ u ∈ left, NoClass P w n s u) _ ?_ ?_ _ _ ⟨rfl, rfl, hu⟩
  · rintro u left acc s' ⟨ha, rfl, hl⟩
    refine wpAny_bind (hl u List.mem_cons_self _ _ _ ?_)
    rw [if_neg (by decide)]
    exact wpAny_pure ⟨rfl, rfl, fun x hx => hl x (List.mem_cons_of_mem _ hx)⟩
  · rintro ⟨acc1, acc2⟩ s' ⟨ha, rfl, _⟩
    cases (show acc1 = none from ha)
    exact wpAny_pure q
mutual
theorem noClass_key : ∀ (k : NestedKey) (v : Value) (n : Nat) (s : Shared), NestedIs s.heap k v → k.depth ≤ n → NoClass P w n s v
  | .none, _, n, s, x, _ => by cases x; exact .leaf (by cases n <;> rfl)
  | .num i, _, n, s, x, _ => by cases x <;> exact .leaf (by cases n <;> rfl)
  | .text y, _, n, s, x, _ => by cases x; exact .leaf (by cases n <;> rfl)
  | .tup ks, _, n, s, x, hn => by
    cases x with
    | tup g1 g2 g3 g4 =>
      simp only [NestedKey.depth] at hn
      cases n with
      | zero => omega
      | succ n => exact .tup g1 g2 g3 (noClass_keys ks _ n s g4 (by omega))
theorem noClass_keys : ∀ (ks : List NestedKey) (vs : List Value) (n : Nat) (s : Shared), NestedAll s.heap ks vs → NestedKey.depthAll ks ≤ n → ∀ v ∈ vs, NoClass P w n s v
  | [], _, n, s, x, _, v, hv => by cases x; cases hv
  | k :: ks, _, n, s, x, hn, v, hv => by
    cases x with
    | cons x1 x2 =>
      simp only [NestedKey.depthAll] at hn
      rcases List.mem_cons.mp hv with rfl | hv
      · exact noClass_key k _ n s x1 (by omega)
      · exact noClass_keys ks _ n s x2 (by omega) v hv
end
/-- whether its hash is by value: some answer, and nothing else -/
def SomeHash (P : Program) (w : World) (n : Nat) (s : Shared) (v : Value) : Prop := ∀ (A : Around) (E : Value → Shared → Prop) (Q : Bool → Shared → Prop), (∀ b, Q b s) → wpAny (model P w) A (hashByValue n v) Q E s
theorem SomeHash.leaf {n : Nat} {s : Shared} {v : Value} (b : Bool) (h : hashByValue n v = pure b) : SomeHash P w n s v := fun A E Q q => by
  rw [h]
  exact wpAny_pure (q b)
theorem SomeHash.tup {n : Nat} {s : Shared} {a : Addr} {o : Obj} {us : Array Value} {m : Nat} (g1 : s.heap.get? a = some o) (g2 : o.cls = .type "tuple") (g3 : o.data = .seq us m) (hu : ∀ u ∈ us.toList, SomeHash P w n s u) : SomeHash P w (n + 1) s (.ref a) := fun A E Q q => by
  unfold hashByValue
  refine wpAny_bind (wpAny_specialOf ⟨o, g1, g2⟩ F.slot_tuple_hash.lookup ?_)
  show wpAny _ _ (seqItems? (.ref a) >>= _) _ _ s
  refine wpAny_bind (wpAny_seqItems g1 g3 ?_)
  refine wpAny_bind ?_
  show wpAny _ _ (forIn us _ _) _ _ s
  rw [← Array.forIn_toList]
  refine wpAny_forIn_list _ (fun left acc s' => acc.1 = none ∧ s' = s ∧ ∀ u ∈ left, SomeHash P w n s u) _ ?_ ?_ _ _ ⟨rfl, rfl, hu⟩
  · rintro u left acc s' ⟨ha, rfl, hl⟩
    refine wpAny_bind (hl u List.mem_cons_self _ _ _ fun b => ?_)
    cases b with
    | true =>
      rw [if_neg (by decide)]
      exact wpAny_pure ⟨rfl, rfl, fun x hx => hl x (List.mem_cons_of_mem _ hx)⟩
    | false =>
      rw [if_pos (by decide)]
      exact wpAny_pure (wpAny_pure (q _))
  · rintro ⟨acc1, acc2⟩ s' ⟨ha, rfl, _⟩
    cases (show acc1 = none from ha)
    exact wpAny_pure (q _)
mutual
theorem someHash_key : ∀ (k : NestedKey) (v : Value) (n : Nat) (s : Shared), NestedIs s.heap k v → k.depth ≤ n → SomeHash P w n s v
  | .none, _, n, s, x, _ => by cases x; exact .leaf true (by cases n <;> rfl)
  | .num i, _, n, s, x, _ => by cases x <;> exact .leaf true (by cases n <;> rfl)
  | .text y, _, n, s, x, _ => by cases x; exact .leaf false (by cases n <;> rfl)
  | .tup ks, _, n, s, x, hn => by
    cases x with
    | tup g1 g2 g3 g4 =>
      simp only [NestedKey.depth] at hn
      cases n with
      | zero => omega
      | succ n => exact .tup g1 g2 g3 (someHash_keys ks _ n s g4 (by omega))
theorem someHash_keys : ∀ (ks : List NestedKey) (vs : List Value) (n : Nat) (s : Shared), NestedAll s.heap ks vs → NestedKey.depthAll ks ≤ n → ∀ v ∈ vs, SomeHash P w n s v
  | [], _, n, s, x, _, v, hv => by cases x; cases hv
  | k :: ks, _, n, s, x, hn, v, hv => by
    cases x with
    | cons x1 x2 =>
      simp only [NestedKey.depthAll] at hn
      rcases List.mem_cons.mp hv with rfl | hv
      · exact someHash_key k _ n s x1 (by omega)
      · exact someHash_keys ks _ n s x2 (by omega) v hv
end
/-- a key of the heap that sets take: a nested tuple, not too deep -/
structure TupKey (h : Heap) (k : NestedKey) (a : Addr) : Prop where
  is : NestedIs h k (.ref a)
  deep : k.depth ≤ 8
theorem TupKey.cls {h : Heap} {k : NestedKey} {a : Addr} (x : TupKey h k a) : ∃ o us n, h.get? a = some o ∧ o.cls = .type "tuple" ∧ o.data = .seq us n := by
  cases x.is with
  | tup g1 g2 g3 _ => exact ⟨_, _, _, g1, g2, g3⟩
theorem TupKey.keep {h h' : Heap} {k : NestedKey} {a : Addr} (x : TupKey h k a) (ext : ∀ b o, h.get? b = some o → h'.get? b = some o) : TupKey h' k a := ⟨x.is.at (fun b o _ _ g _ => ext b o g) _ _, x.deep⟩
/-- no set's own object is read of a key -/
theorem TupKey.but {h h' : Heap} {k : NestedKey} {a b : Addr} {o : Obj} {es : Array (Int × Value)} {ep : Nat} {t : SetTable} (x : TupKey h k a) (g : h.get? b = some o) (d : o.data = .set es ep t) (sb : Heap.SameBut b h h') : TupKey h' k a :=
  ⟨NestedIs.at (fun c p us n gc dc => by
    refine (sb.2 c fun e => ?_).trans gc
    subst e
    cases (g.symm.trans gc)
    exact nomatch d.symm.trans dc) _ _ x.is, x.deep⟩
theorem TupKey.unseen {A : Around} {E : Value → Shared → Prop} {s : Shared} {Q : Bool → Shared → Prop} {k : NestedKey} {a : Addr} (x : TupKey s.heap k a) {ys : List Value} (hy : ∀ y ∈ ys, ∃ j b, y = Value.ref b ∧ TupKey s.heap j b) (q : Q false s) :
    wpAny (model P w) A (searchCouldBeSeen (.ref a) ys) Q E s := by
  unfold searchCouldBeSeen
  refine wpAny_bind ?_
  refine wpAny_forIn_list _ (fun left acc s' => acc.1 = none ∧ s' = s ∧ ∀ y ∈ left, ∃ j b, y = Value.ref b ∧ TupKey s.heap j b) _ ?_ ?_ _ _ ⟨rfl, rfl, hy⟩
  · rintro y left acc s' ⟨ha, rfl, hl⟩
    obtain ⟨j, b, rfl, xb⟩ := hl y List.mem_cons_self
    have more : ∀ y ∈ left, ∃ j b, y = Value.ref b ∧ TupKey s'.heap j b := fun u hu => hl u (List.mem_cons_of_mem _ hu)
    dsimp only
    split
    · exact wpAny_pure ⟨rfl, rfl, more⟩
    · refine wpAny_bind (quiet_key _ _ 8 _ x.is x.deep _ _ _ ?_)
      rw [if_neg (by decide)]
      refine wpAny_bind (quiet_key _ _ 8 _ xb.is xb.deep _ _ _ ?_)
      rw [if_neg (by decide)]
      refine wpAny_bind (noClass_key _ _ 8 _ x.is x.deep _ _ _ ?_)
      rw [if_neg (by decide)]
      refine wpAny_bind (noClass_key _ _ 8 _ xb.is xb.deep _ _ _ ?_)
      rw [if_neg (by decide)]
      exact wpAny_pure ⟨rfl, rfl, more⟩
  · rintro ⟨acc1, acc2⟩ s' ⟨ha, rfl, _⟩
    cases (show acc1 = none from ha)
    exact wpAny_pure q
end
end L2

set_option Elab.async false
set_option linter.all false
set_option maxRecDepth 100000
set_option maxHeartbeats 4000000
/-! sets of nested tuples: the search -/
namespace L2
open PySem PySem.SeqAt PySem.Spec PyProof.Rows
abbrev NRow := Addr × NestedKey
def hashesN (w : World) (L : List NRow) : List Int := L.map fun r => r.2.hash w
def nrows (w : World) (L : List NRow) : List (Int × Value) := L.map fun r => (r.2.hash w, Value.ref r.1)
/-- the set at a has these keys, in the sequence of its table -/
structure NSet (w : World) (h : Heap) (a : Addr) (L : List NRow) (es : Array (Int × Value)) (ep : Nat) (t : SetTable) : Prop where
  obj : ∃ o, h.get? a = some o ∧ o.ExactSet ∧ o.data = .set es ep t
  eqs : es.toList = nrows w L
  tok : TabOk t (hashesN w L)
  dif : (L.map Prod.snd).Nodup
  key : ∀ r ∈ L, TupKey h r.2 r.1
  led : w.params.followText "set-order" = true ∨ t.led = true
  gap : L.length * 5 < t.mask * 3
  small : L.length < 64
section
variable {P : Program} {w : World} {A : Around} {E : Value → Shared → Prop} {s : Shared} {a : Addr} {L : List NRow} {es : Array (Int × Value)} {ep : Nat} {t : SetTable}
theorem nrows_len (h : es.toList = nrows w L) : es.size = L.length := by
  have z := congrArg List.length h
  unfold nrows at z
  simpa using z
theorem NSet.size (N : NSet w s.heap a L es ep t) : es.size = L.length := nrows_len N.eqs
theorem NSet.place (N : NSet w s.heap a L es ep t) : t.place.size = L.length := by
  have z := N.tok.sz
  unfold hashesN at z
  simpa using z
theorem fits_of (h1 : t.place.size = es.size) (h2 : t.dummies = #[]) (h3 : es.size ≤ t.mask) : t.fits es.size = true := by
  unfold SetTable.fits SetTable.fill
  rw [h2, h1, Bool.and_eq_true]
  exact ⟨beq_self_eq_true _, decide_eq_true (by show es.size + 0 ≤ t.mask; omega)⟩
theorem NSet.fits (N : NSet w s.heap a L es ep t) : t.fits es.size = true := fits_of (by rw [N.place, N.size]) N.tok.dm (by have := N.gap; have := N.size; omega)
theorem row_at (h : es.toList = nrows w L) {i : Nat} {r : NRow} (e : L[i]? = some r) : es[i]? = some (r.2.hash w, Value.ref r.1) := by
  rw [← Array.getElem?_toList, h]
  unfold nrows
  rw [List.getElem?_map, e]
  first | rfl | done
theorem NSet.odd (N : NSet w s.heap a L es ep t) : ¬ t.gaveWay = true := by
  unfold SetTable.gaveWay
  rw [mask_odd N.tok.mok]
  decide
/-- the c-th step of the way of a hash -/
abbrev step (m : Nat) (h : Int) (c : Nat) : SetTable.Probe := nth m (runAt m (SetTable.bits h % (m + 1)) (SetTable.bits h)) c
theorem step_add (m : Nat) (h : Int) (c q : Nat) : nth m (step m h c) q = step m h (c + q) := (nth_add m c _ q).symm
theorem step_way (m : Nat) (h : Int) (c q : Nat) : (nth m (step m h c) q).j = way m h (c + q) := congrArg SetTable.Probe.j (step_add m h c q)
theorem step_dummy (m : Nat) : ∀ (c : Nat) (p : SetTable.Probe), p.dummy = none → (nth m p c).dummy = none
  | 0, _, e => e
  | c + 1, p, e => step_dummy m c (adv m p) (by unfold adv; split <;> exact e)
/-- from the c-th step of the way on: the key is there, or the first empty slot is found -/
theorem nsearch_from (N : NSet w s.heap a L es ep t) {x : Addr} {k : NestedKey} (kx : TupKey s.heap k x) (hu : A.units + 8 < cLine) {K : Nat} (hf : K < 10 * SetTable.turns t.mask)
    (hK : way t.mask (k.hash w) K ∉ t.place.toList) (hb : ∀ c, c < K → way t.mask (k.hash w) c ∈ t.place.toList) {Q : SetFound → Shared → Prop}
    (yes : k ∈ L.map Prod.snd → Q (.there none) s) (no : k ∉ L.map Prod.snd → Q (.free (way t.mask (k.hash w) K) false) s) :
    ∀ (f c : Nat) (from_ : Option SetTable.Probe), from_.getD (t.probeStart (k.hash w)) = step t.mask (k.hash w) c → c ≤ K → K - c < f →
      (∀ (i : Nat) r, L[i]? = some r → r.2 = k → ∃ d, c ≤ d ∧ d < K ∧ t.place.toList[i]? = some (way t.mask (k.hash w) d)) →
      wpAny (model P w) A (setSearchFrom a (.ref x) (k.hash w) true f from_) Q E s
  | 0, _, _, _, _, z, _ => absurd z (Nat.not_lt_zero _)
  | f + 1, c, from_, hst, hc, hz, hre => by
    obtain ⟨o, g, hex, hd⟩ := N.obj
    have places : t.place.toList.length = L.length := by rw [Array.length_toList]; exact N.place
    rw [setSearchFrom_succ]
    refine wpAny_bind (wpAny_setState_of g hd N.fits ?_)
    dsimp only
    rw [if_neg N.odd]
    try refine wpAny_bind (wpAny_pure ?_)
    generalize hhv : k.hash w = hv at *
    have hashOf : ∀ (i : Nat) r, L[i]? = some r → ((es[i]?.map (·.1)).getD 0) = r.2.hash w := fun i r e => by
      rw [row_at N.eqs e]
      first | rfl | done
    have cases2 := go_spec t N.tok.ris N.tok.dm (fun i => (es[i]?.map (·.1)).getD 0) hv (10 * SetTable.turns t.mask) (K - c) (step t.mask hv c) (step_dummy _ _ _ rfl) (by omega)
      (fun q hq => by rw [step_way]; exact hb (c + q) (by omega)) (by rw [step_way, show c + (K - c) = K by omega]; exact hK)
    rcases cases2 with ⟨q, i, hq, hi, hh, before, hp⟩ | ⟨before, hp⟩
    · rw [step_way] at hi hp
      rw [step_add] at hp
      have hp' : t.probe (fun i => (es[i]?.map (·.1)).getD 0) hv (from_.getD (t.probeStart hv)) = some (.candidate (way t.mask hv (c + q)) i (step t.mask hv (c + (q + 1)))) := by
        rw [hst]
        exact hp
      rw [hp']
      dsimp only
      obtain ⟨r, hr⟩ : ∃ r, L[i]? = some r := ⟨_, List.getElem?_eq_getElem (by have := (List.getElem?_eq_some_iff.mp hi).1; omega)⟩
      have mem : r ∈ L := List.mem_of_getElem? hr
      have kr := N.key r mem
      have after : wpAny (model P w) A (searchRest a (.ref x) hv true f es t (way t.mask hv (c + q)) i (step t.mask hv (c + (q + 1)))) Q E s := by
        unfold searchRest
        rw [row_at N.eqs hr]
        dsimp only
        refine wpAny_bind (wpAny_holding (eqAt_key _ _ A s _ _ kr.is kx.is (by have := kr.deep; omega) _ _ _ _ ?_))
        refine wpAny_bind (wpAny_setState_of g hd N.fits ?_)
        dsimp only
        by_cases same : r.2 = k
        · rw [if_pos (by rw [same, NestedKey.beq_self]; decide)]
          exact wpAny_pure (yes (List.mem_map.mpr ⟨r, mem, same⟩))
        · have nb : NestedKey.beq r.2 k = false := by
            rw [← NestedKey.decide_eq]
            exact decide_eq_false same
          rw [if_neg (by rw [nb]; decide)]
          try refine wpAny_bind (wpAny_pure ?_)
          rw [sameMem]
          dsimp only
          have sl : t.slot (way t.mask hv (c + q)) = .live i := slot_live N.tok.ris hi
          simp only [if_true, sl, row_at N.eqs hr]
          refine wpAny_bind (wpAny_isSame_ref_self (wpAny_bind (wpAny_pure ?_)))
          rw [if_pos rfl]
          dsimp only
          rw [nb, if_neg (by decide)]
          subst hhv
          refine nsearch_from N kx hu hf hK hb yes no f (c + (q + 1)) _ rfl (by omega) (by omega) fun j r' hj hk => ?_
          obtain ⟨d, d1, d2, d3⟩ := hre j r' hj hk
          refine ⟨d, ?_, d2, d3⟩
          rcases Nat.lt_trichotomy d (c + q) with z | z | z
          · exact absurd ((hashOf j r' hj).trans (by rw [hk])) (before (d - c) j (by omega) (by rw [step_way, show c + (d - c) = d by omega]; exact d3))
          · exfalso
            rw [z] at d3
            have sj := slot_live N.tok.ris d3
            rw [sl] at sj
            injection sj with sj
            rw [← sj, hr] at hj
            exact same ((congrArg Prod.snd (Option.some.inj hj)).trans hk)
          · omega
      cases hl : t.led with
      | true =>
        rw [if_neg (by decide)]
        try refine wpAny_bind (wpAny_pure ?_)
        exact after
      | false =>
        rw [if_pos (by decide)]
        refine wpAny_bind (kx.unseen (fun y hy => ?_) ?_)
        · obtain ⟨e, he, rfl⟩ := List.mem_map.mp hy
          have he : e ∈ es.toList := by
            have z : e ∈ es ∧ e.1 = hv := by simpa using he
            simpa using z.1
          rw [N.eqs] at he
          obtain ⟨r2, m2, rfl⟩ := List.mem_map.mp he
          exact ⟨_, _, rfl, N.key r2 m2⟩
        · rw [if_neg (by decide)]
          try refine wpAny_bind (wpAny_pure ?_)
          exact after
    · have hp' : t.probe (fun i => (es[i]?.map (·.1)).getD 0) hv (from_.getD (t.probeStart hv)) = some (.empty (way t.mask hv K) none) := by
        rw [hst]
        rw [step_way, show c + (K - c) = K by omega] at hp
        exact hp
      rw [hp']
      dsimp only
      refine wpAny_pure (no fun m => ?_)
      obtain ⟨r, mr, hk⟩ := List.mem_map.mp m
      obtain ⟨i, hi, e⟩ := List.getElem_of_mem mr
      have hr : L[i]? = some r := by rw [List.getElem?_eq_getElem hi, e]
      obtain ⟨d, d1, d2, d3⟩ := hre i r hr hk
      exact before (d - c) i (by omega) (by rw [step_way, show c + (d - c) = d by omega]; exact d3) ((hashOf i r hr).trans (by rw [hk, hhv]))
end
end L2

set_option Elab.async false
set_option linter.all false
set_option maxRecDepth 100000
set_option maxHeartbeats 4000000
/-! sets of nested tuples: adding -/
namespace L2
open PySem PySem.SeqAt PySem.Spec PyProof.Rows
section
variable {P : Program} {w : World} {A : Around} {E : Value → Shared → Prop} {s : Shared} {a : Addr} {L : List NRow} {es : Array (Int × Value)} {ep : Nat} {t : SetTable}
theorem nsearch (N : NSet w s.heap a L es ep t) {x : Addr} {k : NestedKey} (kx : TupKey s.heap k x) (hu : A.units + 8 < cLine) {Q : SetFound → Shared → Prop}
    (yes : k ∈ L.map Prod.snd → Q (.there none) s)
    (no : ∀ K, k ∉ L.map Prod.snd → way t.mask (k.hash w) K ∉ t.place.toList → (∀ c, c < K → way t.mask (k.hash w) c ∈ t.place.toList) → Q (.free (way t.mask (k.hash w) K) false) s) :
    wpAny (model P w) A (setSearch a (.ref x) (k.hash w) true) Q E s := by
  have hgap := N.gap
  obtain ⟨K, f1, f2, f3⟩ := N.tok.first (by unfold hashesN; rw [List.length_map]; omega) (k.hash w)
  have lim : K < 100000 := by
    have z : SetTable.turns t.mask ≤ 142 := by
      unfold SetTable.turns
      rcases N.tok.mok with e | e | e <;> omega
    omega
  unfold setSearch
  refine nsearch_from N kx hu f1 f2 f3 yes (fun m => no K m f2 f3) 100000 0 none rfl (Nat.zero_le _) (by omega) fun i r hr hk => ?_
  have h1 : (hashesN w L)[i]? = some (k.hash w) := by
    unfold hashesN
    rw [List.getElem?_map, hr, ← hk]
    first | rfl | done
  have h2 : i < t.place.toList.length := by
    rw [Array.length_toList, N.place]
    exact (List.getElem?_eq_some_iff.mp hr).1
  have h3 := List.getElem?_eq_getElem h2
  obtain ⟨d, d1, d2⟩ := N.tok.before f2 h1 h3
  exact ⟨d, Nat.zero_le _, d1, by rw [h3, d2]⟩
theorem nrows_put (L : List NRow) (p : Nat) (r : NRow) : nrows w (L.take p ++ r :: L.drop p) = (nrows w L).take p ++ (r.2.hash w, Value.ref r.1) :: (nrows w L).drop p := by
  unfold nrows
  rw [List.map_append, List.map_take, List.map_cons, List.map_drop]
theorem hashesN_put (L : List NRow) (p : Nat) (r : NRow) : hashesN w (L.take p ++ r :: L.drop p) = (hashesN w L).take p ++ r.2.hash w :: (hashesN w L).drop p := by
  unfold hashesN
  rw [List.map_append, List.map_take, List.map_cons, List.map_drop]
/-- rows taken by their numbers -/
theorem rows_taken (L : List NRow) (eqs : es.toList = nrows w L) : ∀ l : List Nat, (∀ i ∈ l, i < L.length) →
    l.filterMap (fun i => es[i]?) = nrows w (l.filterMap fun i => L[i]?) ∧ hashesN w (l.filterMap fun i => L[i]?) = l.map fun i => (es.map (·.1)).getD i 0
  | [], _ => ⟨rfl, rfl⟩
  | i :: l, hl => by
    obtain ⟨r, hi⟩ : ∃ r, L[i]? = some r := ⟨_, List.getElem?_eq_getElem (hl i List.mem_cons_self)⟩
    obtain ⟨h1, h2⟩ := rows_taken L eqs l fun j hj => hl j (List.mem_cons_of_mem _ hj)
    have he := row_at eqs hi
    have hg : (es.map (·.1)).getD i 0 = r.2.hash w := by
      have z : (es.map (·.1))[i]? = some (r.2.hash w) := by
        rw [Array.getElem?_map, he]
        first | rfl | done
      simp [Array.getD_eq_getD_getElem?, z]
    rw [List.filterMap_cons_some he, List.filterMap_cons_some hi, h1, List.map_cons, hg]
    refine ⟨rfl, ?_⟩
    rw [← h2]
    first | rfl | done
theorem all_taken (L : List NRow) : (List.range L.length).filterMap (fun i => L[i]?) = L := by
  have key : ∀ n, n ≤ L.length → (List.range n).filterMap (fun i => L[i]?) = L.take n := by
    intro n
    induction n with
    | zero => exact fun _ => rfl
    | succ n ih =>
      intro hn
      rw [List.range_succ, List.filterMap_append, ih (by omega), List.take_succ, List.getElem?_eq_getElem hn]
      refine congrArg _ ?_
      rw [List.filterMap_cons_some (List.getElem?_eq_getElem hn)]
      first | rfl | done
  rw [key _ (Nat.le_refl _), List.take_length]
/-- laid anew in a larger table -/
theorem nrelay {o : Obj} (g : s.heap.get? a = some o) (hex : o.ExactSet) (hd : o.data = .set es ep t) (eqs : es.toList = nrows w L) (hpl : t.place.size = es.size) (hdm : t.dummies = #[]) (hmk : es.size ≤ t.mask)
    (dif : (L.map Prod.snd).Nodup) (key : ∀ r ∈ L, TupKey s.heap r.2 r.1) (led : w.params.followText "set-order" = true ∨ t.led = true) (small : L.length < 64) {want M : Nat}
    (hw : SetTable.sizeAbove want - 1 = M) (hM : MaskOk M) (hw2 : SetTable.sizeAbove want ≤ 128) (gap : L.length * 5 < M * 3) {Q : Unit → Shared → Prop}
    (q : ∀ h' L' es' ep' t', Heap.SameBut a s.heap h' → NSet w h' a L' es' ep' t' → L'.Perm L → Q () { s with heap := h' }) : wpAny (model P w) A (setRelay a want) Q E s := by
  have hn := nrows_len eqs
  obtain ⟨t', order, e1, e2, e3, e4, e5, _, e7⟩ := relaid_ok t (hs := es.map (·.1)) hw hM (by rw [Array.size_map]; omega)
  rw [Array.size_map, hn] at e2
  obtain ⟨r1, r2⟩ := rows_taken L eqs order.toList fun i hi => List.mem_range.mp (e2.mem_iff.mp hi)
  rw [← r2] at e3
  have pm : (order.toList.filterMap fun i => L[i]?).Perm L := by
    have z := e2.filterMap fun i => L[i]?
    rw [all_taken] at z
    exact z
  have r3 : (order.filterMap (es[·]?)).toList = nrows w (order.toList.filterMap fun i => L[i]?) := by
    rw [← r1]
    first
      | exact Array.toList_filterMap
      | simp
  generalize hL2 : (order.toList.filterMap fun i => L[i]?) = L2 at *
  generalize hes2 : order.filterMap (es[·]?) = es2 at *
  have hn2 : es2.size = es.size := by rw [nrows_len r3, pm.length_eq, hn]
  rw [setRelay_eq]
  refine wpAny_bind (wpAny_setState_of g hd (fits_of hpl hdm hmk) ?_)
  dsimp only
  rw [if_neg (by rw [sizeLine_eq]; omega)]
  try refine wpAny_bind (wpAny_pure ?_)
  rw [e1]
  dsimp only
  refine wpAny_bind ?_
  rw [hes2, if_neg (by rw [hn2]; simp)]
  try refine wpAny_bind (wpAny_pure ?_)
  refine wpAny_pure ?_
  dsimp only
  refine wpAny_storeSet_of g hd ?_ (by rw [hn2, hn, sizeLine_eq]; omega)
  have sb : Heap.SameBut a s.heap (s.heap.update a (Obj.putSet es2 t')) := Heap.SameBut.update ..
  refine q _ L2 es2 (ep + 1) t' sb ⟨⟨_, store_at g hd, ⟨hex.1, hex.2.1, hex.2.2⟩, rfl⟩, r3, e3, (pm.map Prod.snd).nodup_iff.mpr dif, fun r m => (key r (pm.mem_iff.mp m)).but g hd sb, by rw [e5]; exact led, ?_, by rw [pm.length_eq]; exact small⟩ pm
  rw [pm.length_eq, e4]
  exact gap
theorem tab_plain {hs : List Int} (T : TabOk t hs) (b : Bool) : TabOk (if b = true then t else { t with plain := false }) hs ∧ (if b = true then t else { t with plain := false }).mask = t.mask ∧ (if b = true then t else { t with plain := false }).led = t.led ∧
    (if b = true then t else { t with plain := false }).fill = t.fill := by
  cases b with
  | true => exact ⟨T, rfl, rfl, rfl⟩
  | false => exact ⟨⟨T.ris, T.dm, T.sz, T.mok, T.bd, T.reach⟩, rfl, rfl, rfl⟩
/-- one key is added -/
theorem nadd (N : NSet w s.heap a L es ep t) {x : Addr} {k : NestedKey} (kx : TupKey s.heap k x) (hu : A.units + 8 < cLine) (few : L.length + 1 < 64) {Q : Bool → Shared → Prop}
    (q : ∀ b h' L' es' ep' t', Heap.SameBut a s.heap h' → NSet w h' a L' es' ep' t' → (k ∈ L.map Prod.snd → L' = L) → (k ∉ L.map Prod.snd → L'.Perm ((x, k) :: L)) → Q b { s with heap := h' }) :
    wpAny (model P w) A (setAddHashed a (.ref x) (k.hash w)) Q E s := by
  obtain ⟨o, g, hex, hd⟩ := N.obj
  have hn := N.size
  have hgap := N.gap
  unfold setAddHashed
  refine wpAny_holding ?_
  rw [show (100000 : Nat) = Nat.succ 99999 from rfl, setAddHashedIn_succ]
  refine wpAny_bind (wpAny_setState_of g hd N.fits ?_)
  dsimp only
  rw [if_neg (by simp [byScan, Value.scannable])]
  try refine wpAny_bind (wpAny_pure ?_)
  refine wpAny_bind (nsearch N kx hu (fun m => ?_) fun K m hK hb => ?_)
  · dsimp only
    exact wpAny_pure (q false s.heap L es ep t (Heap.SameBut.refl a s.heap) N (fun _ => rfl) fun z => absurd m z)
  · dsimp only
    refine wpAny_bind (wpAny_setState_of g hd N.fits ?_)
    dsimp only
    obtain ⟨q1, q2, q3, q4, q5, q6, q7, q8, q9⟩ := N.tok.put hK hb
    generalize hpt : t.put (way t.mask (k.hash w) K) = pt at *
    obtain ⟨t1, p⟩ := pt
    dsimp only at q1 q3 q4 q5 q9 ⊢
    subst q1
    have some_ : ∀ (f : Bool → Sem Bool), (∀ b, wpAny (model P w) A (f b) Q E s) → wpAny (model P w) A (if t1.plain = true then hashByValue 8 (.ref x) >>= f else pure true >>= f) Q E s := fun f hr => by
      by_cases hp : t1.plain = true
      · rw [if_pos hp]
        exact wpAny_bind (someHash_key _ _ 8 _ kx.is kx.deep _ _ _ hr)
      · rw [if_neg hp]
        exact wpAny_bind (wpAny_pure (hr true))
    refine some_ _ fun b => ?_
    obtain ⟨T2, m2, l2, f2⟩ := tab_plain q3 b
    generalize (if b = true then t1 else { t1 with plain := false }) = t2 at T2 m2 l2 f2 ⊢
    rw [← hashesN_put L _ (x, k)] at T2
    have he : (SetTable.insertAt es (SetTable.below t.place (way t.mask (k.hash w) K)) (k.hash w, Value.ref x)).toList = nrows w (L.take (SetTable.below t.place (way t.mask (k.hash w) K)) ++ (x, k) :: L.drop (SetTable.below t.place (way t.mask (k.hash w) K))) := by
      rw [SetTable.toList_insertAt, nrows_put, N.eqs]
    have pm := put_perm L (SetTable.below t.place (way t.mask (k.hash w) K)) (x, k)
    generalize SetTable.insertAt es (SetTable.below t.place (way t.mask (k.hash w) K)) (k.hash w, Value.ref x) = es1 at he ⊢
    generalize L.take (SetTable.below t.place (way t.mask (k.hash w) K)) ++ (x, k) :: L.drop (SetTable.below t.place (way t.mask (k.hash w) K)) = L1 at pm he T2
    have n1 : L1.length = L.length + 1 := pm.length_eq
    have n2 : es1.size = L.length + 1 := by rw [nrows_len he, n1]
    have nd : (L1.map Prod.snd).Nodup := by
      rw [(pm.map Prod.snd).nodup_iff, List.map_cons, List.nodup_cons]
      exact ⟨m, N.dif⟩
    have pl2 : t2.place.size = es1.size := by
      have z := T2.sz
      unfold hashesN at z
      rw [z, List.length_map, n1, n2]
    rw [hn]
    refine wpAny_bind (wpAny_storeSet_of g hd ?_ (by rw [n2, sizeLine_eq]; omega))
    have sb : Heap.SameBut a s.heap (s.heap.update a (Obj.putSet es1 t2)) := Heap.SameBut.update ..
    have g1 := store_at (es' := es1) (t' := t2) g hd
    generalize s.heap.update a (Obj.putSet es1 t2) = h1 at sb g1 ⊢
    have key1 : ∀ r ∈ L1, TupKey h1 r.2 r.1 := fun r hr => by
      rcases List.mem_cons.mp (pm.mem_iff.mp hr) with rfl | hr
      · exact kx.but g hd sb
      · exact (N.key r hr).but g hd sb
    have led1 : w.params.followText "set-order" = true ∨ t2.led = true := by
      rw [l2, q5]
      exact N.led
    have full : t2.tooFull = decide ((L.length + 1) * 5 ≥ t.mask * 3) := by
      unfold SetTable.tooFull
      rw [f2, q9, m2, q4]
      unfold hashesN
      rw [List.length_map]
    by_cases hf : (L.length + 1) * 5 ≥ t.mask * 3
    · rw [full, decide_eq_true hf]
      have two : (t.mask = 7 ∧ L.length = 4) ∨ (t.mask = 31 ∧ L.length = 18) := by
        rcases N.tok.mok with e | e | e
        · exact .inl ⟨e, by omega⟩
        · exact .inr ⟨e, by omega⟩
        · omega
      have grow : ∀ M, SetTable.sizeAbove (SetTable.grown (L.length + 1)) - 1 = M → MaskOk M → SetTable.sizeAbove (SetTable.grown (L.length + 1)) ≤ 128 → (L.length + 1) * 5 < M * 3 →
          wpAny (model P w) A (setRelay a (SetTable.grown (L.length + 1))) (fun _ s' => wpAny (model P w) A (pure true) Q E s') E { s with heap := h1 } := fun M h1' h2' h3' h4' => by
        refine nrelay (s := { s with heap := h1 }) g1 ⟨hex.1, hex.2.1, hex.2.2⟩ rfl he pl2 T2.dm (by rw [n2, m2, q4]; omega) nd key1 led1 (by rw [n1]; exact few) h1' h2' h3' (by rw [n1]; exact h4') ?_
        exact fun h2 L2 es2 ep2 t3 sb2 N2 pm2 => wpAny_pure (q true h2 L2 es2 ep2 t3 (sb.trans sb2) N2 (fun z => absurd z m) fun _ => pm2.trans pm)
      have go : wpAny (model P w) A (setRelay a (SetTable.grown (L.length + 1))) (fun _ s' => wpAny (model P w) A (pure true) Q E s') E { s with heap := h1 } := by
        rcases two with ⟨_, e⟩ | ⟨_, e⟩
        · exact grow 31 (by rw [e, size_20]) (.inr (.inl rfl)) (by rw [e, size_20]; decide) (by omega)
        · exact grow 127 (by rw [e, size_76]) (.inr (.inr rfl)) (by rw [e, size_76]; decide) (by omega)
      first
        | (refine wpAny_bind ?_; rw [if_pos (by decide)]; exact go)
        | (rw [if_pos (by decide)]; exact wpAny_bind go)
    · rw [full, decide_eq_false hf]
      have N1 : NSet w h1 a L1 es1 (ep + 1) t2 := ⟨⟨_, g1, ⟨hex.1, hex.2.1, hex.2.2⟩, rfl⟩, he, T2, nd, key1, led1, by rw [n1, m2, q4]; omega, by rw [n1]; exact few⟩
      have fin : wpAny (model P w) A (pure true) Q E { s with heap := h1 } := wpAny_pure (q true h1 L1 es1 (ep + 1) t2 sb N1 (fun z => absurd z m) fun _ => pm)
      first
        | (refine wpAny_bind ?_; rw [if_neg (by decide)]; exact wpAny_pure fin)
        | (rw [if_neg (by decide)]; exact fin)
end
end L2

set_option Elab.async false
set_option linter.all false
set_option maxRecDepth 100000
set_option maxHeartbeats 4000000
/-! sets of nested tuples: set(list) -/
namespace L2
open PySem PySem.SeqAt PySem.Spec PyProof.Rows
/-- what a set has got of the first i of these rows -/
structure NGot (ks : List NRow) (i : Nat) (L : List NRow) : Prop where
  only : ∀ r ∈ L, r ∈ ks.take i
  every : ∀ r ∈ ks.take i, r.2 ∈ L.map Prod.snd
  most : L.length ≤ i
theorem NGot.none_ (ks : List NRow) : NGot ks 0 [] := ⟨fun r h => absurd h (by simp), fun r h => absurd h (by simp), Nat.le_refl _⟩
theorem NGot.next {ks L L' : List NRow} {i : Nat} {x : NRow} (g : NGot ks i L) (e : ks[i]? = some x) (h1 : x.2 ∈ L.map Prod.snd → L' = L) (h2 : x.2 ∉ L.map Prod.snd → L'.Perm (x :: L)) : NGot ks (i + 1) L' := by
  have tk := take_next e
  rcases Classical.em (x.2 ∈ L.map Prod.snd) with c | c
  · cases h1 c
    refine ⟨fun r hr => ?_, fun r hr => ?_, Nat.le_succ_of_le g.most⟩
    · rw [tk]
      exact List.mem_append_left _ (g.only r hr)
    · rw [tk] at hr
      rcases List.mem_append.mp hr with z | z
      · exact g.every r z
      · cases List.mem_singleton.mp z
        exact c
  · have pm := h2 c
    refine ⟨fun r hr => ?_, fun r hr => ?_, by rw [pm.length_eq, List.length_cons]; exact Nat.succ_le_succ g.most⟩
    · rw [tk]
      rcases List.mem_cons.mp (pm.mem_iff.mp hr) with rfl | z
      · exact List.mem_append_right _ List.mem_cons_self
      · exact List.mem_append_left _ (g.only r z)
    · rw [(pm.map Prod.snd).mem_iff, List.map_cons]
      rw [tk] at hr
      rcases List.mem_append.mp hr with z | z
      · exact List.mem_cons_of_mem _ (g.every r z)
      · cases List.mem_singleton.mp z
        exact List.mem_cons_self
section
variable {P : Program} {w : World} {A : Around} {E : Value → Shared → Prop} {s : Shared}
/-- a set that was just made -/
abbrev newSetObj (w : World) : Obj := { cls := .type "set", dict := none, data := .set #[] 0 (.fresh 0 0 (!w.params.followText "set-order")) }
theorem nset_new {h : Heap} {a : Addr} (g : h.get? a = some (newSetObj w)) : NSet w h a [] #[] 0 (.fresh 0 0 (!w.params.followText "set-order")) where
  obj := ⟨_, g, ⟨rfl, rfl, rfl⟩, rfl⟩
  eqs := rfl
  tok := ⟨List.Pairwise.nil, rfl, rfl, .inl rfl, fun x hx => absurd hx (by first | exact List.not_mem_nil | simp), fun i h j hi => absurd hi (by simp [hashesN])⟩
  dif := List.nodup_nil
  key := fun r hr => absurd hr (by simp)
  led := by
    cases z : w.params.followText "set-order"
    · exact .inr rfl
    · exact .inl rfl
  gap := by show 0 < 7 * 3; decide
  small := by decide
theorem NSet.keep {h h' : Heap} {a : Addr} {L : List NRow} {es : Array (Int × Value)} {ep : Nat} {t : SetTable} (N : NSet w h a L es ep t) (ha : ∀ o, h.get? a = some o → h'.get? a = some o) (hk : ∀ r ∈ L, TupKey h' r.2 r.1) : NSet w h' a L es ep t := by
  obtain ⟨o, g, z⟩ := N.obj
  exact ⟨⟨o, ha o g, z⟩, N.eqs, N.tok, N.dif, hk, N.led, N.gap, N.small⟩
/-- the loop of set.update -/
theorem nupdate {I : Addr} {fp wr : List Addr} {G : Array GenState → Array GenState → Prop} {n : Nat} {Pv : Nat → Value → Prop} {St : Nat → Shared → Prop} {R : Result → Shared → Prop}
    (W : WalksS P w A.in1 I fp wr G n Pv St) (S : Addr) (hS : S ∉ fp) (ks : List NRow) (hn : n = ks.length) (few : ks.length < 64) (val : ∀ i v, Pv i v → ∃ r, ks[i]? = some r ∧ v = .ref r.1)
    (h0 : Heap) (hk : ∀ r ∈ ks, TupKey h0 r.2 r.1) (hS0 : h0.get? S = none) (hw0 : ∀ b ∈ wr, h0.get? b = none) (hu : A.in1.units + 8 < cLine) :
    ∀ (d i : Nat) (s : Shared), n - i = d → i ≤ n → St i s → (∀ b o, h0.get? b = some o → s.heap.get? b = some o) → (∃ L es ep t, NSet w s.heap S L es ep t ∧ NGot ks i L) →
      (∀ s' L es ep t, Moved (S :: wr) G s s' → NSet w s'.heap S L es ep t → NGot ks n L → (∀ b o, h0.get? b = some o → s'.heap.get? b = some o) → R (.ok (.ret .none)) s') →
      codeAny (model P w) A (.builtin "set.update.loop" ⟨[.ref S, .ref I], []⟩) R s := by
  have out : S ∉ wr := fun z => hS (W.sub _ z)
  have up : ∀ b ∈ wr, b ∈ S :: wr := fun b z => List.mem_cons_of_mem _ z
  have moved : ∀ {s s' : Shared}, Moved wr G s s' → (∀ b o, h0.get? b = some o → s.heap.get? b = some o) → ∀ b o, h0.get? b = some o → s'.heap.get? b = some o := fun m ext b o e =>
    m.heap b o (fun z => nomatch (hw0 b z).symm.trans e) (ext b o e)
  intro d
  induction d with
  | zero =>
    intro i s hd hi st ext ⟨L, es, ep, t, N, g⟩ hR
    obtain rfl : i = n := by omega
    refine codeAny_builtin F.entry_set_update_loop ?_
    rw [Around.under_plainId F.plain_set_update_loop _]
    show wpAny _ A.in1 (pyNext (.ref I) >>= _) _ _ s
    refine wpAny_bind (W.done s _ _ st fun s' m => ?_)
    show wpAny _ A.in1 (ret Value.none) _ _ s'
    have ext' := moved m ext
    exact wpAny_pure (hR s' L es ep t (m.mono up) (N.keep (fun o e => m.heap S o out e) fun r hr => (hk r (List.mem_of_mem_take (g.only r hr))).keep ext') g ext')
  | succ d ih =>
    intro i s hd hi st ext ⟨L, es, ep, t, N, g⟩ hR
    have lt : i < n := by omega
    refine codeAny_builtin F.entry_set_update_loop ?_
    rw [Around.under_plainId F.plain_set_update_loop _]
    show wpAny _ A.in1 (pyNext (.ref I) >>= _) _ _ s
    refine wpAny_bind (W.item i s _ _ lt st fun v s' hv st' m => ?_)
    obtain ⟨r, hr, rfl⟩ := val i v hv
    have ext' := moved m ext
    have N' : NSet w s'.heap S L es ep t := N.keep (fun o e => m.heap S o out e) fun q hq => (hk q (List.mem_of_mem_take (g.only q hq))).keep ext'
    have kr : TupKey s'.heap r.2 r.1 := (hk r (List.mem_of_getElem? hr)).keep ext'
    show wpAny _ A.in1 (holding [Value.ref r.1] (setAdd S (.ref r.1)) >>= _) _ _ s'
    refine wpAny_bind (wpAny_holding ?_)
    unfold setAdd
    refine wpAny_holding ?_
    refine wpAny_bind (pyHash_key _ _ _ _ _ kr.is (by have := kr.deep; omega) ?_)
    refine nadd (s := { s' with toks := s'.toks + r.2.draws }) N' kr hu (by have := g.most; omega) fun b h' L' es' ep' t' sb N2 c1 c2 => ?_
    have g' : NGot ks (i + 1) L' := g.next hr c1 c2
    have ext2 : ∀ b o, h0.get? b = some o → h'.get? b = some o := fun b o e => (sb.2 b (fun z => by rw [z, hS0] at e; exact nomatch e)).trans (ext' b o e)
    refine wpAny_pure ⟨plainId_quiet F.plain_set_update_loop _, ih (i + 1) _ (by omega) lt (W.frame _ s' _ _ st' (Nat.le_add_right _ _) fun b hb o e => ?_) ext2 ⟨L', es', ep', t', N2, g'⟩ fun s2 L2 es2 ep2 t2 m2 N3 g3 ext3 => ?_⟩
    · rw [sb.2 b (fun z => hS (z ▸ hb))]
      exact e
    · refine hR s2 L2 es2 ep2 t2 (Moved.trans W.gtrans ((m.mono up).then_heap (Nat.le_add_right _ _) fun b o hb e => ?_) m2) N3 g3 ext3
      rw [sb.2 b (fun z => hb (z ▸ List.mem_cons_self))]
      exact e
end
end L2

set_option Elab.async false
set_option linter.all false
set_option maxRecDepth 100000
set_option maxHeartbeats 4000000
/-! sets of nested tuples: the call set(list) -/
namespace L2
open PySem PySem.SeqAt PySem.Spec PyProof.Rows
section
variable {P : Program} {w : World} {A : Around} {E : Value → Shared → Prop} {s : Shared}
theorem absent_of {h : Heap} {b : Addr} (z : h.objs.size ≤ b) : h.get? b = none := by
  cases q : h.get? b with
  | none => rfl
  | some o => exact absurd (Nat.lt_of_lt_of_le (Heap.lt_size q) z) (Nat.lt_irrefl _)
/-- what a call of set leaves behind -/
def NMade (w : World) (s : Shared) (ks : List NRow) (s' : Shared) : Prop := ∃ h' tk L es ep t, s' = { s with heap := h', toks := tk } ∧ NSet w h' s.heap.objs.size L es ep t ∧ NGot ks ks.length L ∧ ∀ b o, s.heap.get? b = some o → h'.get? b = some o
theorem nset_call {l : Addr} {us : Array Value} (ks : List NRow) {Q : Value → Shared → Prop} (hh : A.handled = none) (hl : s.heap.IsList l us) (hit : us.toList = ks.map fun r => Value.ref r.1)
    (hk : ∀ r ∈ ks, TupKey s.heap r.2 r.1) (few : ks.length < 64) (hu : A.units + 16 < cLine) (q : ∀ s', NMade w s ks s' → Q (.ref s.heap.objs.size) s') :
    wpAny (model P w) A (call (.type "set") [.ref l]) Q E s := by
  have n0 : us.size = ks.length := by
    have z := congrArg List.length hit
    simpa using z
  obtain ⟨c, tl, mro⟩ := F.called_set.mro
  have made_ := F.called_set.made
  have sub_ := F.called_set.sub
  refine wpAny_call (codeAny_of_tree ?_)
  show wpAny _ _ (callAny (.type "set") _) _ _ _
  refine wpAny_pure ⟨Code.quiet_builtin _ (by decide +kernel), codeAny_builtin F.entry_type_call ?_⟩
  rw [Around.under_plain (weight_type_call_type "set" [.ref l] []) rfl]
  have isn := F.called_set.notType
  have can := F.called_set.canCreate
  have fit := F.typeCall_set_1 (.ref l)
  repeat (any_goals (first | assumption | wp_step))
  refine codeAny_mono (code_set_led1 (.ref l) (E := E) (Q₁ := fun obj s₁ => obj = .ref s.heap.objs.size ∧ s₁ = { s with heap := s.heap.push (newSetObj w) }) ⟨rfl, rfl⟩) fun r s₁ hr => ?_
  cases r with
  | error e => exact hr
  | ok fl =>
    cases fl with
    | ret obj =>
      obtain ⟨rfl, rfl⟩ := hr
      have gS : (s.heap.push (newSetObj w)).get? s.heap.objs.size = some (newSetObj w) := Heap.get?_push_size _ rfl
      have tS : Shared.TypeIs { s with heap := s.heap.push (newSetObj w) } (.ref s.heap.objs.size) "set" := ⟨_, gS, rfl⟩
      have look := F.called_set.init.lookup
      have bind_ := F.called_set.init.bind (.ref s.heap.objs.size)
      repeat (any_goals (first | assumption | wp_step))
      refine codeAny_mono (codeAny_call_builtin (R := wants (fun r s₂ => r = .none ∧ NMade w s ks s₂) E) F.called_set.init.plain F.entry_set_init (check_set_init_1 tS ?_)) fun r₂ s₂ hr₂ => ?_
      · obtain ⟨⟨kl, dl, tl', sl⟩, gl, rfl, nl, rfl⟩ := hl
        have gl' : (s.heap.push (newSetObj w)).get? l = some { cls := .type "list", dict := dl, data := .seq us nl, slots := sl } := Heap.get?_push_of_some _ gl
        have sub1 := F.sub_list_set
        have sub2 := F.sub_list_frozenset
        have nd : (Value.type "list" == Value.type "dict") = false := by decide
        have L1 : (s.heap.push (newSetObj w)).IsList l us := ⟨_, gl', rfl, nl, rfl⟩
        unfold Builtin.«set.__init__» noKeywords Builtin.Frozenset.updateFrom
        generalize hit_ : pyIter = IT
        wp_walk
        subst hit_
        refine wpAny_pyIter_list L1 ?_
        refine wpAny_bind (wpAny_runValue ?_)
        have ll : l < s.heap.objs.size := Heap.lt_size gl
        have sz1 : (s.heap.push (newSetObj w)).objs.size = s.heap.objs.size + 1 := Heap.size_push ..
        have ne1 : l ≠ (s.heap.push (newSetObj w)).objs.size := by
          rw [sz1]
          exact Nat.ne_of_lt (Nat.lt_succ_of_lt ll)
        have out : s.heap.objs.size ∉ [(s.heap.push (newSetObj w)).objs.size, l] := by
          rw [sz1]
          intro z
          rcases List.mem_cons.mp z with z | z
          · exact absurd z (Nat.ne_of_lt (Nat.lt_succ_self _))
          · exact absurd (List.mem_singleton.mp z) (Nat.ne_of_gt ll)
        have val : ∀ (i : Nat) (v : Value), us[i]? = some v → ∃ r, ks[i]? = some r ∧ v = .ref r.1 := fun i v hv => by
          rw [← Array.getElem?_toList, hit, List.getElem?_map] at hv
          obtain ⟨r, hr, e⟩ := Option.map_eq_some_iff.mp hv
          exact ⟨r, hr, e.symm⟩
        have W0 := (Walks.list (prog := P) (w := w) (A := A.in1.in1.in1) (show A.in1.in1.in1.handled = none by simp [hh]) (s.heap.push (newSetObj w)).objs.size l ne1 us).toS
        refine nupdate W0 s.heap.objs.size out ks n0 few val s.heap hk (absent_of (Nat.le_refl _)) (fun b hb => absent_of (by
            rw [List.mem_singleton.mp hb, sz1]
            exact Nat.le_succ _)) (by simp only [Around.in1_units]; omega) (us.size - 0) 0 _ (by omega) (Nat.zero_le _)
          ⟨⟨_, Heap.get?_push_size _ rfl, rfl, rfl⟩, L1.push _⟩ (fun b o e => Heap.get?_push_of_some _ (Heap.get?_push_of_some _ e)) ?first ?last
        case first => exact ⟨[], #[], 0, _, nset_new (Heap.get?_push_of_some _ gS), NGot.none_ ks⟩
        case last =>
          intro s' L es ep t m N g ext
          obtain ⟨h', gn, dr, tk', os'⟩ := s'
          cases (show gn = s.gens from m.gens)
          cases (show dr = s.drawn from m.drawn)
          cases (show os' = s.os from m.os)
          show wpAny _ _ _ _ _ _
          refine wpAny_pure ?_
          show wpAny _ _ (ret Value.none) _ _ _
          rw [n0] at g
          exact wpAny_pure ⟨rfl, h', tk', L, es, ep, t, rfl, N, g, ext⟩
      · cases r₂ with
        | error e => exact hr₂
        | ok fl₂ =>
          cases fl₂ with
          | ret r =>
            obtain ⟨rfl, hm⟩ := hr₂
            have hm' := hm
            obtain ⟨h', tk, L, es, ep, t, rfl, N, g, ext⟩ := hm
            repeat (any_goals (first | assumption | wp_step))
            exact q _ hm'
          | _ => exact hr₂.elim
    | _ => exact hr.elim
end
end L2

set_option Elab.async false
set_option linter.all false
set_option maxRecDepth 100000
set_option maxHeartbeats 4000000
/-! data that sets take, and their order -/
namespace L2
open PySem PySem.W PySem.SeqAt PySem.Spec PyProof.Rows
mutual
def nkey : PyData → NestedKey
  | .none => .none
  | .bool b => .num (if b = true then 1 else 0)
  | .int i => .num i
  | .str x => .text x
  | .tuple ds => .tup (nkeys ds)
  | .list _ => .none
  | .dict _ => .none
def nkeys : List PyData → List NestedKey
  | [] => []
  | d :: ds => nkey d :: nkeys ds
end
mutual
/-- neither a list nor a dict, nor one within -/
def keyable : PyData → Bool
  | .list _ => false
  | .dict _ => false
  | .tuple ds => keyables ds
  | _ => true
def keyables : List PyData → Bool
  | [] => true
  | d :: ds => keyable d && keyables ds
end
mutual
theorem nkey_depth : ∀ d : PyData, keyable d = true → (nkey d).depth = d.depth
  | .none, _ => rfl
  | .bool _, _ => rfl
  | .int _, _ => rfl
  | .str _, _ => rfl
  | .tuple ds, k => by
    have z := nkeys_depth ds (by simpa [keyable] using k)
    simp only [nkey, NestedKey.depth, PyData.depth, z]
  | .list _, k => by simp [keyable] at k
  | .dict _, k => by simp [keyable] at k
theorem nkeys_depth : ∀ ds : List PyData, keyables ds = true → NestedKey.depthAll (nkeys ds) = PyData.depthAll ds
  | [], _ => rfl
  | d :: ds, k => by
    rw [keyables, Bool.and_eq_true] at k
    simp only [nkeys, NestedKey.depthAll, PyData.depthAll, nkey_depth d k.1, nkeys_depth ds k.2]
end
mutual
theorem nkey_is {h : Heap} : ∀ (d : PyData) (v : Value) (as : List Addr), keyable d = true → Reads h v d as → NestedIs h (nkey d) v
  | .none, _, _, _, r => by cases r; exact .none
  | .bool b, _, _, _, r => by cases r; exact .bool rfl
  | .int i, _, _, _, r => by cases r; exact .int _ _
  | .str x, _, _, _, r => by cases r; exact .text _ _
  | .tuple ds, _, _, k, r => by
    cases r with
    | tuple g1 g2 g3 g4 => exact .tup g1 g2 g3 (nkeys_is ds _ _ (by simpa [keyable] using k) g4)
  | .list _, _, _, k, _ => by simp [keyable] at k
  | .dict _, _, _, k, _ => by simp [keyable] at k
theorem nkeys_is {h : Heap} : ∀ (ds : List PyData) (vs : List Value) (as : List Addr), keyables ds = true → ReadsAll h vs ds as → NestedAll h (nkeys ds) vs
  | [], _, _, _, r => by cases r; exact .nil
  | d :: ds, _, _, k, r => by
    rw [keyables, Bool.and_eq_true] at k
    cases r with
    | cons r1 r2 => exact .cons (nkey_is d _ _ k.1 r1) (nkeys_is ds _ _ k.2 r2)
end
mutual
theorem nkey_inj : ∀ d e : PyData, keyable d = true → keyable e = true → alike d e = true → nkey d = nkey e → d = e
  | .none, e, _, _, a, _ => by cases e <;> first | rfl | simp [alike] at a
  | .bool b, e, _, _, a, q => by
    cases e with
    | bool c =>
      simp only [nkey] at q
      injection q with q
      cases b <;> cases c <;> first | rfl | exact absurd q (by decide)
    | _ => simp [alike] at a
  | .int i, e, _, _, a, q => by
    cases e with
    | int j =>
      simp only [nkey] at q
      injection q with q
      rw [q]
    | _ => simp [alike] at a
  | .str x, e, _, _, a, q => by
    cases e with
    | str y =>
      simp only [nkey] at q
      injection q with q
      rw [q]
    | _ => simp [alike] at a
  | .tuple ds, e, k, k', a, q => by
    cases e with
    | tuple es =>
      simp only [nkey] at q
      injection q with q
      rw [nkeys_inj ds es (by simpa [keyable] using k) (by simpa [keyable] using k') (by simpa [alike] using a) q]
    | _ => simp [alike] at a
  | .list _, _, k, _, _, _ => by simp [keyable] at k
  | .dict _, _, k, _, _, _ => by simp [keyable] at k
theorem nkeys_inj : ∀ ds es : List PyData, keyables ds = true → keyables es = true → alikeAll ds es = true → nkeys ds = nkeys es → ds = es
  | [], [], _, _, _, _ => rfl
  | [], _ :: _, _, _, _, q => by simp [nkeys] at q
  | _ :: _, [], _, _, _, q => by simp [nkeys] at q
  | d :: ds, e :: es, k, k', a, q => by
    rw [keyables, Bool.and_eq_true] at k k'
    obtain ⟨a1, a2⟩ := alike_all_cons a
    simp only [nkeys] at q
    injection q with q1 q2
    rw [nkey_inj d e k.1 k'.1 a1 q1, nkeys_inj ds es k.2 k'.2 a2 q2]
end
mutual
theorem eqv_same : ∀ d e : PyData, alike d e = true → PyData.eqv d e = true → d = e
  | .none, e, a, _ => by cases e <;> first | rfl | simp [alike] at a
  | .bool b, e, a, q => by
    cases e with
    | bool c => cases b <;> cases c <;> first | rfl | (simp [PyData.eqv] at q)
    | _ => simp [alike] at a
  | .int i, e, a, q => by
    cases e with
    | int j =>
      have z : i = j := by simpa [PyData.eqv] using q
      rw [z]
    | _ => simp [alike] at a
  | .str x, e, a, q => by
    cases e with
    | str y =>
      have z : x = y := by simpa [PyData.eqv] using q
      rw [z]
    | _ => simp [alike] at a
  | .tuple ds, e, a, q => by
    cases e with
    | tuple es => rw [eqvs_same ds es (by simpa [alike] using a) (by simpa [PyData.eqv] using q)]
    | _ => simp [alike] at a
  | .list ds, e, a, q => by
    cases e with
    | list es => rw [eqvs_same ds es (by simpa [alike] using a) (by simpa [PyData.eqv] using q)]
    | _ => simp [alike] at a
  | .dict _, e, a, _ => by cases e <;> simp [alike] at a
theorem eqvs_same : ∀ ds es : List PyData, alikeAll ds es = true → PyData.eqvAll ds es = true → ds = es
  | [], [], _, _ => rfl
  | [], _ :: _, _, q => by simp [PyData.eqvAll] at q
  | _ :: _, [], _, q => by simp [PyData.eqvAll] at q
  | d :: ds, e :: es, a, q => by
    obtain ⟨a1, a2⟩ := alike_all_cons a
    rw [eqv_all_cons, Bool.and_eq_true] at q
    rw [eqv_same d e a1 q.1, eqvs_same ds es a2 q.2]
end
/-- of two unlike data of one kind one is below the other -/
theorem dataLt_or {d e : PyData} (a : alike d e = true) (ne : d ≠ e) : dataLt d e = true ∨ dataLt e d = true := by
  cases h1 : dataLt d e with
  | true => exact .inl rfl
  | false =>
    cases h2 : dataLt e d with
    | true => exact .inr rfl
    | false =>
      exfalso
      have tk : keyToks d = keyToks e := (listOrd itemOrd).total _ _ h1 h2
      cases q : PyData.eqv d e with
      | true => exact ne (eqv_same d e a q)
      | false =>
        have z := (toks_eqv d e a).2 q [] [.inl 0]
        rw [tk, lex_pre] at z
        have z2 := (toks_eqv d e a).2 q [] []
        rw [tk, lex_pre] at z2
        rw [← z2] at z
        exact absurd z (by decide)
theorem dataLt_irrefl (d : PyData) : dataLt d d = false := (listOrd itemOrd).irrefl _
theorem dataLt_trans {d e f : PyData} (h1 : dataLt d e = true) (h2 : dataLt e f = true) : dataLt d f = true := (listOrd itemOrd).trans _ _ _ h1 h2
end L2

set_option Elab.async false
set_option linter.all false
set_option maxRecDepth 100000
set_option maxHeartbeats 4000000
/-! sorted(set) of nested tuples -/
namespace L2
open PySem PySem.W PySem.SeqAt PySem.Spec PyProof.Rows PySem.Calls
theorem perm_back {α β : Type} {f : α → β} {l k : List β} (p : l.Perm k) : ∀ m : List α, k = m.map f → ∃ m' : List α, m'.Perm m ∧ l = m'.map f := by
  induction p with
  | nil =>
    intro m e
    exact ⟨[], by cases m with | nil => exact .nil | cons _ _ => simp at e, rfl⟩
  | cons x _ ih =>
    intro m e
    cases m with
    | nil => simp at e
    | cons y m =>
      rw [List.map_cons] at e
      injection e with e1 e2
      obtain ⟨m', h1, h2⟩ := ih m e2
      exact ⟨y :: m', h1.cons y, by rw [h2, e1, List.map_cons]⟩
  | swap x y l =>
    intro m e
    match m, e with
    | [], e => simp at e
    | [_], e => simp at e
    | u :: v :: m, e =>
      simp only [List.map_cons] at e
      injection e with e1 e2
      injection e2 with e2 e3
      exact ⟨v :: u :: m, .swap _ _ _, by simp only [List.map_cons]; rw [e1, e2, e3]⟩
  | trans _ _ ih1 ih2 =>
    intro m e
    obtain ⟨m2, h1, h2⟩ := ih2 m e
    obtain ⟨m3, h3, h4⟩ := ih1 m2 h2
    exact ⟨m3, h3.trans h1, h4⟩
theorem sub_back {α β : Type} {f : α → β} {m : List α} : ∀ l : List β, (∀ x ∈ l, x ∈ m.map f) → ∃ m' : List α, l = m'.map f ∧ ∀ y ∈ m', y ∈ m
  | [], _ => ⟨[], rfl, fun y h => absurd h (by simp)⟩
  | x :: l, h => by
    obtain ⟨y, hy, e⟩ := List.mem_map.mp (h x List.mem_cons_self)
    obtain ⟨m', e', h'⟩ := sub_back l fun z hz => h z (List.mem_cons_of_mem _ hz)
    refine ⟨y :: m', by rw [List.map_cons, e, e'], fun z hz => ?_⟩
    rcases List.mem_cons.mp hz with rfl | hz
    · exact hy
    · exact h' z hz
/-- a tuple of the heap and what it reads as -/
abbrev TRow := Addr × PyData
abbrev TRow.n (p : TRow) : NRow := (p.1, nkey p.2)
abbrev TRow.r (p : TRow) : Value := .ref p.1
theorem each_rows {R : Value → TRow → Prop} : ∀ T : List TRow, (∀ p ∈ T, R p.r p) → EachIs R (T.map TRow.r) T
  | [], _ => .nil
  | p :: T, h => .cons (h p List.mem_cons_self) (each_rows T fun q hq => h q (List.mem_cons_of_mem _ hq))
theorem rows_each : ∀ {vs : List Value} {T : List TRow}, EachIs (fun v p => v = TRow.r p) vs T → vs = T.map TRow.r
  | _, _, .nil => rfl
  | _, _, .cons h t => by rw [h, rows_each t, List.map_cons]
section
variable {P : Program} {w : World} {A : Around} {E : Value → Shared → Prop} {s : Shared}
/-- the rows, sorted -/
def sortT (T : List TRow) : List TRow := T.mergeSort (dataLe false Prod.snd)
theorem sortT_perm (T : List TRow) : (sortT T).Perm T := List.mergeSort_perm _ _
theorem sortT_up (T : List TRow) (hal : AllAlike (T.map Prod.snd)) (nd : (T.map Prod.snd).Nodup) : (sortT T).Pairwise fun p q => dataLt p.2 q.2 = true := by
  have srt : (sortT T).Pairwise fun p q => dataLe false Prod.snd p q = true := sort_pairwise (sortLe_total (listOrd itemOrd) false fun p : TRow => keyToks p.2) T
  have nd' : ((sortT T).map Prod.snd).Nodup := ((sortT_perm T).map Prod.snd).nodup_iff.mpr nd
  have ne : (sortT T).Pairwise fun p q => p.2 ≠ q.2 := List.pairwise_map.mp nd'
  refine List.Pairwise.imp_of_mem (fun {p q} hp hq z => ?_) (srt.and ne)
  obtain ⟨z1, z2⟩ := z
  have mp := (sortT_perm T).mem_iff.mp hp
  have mq := (sortT_perm T).mem_iff.mp hq
  rcases dataLt_or (hal _ (List.mem_map_of_mem mp) _ (List.mem_map_of_mem mq)) z2 with c | c
  · exact c
  · exfalso
    have z3 : (!dataLt q.2 p.2) = true := z1
    rw [c] at z3
    exact absurd z3 (by decide)
/-- sorted of a set of tuples -/
theorem nsorted {a : Addr} {T : List TRow} {es : Array (Int × Value)} {ep : Nat} {t : SetTable} {Q : Value → Shared → Prop} (N : NSet w s.heap a (T.map TRow.n) es ep t) (hh : A.handled = none)
    (hr : ∀ p ∈ T, ∃ as, Reads s.heap p.r p.2 as) (hal : AllAlike (T.map Prod.snd)) (ht : ∀ p ∈ T, ∃ xs, p.2 = .tuple xs) (hu : ∀ p ∈ T, A.units + 4 + p.2.depth < cLine)
    (q : ∀ s' b c T', (∀ b o, s.heap.get? b = some o → s'.heap.get? b = some o) → s'.gens = s.gens → s'.os = s.os → s.heap.objs.size ≤ b → T'.Perm T → s'.heap.get? b = some (seqObj "list" ((sortT T').map TRow.r).toArray c) → Q (.ref b) s') :
    wpAny (model P w) A (call (.builtin "sorted") [.ref a]) Q E s := by
  obtain ⟨o, g, hex, hd⟩ := N.obj
  have few := N.small
  rw [List.length_map] at few
  refine Calls.call_function_entry kind_sorted plain_sorted entry_sorted (args_sorted1 _) ?_
  unfold Builtin.«sorted»
  refine wpAny_bind (m := checkCount "sorted" 1 1 _) (wpAny_pure ?_)
  refine wpAny_bind (collect_set (A := A.in1) hh ⟨o, g, hex.1, hd⟩ N.fits (by rw [N.size, List.length_map]; unfold scanBound; omega) N.tok.ris N.led fun s1 vs k1 hz g1 o1 pm => ?_)
  have e1 : es.toList.map (·.2) = T.map TRow.r := by
    rw [N.eqs]
    unfold nrows
    rw [List.map_map, List.map_map]
    first | rfl | done
  obtain ⟨T2, p2, rfl⟩ := perm_back pm T e1
  have len2 : (T2.map TRow.r).length < 64 := by rw [List.length_map, p2.length_eq]; exact few
  refine wpAny_bind (wpAny_newList ?_ (by rw [sizeLine_eq]; omega))
  have gL : (s1.heap.push (seqObj "list" (T2.map TRow.r).toArray 0)).get? s1.heap.objs.size = some (seqObj "list" (T2.map TRow.r).toArray 0) := Heap.get?_push_size _ rfl
  have rd : EachIs (fun v p => ∃ as, Reads (sortingHeap (s1.heap.push (seqObj "list" (T2.map TRow.r).toArray 0)) s1.heap.objs.size (T2.map TRow.r)) v p.2 as) (T2.map TRow.r) T2 :=
    each_rows T2 fun p hp => by
      obtain ⟨as, r⟩ := hr p (p2.mem_iff.mp hp)
      exact ⟨as, PyProof.Rows.Reads.keeps (fun b u e => by
        have z := k1 b u e
        exact sortingHeap_old (Nat.ne_of_lt (Heap.lt_size z)) (Heap.get?_push_of_some _ z)) r⟩
  have al2 : AllAlike (T2.map Prod.snd) := fun d hd e he => hal d ((p2.map Prod.snd).mem_iff.mp hd) e ((p2.map Prod.snd).mem_iff.mp he)
  have tp2 : ∀ d ∈ T2.map Prod.snd, ∃ xs, d = PyData.tuple xs := fun d hd => by
    obtain ⟨p, hp, rfl⟩ := List.mem_map.mp hd
    exact ht p (p2.mem_iff.mp hp)
  have u2 : ∀ d, d ∈ T2.map Prod.snd → A.in1.in1.units + d.depth < cLine := fun d hd => by
    obtain ⟨p, hp, rfl⟩ := List.mem_map.mp hd
    have z := hu p (p2.mem_iff.mp hp)
    simp only [Around.in1_units]
    omega
  have srt := sortsAt_tups (prog := P) (w := w) (A := A.in1.in1) (s := { s1 with heap := sortingHeap (s1.heap.push (seqObj "list" (T2.map TRow.r).toArray 0)) s1.heap.objs.size (T2.map TRow.r) }) (each_map (R := fun v d => ∃ as, Reads _ v d as) Prod.snd rd) al2 tp2 u2
  have out := rows_each (sortVals_data (R := fun v p => v = TRow.r p) (enc := Prod.snd) false (each_rows T2 fun p _ => rfl) rd al2)
  refine wpAny_bind (wpAny_holding (wpAny_call_entry slot_list_sort ⟨_, gL, rfl⟩ entry_list_sort (list_sort_vals (s := { s1 with heap := s1.heap.push (seqObj "list" (T2.map TRow.r).toArray 0) }) gL srt (by rw [sizeLine_eq]; omega) ⟨_, rfl, ?_⟩) (args_list_sort _)))
  rw [out]
  obtain ⟨c, hc⟩ := sortedHeap_at (vs := T2.map TRow.r) (out := ((T2.mergeSort (dataLe false Prod.snd)).map TRow.r).toArray) gL
  refine wpAny_pure ⟨_, rfl, q _ s1.heap.objs.size c T2 (fun b u e => ?_) g1 o1 hz p2 hc⟩
  have z := k1 b u e
  have lt := Heap.lt_size z
  show (sortedHeap (s1.heap.push (seqObj "list" (T2.map TRow.r).toArray 0)) s1.heap.objs.size (T2.map TRow.r) _).get? b = some u
  rw [sortedHeap_old (Nat.ne_of_lt lt) (by rw [size_push']; exact Nat.lt_succ_of_lt lt)]
  exact Heap.get?_push_of_some _ z
end
end L2

set_option Elab.async false
set_option linter.all false
set_option maxRecDepth 100000
set_option maxHeartbeats 4000000
/-! sets of nested tuples, and sorted lists of tuples: rules of the layer -/
namespace L2
open PySem PySem.W PySem.Spec PyProof.Rows
abbrev TRow.v (p : TRow) : V := .ref p.1
theorem tuple_ref {H : Hp} {v : V} {ds : List PyData} (h : Dat H v (.tuple ds)) : ∃ a, v = .ref a := by
  cases h with
  | tup _ _ => exact ⟨_, rfl⟩
theorem rows_of_dat {H : Hp} : ∀ {vs : List V} {ds : List PyData}, DatAll H vs ds → (∀ d ∈ ds, ∃ xs, d = .tuple xs) → ∃ T : List TRow, vs = T.map TRow.v ∧ ds = T.map Prod.snd ∧ ∀ p ∈ T, Dat H p.v p.2
  | _, _, .nil, _ => ⟨[], rfl, rfl, fun p hp => absurd hp (by simp)⟩
  | _, _, .cons (v := v) (d := d) h t, ht => by
    obtain ⟨T, rfl, rfl, h3⟩ := rows_of_dat t fun e he => ht e (List.mem_cons_of_mem _ he)
    obtain ⟨xs, rfl⟩ := ht d List.mem_cons_self
    obtain ⟨a, rfl⟩ := tuple_ref h
    refine ⟨(a, .tuple xs) :: T, rfl, rfl, fun p hp => ?_⟩
    rcases List.mem_cons.mp hp with rfl | hp
    · exact h
    · exact h3 p hp
theorem rows_vals : ∀ T : List TRow, Vals (T.map TRow.v) (T.map TRow.r)
  | [] => .nil
  | _ :: T => .cons rfl (rows_vals T)
theorem vals_rows : ∀ {T : List TRow} {us : List Value}, Vals (T.map TRow.v) us → us = T.map TRow.r
  | [], _, .nil => rfl
  | _ :: T, _, .cons r t => by
    cases (show _ = Value.ref _ from r)
    rw [vals_rows t, List.map_cons]
/-- what is asked of the data of tuples that are sorted -/
structure Sorty (T : List TRow) : Prop where
  alike : AllAlike (T.map Prod.snd)
  tup : ∀ p ∈ T, ∃ xs, p.2 = .tuple xs
  deep : ∀ p ∈ T, p.2.depth ≤ 8
theorem Sorty.sub {T T' : List TRow} (h : Sorty T) (s : ∀ p ∈ T', p ∈ T) : Sorty T' where
  alike := fun d hd e he => by
    obtain ⟨p, hp, rfl⟩ := List.mem_map.mp hd
    obtain ⟨q, hq, rfl⟩ := List.mem_map.mp he
    exact h.alike _ (List.mem_map_of_mem (s p hp)) _ (List.mem_map_of_mem (s q hq))
  tup := fun p hp => h.tup p (s p hp)
  deep := fun p hp => h.deep p (s p hp)
/-- the set at a, without its members -/
structure NSet0 (w : World) (h : Heap) (a : Addr) (L : List NRow) : Prop where
  ex : ∃ (es : Array (Int × Value)) (ep : Nat) (t : SetTable), (∃ o, h.get? a = some o ∧ o.ExactSet ∧ o.data = .set es ep t) ∧ es.toList = nrows w L ∧ TabOk t (hashesN w L) ∧ (L.map Prod.snd).Nodup ∧
    (w.params.followText "set-order" = true ∨ t.led = true) ∧ L.length * 5 < t.mask * 3 ∧ L.length < 64
def SetNO (w : World) (a : Addr) (L : List NRow) : HO := .ext fun h => NSet0 w h a L
theorem NSet.less {w : World} {h : Heap} {a : Addr} {L : List NRow} {es : Array (Int × Value)} {ep : Nat} {t : SetTable} (N : NSet w h a L es ep t) : NSet0 w h a L := ⟨es, ep, t, N.obj, N.eqs, N.tok, N.dif, N.led, N.gap, N.small⟩
theorem NSet0.full {w : World} {h : Heap} {a : Addr} {L : List NRow} (N : NSet0 w h a L) (hk : ∀ r ∈ L, TupKey h r.2 r.1) : ∃ es ep t, NSet w h a L es ep t := by
  obtain ⟨es, ep, t, h1, h2, h3, h4, h5, h6, h7⟩ := N.ex
  exact ⟨es, ep, t, h1, h2, h3, h4, hk, h5, h6, h7⟩
theorem setNO_ok {P : Program} {w : World} {H : Hp} {h : Heap} {a : Addr} {L : List NRow} (N : NSet0 w h a L) : ObjOk P w H h a (SetNO w a L) := by
  obtain ⟨es, ep, t, ⟨o, g, r⟩, z⟩ := N.ex
  refine ⟨N, ⟨o, g⟩, fun h1 h2 p k => ?_⟩
  obtain ⟨es', ep', t', ⟨o', g', r'⟩, z'⟩ := NSet0.ex p
  exact ⟨es', ep', t', ⟨o', k o' g', r'⟩, z'⟩
section
variable {X : Cx}
theorem Inv.reads {pins : List (Addr × Obj)} {σ : St} {H : Hp} {s : Shared} (I : Inv X pins σ H s) {p : TRow} (d : Dat H p.v p.2) : ∃ as, Reads s.heap p.r p.2 as := reads_of_dat I.hok d rfl
theorem tupKey_of {h : Heap} {p : TRow} (r : ∃ as, Reads h p.r p.2 as) (k : keyable p.2 = true) (z : p.2.depth ≤ 8) : TupKey h (nkey p.2) p.1 := by
  obtain ⟨as, r⟩ := r
  exact ⟨nkey_is _ _ as k r, by rw [nkey_depth _ k]; exact z⟩
/-- set(xs), xs a list of nested tuples -/
def rSetN (K : PySem.W.Frag) (w : World) : List V → Hp → VK → Prop := fun xs H Q => ∃ (l : Addr) (T : List TRow), xs = [V.ref l] ∧ SqL K H l (T.map TRow.v) ∧ (∀ p ∈ T, Dat H p.v p.2) ∧ Sorty T ∧ (∀ p ∈ T, keyable p.2 = true) ∧ T.length < 64 ∧
  ∀ (a : Addr) (T' : List TRow), H a = none → (∀ p ∈ T', p ∈ T) → (∀ p ∈ T, p.2 ∈ T'.map Prod.snd) → (T'.map Prod.snd).Nodup → Q (.ref a) (upd H a (SetNO w a (T'.map TRow.n)))
theorem cr_setN (hc : X.calm = true) (hu : X.A.units + 64 < cLine) : CallR X (.type "set") (rSetN X.K X.w) := by
  intro pins s σ H xs us Q I r h
  obtain ⟨l, T, rfl, hl, hd, so, hk, few, q⟩ := h
  rw [Vals.ref1 r]
  obtain ⟨its, rv, pl, hz⟩ := I.list hl
  have e1 : its = T.map TRow.r := vals_rows rv
  have fresh : H s.heap.objs.size = none := I.hok.fresh (Nat.le_refl _)
  have keys : ∀ r ∈ T.map TRow.n, TupKey s.heap r.2 r.1 := fun r hr => by
    obtain ⟨p, hp, rfl⟩ := List.mem_map.mp hr
    exact tupKey_of (I.reads (hd p hp)) (hk p hp) (so.deep p hp)
  refine nset_call (P := X.prog) (w := X.w) (T.map TRow.n) (I.ok.hd hc) pl.isList (by rw [e1, List.map_map]; first | rfl | done) keys (by rw [List.length_map]; exact few) (by omega) fun s' hm => ?_
  obtain ⟨h', tk, L, es, ep, t, rfl, N, g, ext⟩ := hm
  have sub : ∀ r ∈ L, r ∈ T.map TRow.n := fun r hr => List.mem_of_mem_take (g.only r hr)
  obtain ⟨T', rfl, sub'⟩ := sub_back L sub
  refine ⟨.ref s.heap.objs.size, upd H s.heap.objs.size (SetNO X.w s.heap.objs.size (T'.map TRow.n)), I.laid (t' := tk) ext (Nat.le_refl _) (setNO_ok N.less), rfl, q _ T' fresh sub' (fun p hp => ?_) ?_⟩
  · have z := g.every p.n (by rw [List.take_length]; exact List.mem_map_of_mem hp)
    rw [List.map_map] at z
    obtain ⟨p', hp', e⟩ := List.mem_map.mp z
    have e2 : nkey p'.2 = nkey p.2 := e
    have mp' := sub' p' hp'
    rw [← nkey_inj _ _ (hk p' mp') (hk p hp) (so.alike _ (List.mem_map_of_mem mp') _ (List.mem_map_of_mem hp)) e2]
    exact List.mem_map_of_mem hp'
  · have z := N.dif
    rw [List.map_map] at z
    have z2 : ((T'.map Prod.snd).map nkey).Nodup := by
      rw [List.map_map]
      exact z
    exact nodup_of_map z2
/-- sorted(set), the members nested tuples -/
def rSortN (w : World) : List V → Hp → VK → Prop := fun vs H Q => ∃ (a : Addr) (T : List TRow), vs = [V.ref a] ∧ H a = some (SetNO w a (T.map TRow.n)) ∧ (∀ p ∈ T, Dat H p.v p.2) ∧ Sorty T ∧ (∀ p ∈ T, keyable p.2 = true) ∧
  ∀ (T' : List TRow) (b : Addr), T'.Perm T → (T'.Pairwise fun p q => dataLt p.2 q.2 = true) → H b = none → Q (.ref b) (upd H b (.lst (T'.map TRow.v)))
theorem cr_sortN (hc : X.calm = true) (hu : X.A.units + 64 < cLine) : CallR X (.builtin "sorted") (rSortN X.w) := by
  intro pins s σ H vs us Q I r h
  obtain ⟨a, T, rfl, ha, hd, so, hk, q⟩ := h
  have N0 : NSet0 X.w s.heap a (T.map TRow.n) := (I.hok a _ ha).1
  obtain ⟨es, ep, t, N⟩ := N0.full fun r hr => by
    obtain ⟨p, hp, rfl⟩ := List.mem_map.mp hr
    exact tupKey_of (I.reads (hd p hp)) (hk p hp) (so.deep p hp)
  rw [Vals.ref1 r]
  have nd : (T.map Prod.snd).Nodup := by
    have z := N.dif
    rw [List.map_map] at z
    have z2 : ((T.map Prod.snd).map nkey).Nodup := by
      rw [List.map_map]
      exact z
    exact nodup_of_map z2
  have few := N.small
  rw [List.length_map] at few
  refine nsorted N (I.ok.hd hc) (fun p hp => I.reads (hd p hp)) so.alike so.tup (fun p hp => by have := so.deep p hp; omega) fun s' b c T' k g o hb pm hc' => ?_
  have pm2 : (sortT T').Perm T := (sortT_perm T').trans pm
  have so' : Sorty T' := so.sub fun p hp => pm.mem_iff.mp hp
  have fresh : H b = none := I.hok.fresh hb
  have J : Inv X pins σ (upd H b (.lst ((sortT T').map TRow.v))) { s with heap := s'.heap, gens := s'.gens, drawn := s'.drawn, toks := s'.toks } :=
    I.call (ch := []) (Un.laid k hb fresh) (I.hok.laid k hb ⟨by rw [List.length_map, pm2.length_eq, sizeLine_eq]; omega, _, c, rows_vals _, hc'⟩) (by rw [g]; exact I.bare) (fun _ z => nomatch z)
  have e : s' = { s with heap := s'.heap, gens := s'.gens, drawn := s'.drawn, toks := s'.toks } := by
    cases s'
    cases s
    cases o
    rfl
  rw [e]
  exact ⟨.ref b, _, J, rfl, q (sortT T') b pm2 (sortT_up T' so'.alike ((pm.map Prod.snd).nodup_iff.mpr nd)) fresh⟩
end
end L2

set_option Elab.async false
set_option linter.all false
set_option maxRecDepth 100000
set_option maxHeartbeats 4000000
/-! sorted(list) of tuples of any lengths -/
namespace L2
open PySem PySem.W PySem.Spec PyProof.Rows
theorem sortT_le (T : List TRow) : (sortT T).Pairwise fun p q => dataLt q.2 p.2 = false := by
  have srt : (sortT T).Pairwise fun p q => dataLe false Prod.snd p q = true := sort_pairwise (sortLe_total (listOrd itemOrd) false fun p : TRow => keyToks p.2) T
  refine srt.imp fun {p q} z => ?_
  have z3 : (!dataLt q.2 p.2) = true := z
  cases c : dataLt q.2 p.2 with
  | false => rfl
  | true =>
    rw [c] at z3
    exact absurd z3 (by decide)
section
variable {X : Cx}
/-- sorted(xs), xs a list of tuples -/
def rSortL (K : PySem.W.Frag) : List V → Hp → VK → Prop := fun vs H Q => ∃ (l : Addr) (T : List TRow), vs = [V.ref l] ∧ SqL K H l (T.map TRow.v) ∧ (∀ p ∈ T, Dat H p.v p.2) ∧ Sorty T ∧
  ∀ (T' : List TRow) (b : Addr), T'.Perm T → (T'.Pairwise fun p q => dataLt q.2 p.2 = false) → ((T.map Prod.snd).Nodup → T'.Pairwise fun p q => dataLt p.2 q.2 = true) → H b = none → Q (.ref b) (upd H b (.lst (T'.map TRow.v)))
theorem cr_sortL (hu : X.A.units + 64 < cLine) : CallR X (.builtin "sorted") (rSortL X.K) := by
  intro pins s σ H vs us Q I r h
  obtain ⟨l, T, rfl, hl, hd, so, q⟩ := h
  rw [Vals.ref1 r]
  obtain ⟨its, rv, pl, hz⟩ := I.list hl
  have e1 : its = T.map TRow.r := vals_rows rv
  subst e1
  rw [List.length_map] at hz
  have rd : EachIs (fun v p => ∃ as, Reads (sortingHeap (copyHeap s.heap (T.map TRow.r)) (s.heap.objs.size + 1) (T.map TRow.r)) v p.2 as) (T.map TRow.r) T :=
    each_rows T fun p hp => by
      obtain ⟨as, z⟩ := I.reads (hd p hp)
      exact ⟨as, PyProof.Rows.Reads.keeps (fun _ _ => sorting_copy_old) z⟩
  have tp : ∀ d ∈ T.map Prod.snd, ∃ xs, d = PyData.tuple xs := fun d z => by
    obtain ⟨p, hp, rfl⟩ := List.mem_map.mp z
    exact so.tup p hp
  have un : ∀ d, d ∈ T.map Prod.snd → X.A.in1.in1.units + d.depth < cLine := fun d z => by
    obtain ⟨p, hp, rfl⟩ := List.mem_map.mp z
    have z := so.deep p hp
    simp only [Around.in1_units]
    omega
  have srt := sortsAt_tups (prog := X.prog) (w := X.w) (A := X.A.in1.in1) (s := { s with heap := sortingHeap (copyHeap s.heap (T.map TRow.r)) (s.heap.objs.size + 1) (T.map TRow.r) }) (each_map (R := fun v d => ∃ as, Reads _ v d as) Prod.snd rd) so.alike tp un
  have out := rows_each (sortVals_data (R := fun v p => v = TRow.r p) (enc := Prod.snd) false (each_rows T fun p _ => rfl) rd so.alike)
  refine sorted_vals pl.isList srt (by rw [List.length_map]; exact hz) ?_
  rw [out]
  obtain ⟨c, hc⟩ := PyProof.Rows.sortedAll_at s.heap (T.map TRow.r) ((sortT T).map TRow.r).toArray
  have fresh : H (s.heap.objs.size + 1) = none := I.hok.fresh (Nat.le_succ _)
  exact ⟨.ref _, upd H (s.heap.objs.size + 1) (.lst ((sortT T).map TRow.v)), I.laid (t' := s.toks) (fun _ _ => PyProof.Rows.sortedAll_old) (Nat.le_succ _) ⟨by rw [List.length_map, (sortT_perm T).length_eq]; exact hz, _, c, rows_vals _, hc⟩, rfl,
    q (sortT T) _ (sortT_perm T) (sortT_le T) (sortT_up T so.alike) fresh⟩
end
end L2

set_option Elab.async false
set_option linter.all false
set_option maxRecDepth 100000
set_option maxHeartbeats 4000000
namespace S1
open PySem PySem.Spec PyProof.Rows L2
def topS (i : Nat) : Stmt := PySem.Challenge.pw_onlyseen_k49_whole_chains_of_letters.main.body.getD i (.Pass ⟨0, 0, 0, 0⟩)
abbrev sInit : Stmt := inClass (topS 1) 0
abbrev sIsTruth : Stmt := topS 11
abbrev sIsTuple : Stmt := topS 12
abbrev sIsPair : Stmt := topS 13
abbrev sIsRising : Stmt := topS 14
abbrev sIsName : Stmt := topS 15
abbrev sIsLetter : Stmt := topS 16
abbrev sIsAnyClause : Stmt := topS 17
abbrev sAreNames : Stmt := topS 18
abbrev sIsSight : Stmt := topS 19
abbrev sIsOwn : Stmt := topS 20
abbrev sAreOwns : Stmt := topS 21
abbrev sIsClauseOver : Stmt := topS 22
abbrev sAreClauses : Stmt := topS 23
abbrev sNamesOf : Stmt := topS 24
abbrev sFitsSaying : Stmt := topS 25
abbrev sRenewed : Stmt := topS 27
abbrev sWantSaying : Stmt := topS 28
abbrev sWantOwn : Stmt := topS 29
abbrev sWantPick : Stmt := topS 30
abbrev sViewersOf : Stmt := topS 32
abbrev sBeside : Stmt := topS 33
abbrev sAllReached : Stmt := topS 34
abbrev sPaperOf : Stmt := topS 35
abbrev sHangsBy : Stmt := topS 36
abbrev sIdleOwns : Stmt := topS 37
abbrev sAllIdle : Stmt := topS 38
abbrev sWithSights : Stmt := topS 39
abbrev sLess : Stmt := topS 40
abbrev sMore : Stmt := topS 41
abbrev sReached : Stmt := topS 42
abbrev sHangs : Stmt := topS 43
abbrev sIdle : Stmt := topS 44
abbrev sAreLetters : Stmt := topS 45
abbrev sIsClosed : Stmt := topS 46
abbrev sIdleHolds : Stmt := topS 47
abbrev sIdlePaper : Stmt := topS 48
abbrev sWithout : Stmt := topS 49
abbrev sWith : Stmt := topS 50
abbrev sPot : Stmt := topS 52
abbrev sDraw : Stmt := topS 53
abbrev sLNames : Stmt := topS 54
abbrev sLSame : Stmt := topS 55
abbrev sLClauses : Stmt := topS 56
abbrev sLFromT : Stmt := topS 57
abbrev sLFromF : Stmt := topS 58
abbrev sLRight : Stmt := topS 59
abbrev sLOthers : Stmt := topS 60
abbrev sLaw : Stmt := topS 61
end S1

set_option Elab.async false
set_option linter.all false
set_option maxRecDepth 100000
set_option maxHeartbeats 4000000
namespace S1
open PySem PySem.Spec PyProof.Rows L2
/-- the built-in names that the text leaves as they are -/
structure Blt (mg : Str → Option Value) : Prop where
  len : mg "len" = none
  sum : mg "sum" = none
  int : mg "int" = none
  max : mg "max" = none
  min : mg "min" = none
  abs : mg "abs" = none
  str : mg "str" = none
  bool : mg "bool" = none
  dict : mg "dict" = none
  list : mg "list" = none
  set : mg "set" = none
  tuple : mg "tuple" = none
  sorted : mg "sorted" = none
  zip : mg "zip" = none
  all : mg "all" = none
  range : mg "range" = none
  isi : mg "isinstance" = none
/-- a def as the text leaves it: at f, under its name -/
structure Has (K : PySem.W.Frag) (mg : Str → Option Value) (x : Str) (st : Stmt) (ps : List Str) (f : Addr) (fd : FuncData) : Prop where
  F : Fun K x x st f fd
  g : mg x = some (.ref f)
  b : Binds K fd ps []
/-- the draws of one cell at p: the digits left, the mixed number, how many have been mixed -/
structure Src (H : Hp) (p : Addr) (c : Nat) : Prop where
  at_ : ∃ a b d : Int, H p = some (.lst [.int a, .int b, .int d]) ∧ 0 ≤ b ∧ b < 2 ^ 120 ∧ 0 ≤ d ∧ d ≤ c
theorem Src.mono {H H' : Hp} {p : Addr} {c c' : Nat} (h : Src H p c) (e : H' p = H p) (hc : c ≤ c') : Src H' p c' := by
  obtain ⟨a, b, d, h1, h2, h3, h4, h5⟩ := h
  exact ⟨a, b, d, e.trans h1, h2, h3, h4, by omega⟩
theorem Src.ne {H : Hp} {p l : Addr} {c : Nat} (h : Src H p c) (e : H l = none) : p ≠ l := by
  obtain ⟨a, b, d, h1, _⟩ := h
  exact ne_of_none h1 e
theorem same_new {H : Hp} {p : Addr} {o : HO} (h : H p = none) : Same H (upd H p o) := fun b u e => by
  rw [upd_ne (ne_of_none e h)]
  exact e
theorem same_upd {H H' : Hp} {p : Addr} {o : HO} (s : Same H H') (h : H p = none) : Same H (upd H' p o) := fun b u e => by
  rw [upd_ne (ne_of_none e h)]
  exact s _ _ e
theorem yes_of {σ : L2.St} {H : Hp} {A B : Hp → Prop} (h : A H) : tYes σ H (fun b H3 => if b = true then A H3 else B H3) := by
  show if true = true then A H else B H
  rw [if_pos rfl]
  exact h
theorem at_ok {xs : List V} {r : Int} (h0 : 0 ≤ r) (h1 : r < xs.length) : ∃ v, atI xs r = some v ∧ v ∈ xs ∧ xs[r.toNat]? = some v := by
  have hl : r.toNat < xs.length := by omega
  refine ⟨xs[r.toNat], ?_, List.getElem_mem _, List.getElem?_eq_getElem hl⟩
  have z := atI_nat (List.getElem?_eq_getElem hl)
  rw [Int.toNat_of_nonneg h0] at z
  exact z
def spPot (K : PySem.W.Frag) : Sp := fun vs H Q _ => ∃ (a : Addr) (ns : List Int) (k : Int), vs = [.ref a, .int k] ∧ SqL K H a (ns.map V.int) ∧ ns.length ≤ 63 ∧ 0 ≤ k ∧ k < 1000 ∧
  ∀ (p : Addr) (H' : Hp), H p = none → Same H H' → Src H' p 0 → Q (.ref p) H'
def spPick : Sp := fun vs H Q _ => ∃ (p : Addr) (c : Nat) (m : Int), vs = [.ref p, .int m] ∧ Src H p c ∧ c ≤ 100000 ∧ 0 < m ∧ m < 2 ^ 100 ∧
  ∀ (r : Int) (o : HO), 0 ≤ r → r < m → Src (upd H p o) p (c + 1) → Q (.int r) (upd H p o)
theorem len_ints {ns : List Int} : (ns.map V.int).length = ns.length := List.length_map ..
theorem get_ints {ns : List Int} {i : Nat} {x : V} (h : (ns.map V.int)[i]? = some x) : ∃ z, ns[i]? = some z ∧ x = V.int z := by
  rw [List.getElem?_map] at h
  cases e : ns[i]? with
  | none => rw [e] at h; cases h
  | some z => rw [e] at h; exact ⟨z, rfl, (Option.some.inj h).symm⟩
theorem ite_int {c : Prop} [Decidable c] {ta tb : TE} {σ : L2.St} {H : Hp} {Q : VK} (R : ∀ i : Int, Q (.int i) H) (h1 : c → (∀ i : Int, Q (.int i) H) → ta σ H Q) (h2 : ¬ c → (∀ i : Int, Q (.int i) H) → tb σ H Q) : if c then ta σ H Q else tb σ H Q := by
  by_cases h : c
  · rw [if_pos h]; exact h1 h R
  · rw [if_neg h]; exact h2 h R
/-- powers of wide numbers -/
def CPowW (i j : Int) : Prop := 0 ≤ j ∧ (Builtin.Int.intBits i : Int) * j ≤ 2 ^ 27
theorem op_powW {X : Cx} : OpR X (binaryOp .Pow) (rI CPowW fun i j => .int (i ^ j.toNat)) := opI fun _ _ _ _ _ _ _ hc q => pow_int hc.1 hc.2 q
abbrev mx (b d : Int) : Int := ((b + 86028121 * d) ^ (3 : Int).toNat + 17 * d) % (10 ^ (38 : Int).toNat + 133)
abbrev my (x d : Int) : Int := (x * x + 49979687 * d) % (10 ^ (37 : Int).toNat + 43)
theorem mx_lt (b d : Int) : 0 ≤ mx b d ∧ (mx b d).natAbs < 2 ^ 127 := by
  have m : (0 : Int) < 10 ^ (38 : Int).toNat + 133 := by decide +kernel
  have n : (10 : Int) ^ (38 : Int).toNat + 133 ≤ 2 ^ 127 := by decide +kernel
  have h0 : 0 ≤ mx b d := Int.emod_nonneg _ (by omega)
  have h1 : mx b d < 2 ^ 127 := Int.lt_of_lt_of_le (Int.emod_lt_of_pos _ m) n
  exact ⟨h0, by omega⟩
section
variable {P : Program} {w : World} {K : PySem.W.Frag} {mg : Str → Option Value} {base : Heap}
theorem scPot : FnScope ["script", "k", "cell", "total", "at", "other"] ["script", "k"] (defScope sPot) := ⟨rfl, rfl, rfl, by decide +kernel, rfl, by decide +kernel, by decide +kernel⟩
theorem scDraw : FnScope ["pot", "top", "found", "mixed"] ["pot", "top"] (defScope sDraw) := ⟨rfl, rfl, rfl, by decide +kernel, rfl, by decide +kernel, by decide +kernel⟩
theorem ok_pick {f : Addr} {fd : FuncData} (F : Fun K "_law_draw" "_law_draw" sDraw f fd) (B : Blt mg) : FnOk P w K mg base CX0 1 f fd ["pot", "top"] spPick := by
  refine F.ok scDraw (fun vs H Q E h => ?_) (fun cdv A outer s H vs Q E hr h => ?_)
  · obtain ⟨p, c, m, rfl, _⟩ := h
    rfl
  · obtain ⟨p, c, m, rfl, ⟨a, b, d, hp, hb0, hb1, hd0, hd1⟩, hc, hm0, hm1, q⟩ := h
    refine ⟨_, pss_cons (ps_if (pt_cmpR op_gt (pe_ix ix_list (pv 0) pe_int (fun _ _ => rfl)) pe_int (nomark _))
        (pss_cons (ps_set (i := 2) scDraw.nd rfl (.inl rfl) (pe_op op_mod (pe_callTy call_int1 (by rfl) B.int (by decide +kernel) (pa_cons (pe_ix ix_list (pv 0) pe_int (fun _ _ => rfl)) pa_nil)) (pv 1)))
        (pss_cons (ps_asg (pe_op op_fdivW (pe_ix ix_list (pv 0) pe_int (fun _ _ => rfl)) (pv 1)) (pg_sub (pv 0) pe_int set_list))
        (pss_one (ps_ret (pv 2))))) pss_nil)
      (pss_cons (ps_asg (pe_op op_add (pe_ix ix_list (pv 0) pe_int (fun _ _ => rfl)) pe_int) (pg_sub (pv 0) pe_int set_list))
      (pss_cons (ps_set (i := 3) scDraw.nd rfl (.inl rfl) (pe_op op_mod (pe_callTy call_int1 (by rfl) B.int (by decide +kernel)
          (pa_cons (pe_op op_add (pe_op op_powW (pe_op op_add (pe_ix ix_list (pv 0) pe_int (fun _ _ => rfl)) (pe_op op_mulW pe_int (pe_ix ix_list (pv 0) pe_int (fun _ _ => rfl)))) pe_int) (pe_op op_mulW pe_int (pe_ix ix_list (pv 0) pe_int (fun _ _ => rfl)))) pa_nil))
          (pe_op op_add (pe_op op_pow pe_int pe_int) pe_int)))
      (pss_cons (ps_set (i := 3) scDraw.nd rfl (.inl rfl) (pe_op op_mod (pe_callTy call_int1 (by rfl) B.int (by decide +kernel)
          (pa_cons (pe_op op_add (pe_op op_mulW (pv 3) (pv 3)) (pe_op op_mulW pe_int (pe_ix ix_list (pv 0) pe_int (fun _ _ => rfl)))) pa_nil)) (pe_op op_add (pe_op op_pow pe_int pe_int) pe_int)))
      (pss_one (ps_ret (pe_op op_mod (pe_callTy call_int1 (by rfl) B.int (by decide +kernel) (pa_cons (pe_op op_fdiv (pv 3) pe_int) pa_nil)) (pv 1))))))), ?_⟩
    have hh := SqL.of (K := K) hp
    refine ⟨_, rfl, p, _, 0, _, rfl, rfl, hh, rfl, _, _, rfl, rfl, _, rfl, ?_⟩
    refine ite2 (fun ha => ?_) (fun _ => ?_)
    · have ha0 : 0 < a := of_decide_eq_true ha
      refine ⟨_, rfl, p, _, 0, _, rfl, rfl, hh, rfl, .inl ⟨_, rfl, _, rfl, _, _, rfl, rfl, hm0, ?_⟩⟩
      refine ⟨_, rfl, p, _, 0, _, rfl, rfl, hh, rfl, _, rfl, _, _, rfl, rfl, wide_div (b := 100) hm0 (by omega) (by decide) (by decide), _, rfl, p, _, 0, 0, rfl, rfl, hp, rfl, _, rfl, ?_⟩
      exact q _ _ (Int.emod_nonneg _ (by omega)) (Int.emod_lt_of_pos _ hm0) ⟨_, _, _, upd_same, hb0, hb1, hd0, by omega⟩
    · refine ⟨_, rfl, p, _, 2, _, rfl, rfl, hh, rfl, _, _, rfl, rfl, _, rfl, p, _, 2, 2, rfl, rfl, hp, rfl, ?_⟩
      have hp' : (upd H p (HO.lst ([V.int a, V.int b, V.int d].set 2 (V.int (d + 1))))) p = some (.lst [V.int a, V.int b, V.int (d + 1)]) := upd_same
      have hh' := SqL.of (K := K) hp'
      have m38 : (0 : Int) < 10 ^ (38 : Int).toNat + 133 := by decide +kernel
      have m37 : (0 : Int) < 10 ^ (37 : Int).toNat + 43 := by decide +kernel
      have e2 : (d + 1).natAbs < 2 ^ 20 := by omega
      have g1 : (b + 86028121 * (d + 1)).natAbs < 2 ^ 121 := by omega
      have g2 : (Builtin.Int.intBits (b + 86028121 * (d + 1)) : Int) * 3 ≤ 2 ^ 27 := by
        have := intBits_le_iff.mpr g1
        omega
      refine ⟨_, rfl, p, _, 1, _, rfl, rfl, hh', rfl, _, rfl, p, _, 2, _, rfl, rfl, hh', rfl, _, _, rfl, rfl, wide_mul (a := 30) (b := 20) (by decide) e2 (by decide) (by decide) (by decide), _, _, rfl, rfl, _, _, rfl, rfl, ⟨by decide, g2⟩,
        _, rfl, p, _, 2, _, rfl, rfl, hh', rfl, _, _, rfl, rfl, wide_mul (a := 30) (b := 20) (by decide) e2 (by decide) (by decide) (by decide), _, _, rfl, rfl, .inl ⟨_, rfl, ?_⟩⟩
      refine ⟨_, _, rfl, rfl, ⟨by decide, by decide, by decide⟩, _, _, rfl, rfl, _, _, rfl, rfl, m38, ?_⟩
      obtain ⟨_, f1⟩ := mx_lt b (d + 1)
      refine ⟨_, rfl, _, rfl, _, _, rfl, rfl, wide_mul (a := 127) (b := 127) f1 f1 (by decide) (by decide) (by decide), _, rfl, p, _, 2, _, rfl, rfl, hh', rfl, _, _, rfl, rfl, wide_mul (a := 30) (b := 20) (by decide) e2 (by decide) (by decide) (by decide), _, _, rfl, rfl, .inl ⟨_, rfl, ?_⟩⟩
      refine ⟨_, _, rfl, rfl, ⟨by decide, by decide, by decide⟩, _, _, rfl, rfl, _, _, rfl, rfl, m37, ?_⟩
      refine ⟨_, rfl, _, _, rfl, rfl, ⟨by decide, by decide⟩, .inl ⟨_, rfl, _, rfl, _, _, rfl, rfl, hm0, ?_⟩⟩
      exact q _ _ (Int.emod_nonneg _ (by omega)) (Int.emod_lt_of_pos _ hm0) ⟨_, _, _, upd_same, hb0, hb1, by omega, by omega⟩
theorem for_enum {K : PySem.W.Frag} {a : Addr} {xs : List V} {g : TG} {tb : TS} {D : Ends} {σ : L2.St} {H : Hp} (Pv : Nat → L2.St → Hp → Prop) (h0 : Pv 0 σ H) (hl : ∀ i σ H, i ≤ xs.length → Pv i σ H → SqL K H a xs)
    (hs : ∀ i x σ H T, xs[i]? = some x → H T = none → Pv i σ H → g (.ref T) σ (upd H T (.tup [.int (i : Nat), x])) fun σ2 H2 => tb { D with nx := Pv (i + 1), ct := Pv (i + 1), bk := D.nx } σ2 H2) (hd : ∀ σ H, Pv xs.length σ H → D.nx σ H) :
    ∃ W : Nat → Nat → L2.St → Hp → Prop, (∃ m, W 0 m σ H) ∧ ∀ i m σ H, W i m σ H →
      ((Ite K a).stop i H ∧ D.nx σ H) ∨ ((Ite K a).go i H ∧ ∃ N : L2.St → Hp → Prop, (∀ σ' H', N σ' H' → ∃ m', m' < m ∧ W (i + 1) m' σ' H') ∧ ∀ x H', (Ite K a).yld i H x H' → g x σ H' fun σ2 H2 => tb { D with nx := N, ct := N, bk := D.nx } σ2 H2) := by
  refine ⟨fun i m σ H => m = xs.length - i ∧ i ≤ xs.length ∧ Pv i σ H, ⟨xs.length, by simp, Nat.zero_le _, h0⟩, ?_⟩
  rintro i m σ H ⟨rfl, hi, p⟩
  have q := hl i σ H hi p
  by_cases hlt : i < xs.length
  · refine .inr ⟨⟨xs, xs[i], q, by simp [hlt]⟩, Pv (i + 1), fun σ' H' p' => ⟨xs.length - (i + 1), by omega, rfl, hlt, p'⟩, fun x H' y => ?_⟩
    obtain ⟨T, z, rfl, hT, rfl, y⟩ := y
    exact hs i z σ _ T (y xs q) hT p
  · have e : i = xs.length := by omega
    subst e
    exact .inl ⟨⟨xs, q, Nat.le_refl _⟩, hd _ _ p⟩
theorem ok_pot {f : Addr} {fd : FuncData} (F : Fun K "_law_pot" "_law_pot" sPot f fd) (B : Blt mg) (en : mg "enumerate" = none) : FnOk P w K mg base CX0 1 f fd ["script", "k"] (spPot K) := by
  refine F.ok scPot (fun vs H Q E h => ?_) (fun cdv A outer s H vs Q E hr h => ?_)
  · obtain ⟨a, ns, k, rfl, _⟩ := h
    rfl
  · obtain ⟨a, ns, k, rfl, hS, hlen, hk, hk1, q⟩ := h
    refine ⟨_, pss_cons (ps_set (i := 2) scPot.nd rfl (.inl rfl) (pe_ifExp (pt_cmpR op_lt (pv 1) (pe_callB call_len_seq (by rfl) B.len (by decide +kernel) (pa_cons (pv 0) pa_nil)) (nomark _))
        (pe_ix ix_list (pv 0) (pv 1) (fun _ _ => rfl)) (pe_op op_add (pe_op op_mul pe_int (pv 1)) pe_int)))
      (pss_cons (ps_set (i := 3) scPot.nd rfl (.inl rfl) (pe_callB call_len_seq (by rfl) B.len (by decide +kernel) (pa_cons (pv 0) pa_nil)))
      (pss_cons (ps_for PassesOwn.never rfl (pi_enum (by rfl) en (pa_cons (pv 0) pa_nil)) (pg_tup rfl (pgs_cons (pg_name (i := 4) scPot.nd rfl (.inl rfl)) (pgs_cons (pg_name (i := 5) scPot.nd rfl (.inl rfl)) pgs_nil)))
        (pss_one (ps_set (i := 3) scPot.nd rfl (.inl rfl) (pe_op op_mod (pe_callTy call_int1 (by rfl) B.int (by decide +kernel) (pa_cons (pe_op op_add (pe_op op_mul (pv 3) pe_int) (pe_op op_mul (pv 5) (pe_op op_add (pe_op op_mul pe_int (pv 4)) pe_int))) pa_nil))
          (pe_op op_add (pe_op op_pow pe_int pe_int) pe_int)))))
      (pss_one (ps_ret (pe_lst (pa_cons (pe_callB (call_max2 rfl) (by rfl) B.max (by decide +kernel) (pa_cons pe_int (pa_cons (pe_op op_sub (pv 2) (pe_op op_pow pe_int pe_int)) pa_nil)))
        (pa_cons (pe_op op_mod (pe_callTy call_int1 (by rfl) B.int (by decide +kernel) (pa_cons (pe_op op_add (pe_op op_add (pe_op op_add (pe_op op_mul (pv 2) pe_int) (pe_op op_mul (pv 3) pe_int)) (pe_op op_mul pe_int (pv 1))) pe_int) pa_nil))
            (pe_op op_add (pe_op op_pow pe_int pe_int) pe_int))
        (pa_cons pe_int pa_nil)))))))), ?_⟩
    have p33 : (0 : Int) < 10 ^ (33 : Int).toNat + 61 := by decide +kernel
    have p36 : (0 : Int) < 10 ^ (36 : Int).toNat + 67 := by decide +kernel
    have q36 : (10 : Int) ^ (36 : Int).toNat + 67 ≤ 2 ^ 120 := by decide +kernel
    refine ⟨_, rfl, _, rfl, _, _, rfl, .inl hS, _, _, rfl, rfl, _, rfl, ?_⟩
    refine ite_int (fun cell => ?_) (fun hlt R => ?_) (fun _ R => ?_)
    · refine ⟨_, rfl, a, _, rfl, .inl hS, ?_⟩
      refine ⟨_, rfl, a, _, rfl, hS, ?_⟩
      refine for_enum (K := K) (a := a) (xs := ns.map V.int) (fun i σ H' => ∃ (total : Int) (o4 o5 : Option V), σ = [some (.ref a), some (.int k), some (.int cell), some (.int total), o4, o5] ∧ Same H H') ⟨_, _, _, rfl, Same.refl _⟩ (fun i σ H' _ ⟨_, _, _, _, s⟩ => s.seq hS) ?_ ?_
      · rintro i x σ H' T0 hx hT0 ⟨total, o4, o5, rfl, s⟩
        obtain ⟨z, hz, rfl⟩ := get_ints hx
        have hi : i < ns.length := (List.getElem?_eq_some_iff.mp hz).1
        have s2 := s.trans (same_new (o := .tup [.int (i : Nat), .int z]) hT0)
        refine ⟨T0, _, rfl, SqT.of upd_same, rfl, _, _, rfl, _, _, rfl, rfl, ?_⟩
        exact ⟨_, rfl, _, _, rfl, rfl, .inr ⟨by decide, by decide⟩, _, rfl, _, rfl, _, _, rfl, rfl, .inl ⟨by decide, by decide⟩, _, _, rfl, rfl, _, _, rfl, rfl, .inr ⟨by omega, by omega⟩, _, _, rfl, rfl, .inl ⟨_, rfl, _, _, rfl, rfl, ⟨by decide, by decide, by decide⟩, _, _, rfl, rfl, _, _, rfl, rfl, p33, _, _, _, rfl, s2⟩⟩
      · rintro σ H' ⟨total, o4, o5, rfl, s⟩
        refine ⟨_, rfl, _, _, rfl, rfl, ⟨by decide, by decide, by decide⟩, _, _, rfl, rfl, _, _, rfl, _, rfl, _, _, rfl, rfl, .inr ⟨by decide, by decide⟩, _, rfl, _, _, rfl, rfl, .inr ⟨by decide, by decide⟩, _, _, rfl, rfl,
          _, rfl, _, _, rfl, rfl, .inl ⟨by decide, by decide⟩, _, _, rfl, rfl, _, _, rfl, rfl, .inl ⟨_, rfl, _, _, rfl, rfl, ⟨by decide, by decide, by decide⟩, _, _, rfl, rfl, _, _, rfl, rfl, p36, (by show 3 ≤ sizeLine; decide), fun p hp => ?_⟩⟩
        exact q p _ (s.free hp) (s.trans (same_new hp)) ⟨_, _, _, upd_same, Int.emod_nonneg _ (by omega), Int.lt_of_lt_of_le (Int.emod_lt_of_pos _ p36) q36, by decide, by decide⟩
    · have hlt' : k < ((ns.map V.int).length : Int) := of_decide_eq_true hlt
      rw [len_ints] at hlt'
      have hget : (ns.map V.int)[k.toNat]? = some (.int ns[k.toNat]) := by rw [List.getElem?_map, List.getElem?_eq_getElem (by omega)]; rfl
      have hat := atI_nat hget
      rw [Int.toNat_of_nonneg hk] at hat
      exact ⟨_, rfl, _, rfl, a, _, k, _, rfl, rfl, hS, hat, R _⟩
    · exact ⟨_, rfl, _, _, rfl, rfl, .inl ⟨by decide, by decide⟩, _, _, rfl, rfl, R _⟩
end
end S1

set_option Elab.async false
set_option linter.all false
set_option maxRecDepth 100000
set_option maxHeartbeats 4000000
/-! unlike names, drawn: the counting -/
namespace S1
open PySem PySem.Spec PyProof.Rows L2
/-- a name -/
structure Nm (x : Str) : Prop where
  lo : 1 ≤ x.length
  hi : x.length ≤ 8
  az : ∀ c ∈ x.cps.toList, 97 ≤ c ∧ c ≤ 122
def nmB (x : Str) : Bool := decide (1 ≤ x.length) && decide (x.length ≤ 8) && x.cps.toList.all fun c => decide (97 ≤ c ∧ c ≤ 122)
theorem nm_of {x : Str} (h : nmB x = true) : Nm x := by
  unfold nmB at h
  rw [Bool.and_eq_true, Bool.and_eq_true, decide_eq_true_eq, decide_eq_true_eq, List.all_eq_true] at h
  exact ⟨h.1.1, h.1.2, fun c hc => of_decide_eq_true (h.2 c hc)⟩
def resv : List Str := ["mine", "newone", "nobody", "notthere"]
def left0 : List Str := ["a", "b", "c", "x", "y", "z", "ab", "ba", "aa", "xy", "yx", "zz", "abc", "acb", "xyz", "zyx", "own", "owns"]
def left1 : List Str := ["pick", "picks", "zebra", "alpha", "omega", "abcdefg", "abcdefgh", "hgfedcba", "aaaaaaaa", "zzzzzzzz"]
def cnt (L F : List Str) : Nat := L.countP fun w => decide (w ∈ F)
theorem pop_perm {α : Type} (L : List α) (k : Nat) (h : k < L.length) : L.Perm (L[k] :: L.eraseIdx k) := by
  have e : L = L.take k ++ L[k] :: L.drop (k + 1) := by
    rw [← List.drop_eq_getElem_cons h, List.take_append_drop]
  have z : (L.take k ++ L[k] :: L.drop (k + 1)).Perm (L[k] :: (L.take k ++ L.drop (k + 1))) := List.perm_middle
  rw [← e, ← List.eraseIdx_eq_take_drop_succ] at z
  exact z
theorem cnt_cons (w : Str) (L F : List Str) : cnt (w :: L) F = cnt L F + if w ∈ F then 1 else 0 := by
  unfold cnt
  rw [List.countP_cons]
  by_cases h : w ∈ F <;> simp [h]
theorem cnt_pop (L F : List Str) (k : Nat) (h : k < L.length) : cnt L F = cnt (L.eraseIdx k) F + if L[k] ∈ F then 1 else 0 := by
  rw [← cnt_cons]
  exact (pop_perm L k h).countP_eq _
theorem cnt_snoc_out {L F : List Str} {w : Str} (h : w ∉ L) : cnt L (F ++ [w]) = cnt L F := by
  unfold cnt
  refine List.countP_congr fun x hx => ?_
  have ne : x ≠ w := fun e => h (e ▸ hx)
  simp [ne]
theorem cnt_snoc_le : ∀ {L F : List Str} {w : Str}, L.Nodup → cnt L (F ++ [w]) ≤ cnt L F + 1
  | [], F, w, _ => by simp [cnt]
  | x :: L, F, w, nd => by
    obtain ⟨n1, n2⟩ := List.nodup_cons.mp nd
    rw [cnt_cons, cnt_cons]
    by_cases e : x = w
    · subst e
      rw [cnt_snoc_out n1]
      by_cases h : x ∈ F <;> simp [h]
    · have ih := cnt_snoc_le (F := F) (w := w) n2
      have z : (x ∈ F ++ [w]) ↔ x ∈ F := by simp [e]
      by_cases h : x ∈ F <;> simp [z, h] <;> omega
/-- what is left to draw from, what was found, and how many turns are ahead -/
structure Pool (L F : List Str) (r : Nat) : Prop where
  nl : L.Nodup
  nf : F.Nodup
  vl : ∀ w ∈ L, Nm w ∧ w ∉ resv
  vf : ∀ w ∈ F, Nm w ∧ w ∉ resv
  room : 2 * r + cnt L F ≤ L.length
/-- the same within a turn, with a word in hand -/
structure Mid (L F : List Str) (w : Str) (r : Nat) : Prop where
  nl : L.Nodup
  nf : F.Nodup
  vl : ∀ w ∈ L, Nm w ∧ w ∉ resv
  vf : ∀ w ∈ F, Nm w ∧ w ∉ resv
  nw : Nm w
  b : 2 * r + cnt L F ≤ L.length + 2
  c : w ∈ F ∨ w ∈ resv → 2 * r + cnt L F ≤ L.length + 1
  d : w ∉ L ∨ 2 * r + cnt L F ≤ L.length + 1
theorem erase_of {L : List Str} (nl : L.Nodup) (k : Nat) (h : k < L.length) : (L.eraseIdx k).Nodup ∧ L[k] ∉ L.eraseIdx k ∧ (L.eraseIdx k).length + 1 = L.length ∧ ∀ w ∈ L.eraseIdx k, w ∈ L := by
  have p := pop_perm L k h
  obtain ⟨n1, n2⟩ := List.nodup_cons.mp (p.nodup_iff.mp nl)
  refine ⟨n2, n1, by rw [p.length_eq, List.length_cons], fun w hw => p.mem_iff.mpr (List.mem_cons_of_mem _ hw)⟩
theorem Pool.pop {L F : List Str} {r : Nat} (P : Pool L F (r + 1)) (k : Nat) (h : k < L.length) : Mid (L.eraseIdx k) F L[k] (r + 1) ∧ 2 * (r + 1) + cnt (L.eraseIdx k) F ≤ (L.eraseIdx k).length + 1 := by
  obtain ⟨e1, e2, e3, e4⟩ := erase_of P.nl k h
  have c := cnt_pop L F k h
  have room := P.room
  have z : 2 * (r + 1) + cnt (L.eraseIdx k) F ≤ (L.eraseIdx k).length + 1 := by
    by_cases hF : L[k] ∈ F
    · rw [if_pos hF] at c; omega
    · rw [if_neg hF] at c; omega
  exact ⟨⟨e1, P.nf, fun w hw => P.vl w (e4 w hw), P.vf, (P.vl _ (List.getElem_mem h)).1, by omega, fun _ => z, .inr z⟩, z⟩
theorem Mid.rand {L F : List Str} {w u : Str} {r : Nat} (M : Mid L F w r) (z : 2 * r + cnt L F ≤ L.length + 1) (hu : Nm u) : Mid L F u r := ⟨M.nl, M.nf, M.vl, M.vf, hu, by omega, fun _ => z, .inr z⟩
theorem Mid.more {L F : List Str} {w : Str} {r : Nat} (M : Mid L F w (r + 1)) (hw : w ∈ F ∨ w ∈ resv) : 0 < L.length ∧ ∀ (k : Nat) (h : k < L.length), Mid (L.eraseIdx k) F L[k] (r + 1) := by
  have c := M.c hw
  refine ⟨by omega, fun k h => ?_⟩
  obtain ⟨e1, e2, e3, e4⟩ := erase_of M.nl k h
  have cp := cnt_pop L F k h
  refine ⟨e1, M.nf, fun w hw => M.vl w (e4 w hw), M.vf, (M.vl _ (List.getElem_mem h)).1, ?_, fun hk => ?_, .inl e2⟩
  · split at cp <;> omega
  · rcases hk with hk | hk
    · rw [if_pos hk] at cp; omega
    · exact absurd hk (M.vl _ (List.getElem_mem h)).2
theorem Mid.done {L F : List Str} {w : Str} {r : Nat} (M : Mid L F w (r + 1)) (h1 : w ∉ F) (h2 : w ∉ resv) : Pool L (F ++ [w]) r := by
  refine ⟨M.nl, ?_, M.vl, fun x hx => ?_, ?_⟩
  · rw [List.nodup_append]
    refine ⟨M.nf, by simp, fun a ha b hb => ?_⟩
    cases List.mem_singleton.mp hb
    exact fun e => h1 (e ▸ ha)
  · rcases List.mem_append.mp hx with z | z
    · exact M.vf x z
    · cases List.mem_singleton.mp z
      exact ⟨M.nw, h2⟩
  · rcases M.d with z | z
    · rw [cnt_snoc_out z]
      have := M.b
      omega
    · have := cnt_snoc_le (F := F) (w := w) M.nl
      omega
theorem pool0 {r : Nat} (h : r ≤ 14) : Pool (left0 ++ left1) [] r := by
  refine ⟨by decide +kernel, List.nodup_nil, fun w hw => ?_, fun w hw => absurd hw (by simp), ?_⟩
  · have z : ((left0 ++ left1).all fun w => nmB w && !resv.contains w) = true := by decide +kernel
    have z2 := List.all_eq_true.mp z w hw
    rw [Bool.and_eq_true] at z2
    refine ⟨nm_of z2.1, fun m => ?_⟩
    have z3 := z2.2
    simp [m] at z3
  · have z : cnt (left0 ++ left1) [] = 0 := by decide +kernel
    have z2 : (left0 ++ left1).length = 28 := by decide +kernel
    rw [z, z2]
    omega
end S1

set_option Elab.async false
set_option linter.all false
set_option maxRecDepth 100000
set_option maxHeartbeats 4000000
/-! unlike names, drawn -/
namespace S1
open PySem PySem.Spec PyProof.Rows L2
def spWords : Sp := fun vs H Q _ => ∃ (p : Addr) (c n : Nat), vs = [.ref p, .int n] ∧ Src H p c ∧ c ≤ 90000 ∧ n ≤ 14 ∧
  ∀ (l : Addr) (ws : List Str) (H' : Hp), H l = none → H' l = some (.lst (ws.map V.str)) → ws.length = n → ws.Nodup → (∀ x ∈ ws, Nm x ∧ x ∉ resv) → Src H' p (c + 200) → Same (del H p) (del H' p) → Q (.ref l) H'
theorem branch {c : Prop} [Decidable c] {t u : TS} {D : Ends} {σ : L2.St} {H : Hp} (I : L2.St → Hp → Prop) (R : ∀ σ' H', I σ' H' → D.nx σ' H') (h1 : c → (∀ σ' H', I σ' H' → D.nx σ' H') → t D σ H)
    (h2 : ¬ c → (∀ σ' H', I σ' H' → D.nx σ' H') → u D σ H) : if c then t D σ H else u D σ H := by
  by_cases h : c
  · rw [if_pos h]; exact h1 h R
  · rw [if_neg h]; exact h2 h R
theorem seq_nat {r : Int} {n : Nat} (h0 : 0 ≤ r) (h1 : r < n) : seqIndex? r n = some r.toNat := by
  unfold seqIndex?
  simp
  omega
theorem map_erase {α β : Type} (f : α → β) : ∀ (l : List α) (k : Nat), (l.map f).eraseIdx k = (l.eraseIdx k).map f
  | [], _ => rfl
  | _ :: _, 0 => rfl
  | x :: l, k + 1 => by rw [List.map_cons, List.eraseIdx_cons_succ, List.eraseIdx_cons_succ, List.map_cons, map_erase f l k]
theorem sd_of {H H' : Hp} {p : Addr} (s : Same H H') : Same (del H p) (del H' p) := fun b u e => by
  by_cases z : b = p
  · rw [z, del_same] at e; cases e
  · rw [del_ne z] at e ⊢; exact s b u e
theorem sd_put {H H' : Hp} {p l : Addr} {o : HO} (s : Same (del H p) (del H' p)) (h : H l = none) : Same (del H p) (del (upd H' l o) p) := fun b u e => by
  by_cases z : b = p
  · rw [z, del_same] at e; cases e
  · have z2 := s b u e
    rw [del_ne z] at e z2 ⊢
    rw [upd_ne (ne_of_none e h)]
    exact z2
theorem sd_at {H H' : Hp} {p : Addr} {o : HO} (s : Same (del H p) (del H' p)) : Same (del H p) (del (upd H' p o) p) := fun b u e => by
  by_cases z : b = p
  · rw [z, del_same] at e; cases e
  · have z2 := s b u e
    rw [del_ne z] at z2 ⊢
    rw [upd_ne z]
    exact z2
abbrev sg (c : Nat) : Str := ⟨#[c]⟩
theorem joinL_one : ∀ cs : List Nat, TL.joinL [] ((cs.map sg).map TL.tl) = cs
  | [] => rfl
  | [c] => rfl
  | c :: d :: cs => by
    show TL.tl (sg c) ++ ([] ++ TL.joinL [] (((d :: cs).map sg).map TL.tl)) = c :: d :: cs
    rw [joinL_one (d :: cs)]
    rfl
theorem join_one (cs : List Nat) : Txt.join "" (cs.map sg) = ⟨cs.toArray⟩ := by
  refine TL.ext_tl ((congrArg TL.tl (TL.join_eq _ _)).trans ((TL.tl_join _ _).trans ?_))
  have e : TL.tl ("" : Str) = [] := by decide +kernel
  rw [e, joinL_one]
theorem nm_join {cs : List Nat} (h1 : 1 ≤ cs.length) (h2 : cs.length ≤ 8) (h3 : ∀ c ∈ cs, 97 ≤ c ∧ c ≤ 122) : Nm (Txt.join "" (cs.map sg)) := by
  rw [join_one]
  exact ⟨by simpa [Str.length] using h1, by simpa [Str.length] using h2, by simpa using h3⟩
theorem join_len (cs : List Nat) : ((cs.map sg).map (·.length)).sum = cs.length := by
  induction cs with
  | nil => rfl
  | cons c cs ih =>
    rw [List.map_cons, List.map_cons, List.sum_cons, ih, List.length_cons]
    show 1 + cs.length = cs.length + 1
    omega
theorem abc_at {r : Int} (h0 : 0 ≤ r) (h1 : r < 26) : atI ("abcdefghijklmnopqrstuvwxyz" : Str).cps.toList r = some (97 + r.toNat) := by
  have z : ∀ k, k < 26 → ("abcdefghijklmnopqrstuvwxyz" : Str).cps.toList[k]? = some (97 + k) := by decide +kernel
  have z2 := atI_nat (z r.toNat (by omega))
  rwa [Int.toNat_of_nonneg h0] at z2
theorem gen_heap {D : L2.St → Hp → Prop} {σ : L2.St} {G : Hp} (F : Hp → Prop) (h : F G) (k : ∀ G', F G' → D σ G') : D σ G := k G h
theorem or_split {c : Prop} [Decidable c] {u : TT} {σ : L2.St} {H : Hp} {Q : Bool → Hp → Prop} (R : Hp → Prop) (k : ∀ H', R H' → Q true H') (h1 : c → (∀ H', R H' → Q true H') → Q true H) (h2 : ¬ c → (∀ H', R H' → Q true H') → u σ H Q) : if c then Q true H else u σ H Q := by
  by_cases h : c
  · rw [if_pos h]; exact h1 h k
  · rw [if_neg h]; exact h2 h k
theorem inV_str {x : Str} {xs : List Str} : inV (.str x) (xs.map V.str) = decide (x ∈ xs) := by
  unfold inV
  rw [List.any_map]
  by_cases h : x ∈ xs
  · rw [decide_eq_true h, List.any_eq_true]
    exact ⟨x, h, by simp [eqV]⟩
  · rw [decide_eq_false h, List.any_eq_false]
    intro y hy
    simp only [Function.comp, eqV]
    intro z
    have z2 : y = x := by simpa using z
    exact h (z2 ▸ hy)
theorem flat_strs (xs : List Str) : (xs.map V.str).all flatV = true := by
  rw [List.all_map, List.all_eq_true]
  exact fun _ _ => rfl
end S1

set_option Elab.async false
set_option linter.all false
set_option maxRecDepth 100000
set_option maxHeartbeats 4000000
/-! clauses, drawn -/
namespace S1
open PySem PySem.W PySem.Spec PyProof.Rows L2
theorem lst_ne_tup {xs ys : List V} : HO.lst xs ≠ HO.tup ys := fun z => by cases z
mutual
/-- tuples stay what they are while a list changes -/
theorem dat_del {H H' : Hp} {p : Addr} {xs : List V} (hp : H p = some (.lst xs)) (s : Same (del H p) (del H' p)) : ∀ {v : V} {d : PyData}, keyable d = true → Dat H v d → Dat H' v d
  | _, _, _, .non => .non
  | _, _, _, .bl b => .bl b
  | _, _, _, .int i => .int i
  | _, _, _, .str x => .str x
  | _, _, k, .lst e h => by simp [keyable] at k
  | _, _, k, .tup (a := a) e h => by
    have ne : a ≠ p := fun z => by rw [z, hp] at e; cases e
    have z := s a _ (by rw [del_ne ne]; exact e)
    rw [del_ne ne] at z
    exact .tup z (dats_del hp s (by simpa [keyable] using k) h)
  | _, _, k, .dct e h => by simp [keyable] at k
theorem dats_del {H H' : Hp} {p : Addr} {xs : List V} (hp : H p = some (.lst xs)) (s : Same (del H p) (del H' p)) : ∀ {vs : List V} {ds : List PyData}, keyables ds = true → DatAll H vs ds → DatAll H' vs ds
  | _, _, _, .nil => .nil
  | _, _, k, .cons h t => by
    rw [keyables, Bool.and_eq_true] at k
    exact .cons (dat_del hp s k.1 h) (dats_del hp s k.2 t)
end
theorem Src.lst {H : Hp} {p : Addr} {c : Nat} (h : Src H p c) : ∃ xs, H p = some (.lst xs) := by
  obtain ⟨_, _, _, z, _⟩ := h.at_
  exact ⟨_, z⟩
theorem dat_src {H H' : Hp} {p : Addr} {c : Nat} (h : Src H p c) (s : Same (del H p) (del H' p)) {v : V} {d : PyData} (k : keyable d = true) (D : Dat H v d) : Dat H' v d := by
  obtain ⟨xs, z⟩ := h.lst
  exact dat_del z s k D
theorem dat_upd {H : Hp} {p : Addr} {o : HO} {xs : List V} (hp : H p = some (.lst xs)) {v : V} {d : PyData} (k : keyable d = true) (D : Dat H v d) : Dat (upd H p o) v d := dat_del hp (sd_at (Same.refl _)) k D
theorem dat_new {H : Hp} {p : Addr} {o : HO} (hp : H p = none) {v : V} {d : PyData} (D : Dat H v d) : Dat (upd H p o) v d := D.same (same_new hp)
/-! ### letters and clauses, as data -/
abbrev Ltr := Str × Bool
def ltD (l : Ltr) : PyData := .tuple [.str l.1, .bool l.2]
def clD (cl : List Ltr) : PyData := .tuple (cl.map ltD)
theorem keyable_lt (l : Ltr) : keyable (ltD l) = true := rfl
theorem keyables_map {α : Type} (f : α → PyData) (h : ∀ x, keyable (f x) = true) : ∀ l : List α, keyables (l.map f) = true
  | [] => rfl
  | x :: l => by rw [List.map_cons, keyables, h x, keyables_map f h l]; rfl
theorem keyable_cl (cl : List Ltr) : keyable (clD cl) = true := by
  show keyables (cl.map ltD) = true
  exact keyables_map ltD keyable_lt cl
theorem alike_lt (a b : Ltr) : alike (ltD a) (ltD b) = true := by simp [ltD, alike, alikeAll]
theorem alikes_map {α : Type} (f : α → PyData) (h : ∀ x y, alike (f x) (f y) = true) : ∀ l m : List α, alikeAll (l.map f) (m.map f) = true
  | [], _ => by simp [alikeAll]
  | _ :: _, [] => by simp [alikeAll]
  | x :: l, y :: m => by simp only [List.map_cons, alikeAll, h x y, alikes_map f h l m, Bool.and_self]
theorem alike_cl (a b : List Ltr) : alike (clD a) (clD b) = true := by
  show alikeAll (a.map ltD) (b.map ltD) = true
  exact alikes_map ltD alike_lt a b
/-- one text below another -/
def tlt (x y : Str) : Prop := x.cps.toList < y.cps.toList
theorem lt_letters {a b : Ltr} (ne : a.1 ≠ b.1) (h : dataLt (ltD a) (ltD b) = true) : tlt a.1 b.1 := by
  unfold ltD at h
  rw [dataLt_pair (by simp [alike]) (by simp [alike])] at h
  have e : PyData.eqv (.str a.1) (.str b.1) = false := by
    simp only [PyData.eqv]
    exact beq_false_of_ne ne
  rw [e, if_neg (by decide), dataLt_str] at h
  rw [decide_eq_true_eq] at h
  exact h
/-- what a drawn clause is -/
structure ClOk (ws : List Str) (cl : List Ltr) : Prop where
  up : cl.Pairwise fun a b => tlt a.1 b.1
  mem : ∀ l ∈ cl, l.1 ∈ ws
theorem depth_lt (l : Ltr) : (ltD l).depth ≤ 1 := by simp [ltD, PyData.depth, PyData.depthAll]
theorem depths_map {α : Type} (f : α → PyData) (n : Nat) (h : ∀ x, (f x).depth ≤ n) : ∀ l : List α, PyData.depthAll (l.map f) ≤ n
  | [] => by simp [PyData.depthAll]
  | x :: l => by
    have := h x
    have := depths_map f n h l
    simp only [List.map_cons, PyData.depthAll]
    omega
theorem depth_cl (cl : List Ltr) : (clD cl).depth ≤ 2 := by
  have := depths_map ltD 1 depth_lt cl
  simp only [clD, PyData.depth]
  omega
def spClause : Sp := fun vs H Q _ => ∃ (p lw : Addr) (c : Nat) (ws : List Str), vs = [.ref p, .ref lw] ∧ Src H p c ∧ c ≤ 90000 ∧ H lw = some (.lst (ws.map V.str)) ∧ ws.Nodup ∧ ws.length ≤ 100 ∧ p ≠ lw ∧
  ∀ (v : V) (cl : List Ltr) (H' : Hp), Dat H' v (clD cl) → ClOk ws cl → Src H' p (c + 202) → Same (del H p) (del H' p) → Q v H'
theorem ite_intP {c : Prop} [Decidable c] {ta tb : TE} {σ : L2.St} {H : Hp} {Q : VK} (I : Int → Prop) (R : ∀ i : Int, I i → Q (.int i) H) (h1 : c → (∀ i : Int, I i → Q (.int i) H) → ta σ H Q) (h2 : ¬ c → (∀ i : Int, I i → Q (.int i) H) → tb σ H Q) : if c then ta σ H Q else tb σ H Q := by
  by_cases h : c
  · rw [if_pos h]; exact h1 h R
  · rw [if_neg h]; exact h2 h R
theorem sd_new {H H' : Hp} {p l : Addr} {o : HO} (s : Same (del H p) (del H' p)) (hl : H' l = none) (n : l ≠ p) : Same (del H p) (del (upd H' l o) p) := by
  refine sd_put s ?_
  cases z : H l with
  | none => rfl
  | some u =>
    have z2 := s l u (by rw [del_ne n]; exact z)
    rw [del_ne n, hl] at z2
    cases z2
theorem sd_free {H H' : Hp} {p l : Addr} (s : Same (del H p) (del H' p)) (hl : H' l = none) (n : l ≠ p) : H l = none := by
  cases z : H l with
  | none => rfl
  | some u =>
    have z2 := s l u (by rw [del_ne n]; exact z)
    rw [del_ne n, hl] at z2
    cases z2
theorem dats_rows {H : Hp} : ∀ {T : List TRow}, (∀ q ∈ T, Dat H q.v q.2) → DatAll H (T.map TRow.v) (T.map Prod.snd)
  | [], _ => .nil
  | q :: T, h => .cons (h q List.mem_cons_self) (dats_rows fun r hr => h r (List.mem_cons_of_mem _ hr))
theorem sorty_of {α : Type} {f : α → PyData} {T : List TRow} {l : List α} (e : T.map Prod.snd = l.map f) (al : ∀ x y, alike (f x) (f y) = true) (tp : ∀ x, ∃ xs, f x = .tuple xs) (dp : ∀ x, (f x).depth ≤ 8) : Sorty T := by
  have z : ∀ p ∈ T, ∃ x, p.2 = f x := fun p hp => by
    have m : p.2 ∈ l.map f := e ▸ List.mem_map_of_mem hp
    obtain ⟨x, _, hx⟩ := List.mem_map.mp m
    exact ⟨x, hx.symm⟩
  refine ⟨fun d hd d' hd' => ?_, fun p hp => ?_, fun p hp => ?_⟩
  · rw [e] at hd hd'
    obtain ⟨x, _, rfl⟩ := List.mem_map.mp hd
    obtain ⟨y, _, rfl⟩ := List.mem_map.mp hd'
    exact al x y
  · obtain ⟨x, hx⟩ := z p hp
    rw [hx]; exact tp x
  · obtain ⟨x, hx⟩ := z p hp
    rw [hx]; exact dp x
/-- the letters of sorted rows -/
theorem letters_back {T T' : List TRow} {cl : List Ltr} (pm : T'.Perm T) (e : T.map Prod.snd = cl.map ltD) (nd : (cl.map Prod.fst).Nodup) (up : (T.map Prod.snd).Nodup → T'.Pairwise fun p q => dataLt p.2 q.2 = true) :
    ∃ cl' : List Ltr, cl'.Perm cl ∧ T'.map Prod.snd = cl'.map ltD ∧ cl'.Pairwise fun a b => tlt a.1 b.1 := by
  obtain ⟨cl', p2, e2⟩ := perm_back (f := ltD) ((pm.map Prod.snd).trans (.of_eq e)) cl rfl
  have nl : cl.Nodup := nodup_of_map nd
  have nT : (T.map Prod.snd).Nodup := by
    rw [e]
    refine List.pairwise_map.mpr (nl.imp fun {a b} ne z => ne ?_)
    unfold ltD at z
    injection z with z
    injection z with z1 z2
    injection z1 with z1
    injection z2 with z2
    injection z2 with z2
    exact Prod.ext z1 z2
  have u1 : (T'.map Prod.snd).Pairwise fun d e => dataLt d e = true := List.pairwise_map.mpr (up nT)
  rw [e2] at u1
  have nd' : (cl'.map Prod.fst).Nodup := ((p2.map Prod.fst).nodup_iff).mpr nd
  exact ⟨cl', p2, e2, ((List.pairwise_map.mp u1).and (List.pairwise_map.mp nd')).imp fun {a b} z => lt_letters z.2 z.1⟩
end S1

set_option Elab.async false
set_option linter.all false
set_option maxRecDepth 100000
set_option maxHeartbeats 4000000
/-! sorted(list) of texts, and the data of sayings -/
namespace S1
open PySem PySem.W PySem.Spec PyProof.Rows L2
abbrev RS (v : Value) (x : Str) : Prop := RelV (.str x) v
theorem each_strs : ∀ {xs : List Str} {us : List Value}, Vals (xs.map V.str) us → EachIs RS us xs
  | [], _, .nil => .nil
  | _ :: _, _, .cons r t => .cons r (each_strs t)
theorem strs_each : ∀ {us : List Value} {xs : List Str}, EachIs RS us xs → Vals (xs.map V.str) us
  | _, _, .nil => .nil
  | _, _, .cons r t => .cons r (strs_each t)
theorem each_reads {h : Heap} : ∀ {us : List Value} {xs : List Str}, EachIs RS us xs → EachIs (fun v x => ∃ as, Reads h v (.str x) as) us xs
  | _, _, .nil => .nil
  | _, _, .cons r t => .cons (by obtain ⟨k, rfl⟩ := r; exact ⟨_, .str _ k⟩) (each_reads t)
def sortW (xs : List Str) : List Str := xs.mergeSort (dataLe false PyData.str)
theorem sortW_up {xs : List Str} (nd : xs.Nodup) : (sortW xs).Pairwise tlt := by
  have srt : (sortW xs).Pairwise fun p q => dataLe false PyData.str p q = true := sort_pairwise (sortLe_total (listOrd itemOrd) false fun p : Str => keyToks (.str p)) xs
  have nd' : (sortW xs).Nodup := (List.mergeSort_perm _ _).nodup_iff.mpr nd
  refine (srt.and nd').imp fun {p q} z => ?_
  have al : alike (.str p) (.str q) = true := by simp [alike]
  have ne : PyData.str p ≠ PyData.str q := fun e => z.2 (by injection e)
  rcases dataLt_or al ne with c | c
  · rw [dataLt_str, decide_eq_true_eq] at c
    exact c
  · have z3 : (!dataLt (.str q) (.str p)) = true := z.1
    rw [c] at z3
    exact absurd z3 (by decide)
section
variable {X : Cx}
/-- sorted(xs), xs a list of texts -/
def rSortW (K : PySem.W.Frag) : List V → Hp → VK → Prop := fun vs H Q => ∃ (l : Addr) (xs : List Str), vs = [V.ref l] ∧ SqL K H l (xs.map V.str) ∧
  ∀ (ys : List Str) (b : Addr), ys.Perm xs → (xs.Nodup → ys.Pairwise tlt) → H b = none → Q (.ref b) (upd H b (.lst (ys.map V.str)))
theorem cr_sortW (hu : X.A.units + 64 < cLine) : CallR X (.builtin "sorted") (rSortW X.K) := by
  intro pins s σ H vs us Q I r h
  obtain ⟨l, xs, rfl, hl, q⟩ := h
  rw [Vals.ref1 r]
  obtain ⟨its, rv, pl, hz⟩ := I.list hl
  have e0 := each_strs rv
  have rd := each_reads (h := sortingHeap (copyHeap s.heap its) (s.heap.objs.size + 1) its) e0
  have al : AllAlike (xs.map PyData.str) := AllAlike.of fun b b' => by simp [alike]
  have un : ∀ d, d ∈ xs.map PyData.str → X.A.in1.in1.units + d.depth < cLine := fun d z => by
    obtain ⟨p, _, rfl⟩ := List.mem_map.mp z
    simp only [Around.in1_units, PyData.depth]
    omega
  have srt := SortsAt.data (prog := X.prog) (w := X.w) (A := X.A.in1.in1) (s := { s with heap := sortingHeap (copyHeap s.heap its) (s.heap.objs.size + 1) its }) (each_map (R := fun v d => ∃ as, Reads _ v d as) PyData.str rd) al
    (Sortable.others fun b => ⟨fun z => (nomatch z), fun _ z => (nomatch z)⟩) un
  have out := strs_each (sortVals_data (R := RS) (enc := PyData.str) false e0 rd al)
  rw [List.length_map] at hz
  have len : its.length = xs.length := by rw [e0.length]
  refine sorted_vals pl.isList srt (by rw [len]; exact hz) ?_
  obtain ⟨c, hc⟩ := PyProof.Rows.sortedAll_at s.heap its (sortVals (dataKind (sortingHeap (copyHeap s.heap its) (s.heap.objs.size + 1) its) (xs.map PyData.str)) false its its).toArray
  have fresh : H (s.heap.objs.size + 1) = none := I.hok.fresh (Nat.le_succ _)
  have pm : (sortW xs).Perm xs := List.mergeSort_perm _ _
  exact ⟨.ref _, upd H (s.heap.objs.size + 1) (.lst ((sortW xs).map V.str)), I.laid (t' := s.toks) (fun _ _ => PyProof.Rows.sortedAll_old) (Nat.le_succ _) ⟨by rw [List.length_map, pm.length_eq]; exact hz, _, c, out, hc⟩, rfl,
    q (sortW xs) _ pm sortW_up fresh⟩
end
/-! ### the data of sayings -/
abbrev Own := Str × List Str
def nmsD (xs : List Str) : PyData := .tuple (xs.map .str)
def ownD (o : Own) : PyData := .tuple [.str o.1, nmsD o.2]
structure Say where
  picks : List Str
  owns : List Own
  cls : List (List Ltr)
def Say.d (s : Say) : PyData := .tuple [nmsD s.picks, .tuple (s.owns.map ownD), .tuple (s.cls.map clD)]
def Say.names (s : Say) : List Str := s.picks ++ s.owns.map Prod.fst
def copies (os : List Own) : Nat := (os.map fun o => 2 ^ o.2.length).sum
/-- a saying of at most so many picks, owns, copies, clauses -/
structure SayOk (a b c d : Nat) (s : Say) : Prop where
  pu : s.picks.Pairwise tlt
  pn : ∀ x ∈ s.picks, Nm x
  pl : s.picks.length ≤ a
  ou : s.owns.Pairwise fun x y => tlt x.1 y.1
  on : ∀ o ∈ s.owns, Nm o.1 ∧ o.1 ∉ s.picks ∧ o.2.Pairwise tlt ∧ ∀ x ∈ o.2, x ∈ s.picks
  ol : s.owns.length ≤ b
  oc : copies s.owns ≤ c
  cu : s.cls.Pairwise fun x y => dataLt (clD x) (clD y) = true
  ck : ∀ cl ∈ s.cls, ClOk s.names cl
  cl : s.cls.length ≤ d
theorem alike_nms (a b : List Str) : alike (nmsD a) (nmsD b) = true := by
  show alikeAll (a.map .str) (b.map .str) = true
  exact alikes_map PyData.str (fun _ _ => by simp [alike]) a b
theorem alike_own (a b : Own) : alike (ownD a) (ownD b) = true := by
  simp only [ownD, alike, alikeAll, alike_nms, Bool.and_self, Bool.and_true]
theorem depth_nms (a : List Str) : (nmsD a).depth ≤ 1 := by
  have := depths_map PyData.str 0 (fun _ => Nat.le_refl _) a
  simp only [nmsD, PyData.depth]
  omega
theorem depth_own (a : Own) : (ownD a).depth ≤ 2 := by
  have := depth_nms a.2
  simp only [ownD, PyData.depth, PyData.depthAll]
  omega
theorem keyable_nms (a : List Str) : keyable (nmsD a) = true := by
  show keyables (a.map .str) = true
  exact keyables_map PyData.str (fun _ => rfl) a
theorem keyable_own (a : Own) : keyable (ownD a) = true := by
  simp only [ownD, keyable, keyables, keyable_nms, Bool.and_self]
theorem lt_owns {a b : Own} (ne : a.1 ≠ b.1) (h : dataLt (ownD a) (ownD b) = true) : tlt a.1 b.1 := by
  unfold ownD at h
  rw [dataLt_pair (by simp [alike]) (alike_nms _ _)] at h
  have e : PyData.eqv (.str a.1) (.str b.1) = false := by
    simp only [PyData.eqv]
    exact beq_false_of_ne ne
  rw [e, if_neg (by decide), dataLt_str, decide_eq_true_eq] at h
  exact h
/-- a tuple that stands -/
def FT (H : Hp) (a : Addr) (xs : List V) : Prop := H a = some (.tup xs)
theorem FT.rd {H : Hp} {a : Addr} {xs : List V} (h : FT H a xs) : Rd H a (.tup xs) := .inl h
theorem FT.sq {K : PySem.W.Frag} {H : Hp} {a : Addr} {xs : List V} (h : FT H a xs) : SqT K H a xs := .inl h.rd
theorem FT.same {H H' : Hp} {a : Addr} {xs : List V} (h : FT H a xs) (S : Same H H') : FT H' a xs := S _ _ h
/-- the owns of a saying, as they stand -/
def DatO (H : Hp) (v : V) (os : List Own) : Prop := ∃ b us, v = .ref b ∧ FT H b us ∧ DatAll H us (os.map ownD)
theorem DatO.same {H H' : Hp} {v : V} {os : List Own} (h : DatO H v os) (S : Same H H') : DatO H' v os := let ⟨b, us, e, f, d⟩ := h; ⟨b, us, e, f.same S, DatAll.same S d⟩
/-- a saying, as it stands -/
def DatS (H : Hp) (v : V) (s : Say) : Prop := ∃ a p o c, v = .ref a ∧ H a = some (.tup [p, o, c]) ∧ Dat H p (nmsD s.picks) ∧ DatO H o s.owns ∧ Dat H c (.tuple (s.cls.map clD))
theorem DatS.same {H H' : Hp} {v : V} {s : Say} (h : DatS H v s) (S : Same H H') : DatS H' v s := let ⟨a, p, o, c, e, g, d1, d2, d3⟩ := h; ⟨a, p, o, c, e, S _ _ g, d1.same S, d2.same S, d3.same S⟩
end S1

set_option Elab.async false
set_option linter.all false
set_option maxRecDepth 100000
set_option maxHeartbeats 4000000
/-! sayings, drawn -/
namespace S1
open PySem PySem.W PySem.Spec PyProof.Rows L2
theorem cut_take {ws : List Str} {r : Nat} : cutV (ws.map V.str) none (some (r : Int)) = (ws.take r).map V.str := by
  unfold cutV
  rw [HT.sIx_nat, HT.sIx_none, List.drop_zero, List.map_take, Nat.sub_zero, ← List.take_eq_take_min]
theorem cut_mid {ws : List Str} {a r : Nat} (h : a + r ≤ ws.length) : cutV (ws.map V.str) (some (a : Int)) (some ((a + r : Nat) : Int)) = ((ws.drop a).take r).map V.str := by
  unfold cutV
  rw [HT.sIx_nat, HT.sIx_nat, List.length_map, Nat.min_eq_left (show a ≤ ws.length by omega), Nat.min_eq_left h, ← List.map_drop, ← List.map_take]
  congr 1
  congr 1
  omega
theorem dats_strs {H : Hp} : ∀ xs : List Str, DatAll H (xs.map V.str) (xs.map PyData.str)
  | [] => .nil
  | x :: xs => .cons (.str x) (dats_strs xs)
theorem copies_snoc (os : List Own) (o : Own) : copies (os ++ [o]) = copies os + 2 ^ o.2.length := by
  unfold copies
  rw [List.map_append, List.sum_append, List.map_cons, List.map_nil, List.sum_cons, List.sum_nil, Nat.add_zero]
theorem own_row {H : Hp} {q : TRow} {o : Own} (e : q.2 = ownD o) (D : Dat H q.v q.2) : ∃ t, H q.1 = some (.tup [.str o.1, .ref t]) ∧ H t = some (.tup (o.2.map V.str)) := by
  rw [e] at D
  have D2 : Dat H (.ref q.1) (.tuple [.str o.1, nmsD o.2]) := D
  cases D2 with
  | tup g h =>
    cases h with
    | cons h1 h2 =>
      cases h2 with
      | cons h3 h4 =>
        cases h4
        cases h1
        have h5 : Dat H _ (.tuple (o.2.map .str)) := h3
        cases h5 with
        | tup g2 h6 =>
          have key : ∀ {xs : List V} {l : List Str}, DatAll H xs (l.map PyData.str) → xs = l.map V.str := by
            intro xs l
            induction l generalizing xs with
            | nil => intro h; cases h; rfl
            | cons x l ih =>
              intro h
              cases h with
              | cons a b =>
                cases a
                rw [ih b, List.map_cons]
          rw [key h6] at g2
          exact ⟨_, g, g2⟩
theorem rows_back {α : Type} {f : α → PyData} {g : α → Str} (hg : ∀ a b, f a = f b → g a = g b) (hlt : ∀ a b, g a ≠ g b → dataLt (f a) (f b) = true → tlt (g a) (g b)) {T T' : List TRow} {l : List α} (pm : T'.Perm T) (e : T.map Prod.snd = l.map f)
    (nd : (l.map g).Nodup) (up : (T.map Prod.snd).Nodup → T'.Pairwise fun p q => dataLt p.2 q.2 = true) : ∃ l' : List α, l'.Perm l ∧ T'.map Prod.snd = l'.map f ∧ l'.Pairwise fun a b => tlt (g a) (g b) := by
  obtain ⟨l', p2, e2⟩ := perm_back (f := f) ((pm.map Prod.snd).trans (.of_eq e)) l rfl
  have nT : (T.map Prod.snd).Nodup := by
    rw [e]
    exact List.pairwise_map.mpr ((List.pairwise_map.mp nd).imp fun {a b} ne z => ne (hg a b z))
  have u1 : (T'.map Prod.snd).Pairwise fun d e => dataLt d e = true := List.pairwise_map.mpr (up nT)
  rw [e2] at u1
  have nd' : (l'.map g).Nodup := ((p2.map g).nodup_iff).mpr nd
  exact ⟨l', p2, e2, ((List.pairwise_map.mp u1).and (List.pairwise_map.mp nd')).imp fun {a b} z => hlt a b z.2 z.1⟩
theorem own_name (a b : Own) (h : ownD a = ownD b) : a.1 = b.1 := by
  unfold ownD at h
  injection h with h
  injection h with h _
  injection h
theorem nodup_le {α : Type} : ∀ {l m : List α}, l.Nodup → (∀ x ∈ l, x ∈ m) → l.length ≤ m.length
  | [], _, _, _ => Nat.zero_le _
  | x :: l, m, nd, h => by
    obtain ⟨s, t, e⟩ := List.append_of_mem (h x List.mem_cons_self)
    obtain ⟨n1, n2⟩ := List.nodup_cons.mp nd
    have ih := nodup_le (m := s ++ t) n2 fun y hy => by
      have z := h y (List.mem_cons_of_mem _ hy)
      rw [e] at z
      rcases List.mem_append.mp z with z | z
      · exact List.mem_append_left _ z
      · rcases List.mem_cons.mp z with z | z
        · exact absurd (z ▸ hy) n1
        · exact List.mem_append_right _ z
    rw [e, List.length_append, List.length_cons, List.length_cons]
    rw [List.length_append] at ih
    omega
theorem copies_perm {l m : List Own} (p : l.Perm m) : copies l = copies m := (p.map fun o : Own => 2 ^ o.2.length).sum_nat
theorem and_split {c : Prop} [Decidable c] {u : TT} {σ : L2.St} {H : Hp} {Q : Bool → Hp → Prop} (R : Hp → Prop) (k : ∀ H', R H' → Q false H') (h1 : c → (∀ H', R H' → Q false H') → u σ H Q) (h2 : ¬ c → (∀ H', R H' → Q false H') → Q false H) : if c then u σ H Q else Q false H := by
  by_cases h : c
  · rw [if_pos h]; exact h1 h k
  · rw [if_neg h]; exact h2 h k
end S1

set_option Elab.async false
set_option linter.all false
set_option maxRecDepth 100000
set_option maxHeartbeats 4000000
/-! list(text); list.count of a list of truths -/
namespace L2
open PySem PySem.W PySem.Spec PyProof.Rows
section
variable {X : Cx}
def signV (x : Str) : List V := x.cps.toList.map fun c => V.str ⟨#[c]⟩
theorem vals_signs {x : Str} {acc : Array Value} (h : ItemsOf (SignAt x) acc x.cps.size) : Vals (signV x) acc.toList := by
  refine vals_of_idx _ _ (by rw [Array.length_toList, h.1, signV, List.length_map, Array.length_toList]) fun j u hj => ?_
  obtain ⟨c, t, hc, rfl⟩ := h.2 j u (by rw [← Array.getElem?_toList]; exact hj)
  refine ⟨V.str ⟨#[c]⟩, ?_, ⟨t, rfl⟩⟩
  rw [signV, List.getElem?_map, Array.getElem?_toList, hc]
  rfl
/-- list(x), x a text: a new list of its signV -/
def rListStr : List V → Hp → VK → Prop := fun xs H Q => ∃ x : Str, xs = [.str x] ∧ x.cps.size ≤ sizeLine ∧ ∀ l, H l = none → Q (.ref l) (upd H l (.lst (signV x)))
theorem call_listStr (hc : X.calm = true) : CallR X (.type "list") rListStr := by
  intro pins s σ H xs us Q I r h
  obtain ⟨x, rfl, hn, q⟩ := h
  obtain ⟨u, rfl, rx⟩ := vals1 r
  obtain ⟨t, rfl⟩ := rx
  refine call_list_str (I.ok.hd hc) x t (fun h' tk acc c' kp e ia => ?_) hn
  have rv := vals_signs ia
  exact ⟨.ref s.heap.objs.size, _, I.laid (t' := tk) kp (Nat.le_refl _) (show ObjOk X.prog X.w _ h' _ (.lst (signV x)) from ⟨by rw [signV, List.length_map, Array.length_toList]; exact hn, acc.toList, c', rv, by simpa using e⟩), rfl, q _ (I.hok.fresh (Nat.le_refl _))⟩
theorem bls_vals : ∀ {bs : List Bool} {us : List Value}, Vals (bs.map V.bl) us → us = bs.map Value.bool
  | [], _, .nil => rfl
  | b :: bs, _, .cons r t => by
    cases (show _ = Value.bool b from r)
    rw [bls_vals t, List.map_cons]
/-- xs.count(b), xs a list of truths -/
def rCntB (K : PySem.W.Frag) : V → List V → Hp → VK → Prop := fun x xs H Q => ∃ (p : Addr) (bs : List Bool) (k : Bool), x = .ref p ∧ xs = [.bl k] ∧ SqL K H p (bs.map V.bl) ∧ Q (.int (bs.count k : Nat)) H
theorem mt_lcountB : MtR X "list.count" (rCntB X.K) := by
  intro pins s σ H x xs v us Q I rx rxs h
  obtain ⟨p, bs, k, rfl, rfl, hs, q⟩ := h
  cases rx
  obtain ⟨u, rfl, ru⟩ := rxs.one
  cases (show u = Value.bool k from ru)
  obtain ⟨its, rv, ⟨⟨cls, dd, data, sl⟩, n, ho, hc, hdn, hd⟩, hlen⟩ := I.list hs
  simp only at hc hd
  subst hc hd
  have e := bls_vals rv
  subst e
  refine call_meets PySem.F.slot_list_count ⟨_, ho, rfl⟩ PySem.F.entry_list_count (PySem.F.args_list_count_2 _ _)
    (SeqAt.list_countAt p (bs.map Value.bool).toArray n dd sl (.bool k) (isBoolOf k)) ⟨ho, fun y hy => ?_, ?_⟩
  · obtain ⟨b, _, rfl⟩ := List.mem_map.mp (show y ∈ bs.map Value.bool by simpa using hy)
    exact SeqAt.EqAt.bool_bool b k
  · have ec : (bs.map Value.bool).toArray.toList.countP (isBoolOf k) = bs.count k := by
      rw [List.toList_toArray, List.countP_map, List.count]
      rfl
    refine ⟨.int (bs.count k : Nat), H, I.tok _, ⟨s.toks, ?_⟩, q⟩
    show Value.int (((bs.map Value.bool).toArray.toList.countP (isBoolOf k) : Nat) : Int) s.toks = Value.int ((bs.count k : Nat) : Int) s.toks
    rw [ec]
end
end L2

set_option Elab.async false
set_option linter.all false
set_option maxRecDepth 100000
set_option maxHeartbeats 4000000
/-! < and == of data; what is_truth, is_tuple, is_pair, is_rising tell of good ones -/
namespace S1
open PySem PySem.W PySem.Spec PyProof.Rows L2
section
variable {X : Cx}
def rLtD : R2 := fun x y H Q => ∃ d e, Dat H x d ∧ Dat H y e ∧ alike d e = true ∧ d ≠ .none ∧ d.depth ≤ 8 ∧ Q (.bl (dataLt d e)) H
theorem op_ltD (hu : X.A.units + 64 < cLine) : OpR X (compareOp .Lt) rLtD := by
  intro pins s σ H x y v u Q I rx ry h
  obtain ⟨d, e, D1, D2, al, ne, dp, q⟩ := h
  obtain ⟨as, R1⟩ := reads_of_dat I.hok D1 rx
  obtain ⟨bs, R2⟩ := reads_of_dat I.hok D2 ry
  exact rcLt_alike d e X.A s v u as bs R1 R2 al ne (by have := Nat.min_le_left d.depth e.depth; omega) X.prog X.w X.xe _ ⟨.bl (dataLt d e), H, I, rfl, q⟩
def rEqD : R2 := fun x y H Q => ∃ d e, Dat H x d ∧ Dat H y e ∧ alike d e = true ∧ d.depth ≤ 8 ∧ Q (.bl (PyData.eqv d e)) H
end
/-! ### the small questions -/
def spIsTruth : Sp := fun vs H Q _ => ∃ b : Bool, vs = [.bl b] ∧ Q (.bl true) H
def spIsTuple : Sp := fun vs H Q _ => ∃ (a : Addr) (xs : List V) (n : Int), vs = [.ref a, .int n] ∧ Rd H a (.tup xs) ∧ (xs.length : Int) ≤ n ∧ Q (.bl true) H
def spIsPair : Sp := fun vs H Q _ => ∃ (a : Addr) (x y : V), vs = [.ref a] ∧ H a = some (.tup [x, y]) ∧ Q (.bl true) H
/-- each one below the next -/
def Rise : List PyData → Prop
  | [] => True
  | [_] => True
  | x :: y :: r => (alike x y = true ∧ x ≠ .none ∧ x.depth ≤ 8 ∧ dataLt x y = true) ∧ Rise (y :: r)
theorem Rise.at_ : ∀ {ds : List PyData}, Rise ds → ∀ (k : Nat) (x y : PyData), ds[k]? = some x → ds[k + 1]? = some y → alike x y = true ∧ x ≠ .none ∧ x.depth ≤ 8 ∧ dataLt x y = true
  | [], _, _, _, _, h, _ => by simp at h
  | [_], _, k, _, _, _, h => by simp at h
  | a :: b :: r, R, 0, x, y, h1, h2 => by
    cases (show some a = some x from h1)
    cases (show some b = some y from h2)
    exact R.1
  | a :: b :: r, R, k + 1, x, y, h1, h2 => Rise.at_ R.2 k x y h1 h2
theorem rise_of {α : Type} {f : α → PyData} (al : ∀ x y, alike (f x) (f y) = true) (nn : ∀ x, f x ≠ .none) (dp : ∀ x, (f x).depth ≤ 8) : ∀ {l : List α}, (l.Pairwise fun x y => dataLt (f x) (f y) = true) → Rise (l.map f)
  | [], _ => True.intro
  | [_], _ => True.intro
  | x :: y :: l, h => by
    obtain ⟨h1, h2⟩ := List.pairwise_cons.mp h
    exact ⟨⟨al x y, nn x, dp x, h1 y List.mem_cons_self⟩, rise_of al nn dp h2⟩
theorem rise_strs {l : List Str} (h : l.Pairwise tlt) : Rise (l.map PyData.str) := rise_of (f := PyData.str) (fun _ _ => by simp [alike]) (fun _ z => nomatch z) (fun _ => Nat.zero_le _) (h.imp fun {x y} z => by
  rw [dataLt_str]
  exact decide_eq_true z)
theorem same_tup {K : PySem.W.Frag} {H H' : Hp} {a : Addr} {xs : List V} (S : Same H H') (h : SqT K H a xs) : SqT K H' a xs := by
  rcases h with h | h
  · refine .inl ?_
    rcases h with h | ⟨o, h⟩
    · exact .inl (S _ _ h)
    · exact .inr ⟨o, S _ _ h⟩
  · exact .inr h
theorem same_sq {K : PySem.W.Frag} {H H' : Hp} {a : Addr} {xs : List V} (S : Same H H') (h : SqL K H a xs ∨ SqT K H a xs) : SqL K H' a xs ∨ SqT K H' a xs := h.elim (fun h => .inl (S.seq h)) fun h => .inr (same_tup S h)
theorem ix_any {K : PySem.W.Frag} {H : Hp} {a : Addr} {xs : List V} {i : Int} {v : V} {Q : VK} (h : SqL K H a xs ∨ SqT K H a xs) (e : atI xs i = some v) (q : Q v H) : rIx K (.ref a) (.int i) H Q :=
  h.elim (fun h => .inl ⟨a, xs, i, v, rfl, rfl, h, e, q⟩) fun h => .inr (.inl ⟨a, xs, i, v, rfl, rfl, h, e, q⟩)
def spIsRising (K : PySem.W.Frag) : Sp := fun vs H Q _ => ∃ (a : Addr) (xs : List V) (ds : List PyData), vs = [.ref a] ∧ (SqL K H a xs ∨ SqT K H a xs) ∧ DatAll H xs ds ∧ Rise ds ∧ ds.length ≤ 1000 ∧ ∀ H', Same H H' → Q (.bl true) H'
theorem dats_get {H : Hp} : ∀ {xs : List V} {ds : List PyData}, DatAll H xs ds → ∀ (k : Nat) (d : PyData), ds[k]? = some d → ∃ x, xs[k]? = some x ∧ Dat H x d
  | _, _, .nil, _, _, h => by simp at h
  | _, _, .cons (v := v) h t, 0, d, e => by
    cases (show some _ = some d from e)
    exact ⟨v, rfl, h⟩
  | _, _, .cons h t, k + 1, d, e => dats_get t k d e
section
variable {P : Program} {w : World} {K : PySem.W.Frag} {mg : Str → Option Value} {base : Heap}
theorem scIsTruth : FnScope ["value"] ["value"] (defScope sIsTruth) := ⟨rfl, rfl, rfl, by decide +kernel, rfl, by decide +kernel, by decide +kernel⟩
theorem scIsTuple : FnScope ["value", "most"] ["value", "most"] (defScope sIsTuple) := ⟨rfl, rfl, rfl, by decide +kernel, rfl, by decide +kernel, by decide +kernel⟩
theorem scIsPair : FnScope ["value"] ["value"] (defScope sIsPair) := ⟨rfl, rfl, rfl, by decide +kernel, rfl, by decide +kernel, by decide +kernel⟩
theorem scIsRising : FnScope ["parts", "k"] ["parts"] (defScope sIsRising) := ⟨rfl, rfl, rfl, by decide +kernel, rfl, by decide +kernel, by decide +kernel⟩
theorem ok_isTruth {f : Addr} {fd : FuncData} (F : Fun K "is_truth" "is_truth" sIsTruth f fd) : FnOk P w K mg base CX0 1 f fd ["value"] spIsTruth := by
  refine F.ok scIsTruth (fun vs H Q E h => ?_) (fun cdv A outer s H vs Q E hr h => ?_)
  · obtain ⟨b, rfl, _⟩ := h
    rfl
  · obtain ⟨b, rfl, q⟩ := h
    refine ⟨_, pss_one (ps_ret (pe_or (pe_cmpR op_is_bl (pv 0) pe_bl (nomark _)) (pe_one (pe_cmpR op_is_bl (pv 0) pe_bl (nomark _))))), ?_⟩
    refine ⟨_, rfl, b, true, rfl, rfl, _, rfl, ?_⟩
    cases b with
    | true => exact q
    | false => exact ⟨_, rfl, false, false, rfl, rfl, q⟩
theorem ty_rd {H : Hp} {a : Addr} {xs : List V} (h : Rd H a (.tup xs)) : TyX K H (.ref a) (.type "tuple") := h.elim (fun e => .base (.tup e)) fun ⟨_, e⟩ => .fTuple e
theorem ok_isTuple {f : Addr} {fd : FuncData} (F : Fun K "is_tuple" "is_tuple" sIsTuple f fd) (B : Blt mg) : FnOk P w K mg base CX0 1 f fd ["value", "most"] spIsTuple := by
  refine F.ok scIsTuple (fun vs H Q E h => ?_) (fun cdv A outer s H vs Q E hr h => ?_)
  · obtain ⟨a, xs, n, rfl, _⟩ := h
    rfl
  · obtain ⟨a, xs, n, rfl, e, le, q⟩ := h
    refine ⟨_, pss_one (ps_ret (pe_and (pe_callB call_isi (by rfl) B.isi (by decide +kernel) (pa_cons (pv 0) (pa_cons (pe_bltn (v := V.ty "tuple") (by rfl) B.tuple (by decide +kernel) rfl) pa_nil)))
      (pe_one (pe_cmpR op_le (pe_callB call_len_seq (by rfl) B.len (by decide +kernel) (pa_cons (pv 0) pa_nil)) (pv 1) (nomark _))))), ?_⟩
    refine ⟨_, rfl, _, _, _, _, true, rfl, .ty _, ty_rd e, kit_ty (by decide +kernel), true, rfl, ?_⟩
    show if true = true then _ else _
    rw [if_pos rfl]
    refine ⟨_, rfl, _, _, rfl, .inr (.inl e), _, rfl, _, _, rfl, rfl, ?_⟩
    show Q (.bl (decide ((xs.length : Int) ≤ n))) H
    rw [decide_eq_true le]
    exact q
theorem ok_isPair {f : Addr} {fd : FuncData} (F : Fun K "is_pair" "is_pair" sIsPair f fd) (B : Blt mg) : FnOk P w K mg base CX0 1 f fd ["value"] spIsPair := by
  refine F.ok scIsPair (fun vs H Q E h => ?_) (fun cdv A outer s H vs Q E hr h => ?_)
  · obtain ⟨a, x, y, rfl, _⟩ := h
    rfl
  · obtain ⟨a, x, y, rfl, e, q⟩ := h
    refine ⟨_, pss_one (ps_ret (pe_and (pe_callB call_isi (by rfl) B.isi (by decide +kernel) (pa_cons (pv 0) (pa_cons (pe_bltn (v := V.ty "tuple") (by rfl) B.tuple (by decide +kernel) rfl) pa_nil)))
      (pe_one (pe_cmpR op_eq (pe_callB call_len_seq (by rfl) B.len (by decide +kernel) (pa_cons (pv 0) pa_nil)) pe_int (nomark _))))), ?_⟩
    refine ⟨_, rfl, _, _, _, _, true, rfl, .ty _, .base (.tup e), kit_ty (by decide +kernel), true, rfl, ?_⟩
    show if true = true then _ else _
    rw [if_pos rfl]
    exact ⟨_, rfl, _, _, rfl, .inr (SqT.of e), rfl, q⟩
theorem ok_isRising {f : Addr} {fd : FuncData} (F : Fun K "is_rising" "is_rising" sIsRising f fd) (B : Blt mg) : FnOk P w K mg base CX0 1 f fd ["parts"] (spIsRising K) := by
  refine F.ok scIsRising (fun vs H Q E h => ?_) (fun cdv A outer s H vs Q E hr h => ?_)
  · obtain ⟨a, xs, ds, rfl, _⟩ := h
    rfl
  · obtain ⟨a, xs, ds, rfl, sq, D, R, len, q⟩ := h
    have hu : (A.deeper (envOfC "is_rising" (defScope sIsRising) s.heap.objs.size f cdv)).units + 64 < cLine := hr.units
    refine ⟨_, pss_one (ps_ret (pe_callB (cr_all rfl) (by rfl) B.all (by decide +kernel) (pa_cons (pe_lc (own := [("k", 1)]) (g := gName 1) (tt := tYes) (te := tOp rLtD (tOp (rIx K) (tVar 0) (tVar 1)) (tOp (rIx K) (tVar 0) (tOp (rI0 fun i j => V.int (i + j)) (tVar 1) (tC (V.int 1))))) rfl scIsRising.nd (pi_range1 rfl B.range (pa_cons (pe_op op_sub (pe_callB call_len_seq (by rfl) B.len (by decide +kernel) (pa_cons (pv 0) pa_nil)) pe_int) pa_nil))
      (blkOk_by (N := ["parts", "k"]) (sc := defScope sIsRising) (by decide +kernel)) (fun _ _ _ _ _ => pg_name (i := 1) scIsRising.nd rfl (Or.inl rfl)) (fun _ _ _ _ _ => pts_nil)
      (fun _ _ _ _ _ => by exact pe_cmpR (op_ltD (by exact hu)) (pe_ix ix_seq (pv 0) (pv 1) (fun _ _ => rfl)) (pe_ix ix_seq (pv 0) (pe_op op_add (pv 1) pe_int) (fun _ _ => rfl)) (nomark _))) pa_nil))), ?_⟩
    have lx : xs.length = ds.length := D.len
    refine ⟨_, rfl, _, _, rfl, sq, _, _, rfl, rfl, _, rfl, by omega, by omega, fun D0 hD0 => ?_⟩
    refine lc_range (lo := 0) (n := ((xs.length : Int) - 1).toNat) (fun j H4 => H4 D0 = some (.lst ((List.replicate j true).map V.bl)) ∧ Same H H4) ⟨upd_same, same_new hD0⟩ ?_ ?_
    · rintro j H4 hj ⟨eD, S⟩
      obtain ⟨x, hx⟩ : ∃ x, ds[j]? = some x := ⟨_, List.getElem?_eq_getElem (by omega)⟩
      obtain ⟨y, hy⟩ : ∃ y, ds[j + 1]? = some y := ⟨_, List.getElem?_eq_getElem (by omega)⟩
      obtain ⟨u, hu1, Du⟩ := dats_get D j x hx
      obtain ⟨v, hv1, Dv⟩ := dats_get D (j + 1) y hy
      obtain ⟨al, nn, dp, lt⟩ := R.at_ j x y hx hy
      refine ⟨rfl, yes_of ?_⟩
      refine ⟨_, rfl, _, rfl, ix_any (same_sq S sq) (by rw [Int.zero_add]; exact atI_nat hu1) ⟨_, rfl, _, rfl, _, _, rfl, rfl, ix_any (same_sq S sq) (by rw [Int.zero_add]; exact atI_nat hv1) ?_⟩⟩
      refine ⟨x, y, Du.same S, Dv.same S, al, nn, dp, _, eD, ?_, ?_, ?_⟩
      · rw [List.length_map, List.length_replicate]
        exact small1000 (by omega)
      · rw [upd_same, lt, List.replicate_succ', List.map_append]
        rfl
      · exact same_upd S hD0
    · rintro H4 ⟨eD, S⟩
      refine ⟨D0, _, rfl, SqL.of eD, ?_⟩
      have e : (List.replicate ((xs.length : Int) - 1).toNat true).all id = true := by
        rw [List.all_eq_true]
        exact fun b hb => (List.mem_replicate.mp hb).2
      show Q (.bl _) H4
      rw [e]
      exact q H4 S
end
end S1

set_option Elab.async false
set_option linter.all false
set_option maxRecDepth 100000
set_option maxHeartbeats 4000000
/-! all([.. for ..]) where each one is True -/
namespace S1
open PySem PySem.W PySem.Spec PyProof.Rows L2
abbrev trues (n : Nat) : HO := .lst ((List.replicate n true).map V.bl)
theorem trues_next {H : Hp} {D : Addr} {n : Nat} (e : H D = some (trues n)) : upd H D (.lst ((List.replicate n true).map V.bl ++ [V.bl true])) D = some (trues (n + 1)) := by
  rw [upd_same]
  show some _ = some (HO.lst ((List.replicate (n + 1) true).map V.bl))
  rw [List.replicate_succ', List.map_append]
  rfl
theorem trues_all (n : Nat) : (List.replicate n true).all id = true := by
  rw [List.all_eq_true]
  exact fun b hb => (List.mem_replicate.mp hb).2
section
variable {K : PySem.W.Frag} {g : TG} {te : TE} {vs : List Nat} {σ : L2.St} {H : Hp} {D : Addr} {Qd : Hp → Prop}
theorem lc_allT {a : Addr} {xs : List V} (sq : SqT K H a xs) (hD : H D = none) (len : xs.length ≤ 1000)
    (step : ∀ (i : Nat) (x : V) (H4 : Hp) (Qe : VK), xs[i]? = some x → Same H H4 → (∀ H5, Same H4 H5 → Qe (.bl true) H5) → g x (wipe σ vs) H4 fun σ2 H2 => wipe σ2 vs = wipe σ vs ∧ te σ2 H2 Qe)
    (gm : ∀ x σ1 H1 (A B : L2.St → Hp → Prop), (∀ σ2 H2, A σ2 H2 → B σ2 H2) → g x σ1 H1 A → g x σ1 H1 B)
    (hd : ∀ H5, H5 D = some (trues xs.length) → Same H H5 → Qd H5) :
    ∃ W : Nat → Nat → Hp → Prop, (∃ m, W 0 m (upd H D (.lst []))) ∧ ∀ i m H, W i m H →
      ((Itt K a).stop i H ∧ Qd H) ∨ ((Itt K a).go i H ∧ ∃ Nx : Hp → Prop, (∀ H', Nx H' → ∃ m', m' < m ∧ W (i + 1) m' H') ∧ ∀ x H', (Itt K a).yld i H x H' → g x (wipe σ vs) H' fun σ2 H2 => wipe σ2 vs = wipe σ vs ∧ tYes σ2 H2 fun b H3 =>
        if b = true then te σ2 H3 fun y H4 => ∃ acc, H4 D = some (.lst acc) ∧ acc.length < sizeLine ∧ Nx (upd H4 D (.lst (acc ++ [y]))) else Nx H3) := by
  refine lc_tup (K := K) (a := a) (xs := xs) (fun j H4 => H4 D = some (trues j) ∧ Same H H4) ⟨upd_same, same_new hD⟩ (fun i H4 _ h => same_tup h.2 sq) (fun i x H4 hx h => ?_) (fun H5 h => hd H5 h.1 h.2)
  have il : i < xs.length := (List.getElem?_eq_some_iff.mp hx).1
  refine gm x _ _ _ _ (fun σ2 H2 z => ⟨z.1, yes_of z.2⟩) (step i x H4 _ hx h.2 fun H5 S5 => ?_)
  have e5 := S5 _ _ h.1
  exact ⟨_, e5, by rw [List.length_map, List.length_replicate]; exact small1000 (by omega), trues_next e5, same_upd (h.2.trans S5) hD⟩
theorem lc_allL {a : Addr} {xs : List V} (sq : SqL K H a xs) (hD : H D = none) (len : xs.length ≤ 1000)
    (step : ∀ (i : Nat) (x : V) (H4 : Hp) (Qe : VK), xs[i]? = some x → Same H H4 → (∀ H5, Same H4 H5 → Qe (.bl true) H5) → g x (wipe σ vs) H4 fun σ2 H2 => wipe σ2 vs = wipe σ vs ∧ te σ2 H2 Qe)
    (gm : ∀ x σ1 H1 (A B : L2.St → Hp → Prop), (∀ σ2 H2, A σ2 H2 → B σ2 H2) → g x σ1 H1 A → g x σ1 H1 B)
    (hd : ∀ H5, H5 D = some (trues xs.length) → Same H H5 → Qd H5) :
    ∃ W : Nat → Nat → Hp → Prop, (∃ m, W 0 m (upd H D (.lst []))) ∧ ∀ i m H, W i m H →
      ((Itl K a).stop i H ∧ Qd H) ∨ ((Itl K a).go i H ∧ ∃ Nx : Hp → Prop, (∀ H', Nx H' → ∃ m', m' < m ∧ W (i + 1) m' H') ∧ ∀ x H', (Itl K a).yld i H x H' → g x (wipe σ vs) H' fun σ2 H2 => wipe σ2 vs = wipe σ vs ∧ tYes σ2 H2 fun b H3 =>
        if b = true then te σ2 H3 fun y H4 => ∃ acc, H4 D = some (.lst acc) ∧ acc.length < sizeLine ∧ Nx (upd H4 D (.lst (acc ++ [y]))) else Nx H3) := by
  refine lc_list (K := K) (a := a) (xs := xs) (fun j H4 => H4 D = some (trues j) ∧ Same H H4) ⟨upd_same, same_new hD⟩ (fun i H4 _ h => h.2.seq sq) (fun i x H4 hx h => ?_) (fun H5 h => hd H5 h.1 h.2)
  have il : i < xs.length := (List.getElem?_eq_some_iff.mp hx).1
  refine gm x _ _ _ _ (fun σ2 H2 z => ⟨z.1, yes_of z.2⟩) (step i x H4 _ hx h.2 fun H5 S5 => ?_)
  have e5 := S5 _ _ h.1
  exact ⟨_, e5, by rw [List.length_map, List.length_replicate]; exact small1000 (by omega), trues_next e5, same_upd (h.2.trans S5) hD⟩
theorem lc_allS {x : Str} (hD : H D = none) (len : x.cps.size ≤ 1000)
    (step : ∀ (c : Nat) (H4 : Hp) (Qe : VK), c ∈ x.cps.toList → Same H H4 → (∀ H5, Same H4 H5 → Qe (.bl true) H5) → g (.str ⟨#[c]⟩) (wipe σ vs) H4 fun σ2 H2 => wipe σ2 vs = wipe σ vs ∧ te σ2 H2 Qe)
    (gm : ∀ x σ1 H1 (A B : L2.St → Hp → Prop), (∀ σ2 H2, A σ2 H2 → B σ2 H2) → g x σ1 H1 A → g x σ1 H1 B)
    (hd : ∀ H5, H5 D = some (trues x.cps.size) → Same H H5 → Qd H5) :
    ∃ W : Nat → Nat → Hp → Prop, (∃ m, W 0 m (upd H D (.lst []))) ∧ ∀ i m H, W i m H →
      ((Its x).stop i H ∧ Qd H) ∨ ((Its x).go i H ∧ ∃ Nx : Hp → Prop, (∀ H', Nx H' → ∃ m', m' < m ∧ W (i + 1) m' H') ∧ ∀ y H', (Its x).yld i H y H' → g y (wipe σ vs) H' fun σ2 H2 => wipe σ2 vs = wipe σ vs ∧ tYes σ2 H2 fun b H3 =>
        if b = true then te σ2 H3 fun y H4 => ∃ acc, H4 D = some (.lst acc) ∧ acc.length < sizeLine ∧ Nx (upd H4 D (.lst (acc ++ [y]))) else Nx H3) := by
  refine ⟨fun i m H4 => m = x.cps.size - i ∧ i ≤ x.cps.size ∧ H4 D = some (trues i) ∧ Same H H4, ⟨_, rfl, Nat.zero_le _, upd_same, same_new hD⟩, ?_⟩
  rintro i m H4 ⟨rfl, hi, e4, S4⟩
  by_cases il : i < x.cps.size
  · refine .inr ⟨il, fun H5 => i + 1 ≤ x.cps.size ∧ H5 D = some (trues (i + 1)) ∧ Same H H5, fun H5 z => ⟨x.cps.size - (i + 1), by omega, rfl, z.1, z.2⟩, ?_⟩
    rintro y H' ⟨rfl, c, hc, rfl⟩
    have mc : c ∈ x.cps.toList := List.mem_of_getElem? (by rw [Array.getElem?_toList]; exact hc)
    refine gm _ _ _ _ _ (fun σ2 H2 z => ⟨z.1, yes_of z.2⟩) (step c _ _ mc S4 fun H5 S5 => ?_)
    have e5 := S5 _ _ e4
    exact ⟨_, e5, by rw [List.length_map, List.length_replicate]; exact small1000 (by omega), il, trues_next e5, same_upd (S4.trans S5) hD⟩
  · have e : i = x.cps.size := by omega
    subst e
    exact .inl ⟨Nat.le_refl _, hd H4 e4 S4⟩
end
theorem gName_mono {i : Nat} : ∀ (x : V) (σ1 : L2.St) (H1 : Hp) (A B : L2.St → Hp → Prop), (∀ σ2 H2, A σ2 H2 → B σ2 H2) → gName i x σ1 H1 A → gName i x σ1 H1 B := fun x σ1 H1 A B h z => h _ _ z
end S1

set_option Elab.async false
set_option linter.all false
set_option maxRecDepth 100000
set_option maxHeartbeats 4000000
/-! names, letters, clauses: told to be such -/
namespace S1
open PySem PySem.W PySem.Spec PyProof.Rows L2
/-- the numbers at the head of the program -/
structure Cst (mg : Str → Option Value) : Prop where
  small : ∃ t, mg "SMALL" = some (.str "abcdefghijklmnopqrstuvwxyz" t)
  signs : ∃ t, mg "MOST_SIGNS" = some (.int 8 t)
  picks : ∃ t, mg "MOST_PICKS" = some (.int 6 t)
  owns : ∃ t, mg "MOST_OWNS" = some (.int 8 t)
  clauses : ∃ t, mg "MOST_CLAUSES" = some (.int 40 t)
  copies : ∃ t, mg "MOST_COPIES" = some (.int 120 t)
theorem abc_mem {c : Nat} (h : 97 ≤ c ∧ c ≤ 122) : c ∈ ("abcdefghijklmnopqrstuvwxyz" : Str).cps.toList := by
  have z : ∀ k, k < 123 → 97 ≤ k → k ∈ ("abcdefghijklmnopqrstuvwxyz" : Str).cps.toList := by decide +kernel
  exact z c (by omega) h.1
def spIsName : Sp := fun vs H Q _ => ∃ x : Str, vs = [.str x] ∧ Nm x ∧ ∀ H', Same H H' → Q (.bl true) H'
def spIsLetter : Sp := fun vs H Q _ => ∃ (v : V) (l : Ltr), vs = [v] ∧ Dat H v (ltD l) ∧ Nm l.1 ∧ ∀ H', Same H H' → Q (.bl true) H'
section
variable {P : Program} {w : World} {K : PySem.W.Frag} {mg : Str → Option Value} {base : Heap}
theorem scIsName : FnScope ["value", "sign"] ["value"] (defScope sIsName) := ⟨rfl, rfl, rfl, by decide +kernel, rfl, by decide +kernel, by decide +kernel⟩
theorem scIsLetter : FnScope ["value"] ["value"] (defScope sIsLetter) := ⟨rfl, rfl, rfl, by decide +kernel, rfl, by decide +kernel, by decide +kernel⟩
theorem ok_isName {f : Addr} {fd : FuncData} (F : Fun K "is_name" "is_name" sIsName f fd) (B : Blt mg) (C : Cst mg) : FnOk P w K mg base CX0 1 f fd ["value"] spIsName := by
  obtain ⟨t1, c1⟩ := C.small
  obtain ⟨t2, c2⟩ := C.signs
  refine F.ok scIsName (fun vs H Q E h => ?_) (fun cdv A outer s H vs Q E hr h => ?_)
  · obtain ⟨x, rfl, _⟩ := h
    rfl
  · obtain ⟨x, rfl, nx, q⟩ := h
    refine ⟨_, pss_cons (ps_if (PW.pt (pw_or (pt_not (pt_val (pe_callB call_isi (by rfl) B.isi (by decide +kernel) (pa_cons (pv 0) (pa_cons (pe_bltn (v := V.ty "str") (by rfl) B.str (by decide +kernel) rfl) pa_nil)))))
        (pw_or1 (pt_not (pt_chain op_le op_le pe_int (pe_callB call_len_str (by rfl) B.len (by decide +kernel) (pa_cons (pv 0) pa_nil)) (pe_glob (v := V.int 8) rfl c2 ⟨_, rfl⟩)))))) (pss_one (ps_ret pe_bl)) pss_nil)
      (pss_one (ps_ret (pe_callB (cr_all rfl) (by rfl) B.all (by decide +kernel) (pa_cons (pe_lc (own := [("sign", 1)]) (g := gName 1) (tt := tYes) rfl scIsName.nd (pi_str (pv 0))
        (blkOk_by (N := ["value", "sign"]) (sc := defScope sIsName) (by decide +kernel)) (fun _ _ _ _ _ => pg_name (i := 1) scIsName.nd rfl (Or.inl rfl)) (fun _ _ _ _ _ => pts_nil)
        (fun _ _ _ _ _ => pe_cmpR op_in_sign (pv 1) (pe_glob (v := V.str "abcdefghijklmnopqrstuvwxyz") rfl c1 ⟨_, rfl⟩) (by with_unfolding_all rfl))) pa_nil)))), ?_⟩
    have len : x.length ≤ sizeLine := Nat.le_of_lt (small1000 (by have := nx.hi; omega))
    refine ⟨_, rfl, _, _, _, _, true, rfl, .ty _, .base (.str x), kit_ty (by decide +kernel), true, rfl, ?_⟩
    show if (!true) = true then _ else _
    rw [if_neg (by decide)]
    refine ⟨_, rfl, x, rfl, len, _, _, rfl, rfl, _, rfl, ?_⟩
    have l1 : (1 : Int) ≤ (x.length : Int) := by have := nx.lo; omega
    have l8 : (x.length : Int) ≤ 8 := by have := nx.hi; omega
    refine ite2 (fun _ => ?_) (fun h => absurd (decide_eq_true l1) h)
    refine ⟨_, _, rfl, rfl, _, rfl, ?_⟩
    rw [show decide ((x.length : Int) ≤ 8) = true from decide_eq_true l8]
    show if (!true) = true then _ else _
    rw [if_neg (by decide)]
    refine ⟨_, rfl, x, rfl, fun D hD => ?_⟩
    refine lc_allS hD (by have := nx.hi; show x.length ≤ 1000; omega) (fun c H4 Qe mc S4 k => ?_) gName_mono (fun H5 e5 S5 => ?_)
    · refine ⟨rfl, _, rfl, c, _, rfl, rfl, ?_⟩
      show Qe (.bl (decide _)) H4
      rw [decide_eq_true (abc_mem (nx.az c mc))]
      exact k H4 (Same.refl _)
    · refine ⟨D, _, rfl, SqL.of e5, ?_⟩
      show Q (.bl _) H5
      rw [trues_all]
      exact q H5 S5
theorem ok_isLetter {f fP fN fT : Addr} {fd fdP fdN fdT : FuncData} (F : Fun K "is_letter" "is_letter" sIsLetter f fd) (Pr : Has K mg "is_pair" sIsPair ["value"] fP fdP) (Nn : Has K mg "is_name" sIsName ["value"] fN fdN) (Tr : Has K mg "is_truth" sIsTruth ["value"] fT fdT)
    (B : Blt mg) (C : Cst mg) : FnOk P w K mg base CX0 2 f fd ["value"] spIsLetter := by
  have GP : FnOk P w K mg base CX0 1 fP fdP ["value"] spIsPair := ok_isPair Pr.F B
  have GN : FnOk P w K mg base CX0 1 fN fdN ["value"] spIsName := ok_isName Nn.F B C
  have GT : FnOk P w K mg base CX0 1 fT fdT ["value"] spIsTruth := ok_isTruth Tr.F
  refine F.ok scIsLetter (fun vs H Q E h => ?_) (fun cdv A outer s H vs Q E hr h => ?_)
  · obtain ⟨v, l, rfl, _⟩ := h
    rfl
  · obtain ⟨v, l, rfl, D, nl, q⟩ := h
    refine ⟨_, pss_one (ps_ret (pe_and (pe_call GP hr rfl Pr.g Pr.F.kp Pr.b .nil pass0 (pa_cons (pv 0) pa_nil)) (pe_and (pe_call GN hr rfl Nn.g Nn.F.kp Nn.b .nil pass0 (pa_cons (pe_ix ix_tup (pv 0) pe_int (fun _ _ => rfl)) pa_nil))
      (pe_one (pe_call GT hr rfl Tr.g Tr.F.kp Tr.b .nil pass0 (pa_cons (pe_ix ix_tup (pv 0) pe_int (fun _ _ => rfl)) pa_nil)))))), ?_⟩
    have D2 : Dat H v (.tuple [.str l.1, .bool l.2]) := D
    cases D2 with
    | @tup a _ _ e h =>
      cases h with
      | cons h1 h =>
        cases h1
        cases h with
        | cons h2 h =>
          cases h2
          cases h
          refine ⟨_, rfl, a, _, _, rfl, e, true, rfl, ?_⟩
          show if true = true then _ else _
          rw [if_pos rfl]
          refine ⟨_, rfl, a, _, 0, _, rfl, rfl, SqT.of e, rfl, l.1, rfl, nl, fun H' S => ⟨true, rfl, ?_⟩⟩
          show if true = true then _ else _
          rw [if_pos rfl]
          exact ⟨_, rfl, a, _, 1, _, rfl, rfl, SqT.of (S _ _ e), rfl, l.2, rfl, q H' S⟩
end
end S1

set_option Elab.async false
set_option linter.all false
set_option maxRecDepth 100000
set_option maxHeartbeats 4000000
/-! clauses of any names, rows of names, rows of truths: told to be such -/
namespace S1
open PySem PySem.W PySem.Spec PyProof.Rows L2
section
variable {K : PySem.W.Frag} {g : TG} {te : TE} {vs : List Nat} {σ : L2.St} {H : Hp} {D : Addr} {Qd : Hp → Prop}
/-- [f(x) for x in a tuple], what it gives known one by one -/
theorem lc_mapT {a : Addr} {xs ys : List V} (sq : SqT K H a xs) (hD : H D = none) (ly : ys.length = xs.length) (len : xs.length ≤ 1000)
    (step : ∀ (i : Nat) (x y : V) (H4 : Hp) (Qe : VK), xs[i]? = some x → ys[i]? = some y → Same H H4 → (∀ H5, Same H4 H5 → Qe y H5) → g x (wipe σ vs) H4 fun σ2 H2 => wipe σ2 vs = wipe σ vs ∧ te σ2 H2 Qe)
    (gm : ∀ x σ1 H1 (A B : L2.St → Hp → Prop), (∀ σ2 H2, A σ2 H2 → B σ2 H2) → g x σ1 H1 A → g x σ1 H1 B)
    (hd : ∀ H5, H5 D = some (.lst ys) → Same H H5 → Qd H5) :
    ∃ W : Nat → Nat → Hp → Prop, (∃ m, W 0 m (upd H D (.lst []))) ∧ ∀ i m H, W i m H →
      ((Itt K a).stop i H ∧ Qd H) ∨ ((Itt K a).go i H ∧ ∃ Nx : Hp → Prop, (∀ H', Nx H' → ∃ m', m' < m ∧ W (i + 1) m' H') ∧ ∀ x H', (Itt K a).yld i H x H' → g x (wipe σ vs) H' fun σ2 H2 => wipe σ2 vs = wipe σ vs ∧ tYes σ2 H2 fun b H3 =>
        if b = true then te σ2 H3 fun y H4 => ∃ acc, H4 D = some (.lst acc) ∧ acc.length < sizeLine ∧ Nx (upd H4 D (.lst (acc ++ [y]))) else Nx H3) := by
  refine lc_tup (K := K) (a := a) (xs := xs) (fun j H4 => H4 D = some (.lst (ys.take j)) ∧ Same H H4) ⟨by rw [upd_same, List.take_zero], same_new hD⟩ (fun i H4 _ h => same_tup h.2 sq) (fun i x H4 hx h => ?_) (fun H5 h => hd H5 (by rw [h.1, ← ly, List.take_length]) h.2)
  have il : i < xs.length := (List.getElem?_eq_some_iff.mp hx).1
  obtain ⟨y, hy⟩ : ∃ y, ys[i]? = some y := ⟨_, List.getElem?_eq_getElem (by omega)⟩
  refine gm x _ _ _ _ (fun σ2 H2 z => ⟨z.1, yes_of z.2⟩) (step i x y H4 _ hx hy h.2 fun H5 S5 => ?_)
  have e5 := S5 _ _ h.1
  exact ⟨_, e5, by rw [List.length_take]; exact small1000 (by omega), by rw [upd_same, take_next hy], same_upd (h.2.trans S5) hD⟩
end
def blsD (bs : List Bool) : PyData := .tuple (bs.map .bool)
def spIsAnyClause : Sp := fun vs H Q _ => ∃ (v : V) (cl : List Ltr), vs = [v] ∧ Dat H v (clD cl) ∧ (cl.Pairwise fun a b => tlt a.1 b.1) ∧ (∀ l ∈ cl, Nm l.1) ∧ cl.length ≤ 1000 ∧ ∀ H', Same H H' → Q (.bl true) H'
def spAreNames : Sp := fun vs H Q _ => ∃ (v : V) (xs : List Str) (n : Int), vs = [v, .int n] ∧ Dat H v (nmsD xs) ∧ xs.Pairwise tlt ∧ (∀ x ∈ xs, Nm x) ∧ (xs.length : Int) ≤ n ∧ xs.length ≤ 1000 ∧ ∀ H', Same H H' → Q (.bl true) H'
def spAreTruths : Sp := fun vs H Q _ => ∃ (v : V) (bs : List Bool), vs = [v, .int bs.length] ∧ Dat H v (blsD bs) ∧ bs.length ≤ 1000 ∧ ∀ H', Same H H' → Q (.bl true) H'
theorem dat_tup {H : Hp} {v : V} {ds : List PyData} (D : Dat H v (.tuple ds)) : ∃ a xs, v = .ref a ∧ H a = some (.tup xs) ∧ DatAll H xs ds := by
  cases D with
  | tup e h => exact ⟨_, _, rfl, e, h⟩
theorem dats_strs_eq {H : Hp} : ∀ {xs : List V} {l : List Str}, DatAll H xs (l.map PyData.str) → xs = l.map V.str
  | _, [], h => by cases h; rfl
  | _, x :: l, h => by
    cases h with
    | cons a b =>
      cases a
      rw [dats_strs_eq b, List.map_cons]
theorem dats_bls_eq {H : Hp} : ∀ {xs : List V} {l : List Bool}, DatAll H xs (l.map PyData.bool) → xs = l.map V.bl
  | _, [], h => by cases h; rfl
  | _, x :: l, h => by
    cases h with
    | cons a b =>
      cases a
      rw [dats_bls_eq b, List.map_cons]
theorem dats_get' {H : Hp} : ∀ {xs : List V} {ds : List PyData}, DatAll H xs ds → ∀ (k : Nat) (x : V), xs[k]? = some x → ∃ d, ds[k]? = some d ∧ Dat H x d
  | _, _, .nil, _, _, h => by simp at h
  | _, _, .cons (d := d) h t, 0, x, e => by
    cases (show some _ = some x from e)
    exact ⟨d, rfl, h⟩
  | _, _, .cons h t, k + 1, x, e => dats_get' t k x e
theorem ltr_row {H : Hp} {x : V} {l : Ltr} (D : Dat H x (ltD l)) : ∃ b, x = .ref b ∧ H b = some (.tup [.str l.1, .bl l.2]) := by
  obtain ⟨b, xs, rfl, e, h⟩ := dat_tup (ds := [.str l.1, .bool l.2]) D
  cases h with
  | cons h1 h =>
    cases h1
    cases h with
    | cons h2 h =>
      cases h2
      cases h
      exact ⟨b, rfl, e⟩
theorem get_map {α : Type} {f : α → PyData} {l : List α} {i : Nat} {d : PyData} (h : (l.map f)[i]? = some d) : ∃ x, l[i]? = some x ∧ d = f x := by
  rw [List.getElem?_map] at h
  obtain ⟨x, hx, e⟩ := Option.map_eq_some_iff.mp h
  exact ⟨x, hx, e.symm⟩
section
variable {P : Program} {w : World} {K : PySem.W.Frag} {mg : Str → Option Value} {base : Heap}
theorem scIsAnyClause : FnScope ["value", "part", "letter"] ["value"] (defScope sIsAnyClause) := ⟨rfl, rfl, rfl, by decide +kernel, rfl, by decide +kernel, by decide +kernel⟩
theorem scAreNames : FnScope ["value", "most", "part"] ["value", "most"] (defScope sAreNames) := ⟨rfl, rfl, rfl, by decide +kernel, rfl, by decide +kernel, by decide +kernel⟩
theorem ok_isAnyClause {f fL fR : Addr} {fd fdL fdR : FuncData} (F : Fun K "is_any_clause" "is_any_clause" sIsAnyClause f fd) (Le : Has K mg "is_letter" sIsLetter ["value"] fL fdL) (GL : FnOk P w K mg base CX0 2 fL fdL ["value"] spIsLetter)
    (Ri : Has K mg "is_rising" sIsRising ["parts"] fR fdR) (B : Blt mg) : FnOk P w K mg base CX0 3 f fd ["value"] spIsAnyClause := by
  have GR : FnOk P w K mg base CX0 1 fR fdR ["parts"] (spIsRising K) := ok_isRising Ri.F B
  refine F.ok scIsAnyClause (fun vs H Q E h => ?_) (fun cdv A outer s H vs Q E hr h => ?_)
  · obtain ⟨v, cl, rfl, _⟩ := h
    rfl
  · obtain ⟨v, cl, rfl, D, up, nm, len, q⟩ := h
    have hr1 := hr.mono (show 1 ≤ 2 by decide)
    refine ⟨_, pss_cons (ps_if (PW.pt (pw_or (pt_not (pt_val (pe_callB call_isi (by rfl) B.isi (by decide +kernel) (pa_cons (pv 0) (pa_cons (pe_bltn (v := V.ty "tuple") (by rfl) B.tuple (by decide +kernel) rfl) pa_nil)))))
        (pw_or1 (pt_not (pt_val (pe_callB (cr_all rfl) (by rfl) B.all (by decide +kernel) (pa_cons (pe_lc (own := [("part", 1)]) (g := gName 1) (tt := tYes) rfl scIsAnyClause.nd (pi_tup (pv 0))
          (blkOk_by (N := ["value", "part", "letter"]) (sc := defScope sIsAnyClause) (by decide +kernel)) (fun _ _ _ _ _ => pg_name (i := 1) scIsAnyClause.nd rfl (Or.inl rfl)) (fun _ _ _ _ _ => pts_nil)
          (fun _ _ _ _ _ => pe_call GL (by exact hr) (by rfl) Le.g Le.F.kp Le.b .nil pass0 (pa_cons (pv 1) pa_nil))) pa_nil))))))) (pss_one (ps_ret pe_bl)) pss_nil)
      (pss_one (ps_ret (pe_call GR hr1 rfl Ri.g Ri.F.kp Ri.b .nil pass0 (pa_cons (pe_lc (own := [("letter", 2)]) (g := gName 2) (tt := tYes) (te := tOp (rIxT K) (tVar 2) (tC (V.int 0))) rfl scIsAnyClause.nd (pi_tup (pv 0))
          (blkOk_by (N := ["value", "part", "letter"]) (sc := defScope sIsAnyClause) (by decide +kernel)) (fun _ _ _ _ _ => pg_name (i := 2) scIsAnyClause.nd rfl (Or.inl rfl)) (fun _ _ _ _ _ => pts_nil)
          (fun _ _ _ _ _ => by exact pe_ix ix_tup (pv 2) pe_int (fun _ _ => rfl))) pa_nil)))), ?_⟩
    obtain ⟨a, xs, rfl, e, Da⟩ := dat_tup (ds := cl.map ltD) D
    have lx : xs.length = cl.length := by rw [Da.len, List.length_map]
    refine ⟨_, rfl, _, _, _, _, true, rfl, .ty _, .base (.tup e), kit_ty (by decide +kernel), true, rfl, ?_⟩
    show if (!true) = true then _ else _
    rw [if_neg (by decide)]
    refine ⟨_, rfl, a, rfl, ⟨_, SqT.of e⟩, fun D0 hD0 => lc_allT (K := K) (SqT.of e) hD0 (by omega) (fun i x H4 Qe hx S4 k => ?_) gName_mono (fun H5 e5 S5 => ?_)⟩
    · obtain ⟨d, hd, Dx⟩ := dats_get' Da i x hx
      obtain ⟨l, hl, rfl⟩ := get_map hd
      exact ⟨rfl, _, rfl, x, l, rfl, Dx.same S4, nm l (List.mem_of_getElem? hl), k⟩
    · refine ⟨D0, _, rfl, SqL.of e5, _, rfl, ?_⟩
      rw [trues_all]
      show if (!true) = true then _ else _
      rw [if_neg (by decide)]
      refine ⟨_, rfl, a, rfl, ⟨_, SqT.of (S5 _ _ e)⟩, fun D1 hD1 => lc_mapT (K := K) (ys := (cl.map Prod.fst).map V.str) (SqT.of (S5 _ _ e)) hD1 (by rw [List.length_map, List.length_map, lx]) (by omega) (fun i x y H4 Qe hx hy S4 k => ?_) gName_mono (fun H6 e6 S6 => ?_)⟩
      · obtain ⟨d, hd, Dx⟩ := dats_get' Da i x hx
        obtain ⟨l, hl, rfl⟩ := get_map hd
        obtain ⟨b, rfl, eb⟩ := ltr_row Dx
        have ey : y = V.str l.1 := by
          rw [List.getElem?_map, List.getElem?_map, hl] at hy
          exact (Option.some.inj hy).symm
        rw [ey] at k
        exact ⟨rfl, _, rfl, b, _, 0, _, rfl, rfl, SqT.of (S4 _ _ (S5 _ _ eb)), rfl, k H4 (Same.refl _)⟩
      · exact ⟨D1, _, _, rfl, .inl (SqL.of e6), dats_strs (cl.map Prod.fst), rise_strs (List.pairwise_map.mpr up), by rw [List.length_map, List.length_map]; exact len, fun H' S => q H' ((S5.trans S6).trans S)⟩
theorem ok_areNames {f fU fN fR : Addr} {fd fdU fdN fdR : FuncData} (F : Fun K "are_names" "are_names" sAreNames f fd) (Tu : Has K mg "is_tuple" sIsTuple ["value", "most"] fU fdU) (Nn : Has K mg "is_name" sIsName ["value"] fN fdN)
    (Ri : Has K mg "is_rising" sIsRising ["parts"] fR fdR) (B : Blt mg) (C : Cst mg) : FnOk P w K mg base CX0 2 f fd ["value", "most"] spAreNames := by
  have GU : FnOk P w K mg base CX0 1 fU fdU ["value", "most"] spIsTuple := ok_isTuple Tu.F B
  have GN : FnOk P w K mg base CX0 1 fN fdN ["value"] spIsName := ok_isName Nn.F B C
  have GR : FnOk P w K mg base CX0 1 fR fdR ["parts"] (spIsRising K) := ok_isRising Ri.F B
  refine F.ok scAreNames (fun vs H Q E h => ?_) (fun cdv A outer s H vs Q E hr h => ?_)
  · obtain ⟨v, xs, n, rfl, _⟩ := h
    rfl
  · obtain ⟨v, xs, n, rfl, D, up, nm, le, len, q⟩ := h
    refine ⟨_, pss_cons (ps_if (PW.pt (pw_or (pt_not (pt_val (pe_call GU hr rfl Tu.g Tu.F.kp Tu.b .nil pass0 (pa_cons (pv 0) (pa_cons (pv 1) pa_nil)))))
        (pw_or1 (pt_not (pt_val (pe_callB (cr_all rfl) (by rfl) B.all (by decide +kernel) (pa_cons (pe_lc (own := [("part", 2)]) (g := gName 2) (tt := tYes) rfl scAreNames.nd (pi_tup (pv 0))
          (blkOk_by (N := ["value", "most", "part"]) (sc := defScope sAreNames) (by decide +kernel)) (fun _ _ _ _ _ => pg_name (i := 2) scAreNames.nd rfl (Or.inl rfl)) (fun _ _ _ _ _ => pts_nil)
          (fun _ _ _ _ _ => pe_call GN (by exact hr) (by rfl) Nn.g Nn.F.kp Nn.b .nil pass0 (pa_cons (pv 2) pa_nil))) pa_nil))))))) (pss_one (ps_ret pe_bl)) pss_nil)
      (pss_one (ps_ret (pe_call GR hr rfl Ri.g Ri.F.kp Ri.b .nil pass0 (pa_cons (pv 0) pa_nil)))), ?_⟩
    obtain ⟨a, us, rfl, e, Da⟩ := dat_tup (ds := xs.map PyData.str) D
    have eu := dats_strs_eq Da
    subst eu
    refine ⟨_, rfl, _, rfl, a, _, n, rfl, .inl e, by rw [List.length_map]; exact le, true, rfl, ?_⟩
    show if (!true) = true then _ else _
    rw [if_neg (by decide)]
    refine ⟨_, rfl, a, rfl, ⟨_, SqT.of e⟩, fun D0 hD0 => lc_allT (K := K) (SqT.of e) hD0 (by rw [List.length_map]; exact len) (fun i x H4 Qe hx S4 k => ?_) gName_mono (fun H5 e5 S5 => ?_)⟩
    · rw [List.getElem?_map] at hx
      obtain ⟨y, hy, rfl⟩ := Option.map_eq_some_iff.mp hx
      exact ⟨rfl, _, rfl, y, rfl, nm y (List.mem_of_getElem? hy), k⟩
    · refine ⟨D0, _, rfl, SqL.of e5, _, rfl, ?_⟩
      rw [trues_all]
      show if (!true) = true then _ else _
      rw [if_neg (by decide)]
      exact ⟨_, rfl, a, _, _, rfl, .inr (SqT.of (S5 _ _ e)), dats_strs xs, rise_strs up, by rw [List.length_map]; exact len, fun H' S => q H' (S5.trans S)⟩
end
end S1

set_option Elab.async false
set_option linter.all false
set_option maxRecDepth 100000
set_option maxHeartbeats 4000000
/-! sights, owns, clauses of a saying: told to be such -/
namespace S1
open PySem PySem.W PySem.Spec PyProof.Rows L2
/-- a def is there, and is as promised -/
def Good (P : Program) (w : World) (K : PySem.W.Frag) (mg : Str → Option Value) (base : Heap) (k : Nat) (x : Str) (st : Stmt) (ps : List Str) (sp : Sp) : Prop :=
  ∃ (f : Addr) (fd : FuncData), Has K mg x st ps f fd ∧ FnOk P w K mg base CX0 k f fd ps sp
/-- a def is there -/
def There (K : PySem.W.Frag) (mg : Str → Option Value) (x : Str) (st : Stmt) (ps : List Str) : Prop := ∃ (f : Addr) (fd : FuncData), Has K mg x st ps f fd
structure Shp (K : PySem.W.Frag) (mg : Str → Option Value) : Prop where
  isTruth : There K mg "is_truth" sIsTruth ["value"]
  isTuple : There K mg "is_tuple" sIsTuple ["value", "most"]
  isPair : There K mg "is_pair" sIsPair ["value"]
  isRising : There K mg "is_rising" sIsRising ["parts"]
  isName : There K mg "is_name" sIsName ["value"]
  isLetter : There K mg "is_letter" sIsLetter ["value"]
  isAnyClause : There K mg "is_any_clause" sIsAnyClause ["value"]
  areNames : There K mg "are_names" sAreNames ["value", "most"]
  isSight : There K mg "is_sight" sIsSight ["value", "picks"]
  isOwn : There K mg "is_own" sIsOwn ["value", "picks"]
  areOwns : There K mg "are_owns" sAreOwns ["value", "picks"]
  isClauseOver : There K mg "is_clause_over" sIsClauseOver ["value", "names"]
  areClauses : There K mg "are_clauses" sAreClauses ["value", "names"]
  namesOf : There K mg "names_of" sNamesOf ["picks", "owns"]
  fitsSaying : There K mg "fits_saying" sFitsSaying ["value"]
/-- all that the text is made of, as far as these defs go -/
structure Env1 (K : PySem.W.Frag) (mg : Str → Option Value) : Prop where
  B : Blt mg
  C : Cst mg
  Y : Shp K mg
def spIsSight : Sp := fun vs H Q _ => ∃ (v u : V) (s ps : List Str), vs = [v, u] ∧ Dat H v (nmsD s) ∧ Dat H u (nmsD ps) ∧ s.Pairwise tlt ∧ (∀ x ∈ s, Nm x) ∧ (∀ x ∈ s, x ∈ ps) ∧ s.length ≤ ps.length ∧ ps.length ≤ 1000 ∧ ∀ H', Same H H' → Q (.bl true) H'
def spIsOwn : Sp := fun vs H Q _ => ∃ (v u : V) (o : Own) (ps : List Str), vs = [v, u] ∧ Dat H v (ownD o) ∧ Dat H u (nmsD ps) ∧ Nm o.1 ∧ o.1 ∉ ps ∧ o.2.Pairwise tlt ∧ (∀ x ∈ o.2, Nm x) ∧ (∀ x ∈ o.2, x ∈ ps) ∧ o.2.length ≤ ps.length ∧ ps.length ≤ 1000 ∧ ∀ H', Same H H' → Q (.bl true) H'
section
variable {P : Program} {w : World} {K : PySem.W.Frag} {mg : Str → Option Value} {base : Heap}
theorem g_isTruth (e : Env1 K mg) : Good P w K mg base 1 "is_truth" sIsTruth ["value"] spIsTruth := by
  obtain ⟨f, fd, h⟩ := e.Y.isTruth
  exact ⟨f, fd, h, ok_isTruth h.F⟩
theorem g_isTuple (e : Env1 K mg) : Good P w K mg base 1 "is_tuple" sIsTuple ["value", "most"] spIsTuple := by
  obtain ⟨f, fd, h⟩ := e.Y.isTuple
  exact ⟨f, fd, h, ok_isTuple h.F e.B⟩
theorem g_isPair (e : Env1 K mg) : Good P w K mg base 1 "is_pair" sIsPair ["value"] spIsPair := by
  obtain ⟨f, fd, h⟩ := e.Y.isPair
  exact ⟨f, fd, h, ok_isPair h.F e.B⟩
theorem g_isRising (e : Env1 K mg) : Good P w K mg base 1 "is_rising" sIsRising ["parts"] (spIsRising K) := by
  obtain ⟨f, fd, h⟩ := e.Y.isRising
  exact ⟨f, fd, h, ok_isRising h.F e.B⟩
theorem g_isName (e : Env1 K mg) : Good P w K mg base 1 "is_name" sIsName ["value"] spIsName := by
  obtain ⟨f, fd, h⟩ := e.Y.isName
  exact ⟨f, fd, h, ok_isName h.F e.B e.C⟩
theorem g_isLetter (e : Env1 K mg) : Good P w K mg base 2 "is_letter" sIsLetter ["value"] spIsLetter := by
  obtain ⟨f, fd, h⟩ := e.Y.isLetter
  obtain ⟨_, _, h1⟩ := e.Y.isPair
  obtain ⟨_, _, h2⟩ := e.Y.isName
  obtain ⟨_, _, h3⟩ := e.Y.isTruth
  exact ⟨f, fd, h, ok_isLetter h.F h1 h2 h3 e.B e.C⟩
theorem g_isAnyClause (e : Env1 K mg) : Good P w K mg base 3 "is_any_clause" sIsAnyClause ["value"] spIsAnyClause := by
  obtain ⟨f, fd, h⟩ := e.Y.isAnyClause
  obtain ⟨_, _, h1, g1⟩ := g_isLetter (P := P) (w := w) (base := base) e
  obtain ⟨_, _, h2⟩ := e.Y.isRising
  exact ⟨f, fd, h, ok_isAnyClause h.F h1 g1 h2 e.B⟩
theorem g_areNames (e : Env1 K mg) : Good P w K mg base 2 "are_names" sAreNames ["value", "most"] spAreNames := by
  obtain ⟨f, fd, h⟩ := e.Y.areNames
  obtain ⟨_, _, h1⟩ := e.Y.isTuple
  obtain ⟨_, _, h2⟩ := e.Y.isName
  obtain ⟨_, _, h3⟩ := e.Y.isRising
  exact ⟨f, fd, h, ok_areNames h.F h1 h2 h3 e.B e.C⟩
theorem scIsSight : FnScope ["value", "picks", "name"] ["value", "picks"] (defScope sIsSight) := ⟨rfl, rfl, rfl, by decide +kernel, rfl, by decide +kernel, by decide +kernel⟩
theorem scIsOwn : FnScope ["value", "picks"] ["value", "picks"] (defScope sIsOwn) := ⟨rfl, rfl, rfl, by decide +kernel, rfl, by decide +kernel, by decide +kernel⟩
theorem g_isSight (e : Env1 K mg) : Good P w K mg base 3 "is_sight" sIsSight ["value", "picks"] spIsSight := by
  obtain ⟨f, fd, h⟩ := e.Y.isSight
  obtain ⟨fA, fdA, An, GA⟩ := g_areNames (P := P) (w := w) (base := base) e
  refine ⟨f, fd, h, ?_⟩
  refine h.F.ok scIsSight (fun vs H Q E h => ?_) (fun cdv A outer s H vs Q E hr h => ?_)
  · obtain ⟨v, u, s, ps, rfl, _⟩ := h
    rfl
  · obtain ⟨v, u, s, ps, rfl, D, Dp, up, nm, sub, le, len, q⟩ := h
    refine ⟨_, pss_one (ps_ret (pe_and (pe_call GA hr rfl An.g An.F.kp An.b .nil pass0 (pa_cons (pv 0) (pa_cons (pe_callB call_len_seq (by rfl) e.B.len (by decide +kernel) (pa_cons (pv 1) pa_nil)) pa_nil)))
      (pe_one (pe_callB (cr_all rfl) (by rfl) e.B.all (by decide +kernel) (pa_cons (pe_lc (own := [("name", 2)]) (g := gName 2) (tt := tYes) (te := tOp (rIn K false) (tVar 2) (tVar 1)) rfl scIsSight.nd (pi_tup (pv 0))
        (blkOk_by (N := ["value", "picks", "name"]) (sc := defScope sIsSight) (by decide +kernel)) (fun _ _ _ _ _ => pg_name (i := 2) scIsSight.nd rfl (Or.inl rfl)) (fun _ _ _ _ _ => pts_nil)
        (fun _ _ _ _ _ => by exact pe_cmpR op_in_seq (pv 2) (pv 1) (by with_unfolding_all rfl))) pa_nil))))), ?_⟩
    obtain ⟨a, us, rfl, ea, Da⟩ := dat_tup (ds := s.map PyData.str) D
    cases dats_strs_eq Da
    obtain ⟨b, ups, rfl, eb, Db⟩ := dat_tup (ds := ps.map PyData.str) Dp
    cases dats_strs_eq Db
    refine ⟨_, rfl, _, rfl, _, _, rfl, .inr (SqT.of eb), .ref a, s, _, rfl, D, up, nm, by rw [List.length_map]; omega, by omega, fun H' S => ⟨true, rfl, ?_⟩⟩
    show if true = true then _ else _
    rw [if_pos rfl]
    refine ⟨_, rfl, a, rfl, ⟨_, SqT.of (S _ _ ea)⟩, fun D0 hD0 => lc_allT (K := K) (SqT.of (S _ _ ea)) hD0 (by rw [List.length_map]; omega) (fun i x H4 Qe hx S4 k => ?_) gName_mono (fun H5 e5 S5 => ?_)⟩
    · rw [List.getElem?_map] at hx
      obtain ⟨y, hy, rfl⟩ := Option.map_eq_some_iff.mp hx
      refine ⟨rfl, _, rfl, _, rfl, b, _, rfl, .inr (SqT.of (S4 _ _ (S _ _ eb))), rfl, flat_strs ps, ?_⟩
      show Qe (.bl (inV (V.str y) (ps.map V.str))) H4
      rw [inV_str, decide_eq_true (sub y (List.mem_of_getElem? hy))]
      exact k H4 (Same.refl _)
    · refine ⟨D0, _, rfl, SqL.of e5, ?_⟩
      show Q (.bl _) H5
      rw [trues_all]
      exact q H5 (S.trans S5)
theorem g_isOwn (e : Env1 K mg) : Good P w K mg base 4 "is_own" sIsOwn ["value", "picks"] spIsOwn := by
  obtain ⟨f, fd, h⟩ := e.Y.isOwn
  obtain ⟨fP, fdP, Pr, GP⟩ := g_isPair (P := P) (w := w) (base := base) e
  obtain ⟨fN, fdN, Nn, GN⟩ := g_isName (P := P) (w := w) (base := base) e
  obtain ⟨fS, fdS, Si, GS⟩ := g_isSight (P := P) (w := w) (base := base) e
  refine ⟨f, fd, h, ?_⟩
  refine h.F.ok scIsOwn (fun vs H Q E h => ?_) (fun cdv A outer s H vs Q E hr h => ?_)
  · obtain ⟨v, u, o, ps, rfl, _⟩ := h
    rfl
  · obtain ⟨v, u, o, ps, rfl, D, Dp, no, out, up, nm, sub, le, len, q⟩ := h
    have hr1 := hr.mono (show 1 ≤ 3 by decide)
    refine ⟨_, pss_cons (ps_if (PW.pt (pw_or (pt_not (pt_val (pe_call GP hr1 rfl Pr.g Pr.F.kp Pr.b .nil pass0 (pa_cons (pv 0) pa_nil)))) (pw_or (pt_not (pt_val (pe_call GN hr1 rfl Nn.g Nn.F.kp Nn.b .nil pass0 (pa_cons (pe_ix ix_tup (pv 0) pe_int (fun _ _ => rfl)) pa_nil))))
        (pw_or1 (pt_cmpR op_in_seq (pe_ix ix_tup (pv 0) pe_int (fun _ _ => rfl)) (pv 1) (by with_unfolding_all rfl)))))) (pss_one (ps_ret pe_bl)) pss_nil)
      (pss_one (ps_ret (pe_call GS hr rfl Si.g Si.F.kp Si.b .nil pass0 (pa_cons (pe_ix ix_tup (pv 0) pe_int (fun _ _ => rfl)) (pa_cons (pv 1) pa_nil))))), ?_⟩
    obtain ⟨a, us, rfl, ea, Da⟩ := dat_tup (ds := [.str o.1, nmsD o.2]) D
    cases Da with
    | @cons v1 d1 _ _ h1 Da =>
      cases h1
      cases Da with
      | @cons v2 d2 _ _ h2 Da =>
        cases Da
        obtain ⟨b, ups, rfl, eb, Db⟩ := dat_tup (ds := ps.map PyData.str) Dp
        cases dats_strs_eq Db
        refine ⟨_, rfl, a, _, _, rfl, ea, true, rfl, ?_⟩
        show if (!true) = true then _ else _
        rw [if_neg (by decide)]
        refine ⟨_, rfl, a, _, 0, _, rfl, rfl, SqT.of ea, rfl, o.1, rfl, no, fun H' S => ⟨true, rfl, ?_⟩⟩
        show if (!true) = true then _ else _
        rw [if_neg (by decide)]
        refine ⟨_, rfl, a, _, 0, _, rfl, rfl, SqT.of (S _ _ ea), rfl, _, rfl, b, _, rfl, .inr (SqT.of (S _ _ eb)), rfl, flat_strs ps, _, rfl, ?_⟩
        show if inV (V.str o.1) (ps.map V.str) = true then _ else _
        rw [inV_str, decide_eq_false out, if_neg (by decide)]
        exact ⟨_, rfl, a, _, 1, _, rfl, rfl, SqT.of (S _ _ ea), rfl, _, rfl, v2, .ref b, o.2, ps, rfl, h2.same S, Dp.same S, up, nm, sub, le, len, fun H2 S2 => q H2 (S.trans S2)⟩
end
end S1

set_option Elab.async false
set_option linter.all false
set_option maxRecDepth 100000
set_option maxHeartbeats 4000000
/-! sayings told to be such -/
namespace S1
open PySem PySem.W PySem.Spec PyProof.Rows L2
theorem tlt_irrefl (x : Str) : ¬ tlt x x := fun h => by
  have z := dataLt_irrefl (.str x)
  rw [dataLt_str, decide_eq_false_iff_not] at z
  exact z h
theorem nodup_tlt {xs : List Str} (h : xs.Pairwise tlt) : xs.Nodup := List.Pairwise.imp (fun {a b} z => fun e : a = b => tlt_irrefl b (by rw [e] at z; exact z)) h
abbrev sizeI (o : Own) : Int := 1 * 2 ^ ((o.2.map V.str).length : Int).toNat
theorem sizes_sum (os : List Own) : (os.map sizeI).sum = (copies os : Int) := by
  induction os with
  | nil => rfl
  | cons o os ih =>
    rw [List.map_cons, List.sum_cons, ih]
    show (1 : Int) * 2 ^ ((o.2.map V.str).length : Int).toNat + (copies os : Int) = ((2 ^ o.2.length + copies os : Nat) : Int)
    rw [List.length_map, Int.toNat_natCast, Int.one_mul]
    push_cast
    rfl
theorem cl_len {ns : List Str} {cl : List Ltr} (h : ClOk ns cl) : cl.length ≤ ns.length := by
  have nd : (cl.map Prod.fst).Nodup := nodup_tlt (List.pairwise_map.mpr h.up)
  have z := nodup_le nd fun x hx => by
    obtain ⟨l, hl, rfl⟩ := List.mem_map.mp hx
    exact h.mem l hl
  rwa [List.length_map] at z
/-- an own of a saying with these picks -/
structure OwnOk (ps : List Str) (o : Own) : Prop where
  n : Nm o.1
  out : o.1 ∉ ps
  up : o.2.Pairwise tlt
  nm : ∀ x ∈ o.2, Nm x
  sub : ∀ x ∈ o.2, x ∈ ps
  le : o.2.length ≤ ps.length
theorem SayOk.own {a b c d : Nat} {s : Say} (h : SayOk a b c d s) {o : Own} (ho : o ∈ s.owns) : OwnOk s.picks o := by
  obtain ⟨h1, h2, h3, h4⟩ := h.on o ho
  exact ⟨h1, h2, h3, fun x hx => h.pn x (h4 x hx), h4, nodup_le (nodup_tlt h3) h4⟩
def spAreOwns : Sp := fun vs H Q _ => ∃ (v u : V) (os : List Own) (ps : List Str), vs = [v, u] ∧ DatO H v os ∧ Dat H u (nmsD ps) ∧ (∀ o ∈ os, OwnOk ps o) ∧ (os.Pairwise fun x y => tlt x.1 y.1) ∧ os.length ≤ 8 ∧ copies os ≤ 1024 ∧ ps.length ≤ 1000 ∧ ∀ H', Same H H' → Q (.bl (decide (copies os ≤ 120))) H'
def spIsClauseOver : Sp := fun vs H Q _ => ∃ (v : V) (b : Addr) (cl : List Ltr) (ns : List Str), vs = [v, .ref b] ∧ Dat H v (clD cl) ∧ H b = some (.lst (ns.map V.str)) ∧ ClOk ns cl ∧ (∀ x ∈ ns, Nm x) ∧ ns.length ≤ 1000 ∧ ∀ H', Same H H' → Q (.bl true) H'
def spAreClauses : Sp := fun vs H Q _ => ∃ (v : V) (b : Addr) (cls : List (List Ltr)) (ns : List Str), vs = [v, .ref b] ∧ Dat H v (.tuple (cls.map clD)) ∧ H b = some (.lst (ns.map V.str)) ∧ (∀ cl ∈ cls, ClOk ns cl) ∧ (∀ x ∈ ns, Nm x) ∧ ns.length ≤ 1000 ∧
  cls.length ≤ 40 ∧ (cls.Pairwise fun x y => dataLt (clD x) (clD y) = true) ∧ ∀ H', Same H H' → Q (.bl true) H'
def spNamesOf : Sp := fun vs H Q _ => ∃ (u v : V) (ps : List Str) (os : List Own), vs = [u, v] ∧ Dat H u (nmsD ps) ∧ DatO H v os ∧ ps.length ≤ 500 ∧ os.length ≤ 500 ∧ ∀ (l : Addr) (H' : Hp), Same H H' → H l = none → H' l = some (.lst ((ps ++ os.map Prod.fst).map V.str)) → Q (.ref l) H'
section
variable {P : Program} {w : World} {K : PySem.W.Frag} {mg : Str → Option Value} {base : Heap}
theorem scAreOwns : FnScope ["value", "picks", "part", "own"] ["value", "picks"] (defScope sAreOwns) := ⟨rfl, rfl, rfl, by decide +kernel, rfl, by decide +kernel, by decide +kernel⟩
theorem scIsClauseOver : FnScope ["value", "names", "letter"] ["value", "names"] (defScope sIsClauseOver) := ⟨rfl, rfl, rfl, by decide +kernel, rfl, by decide +kernel, by decide +kernel⟩
theorem scAreClauses : FnScope ["value", "names", "part"] ["value", "names"] (defScope sAreClauses) := ⟨rfl, rfl, rfl, by decide +kernel, rfl, by decide +kernel, by decide +kernel⟩
theorem scNamesOf : FnScope ["picks", "owns", "own"] ["picks", "owns"] (defScope sNamesOf) := ⟨rfl, rfl, rfl, by decide +kernel, rfl, by decide +kernel, by decide +kernel⟩
theorem g_areOwns (e : Env1 K mg) : Good P w K mg base 5 "are_owns" sAreOwns ["value", "picks"] spAreOwns := by
  obtain ⟨f, fd, h⟩ := e.Y.areOwns
  obtain ⟨fU, fdU, Tu, GU⟩ := g_isTuple (P := P) (w := w) (base := base) e
  obtain ⟨fO, fdO, Ow, GO⟩ := g_isOwn (P := P) (w := w) (base := base) e
  obtain ⟨fR, fdR, Ri, GR⟩ := g_isRising (P := P) (w := w) (base := base) e
  obtain ⟨t1, c1⟩ := e.C.owns
  obtain ⟨t2, c2⟩ := e.C.copies
  refine ⟨f, fd, h, ?_⟩
  refine h.F.ok scAreOwns (fun vs H Q E h => ?_) (fun cdv A outer s H vs Q E hr h => ?_)
  · obtain ⟨v, u, os, ps, rfl, _⟩ := h
    rfl
  · obtain ⟨v, u, os, ps, rfl, D, Dp, good, up, len, cop, lp, q⟩ := h
    have hr1 := hr.mono (show 1 ≤ 4 by decide)
    refine ⟨_, pss_cons (ps_if (PW.pt (pw_or (pt_not (pt_val (pe_call GU hr1 rfl Tu.g Tu.F.kp Tu.b .nil pass0 (pa_cons (pv 0) (pa_cons (pe_glob (v := V.int 8) rfl c1 ⟨_, rfl⟩) pa_nil)))))
        (pw_or1 (pt_not (pt_val (pe_callB (cr_all rfl) (by rfl) e.B.all (by decide +kernel) (pa_cons (pe_lc (own := [("part", 2)]) (g := gName 2) (tt := tYes) rfl scAreOwns.nd (pi_tup (pv 0))
          (blkOk_by (N := ["value", "picks", "part", "own"]) (sc := defScope sAreOwns) (by decide +kernel)) (fun _ _ _ _ _ => pg_name (i := 2) scAreOwns.nd rfl (Or.inl rfl)) (fun _ _ _ _ _ => pts_nil)
          (fun _ _ _ _ _ => pe_call GO (by exact hr) (by rfl) Ow.g Ow.F.kp Ow.b .nil pass0 (pa_cons (pv 2) (pa_cons (pv 1) pa_nil)))) pa_nil))))))) (pss_one (ps_ret pe_bl)) pss_nil)
      (pss_cons (ps_if (pt_not (pt_val (pe_call GR hr1 rfl Ri.g Ri.F.kp Ri.b .nil pass0 (pa_cons (pe_lc (own := [("own", 3)]) (g := gName 3) (tt := tYes) (te := tOp (rIxT K) (tVar 3) (tC (V.int 0))) rfl scAreOwns.nd (pi_tup (pv 0))
          (blkOk_by (N := ["value", "picks", "part", "own"]) (sc := defScope sAreOwns) (by decide +kernel)) (fun _ _ _ _ _ => pg_name (i := 3) scAreOwns.nd rfl (Or.inl rfl)) (fun _ _ _ _ _ => pts_nil)
          (fun _ _ _ _ _ => by exact pe_ix ix_tup (pv 3) pe_int (fun _ _ => rfl))) pa_nil)))) (pss_one (ps_ret pe_bl)) pss_nil)
      (pss_one (ps_ret (pe_cmpR op_le (pe_callB (cr_sum rfl) (by rfl) e.B.sum (by decide +kernel) (pa_cons (pe_lc (own := [("own", 3)]) (g := gName 3) (tt := tYes)
            (te := tOp (rI CPow fun i j => V.int (i * 2 ^ j.toNat)) (tC (V.int 1)) (tCB (fun xs H Q => ∃ p ys, xs = [V.ref p] ∧ (SqL K H p ys ∨ SqT K H p ys) ∧ Q (V.int ys.length) H) (tCons (tOp (rIxT K) (tVar 3) (tC (V.int 1))) tNil))) rfl scAreOwns.nd (pi_tup (pv 0))
          (blkOk_by (N := ["value", "picks", "part", "own"]) (sc := defScope sAreOwns) (by decide +kernel)) (fun _ _ _ _ _ => pg_name (i := 3) scAreOwns.nd rfl (Or.inl rfl)) (fun _ _ _ _ _ => pts_nil)
          (fun _ _ _ _ _ => by exact pe_op op_shl pe_int (pe_callB call_len_seq (by rfl) e.B.len (by decide +kernel) (pa_cons (pe_ix ix_tup (pv 3) pe_int (fun _ _ => rfl)) pa_nil)))) pa_nil)) (pe_glob (v := V.int 120) rfl c2 ⟨_, rfl⟩) (nomark _))))), ?_⟩
    obtain ⟨a, us, rfl, ea, Da⟩ := D
    have lu : us.length = os.length := by rw [Da.len, List.length_map]
    refine ⟨_, rfl, a, us, 8, rfl, ea.rd, by omega, true, rfl, ?_⟩
    show if (!true) = true then _ else _
    rw [if_neg (by decide)]
    refine ⟨_, rfl, a, rfl, ⟨_, FT.sq ea⟩, fun D0 hD0 => lc_allT (K := K) (FT.sq ea) hD0 (by omega) (fun i x H4 Qe hx S4 k => ?_) gName_mono (fun H5 e5 S5 => ?_)⟩
    · obtain ⟨d, hd, Dx⟩ := dats_get' Da i x hx
      obtain ⟨o, ho, rfl⟩ := get_map hd
      have g := good o (List.mem_of_getElem? ho)
      exact ⟨rfl, _, rfl, _, rfl, x, u, o, ps, rfl, Dx.same S4, Dp.same S4, g.n, g.out, g.up, g.nm, g.sub, g.le, lp, k⟩
    · refine ⟨D0, _, rfl, SqL.of e5, _, rfl, ?_⟩
      rw [trues_all]
      show if (!true) = true then _ else _
      rw [if_neg (by decide)]
      have names : ∀ {H4 : Hp} {x : V} {i : Nat}, Same H H4 → us[i]? = some x → ∃ (o : Own) (t t' : Addr), os[i]? = some o ∧ x = .ref t ∧ H4 t = some (.tup [.str o.1, .ref t']) ∧ H4 t' = some (.tup (o.2.map V.str)) := fun {H4 x i} S hx => by
        obtain ⟨d, hd, Dx⟩ := dats_get' Da i x hx
        obtain ⟨o, ho, rfl⟩ := get_map hd
        obtain ⟨t, rfl⟩ := tuple_ref (ds := [.str o.1, nmsD o.2]) Dx
        obtain ⟨t', g1, g2⟩ := own_row (q := (t, ownD o)) rfl Dx
        exact ⟨o, t, t', ho, rfl, S _ _ g1, S _ _ g2⟩
      refine ⟨_, rfl, a, rfl, ⟨_, FT.sq (FT.same ea S5)⟩, fun D1 hD1 => lc_mapT (K := K) (ys := (os.map Prod.fst).map V.str) (FT.sq (FT.same ea S5)) hD1 (by rw [List.length_map, List.length_map, lu]) (by omega) (fun i x y H4 Qe hx hy S4 k => ?_) gName_mono (fun H6 e6 S6 => ?_)⟩
      · obtain ⟨o, t, t', ho, rfl, g1, _⟩ := names (S5.trans S4) hx
        have ey : y = V.str o.1 := by
          rw [List.getElem?_map, List.getElem?_map, ho] at hy
          exact (Option.some.inj hy).symm
        rw [ey] at k
        exact ⟨rfl, _, rfl, t, _, 0, _, rfl, rfl, SqT.of g1, rfl, k H4 (Same.refl _)⟩
      · refine ⟨D1, _, _, rfl, .inl (SqL.of e6), dats_strs (os.map Prod.fst), rise_strs (List.pairwise_map.mpr up), by rw [List.length_map, List.length_map]; omega, fun H7 S7 => ⟨true, rfl, ?_⟩⟩
        show if (!true) = true then _ else _
        rw [if_neg (by decide)]
        have S8 := (S5.trans S6).trans S7
        refine ⟨_, rfl, a, rfl, ⟨_, FT.sq (FT.same ea S8)⟩, fun D2 hD2 => lc_mapT (K := K) (ys := (os.map sizeI).map V.int) (FT.sq (FT.same ea S8)) hD2 (by rw [List.length_map, List.length_map, lu]) (by omega) (fun i x y H4 Qe hx hy S4 k => ?_) gName_mono (fun H9 e9 S9 => ?_)⟩
        · obtain ⟨o, t, t', ho, rfl, g1, g2⟩ := names (S8.trans S4) hx
          have ey : y = V.int (sizeI o) := by
            rw [List.getElem?_map, List.getElem?_map, ho] at hy
            exact (Option.some.inj hy).symm
          rw [ey] at k
          have g := good o (List.mem_of_getElem? ho)
          have := g.le
          exact ⟨rfl, _, rfl, t, _, 1, _, rfl, rfl, SqT.of g1, rfl, t', _, rfl, .inr (SqT.of g2), _, _, rfl, rfl, ⟨by omega, by rw [List.length_map]; omega, by decide⟩, k H4 (Same.refl _)⟩
        · refine ⟨D2, _, rfl, SqL.of e9, _, _, rfl, rfl, ?_⟩
          rw [sizes_sum]
          show Q (.bl (decide ((copies os : Int) ≤ 120))) H9
          rw [show decide ((copies os : Int) ≤ 120) = decide (copies os ≤ 120) from by
            by_cases z : copies os ≤ 120
            · rw [decide_eq_true z, decide_eq_true (by omega)]
            · rw [decide_eq_false z, decide_eq_false (by omega)]]
          exact q H9 (S8.trans S9)
theorem g_isClauseOver (e : Env1 K mg) : Good P w K mg base 4 "is_clause_over" sIsClauseOver ["value", "names"] spIsClauseOver := by
  obtain ⟨f, fd, h⟩ := e.Y.isClauseOver
  obtain ⟨fA, fdA, An, GA⟩ := g_isAnyClause (P := P) (w := w) (base := base) e
  refine ⟨f, fd, h, ?_⟩
  refine h.F.ok scIsClauseOver (fun vs H Q E h => ?_) (fun cdv A outer s H vs Q E hr h => ?_)
  · obtain ⟨v, b, cl, ns, rfl, _⟩ := h
    rfl
  · obtain ⟨v, b, cl, ns, rfl, D, eb, ck, nm, len, q⟩ := h
    refine ⟨_, pss_one (ps_ret (pe_and (pe_call GA hr rfl An.g An.F.kp An.b .nil pass0 (pa_cons (pv 0) pa_nil))
      (pe_one (pe_callB (cr_all rfl) (by rfl) e.B.all (by decide +kernel) (pa_cons (pe_lc (own := [("letter", 2)]) (g := gName 2) (tt := tYes) (te := tOp (rIn K false) (tOp (rIxT K) (tVar 2) (tC (V.int 0))) (tVar 1)) rfl scIsClauseOver.nd (pi_tup (pv 0))
        (blkOk_by (N := ["value", "names", "letter"]) (sc := defScope sIsClauseOver) (by decide +kernel)) (fun _ _ _ _ _ => pg_name (i := 2) scIsClauseOver.nd rfl (Or.inl rfl)) (fun _ _ _ _ _ => pts_nil)
        (fun _ _ _ _ _ => by exact pe_cmpR op_in_seq (pe_ix ix_tup (pv 2) pe_int (fun _ _ => rfl)) (pv 1) (by with_unfolding_all rfl))) pa_nil))))), ?_⟩
    obtain ⟨a, us, rfl, ea, Da⟩ := dat_tup (ds := cl.map ltD) D
    have lu : us.length = cl.length := by rw [Da.len, List.length_map]
    have lc := cl_len ck
    refine ⟨_, rfl, .ref a, cl, rfl, D, ck.up, fun l hl => nm _ (ck.mem l hl), by omega, fun H' S => ⟨true, rfl, ?_⟩⟩
    show if true = true then _ else _
    rw [if_pos rfl]
    refine ⟨_, rfl, a, rfl, ⟨_, SqT.of (S _ _ ea)⟩, fun D0 hD0 => lc_allT (K := K) (SqT.of (S _ _ ea)) hD0 (by omega) (fun i x H4 Qe hx S4 k => ?_) gName_mono (fun H5 e5 S5 => ?_)⟩
    · obtain ⟨d, hd, Dx⟩ := dats_get' Da i x hx
      obtain ⟨l, hl, rfl⟩ := get_map hd
      obtain ⟨t, rfl, et⟩ := ltr_row Dx
      refine ⟨rfl, _, rfl, t, _, 0, _, rfl, rfl, SqT.of (S4 _ _ (S _ _ et)), rfl, _, rfl, b, _, rfl, .inl (SqL.of (S4 _ _ (S _ _ eb))), rfl, flat_strs ns, ?_⟩
      show Qe (.bl (inV (V.str l.1) (ns.map V.str))) H4
      rw [inV_str, decide_eq_true (ck.mem l (List.mem_of_getElem? hl))]
      exact k H4 (Same.refl _)
    · refine ⟨D0, _, rfl, SqL.of e5, ?_⟩
      show Q (.bl _) H5
      rw [trues_all]
      exact q H5 (S.trans S5)
theorem g_areClauses (e : Env1 K mg) : Good P w K mg base 5 "are_clauses" sAreClauses ["value", "names"] spAreClauses := by
  obtain ⟨f, fd, h⟩ := e.Y.areClauses
  obtain ⟨fU, fdU, Tu, GU⟩ := g_isTuple (P := P) (w := w) (base := base) e
  obtain ⟨fO, fdO, Ov, GO⟩ := g_isClauseOver (P := P) (w := w) (base := base) e
  obtain ⟨fR, fdR, Ri, GR⟩ := g_isRising (P := P) (w := w) (base := base) e
  obtain ⟨t1, c1⟩ := e.C.clauses
  refine ⟨f, fd, h, ?_⟩
  refine h.F.ok scAreClauses (fun vs H Q E h => ?_) (fun cdv A outer s H vs Q E hr h => ?_)
  · obtain ⟨v, b, cls, ns, rfl, _⟩ := h
    rfl
  · obtain ⟨v, b, cls, ns, rfl, D, eb, ck, nm, len, lcs, up, q⟩ := h
    have hr1 := hr.mono (show 1 ≤ 4 by decide)
    refine ⟨_, pss_cons (ps_if (pt_not (pt_val (pe_call GU hr1 rfl Tu.g Tu.F.kp Tu.b .nil pass0 (pa_cons (pv 0) (pa_cons (pe_glob (v := V.int 40) rfl c1 ⟨_, rfl⟩) pa_nil))))) (pss_one (ps_ret pe_bl)) pss_nil)
      (pss_one (ps_ret (pe_and (pe_callB (cr_all rfl) (by rfl) e.B.all (by decide +kernel) (pa_cons (pe_lc (own := [("part", 2)]) (g := gName 2) (tt := tYes) rfl scAreClauses.nd (pi_tup (pv 0))
          (blkOk_by (N := ["value", "names", "part"]) (sc := defScope sAreClauses) (by decide +kernel)) (fun _ _ _ _ _ => pg_name (i := 2) scAreClauses.nd rfl (Or.inl rfl)) (fun _ _ _ _ _ => pts_nil)
          (fun _ _ _ _ _ => pe_call GO (by exact hr) (by rfl) Ov.g Ov.F.kp Ov.b .nil pass0 (pa_cons (pv 2) (pa_cons (pv 1) pa_nil)))) pa_nil))
        (pe_one (pe_call GR hr1 rfl Ri.g Ri.F.kp Ri.b .nil pass0 (pa_cons (pv 0) pa_nil)))))), ?_⟩
    obtain ⟨a, us, rfl, ea, Da⟩ := dat_tup D
    have lu : us.length = cls.length := by rw [Da.len, List.length_map]
    refine ⟨_, rfl, a, us, 40, rfl, .inl ea, by omega, true, rfl, ?_⟩
    show if (!true) = true then _ else _
    rw [if_neg (by decide)]
    refine ⟨_, rfl, a, rfl, ⟨_, SqT.of ea⟩, fun D0 hD0 => lc_allT (K := K) (SqT.of ea) hD0 (by omega) (fun i x H4 Qe hx S4 k => ?_) gName_mono (fun H5 e5 S5 => ?_)⟩
    · obtain ⟨d, hd, Dx⟩ := dats_get' Da i x hx
      obtain ⟨cl, hcl, rfl⟩ := get_map hd
      exact ⟨rfl, _, rfl, _, rfl, x, b, cl, ns, rfl, Dx.same S4, S4 _ _ eb, ck cl (List.mem_of_getElem? hcl), nm, len, k⟩
    · refine ⟨D0, _, rfl, SqL.of e5, ?_⟩
      rw [trues_all]
      refine ⟨true, rfl, ?_⟩
      show if true = true then _ else _
      rw [if_pos rfl]
      exact ⟨_, rfl, a, us, _, rfl, .inr (SqT.of (S5 _ _ ea)), DatAll.same S5 Da, rise_of alike_cl (fun _ z => nomatch z) (fun x => by have := depth_cl x; omega) up, by rw [List.length_map]; omega, fun H' S => q H' (S5.trans S)⟩
theorem g_namesOf (e : Env1 K mg) : Good P w K mg base 1 "names_of" sNamesOf ["picks", "owns"] spNamesOf := by
  obtain ⟨f, fd, h⟩ := e.Y.namesOf
  refine ⟨f, fd, h, ?_⟩
  refine h.F.ok scNamesOf (fun vs H Q E h => ?_) (fun cdv A outer s H vs Q E hr h => ?_)
  · obtain ⟨u, v, ps, os, rfl, _⟩ := h
    rfl
  · obtain ⟨u, v, ps, os, rfl, Dp, D, lp, lo, q⟩ := h
    refine ⟨_, pss_one (ps_ret (pe_op op_cat (pe_callTy call_list_of (by rfl) e.B.list (by decide +kernel) (pa_cons (pv 0) pa_nil)) (pe_lc (own := [("own", 2)]) (g := gName 2) (tt := tYes) (te := tOp (rIxT K) (tVar 2) (tC (V.int 0))) rfl scNamesOf.nd (pi_tup (pv 1))
          (blkOk_by (N := ["picks", "owns", "own"]) (sc := defScope sNamesOf) (by decide +kernel)) (fun _ _ _ _ _ => pg_name (i := 2) scNamesOf.nd rfl (Or.inl rfl)) (fun _ _ _ _ _ => pts_nil)
          (fun _ _ _ _ _ => by exact pe_ix ix_tup (pv 2) pe_int (fun _ _ => rfl))))), ?_⟩
    obtain ⟨b, ups, rfl, eb, Db⟩ := dat_tup (ds := ps.map PyData.str) Dp
    cases dats_strs_eq Db
    obtain ⟨a, us, rfl, ea, Da⟩ := D
    have lu : us.length = os.length := by rw [Da.len, List.length_map]
    refine ⟨_, rfl, b, _, rfl, .inr (SqT.of eb), fun l1 hl1 => ?_⟩
    have S1 : Same H (upd H l1 (.lst (ps.map V.str))) := same_new hl1
    have e1 : upd H l1 (.lst (ps.map V.str)) l1 = some (.lst (ps.map V.str)) := upd_same
    generalize upd H l1 (.lst (ps.map V.str)) = H1 at S1 e1 ⊢
    refine ⟨_, rfl, a, rfl, ⟨_, FT.sq (FT.same ea S1)⟩, fun D1 hD1 => lc_mapT (K := K) (ys := (os.map Prod.fst).map V.str) (FT.sq (FT.same ea S1)) hD1 (by rw [List.length_map, List.length_map, lu]) (by omega) (fun i x y H4 Qe hx hy S4 k => ?_) gName_mono (fun H6 e6 S6 => ?_)⟩
    · obtain ⟨d, hd, Dx⟩ := dats_get' Da i x hx
      obtain ⟨o, ho, rfl⟩ := get_map hd
      obtain ⟨t, rfl⟩ := tuple_ref (ds := [.str o.1, nmsD o.2]) Dx
      obtain ⟨t', g1, _⟩ := own_row (q := (t, ownD o)) rfl Dx
      have ey : y = V.str o.1 := by
        rw [List.getElem?_map, List.getElem?_map, ho] at hy
        exact (Option.some.inj hy).symm
      rw [ey] at k
      exact ⟨rfl, _, rfl, t, _, 0, _, rfl, rfl, SqT.of (S4 _ _ (S1 _ _ g1)), rfl, k H4 (Same.refl _)⟩
    · refine ⟨_, _, _, _, rfl, rfl, S6 _ _ e1, e6, ?_, fun l hl => ?_⟩
      · rw [List.length_map, List.length_map, List.length_map]
        exact Nat.le_of_lt (small1000 (by omega))
      · exact q l _ ((S1.trans S6).trans (same_new hl)) ((S1.trans S6).free hl) (by rw [upd_same, List.map_append])
end
end S1

set_option Elab.async false
set_option linter.all false
set_option maxRecDepth 100000
set_option maxHeartbeats 4000000
/-! good arguments are let by -/
namespace S1
open PySem PySem.W PySem.Spec PyProof.Rows L2
section
variable {X : Cx}
/-- if c: ..., where c is known to be False -/
def tIfNo (tc : TT) (u : TS) : TS := fun D σ H => tc σ H fun b H1 => b = false ∧ u D σ H1
theorem ps_ifNo {c : Expr} {p q : List Stmt} {tc : TT} {u : TS} {pos : Pos} (hc : PT X c tc) (hb : PSs X q u) : PS X (.If c p q pos) (tIfNo tc u) := by
  refine ⟨fun pins s σ H D I h => ?_⟩
  refine wpAny_If (thn (hc.run pins s σ H _ I h) fun k s1 ⟨H1, I1, e, q1⟩ => ?_)
  subst e
  exact hb.run pins s1 σ H1 D I1 q1
end
def spFitsSaying : Sp := fun vs H Q _ => ∃ (v : V) (s : Say), vs = [v] ∧ DatS H v s ∧ SayOk 6 8 1024 40 s ∧ ∀ H', Same H H' → Q (.bl (decide (copies s.owns ≤ 120))) H'
def spFitsClause : Sp := fun vs H Q _ => ∃ (v u : V) (s : Say) (cl : List Ltr), vs = [v, u] ∧ DatS H v s ∧ Dat H u (clD cl) ∧ SayOk 6 8 120 40 s ∧ ClOk s.names cl ∧ ∀ H', Same H H' → Q (.bl true) H'
def spFitsPlay : Sp := fun vs H Q _ => ∃ (v u : V) (s : Say) (bs : List Bool), vs = [v, u] ∧ DatS H v s ∧ Dat H u (blsD bs) ∧ SayOk 6 8 120 40 s ∧ bs.length = s.picks.length ∧ ∀ H', Same H H' → Q (.bl true) H'
theorem say_row {H : Hp} {v : V} {s : Say} (D : DatS H v s) : ∃ a p o c, v = .ref a ∧ H a = some (.tup [p, o, c]) ∧ Dat H p (nmsD s.picks) ∧ DatO H o s.owns ∧ Dat H c (.tuple (s.cls.map clD)) := D
theorem SayOk.nm {a b c d : Nat} {s : Say} (h : SayOk a b c d s) : ∀ x ∈ s.names, Nm x := fun x hx => by
  rcases List.mem_append.mp hx with y | y
  · exact h.pn x y
  · obtain ⟨o, ho, rfl⟩ := List.mem_map.mp y
    exact (h.on o ho).1
theorem SayOk.nlen {c d : Nat} {s : Say} (h : SayOk 6 8 c d s) : s.names.length ≤ 14 := by
  have h1 := h.pl
  have h2 := h.ol
  show (s.picks ++ s.owns.map Prod.fst).length ≤ 14
  rw [List.length_append, List.length_map]
  omega
section
variable {P : Program} {w : World} {K : PySem.W.Frag} {mg : Str → Option Value} {base : Heap}
theorem scFitsSaying : FnScope ["value", "picks", "owns", "clauses"] ["value"] (defScope sFitsSaying) := ⟨rfl, rfl, rfl, by decide +kernel, rfl, by decide +kernel, by decide +kernel⟩
theorem g_fitsSaying (e : Env1 K mg) : Good P w K mg base 6 "fits_saying" sFitsSaying ["value"] spFitsSaying := by
  obtain ⟨f, fd, h⟩ := e.Y.fitsSaying
  obtain ⟨fA, fdA, An, GA⟩ := g_areNames (P := P) (w := w) (base := base) e
  obtain ⟨fO, fdO, Ow, GO⟩ := g_areOwns (P := P) (w := w) (base := base) e
  obtain ⟨fC, fdC, Cl, GC⟩ := g_areClauses (P := P) (w := w) (base := base) e
  obtain ⟨fN, fdN, No, GN⟩ := g_namesOf (P := P) (w := w) (base := base) e
  obtain ⟨t1, c1⟩ := e.C.picks
  refine ⟨f, fd, h, ?_⟩
  refine h.F.ok scFitsSaying (fun vs H Q E h => ?_) (fun cdv A outer s H vs Q E hr h => ?_)
  · obtain ⟨v, sy, rfl, _⟩ := h
    rfl
  · obtain ⟨v, sy, rfl, D, ok, q⟩ := h
    have hr1 := hr.mono (show 1 ≤ 5 by decide)
    have hr2 := hr.mono (show 2 ≤ 5 by decide)
    refine ⟨_, pss_cons (ps_if (PW.pt (pw_or (pt_not (pt_val (pe_callB call_isi (by rfl) e.B.isi (by decide +kernel) (pa_cons (pv 0) (pa_cons (pe_bltn (v := V.ty "tuple") (by rfl) e.B.tuple (by decide +kernel) rfl) pa_nil)))))
        (pw_or1 (pt_cmpR op_ne (pe_callB call_len_seq (by rfl) e.B.len (by decide +kernel) (pa_cons (pv 0) pa_nil)) pe_int (nomark _))))) (pss_one (ps_ret pe_bl)) pss_nil)
      (pss_cons (ps_asg (pv 0) (pg_tup rfl (pgs_cons (pg_name (i := 1) scFitsSaying.nd rfl (.inl rfl)) (pgs_cons (pg_name (i := 2) scFitsSaying.nd rfl (.inl rfl)) (pgs_cons (pg_name (i := 3) scFitsSaying.nd rfl (.inl rfl)) pgs_nil)))))
      (pss_cons (ps_if (PW.pt (pw_or (pt_not (pt_val (pe_call GA hr2 rfl An.g An.F.kp An.b .nil pass0 (pa_cons (pv 1) (pa_cons (pe_glob (v := V.int 6) rfl c1 ⟨_, rfl⟩) pa_nil)))))
        (pw_or1 (pt_not (pt_val (pe_call GO hr rfl Ow.g Ow.F.kp Ow.b .nil pass0 (pa_cons (pv 2) (pa_cons (pv 1) pa_nil)))))))) (pss_one (ps_ret pe_bl)) pss_nil)
      (pss_one (ps_ret (pe_call GC hr rfl Cl.g Cl.F.kp Cl.b .nil pass0 (pa_cons (pv 3) (pa_cons (pe_call GN hr1 rfl No.g No.F.kp No.b .nil pass0 (pa_cons (pv 1) (pa_cons (pv 2) pa_nil))) pa_nil))))))), ?_⟩
    obtain ⟨a, p, o, c, rfl, ea, Dp, Do, Dc⟩ := say_row D
    refine ⟨_, rfl, _, _, _, _, true, rfl, .ty _, .base (.tup ea), kit_ty (by decide +kernel), true, rfl, ?_⟩
    show if (!true) = true then _ else _
    rw [if_neg (by decide)]
    refine ⟨_, rfl, _, _, rfl, .inr (SqT.of ea), rfl, _, rfl, iteNS rfl ?_⟩
    refine ⟨_, rfl, a, _, rfl, SqT.of ea, rfl, _, _, rfl, _, _, rfl, _, _, rfl, rfl, ?_⟩
    have lp := ok.pl
    have lo := ok.ol
    refine ⟨_, rfl, p, sy.picks, 6, rfl, Dp, ok.pu, ok.pn, by omega, by omega, fun H1 S1 => ⟨true, rfl, ?_⟩⟩
    show if (!true) = true then _ else _
    rw [if_neg (by decide)]
    refine ⟨_, rfl, _, rfl, o, p, sy.owns, sy.picks, rfl, Do.same S1, Dp.same S1, fun x hx => ok.own hx, ok.ou, lo, ok.oc, by omega, fun H2 S2 => ⟨_, rfl, ?_⟩⟩
    have S12 := S1.trans S2
    by_cases hcop : copies sy.owns ≤ 120
    · rw [decide_eq_true hcop] at q ⊢
      show if (!true) = true then _ else _
      rw [if_neg (by decide)]
      refine ⟨_, rfl, _, rfl, _, rfl, p, o, sy.picks, sy.owns, rfl, Dp.same S12, Do.same S12, by omega, by omega, fun l H3 S3 _ el => ?_⟩
      have S13 := S12.trans S3
      have nl := ok.nlen
      exact ⟨c, l, sy.cls, sy.names, rfl, Dc.same S13, el, ok.ck, ok.nm, by omega, ok.cl, ok.cu, fun H4 S4 => q H4 (S13.trans S4)⟩
    · rw [decide_eq_false hcop] at q ⊢
      show if (!false) = true then _ else _
      rw [if_pos (by decide)]
      exact q H2 S12
end
end S1

set_option Elab.async false
set_option linter.all false
set_option maxRecDepth 100000
set_option maxHeartbeats 4000000
/-! the checks ahead of each function let good arguments by -/
namespace S1
open PySem PySem.W PySem.Spec PyProof.Rows L2
structure Wnt (K : PySem.W.Frag) (mg : Str → Option Value) : Prop where
  saying : There K mg "want_saying" sWantSaying ["saying"]
def spWantSaying : Sp := fun vs H Q _ => ∃ (v : V) (s : Say), vs = [v] ∧ DatS H v s ∧ SayOk 6 8 120 40 s ∧ ∀ H', Same H H' → Q .non H'
def spWantClause : Sp := fun vs H Q _ => ∃ (v u : V) (s : Say) (cl : List Ltr), vs = [v, u] ∧ DatS H v s ∧ Dat H u (clD cl) ∧ SayOk 6 8 120 40 s ∧ ClOk s.names cl ∧ ∀ H', Same H H' → Q .non H'
def spWantPlay : Sp := fun vs H Q _ => ∃ (v u : V) (s : Say) (bs : List Bool), vs = [v, u] ∧ DatS H v s ∧ Dat H u (blsD bs) ∧ SayOk 6 8 120 40 s ∧ bs.length = s.picks.length ∧ ∀ H', Same H H' → Q .non H'
def spWantOwn : Sp := fun vs H Q _ => ∃ (v : V) (s : Say) (o : Own), vs = [v, .str o.1] ∧ DatS H v s ∧ SayOk 6 8 120 40 s ∧ o ∈ s.owns ∧ ∀ H', Same H H' → Q .non H'
section
variable {P : Program} {w : World} {K : PySem.W.Frag} {mg : Str → Option Value} {base : Heap}
theorem scWantSaying : FnScope ["saying"] ["saying"] (defScope sWantSaying) := ⟨rfl, rfl, rfl, by decide +kernel, rfl, by decide +kernel, by decide +kernel⟩
theorem g_wantSaying (e : Env1 K mg) (Wn : Wnt K mg) : Good P w K mg base 7 "want_saying" sWantSaying ["saying"] spWantSaying := by
  obtain ⟨f, fd, h⟩ := Wn.saying
  obtain ⟨fA, fdA, An, GA⟩ := g_fitsSaying (P := P) (w := w) (base := base) e
  refine ⟨f, fd, h, ?_⟩
  refine h.F.ok scWantSaying (fun vs H Q E h => ?_) (fun cdv A outer s H vs Q E hr h => ?_)
  · obtain ⟨v, sy, rfl, _⟩ := h
    rfl
  · obtain ⟨v, sy, rfl, D, ok, q⟩ := h
    refine ⟨_, pss_one (ps_if (pt_not (pt_val (pe_call GA hr rfl An.g An.F.kp An.b .nil pass0 (pa_cons (pv 0) pa_nil)))) pss_never pss_nil), ?_⟩
    refine ⟨_, rfl, v, sy, rfl, D, ⟨ok.pu, ok.pn, ok.pl, ok.ou, ok.on, ok.ol, Nat.le_trans ok.oc (by decide), ok.cu, ok.ck, ok.cl⟩, fun H' S => ⟨_, rfl, ?_⟩⟩
    rw [decide_eq_true ok.oc]
    show if (!true) = true then _ else _
    rw [if_neg (by decide)]
    exact q H' S
end
end S1

set_option Elab.async false
set_option linter.all false
set_option maxRecDepth 100000
set_option maxHeartbeats 4000000
/-! good names of owns and picks are let by -/
namespace S1
open PySem PySem.W PySem.Spec PyProof.Rows L2
structure Wnt2 (K : PySem.W.Frag) (mg : Str → Option Value) : Prop where
  own : There K mg "want_own" sWantOwn ["saying", "name"]
  pick : There K mg "want_pick" sWantPick ["saying", "pick"]
def spWantPick : Sp := fun vs H Q _ => ∃ (v : V) (s : Say) (x : Str), vs = [v, .str x] ∧ DatS H v s ∧ SayOk 6 8 120 40 s ∧ x ∈ s.picks ∧ ∀ H', Same H H' → Q .non H'
section
variable {P : Program} {w : World} {K : PySem.W.Frag} {mg : Str → Option Value} {base : Heap}
theorem scWantOwn : FnScope ["saying", "name", "own"] ["saying", "name"] (defScope sWantOwn) := ⟨rfl, rfl, rfl, by decide +kernel, rfl, by decide +kernel, by decide +kernel⟩
theorem scWantPick : FnScope ["saying", "pick"] ["saying", "pick"] (defScope sWantPick) := ⟨rfl, rfl, rfl, by decide +kernel, rfl, by decide +kernel, by decide +kernel⟩
theorem g_wantOwn (e : Env1 K mg) (W2 : Wnt2 K mg) : Good P w K mg base 2 "want_own" sWantOwn ["saying", "name"] spWantOwn := by
  obtain ⟨f, fd, h⟩ := W2.own
  obtain ⟨fN, fdN, Nn, GN⟩ := g_isName (P := P) (w := w) (base := base) e
  refine ⟨f, fd, h, ?_⟩
  refine h.F.ok scWantOwn (fun vs H Q E h => ?_) (fun cdv A outer s H vs Q E hr h => ?_)
  · obtain ⟨v, sy, o, rfl, _⟩ := h
    rfl
  · obtain ⟨v, sy, o, rfl, D, ok, ho, q⟩ := h
    refine ⟨_, pss_one (ps_if (PW.pt (pw_or (pt_not (pt_val (pe_call GN hr rfl Nn.g Nn.F.kp Nn.b .nil pass0 (pa_cons (pv 1) pa_nil))))
      (pw_or1 (pt_cmpR op_notIn_seq (pv 1) (pe_lc (own := [("own", 2)]) (g := gName 2) (tt := tYes) (te := tOp (rIxT K) (tVar 2) (tC (V.int 0))) rfl scWantOwn.nd (pi_tup (pe_ix ix_tup (pv 0) pe_int (fun _ _ => rfl)))
          (blkOk_by (N := ["saying", "name", "own"]) (sc := defScope sWantOwn) (by decide +kernel)) (fun _ _ _ _ _ => pg_name (i := 2) scWantOwn.nd rfl (Or.inl rfl)) (fun _ _ _ _ _ => pts_nil)
          (fun _ _ _ _ _ => by exact pe_ix ix_tup (pv 2) pe_int (fun _ _ => rfl))) (by with_unfolding_all rfl))))) pss_never pss_nil), ?_⟩
    obtain ⟨a, p, ov, c, rfl, ea, Dp, Do, Dc⟩ := say_row D
    obtain ⟨b, us, rfl, eb, Db⟩ := Do
    have lu : us.length = sy.owns.length := by rw [Db.len, List.length_map]
    have lo := ok.ol
    refine ⟨_, rfl, o.1, rfl, (ok.own ho).n, fun H1 S1 => ⟨true, rfl, ?_⟩⟩
    show if (!true) = true then _ else _
    rw [if_neg (by decide)]
    refine ⟨_, rfl, _, rfl, a, _, 1, _, rfl, rfl, SqT.of (S1 _ _ ea), rfl, b, rfl, ⟨_, FT.sq (FT.same eb S1)⟩, fun D1 hD1 => lc_mapT (K := K) (ys := (sy.owns.map Prod.fst).map V.str) (FT.sq (FT.same eb S1)) hD1 (by rw [List.length_map, List.length_map, lu]) (by omega) (fun i x y H4 Qe hx hy S4 k => ?_) gName_mono (fun H6 e6 S6 => ?_)⟩
    · obtain ⟨d, hd, Dx⟩ := dats_get' Db i x hx
      obtain ⟨o', ho', rfl⟩ := get_map hd
      obtain ⟨t, rfl⟩ := tuple_ref (ds := [.str o'.1, nmsD o'.2]) Dx
      obtain ⟨t', g1, _⟩ := own_row (q := (t, ownD o')) rfl Dx
      have ey : y = V.str o'.1 := by
        rw [List.getElem?_map, List.getElem?_map, ho'] at hy
        exact (Option.some.inj hy).symm
      rw [ey] at k
      exact ⟨rfl, _, rfl, t, _, 0, _, rfl, rfl, SqT.of (S4 _ _ (S1 _ _ g1)), rfl, k H4 (Same.refl _)⟩
    · refine ⟨D1, _, rfl, .inl (SqL.of e6), rfl, flat_strs _, _, rfl, ?_⟩
      show if (!inV (V.str o.1) ((sy.owns.map Prod.fst).map V.str)) = true then _ else _
      rw [inV_str, decide_eq_true (List.mem_map_of_mem ho), if_neg (by decide)]
      exact q H6 (S1.trans S6)
theorem g_wantPick (e : Env1 K mg) (W2 : Wnt2 K mg) : Good P w K mg base 2 "want_pick" sWantPick ["saying", "pick"] spWantPick := by
  obtain ⟨f, fd, h⟩ := W2.pick
  obtain ⟨fN, fdN, Nn, GN⟩ := g_isName (P := P) (w := w) (base := base) e
  refine ⟨f, fd, h, ?_⟩
  refine h.F.ok scWantPick (fun vs H Q E h => ?_) (fun cdv A outer s H vs Q E hr h => ?_)
  · obtain ⟨v, sy, o, rfl, _⟩ := h
    rfl
  · obtain ⟨v, sy, x, rfl, D, ok, hx, q⟩ := h
    refine ⟨_, pss_one (ps_if (PW.pt (pw_or (pt_not (pt_val (pe_call GN hr rfl Nn.g Nn.F.kp Nn.b .nil pass0 (pa_cons (pv 1) pa_nil))))
      (pw_or1 (pt_cmpR op_notIn_seq (pv 1) (pe_ix ix_tup (pv 0) pe_int (fun _ _ => rfl)) (by with_unfolding_all rfl))))) pss_never pss_nil), ?_⟩
    obtain ⟨a, p, ov, c, rfl, ea, Dp, Do, Dc⟩ := say_row D
    obtain ⟨b, us, rfl, eb, Db⟩ := dat_tup (ds := sy.picks.map PyData.str) Dp
    cases dats_strs_eq Db
    refine ⟨_, rfl, x, rfl, ok.pn x hx, fun H1 S1 => ⟨true, rfl, ?_⟩⟩
    show if (!true) = true then _ else _
    rw [if_neg (by decide)]
    refine ⟨_, rfl, _, rfl, a, _, 0, _, rfl, rfl, SqT.of (S1 _ _ ea), rfl, b, _, rfl, .inr (SqT.of (S1 _ _ eb)), rfl, flat_strs _, _, rfl, ?_⟩
    show if (!inV (V.str x) (sy.picks.map V.str)) = true then _ else _
    rw [inV_str, decide_eq_true hx, if_neg (by decide)]
    exact q H1 S1
end
end S1

set_option Elab.async false
set_option linter.all false
set_option maxRecDepth 100000
set_option maxHeartbeats 2000000
/-! dicts keyed by tuples of texts, numbers, truths and such tuples -/
namespace L2
open PySem PySem.W PySem.Spec PyProof.Rows
abbrev DRow := TRow × V
/-- the rows of the layer, and the entries -/
abbrev KN : List DRow → List (NestedKey × Addr × Value) → Prop := Paired fun p q => q.1 = nkey p.1.2 ∧ q.2.1 = p.1.1 ∧ RelV p.2 q.2.2
def lookN (D : List DRow) (d : PyData) : Option V := (D.find? fun p => decide (nkey p.1.2 = nkey d)).map (·.2)
def putN (D : List DRow) (r : TRow) (v : V) : List DRow := if (lookN D r.2).isSome then D.map fun p => if nkey p.1.2 = nkey r.2 then (p.1, v) else p else D ++ [(r, v)]
theorem putN_new {D : List DRow} {r : TRow} {v : V} (h : lookN D r.2 = none) : putN D r v = D ++ [(r, v)] := by simp [putN, h]
theorem putN_old {D : List DRow} {r : TRow} {v x : V} (h : lookN D r.2 = some x) : putN D r v = D.map fun p => if nkey p.1.2 = nkey r.2 then (p.1, v) else p := by simp [putN, h]
theorem putN_len (D : List DRow) (r : TRow) (v : V) : (putN D r v).length ≤ D.length + 1 := by
  unfold putN
  split
  · rw [List.length_map]; omega
  · rw [List.length_append]; exact Nat.le_refl _
theorem lookN_cons (p : DRow) (D : List DRow) (d : PyData) : lookN (p :: D) d = if nkey p.1.2 = nkey d then some p.2 else lookN D d := by
  unfold lookN
  rw [List.find?_cons]
  by_cases h : nkey p.1.2 = nkey d
  · rw [if_pos h, decide_eq_true h]; rfl
  · rw [if_neg h, decide_eq_false h]
theorem lookN_none {D : List DRow} {d : PyData} : lookN D d = none ↔ ∀ p ∈ D, nkey p.1.2 ≠ nkey d := by
  induction D with
  | nil => exact ⟨fun _ p hp => absurd hp (by simp), fun _ => rfl⟩
  | cons p D ih =>
    rw [lookN_cons]
    by_cases h : nkey p.1.2 = nkey d
    · rw [if_pos h]
      exact ⟨fun z => (nomatch z), fun z => absurd h (z p List.mem_cons_self)⟩
    · rw [if_neg h, ih]
      exact ⟨fun z q hq => by
        rcases List.mem_cons.mp hq with rfl | hq
        · exact h
        · exact z q hq, fun z q hq => z q (List.mem_cons_of_mem _ hq)⟩
theorem KN.val {D : List DRow} {xs : List (NestedKey × Addr × Value)} (r : KN D xs) (d : PyData) : RelO (lookN D d) ((atKey xs (nkey d)).map (·.2)) := by
  induction r with
  | nil => exact trivial
  | @cons p q ps qs h t ih =>
    rw [lookN_cons]
    have e : atKey (q :: qs) (nkey d) = if nkey p.1.2 = nkey d then some q.2 else atKey qs (nkey d) := by
      unfold atKey
      rw [List.find?_cons, h.1]
      by_cases z : nkey p.1.2 = nkey d
      · rw [if_pos z, decide_eq_true z]; rfl
      · rw [if_neg z, decide_eq_false z]
    rw [e]
    by_cases z : nkey p.1.2 = nkey d
    · rw [if_pos z, if_pos z]
      exact h.2.2
    · rw [if_neg z, if_neg z]
      exact ih
theorem KN.repl {D : List DRow} {xs : List (NestedKey × Addr × Value)} (r : KN D xs) (d : PyData) {v : V} {u : Value} (rv : RelV v u) :
    KN (D.map fun p => if nkey p.1.2 = nkey d then (p.1, v) else p) (xs.map (putAt (nkey d) u)) := by
  induction r with
  | nil => exact .nil
  | @cons p q ps qs h t ih =>
    refine .cons ?_ ih
    unfold putAt
    dsimp only
    rw [h.1]
    by_cases z : nkey p.1.2 = nkey d
    · rw [if_pos z, if_pos z]
      exact ⟨rfl, h.2.1, rv⟩
    · rw [if_neg z, if_neg z]
      exact h
theorem KN.app {D E : List DRow} {xs ys : List (NestedKey × Addr × Value)} (r : KN D xs) (t : KN E ys) : KN (D ++ E) (xs ++ ys) := by
  induction r with
  | nil => exact t
  | cons h _ ih => exact .cons h ih
theorem KN.put {D : List DRow} {xs : List (NestedKey × Addr × Value)} (r : KN D xs) (k : TRow) {v : V} {u : Value} (rv : RelV v u) : KN (putN D k v) (storedH xs (nkey k.2) k.1 u) := by
  have z := (r.val k.2).isSome_eq
  rw [Option.isSome_map] at z
  unfold putN storedH
  rw [z]
  by_cases h : (atKey xs (nkey k.2)).isSome = true
  · rw [if_pos h, if_pos h]
    exact r.repl k.2 rv
  · rw [if_neg h, if_neg h]
    exact r.app (.cons ⟨rfl, rfl, rv⟩ .nil)
/-- the dict's object alone -/
def RawN (w : World) (a : Addr) (D : List DRow) (h : Heap) : Prop := ∃ xs o es ep, KN D xs ∧ h.get? a = some o ∧ o.ExactDict ∧ o.data = .dict es ep ∧ es.toList = xs.map (fun x => (⟨x.1.hash w, .ref x.2.1, x.2.2⟩ : DictEntry)) ∧ (xs.map (·.1)).Nodup ∧ D.length ≤ sizeLine ∧ (a == sysModules) = false
def DnO (w : World) (a : Addr) (D : List DRow) : HO := .ext (RawN w a D)
theorem dn_ok {P : Program} {w : World} {H : Hp} {h : Heap} {a : Addr} {D : List DRow} (r : RawN w a D h) : ObjOk P w H h a (DnO w a D) := by
  have ⟨xs, o, es, ep, r1, r2, r3, r4, r5, r6, r7, r8⟩ := r
  exact ⟨r, ⟨o, r2⟩, fun h1 h2 ⟨xs, o, es, ep, q1, q2, q3, q4, q5, q6, q7, q8⟩ k => ⟨xs, o, es, ep, q1, k _ q2, q3, q4, q5, q6, q7, q8⟩⟩
/-- a dict stands at a with the rows D (the empty one may still be of no kind) -/
def DnAt (w : World) (H : Hp) (a : Addr) (D : List DRow) : Prop := H a = some (DnO w a D) ∨ (H a = some (.dK []) ∧ D = [])
def KeysAt (H : Hp) (D : List DRow) : Prop := ∀ p ∈ D, Dat H p.1.v p.1.2 ∧ keyable p.1.2 = true ∧ p.1.2.depth ≤ 8
theorem DnAt.same {w : World} {H H' : Hp} {a : Addr} {D : List DRow} (h : DnAt w H a D) (S : Same H H') : DnAt w H' a D := by
  rcases h with h | ⟨h, e⟩
  · exact .inl (S _ _ h)
  · exact .inr ⟨S _ _ h, e⟩
theorem KeysAt.same {H H' : Hp} {D : List DRow} (h : KeysAt H D) (S : Same H H') : KeysAt H' D := fun p hp => ⟨(h p hp).1.same S, (h p hp).2⟩
section
variable {X : Cx} {pins : List (Addr × Obj)} {σ : L2.St} {H : Hp} {s : Shared} {a : Addr} {D : List DRow}
theorem key_at {r : Addr} {d : PyData} {h : Heap} {P : Program} {w : World} (ok : HOk P w H h) (D : Dat H (.ref r) d) (k : keyable d = true) (dp : d.depth ≤ 8) : (nestedKind P w).is h (nkey d) r := by
  obtain ⟨as, R⟩ := reads_of_dat ok D (show RelV (.ref r) (Value.ref r) from rfl)
  exact ⟨nkey_is d _ as k R, by rw [nkey_depth d k]; exact dp⟩
theorem kn_keys {h : Heap} {P : Program} {w : World} (ok : HOk P w H h) {D : List DRow} {xs : List (NestedKey × Addr × Value)} (r : KN D xs) (kk : KeysAt H D) : ∀ x ∈ xs, (nestedKind P w).is h x.1 x.2.1 := by
  induction r with
  | nil => exact fun x hx => absurd hx (by simp)
  | @cons p q ps qs hq t ih =>
    intro x hx
    rcases List.mem_cons.mp hx with rfl | hx
    · obtain ⟨D1, k1, dp⟩ := kk p List.mem_cons_self
      rw [hq.1, hq.2.1]
      exact key_at ok D1 k1 dp
    · exact ih (fun p hp => kk p (List.mem_cons_of_mem _ hp)) x hx
theorem dn_of {h : Heap} {P : Program} {w : World} (ok : HOk P w H h) (e : DnAt w H a D) (kk : KeysAt H D) : ∃ xs, KN D xs ∧ h.DictOfH (nestedKind P w) a xs ∧ xs.length ≤ sizeLine ∧ (a == sysModules) = false := by
  rcases e with e | ⟨e, rfl⟩
  · obtain ⟨⟨xs, o, es, ep, r1, r2, r3, r4, r5, r6, r7, r8⟩, _⟩ := (show ObjOk P w H h a (DnO w a D) from ok a _ e)
    exact ⟨xs, r1, ⟨o, es, ep, r2, r3, r4, r5, kn_keys ok r1 kk, r6⟩, by rw [← Paired.length r1]; exact r7, r8⟩
  · obtain ⟨z, hd, vs, rel, dd⟩ := dk_of ok e
    have e0 : vs = [] := by
      have := rel.length
      exact List.length_eq_zero_iff.mp this.symm
    subst e0
    obtain ⟨o, es, ep, h1, h2, h3, _, h4, _⟩ := dd
    have e1 : es.toList = [] := by
      cases hh : es.toList with
      | nil => rfl
      | cons x l => rw [hh] at h4; cases h4
    exact ⟨[], .nil, ⟨o, es, ep, h1, h2, h3, e1, fun x hx => absurd hx (by simp), List.nodup_nil⟩, Nat.zero_le _, hd⟩
theorem DnAt.mut {w : World} (e : DnAt w H a D) : Mut (H a) := by
  rcases e with e | ⟨e, _⟩ <;> rw [e] <;> exact True.intro
theorem dn_setItem {A : Around} {E : Value → Shared → Prop} {r : Addr} {d : PyData} {v : V} {u : Value} {Q : Unit → Shared → Prop} (hu : A.units + 16 < cLine) (I : Inv X pins σ H s) (e : DnAt X.w H a D) (kk : KeysAt H D) (Dr : Dat H (.ref r) d) (kd : keyable d = true) (dp : d.depth ≤ 8)
    (rv : RelV v u) (hl : D.length < sizeLine) (h : ∀ s', Inv X pins σ (upd H a (DnO X.w a (putN D (r, d) v))) s' → Q () s') : wpAny (model X.prog X.w) A (setItem (.ref a) (.ref r) u) Q E s := by
  obtain ⟨xs, rel, dd, hz, hd⟩ := dn_of I.hok e kk
  refine wpAny_setItem_heap (hsz := hz) (show A.in1.units + 8 < cLine by rw [Around.in1_units]; omega) (key_at I.hok Dr kd dp) dd fun h' dd' hs => h _ ?_
  obtain ⟨q, es, ep, hq, h2, h3, h4, _, h5⟩ := dd'
  exact d_write I e.mut hs ⟨q, hq⟩ (dn_ok ⟨_, q, es, ep, rel.put (r, d) rv, hq, h2, h3, h4, h5, Nat.le_trans (putN_len _ _ _) hl, hd⟩)
end
section
variable {X : Cx}
def rInN (f : Bool → Bool) (w : World) : R2 := fun x y H Q => ∃ r a D d, x = .ref r ∧ y = .ref a ∧ DnAt w H a D ∧ KeysAt H D ∧ Dat H (.ref r) d ∧ keyable d = true ∧ d.depth ≤ 8 ∧ Q (.bl (f (lookN D d).isSome)) H
theorem op_inN (hu : X.A.units + 16 < cLine) : OpR X (compareOp .In) (rInN id X.w) := by
  intro pins s σ H x y v u Q I rx ry h
  obtain ⟨r, a, D, d, rfl, rfl, e, kk, Dr, kd, dp, q⟩ := h
  cases rx; cases ry
  obtain ⟨xs, rel, dd, hz, hd⟩ := dn_of I.hok e kk
  refine wpAny_in_heap (show X.A.in1.units + 8 < cLine by rw [Around.in1_units]; omega) (key_at I.hok Dr kd dp) hd dd ?_
  have z := (rel.val d).isSome_eq
  rw [Option.isSome_map] at z
  rw [← z]
  exact ⟨.bl _, H, I.tok _, rfl, q⟩
theorem op_notInN (hu : X.A.units + 16 < cLine) : OpR X (compareOp .NotIn) (rInN not X.w) := by
  intro pins s σ H x y v u Q I rx ry h
  obtain ⟨r, a, D, d, rfl, rfl, e, kk, Dr, kd, dp, q⟩ := h
  cases rx; cases ry
  obtain ⟨xs, rel, dd, hz, hd⟩ := dn_of I.hok e kk
  refine wpAny_notIn_heap (show X.A.in1.units + 8 < cLine by rw [Around.in1_units]; omega) (key_at I.hok Dr kd dp) hd dd ?_
  have z := (rel.val d).isSome_eq
  rw [Option.isSome_map] at z
  rw [← z]
  exact ⟨.bl _, H, I.tok _, rfl, q⟩
/-- d[y] = v -/
def sNPut (w : World) (td ty tv : TE) : TS := fun Dn σ H => tv σ H fun v H1 => td σ H1 fun x H2 => ty σ H2 fun y H3 => ∃ a r D d, x = .ref a ∧ y = .ref r ∧ DnAt w H3 a D ∧ KeysAt H3 D ∧ Dat H3 (.ref r) d ∧ keyable d = true ∧ d.depth ≤ 8 ∧ D.length < sizeLine ∧
  Dn.nx σ (upd H3 a (DnO w a (putN D (r, d) v)))
theorem ps_nput {o i value : Expr} {td ty tv : TE} {pos pos' : Pos} (hu : X.A.units + 16 < cLine) (ho : PE X o td) (hi : PE X i ty) (hv : PE X value tv) (hs : swapsWith value (some (.Subscript o i pos')) pos.line X.env = pure false) :
    PS X (.Assign [.Subscript o i pos'] value pos) (sNPut X.w td ty tv) := by
  refine ⟨fun pins s σ H D I h => ?_⟩
  refine wpAny_Assign_Subscript (thn (hv.run pins s σ H _ I h) fun r s1 ⟨v, H1, I1, rv, q1⟩ => thn (ho.run pins s1 σ H1 _ I1 q1) fun u s2 ⟨x, H2, I2, rx, q2⟩ => thn (hi.run pins s2 σ H2 _ I2 q2) fun iv s3 ⟨y, H3, I3, ry, a, r', D', d, ex, ey, e, kk, Dr, kd, dp, hl, q3⟩ => ?_) hs
  subst ex ey
  cases rx; cases ry
  exact dn_setItem hu I3 e kk Dr kd dp rv hl fun s4 I4 => ⟨σ, _, I4, q3⟩
/-- d[y], there -/
def tNGet (w : World) (td ty : TE) : TE := fun σ H Q => td σ H fun x H1 => ty σ H1 fun y H2 => ∃ a r D d v, x = .ref a ∧ y = .ref r ∧ DnAt w H2 a D ∧ KeysAt H2 D ∧ Dat H2 (.ref r) d ∧ keyable d = true ∧ d.depth ≤ 8 ∧ lookN D d = some v ∧ Q v H2
theorem pe_nget {o i : Expr} {td ty : TE} {pos : Pos} (hu : X.A.units + 16 < cLine) (ho : PE X o td) (hi : PE X i ty) (hs : NoSl i) : PE X (.Subscript o i pos) (tNGet X.w td ty) := by
  refine ⟨fun pins s σ H Q I h => ?_⟩
  refine subD_of PySem.F.slot_dict_getitem.lookup hs (thn (ho.run pins s σ H _ I h) fun u s1 ⟨x, H1, I1, rx, q1⟩ => thn (hi.run pins s1 σ H1 _ I1 q1) fun iv s2 ⟨y, H2, I2, ry, a, r, D, d, v, ex, ey, e, kk, Dr, kd, dp, l, q2⟩ => ?_)
  subst ex ey
  cases rx; cases ry
  obtain ⟨xs, rel, dd, hz, hd⟩ := dn_of I2.hok e kk
  refine ⟨dd.typeIs, ?_⟩
  obtain ⟨w', hw, rw'⟩ := RelO.some_of (v := v) (o := (atKey xs (nkey d)).map (·.2)) (by rw [← l]; exact rel.val d)
  obtain ⟨p, hp, hp2⟩ := Option.map_eq_some_iff.mp hw
  refine wpAny_getItem_heap (show X.A.in1.units + 8 < cLine by rw [Around.in1_units]; omega) (key_at I2.hok Dr kd dp) dd hp ?_
  rw [hp2]
  exact ⟨v, H2, I2.tok _, rw', q2⟩
def rLenN (w : World) : List V → Hp → VK → Prop := fun vs H Q => ∃ a D, vs = [.ref a] ∧ DnAt w H a D ∧ KeysAt H D ∧ Q (.int ((D.length : Nat) : Int)) H
theorem call_lenN : CallR X (.builtin "len") (rLenN X.w) := by
  intro pins s σ H xs us Q I r h
  obtain ⟨a, D, rfl, e, kk, q⟩ := h
  rw [Vals.ref1 r]
  obtain ⟨ys, rel, dd, hz, hd⟩ := dn_of I.hok e kk
  have hl : D.length = ys.length := Paired.length rel
  have hs : sizeLine = 16777216 := sizeLine_eq
  refine call_len_dictH hd dd (by omega) ?_
  rw [← hl]
  exact ⟨.int _, H, I.tok _, ⟨_, rfl⟩, q⟩
end
end L2

set_option Elab.async false
set_option linter.all false
set_option maxRecDepth 100000
set_option maxHeartbeats 2000000
/-! t in ts, t a tuple, ts a row of tuples -/
namespace L2
open PySem PySem.W PySem.Spec PyProof.Rows
def inT (d : PyData) (T : List TRow) : Bool := T.any fun p => decide (nkey p.2 = nkey d)
section
variable {X : Cx}
open Classical in
noncomputable def hitT (d : PyData) (T : List TRow) (u : Value) : Bool := decide (∃ p ∈ T, TRow.r p = u ∧ nkey p.2 = nkey d)
theorem hit_any {H : Hp} {h : Heap} {P : Program} {w : World} (ok : HOk P w H h) {d : PyData} {T : List TRow} (kk : ∀ p ∈ T, Dat H p.v p.2 ∧ keyable p.2 = true ∧ p.2.depth ≤ 8) (p : TRow) (hp : p ∈ T) : hitT d T (TRow.r p) = decide (nkey p.2 = nkey d) := by
  unfold hitT
  by_cases z : nkey p.2 = nkey d
  · rw [decide_eq_true z, decide_eq_true_eq]
    exact ⟨p, hp, rfl, z⟩
  · rw [decide_eq_false z, decide_eq_false_iff_not]
    rintro ⟨q, hq, e, f⟩
    have e1 : q.1 = p.1 := by injection e
    obtain ⟨D1, k1, dp1⟩ := kk p hp
    obtain ⟨D2, k2, dp2⟩ := kk q hq
    have z1 := (key_at ok D1 k1 dp1).1
    have z2 := (key_at ok D2 k2 dp2).1
    rw [e1] at z2
    exact z ((NestedIs.inj _ _ _ z1 z2).trans f)
theorem any_hits {H : Hp} {h : Heap} {P : Program} {w : World} (ok : HOk P w H h) {d : PyData} {T : List TRow} (kk : ∀ p ∈ T, Dat H p.v p.2 ∧ keyable p.2 = true ∧ p.2.depth ≤ 8) : (T.map TRow.r).any (hitT d T) = inT d T := by
  unfold inT
  rw [List.any_map]
  rw [Bool.eq_iff_iff, List.any_eq_true, List.any_eq_true]
  constructor
  · rintro ⟨p, hp, e⟩
    rw [Function.comp, hit_any ok kk p hp] at e
    exact ⟨p, hp, e⟩
  · rintro ⟨p, hp, e⟩
    refine ⟨p, hp, ?_⟩
    rw [Function.comp, hit_any ok kk p hp]
    exact e
theorem eqs_T {H : Hp} {s : Shared} {P : Program} {w : World} (ok : HOk P w H s.heap) {r : Addr} {d : PyData} {T : List TRow} (kk : ∀ p ∈ T, Dat H p.v p.2 ∧ keyable p.2 = true ∧ p.2.depth ≤ 8) (Dr : Dat H (.ref r) d) (kd : keyable d = true) (dp : d.depth ≤ 8) :
    ∀ A : Around, A.units + 8 < cLine → ∀ w ∈ (T.map TRow.r), SeqAt.EqAt A s w (.ref r) (hitT d T w) := fun A hA w hw => by
  obtain ⟨p, hp, rfl⟩ := List.mem_map.mp hw
  obtain ⟨D1, k1, dp1⟩ := kk p hp
  have z1 := (key_at ok D1 k1 dp1)
  have z2 := (key_at ok Dr kd dp)
  rw [hit_any ok kk p hp]
  exact SeqAt.EqAt.cast (eqAt_key _ _ A s _ _ z1.1 z2.1 (by have := z1.2; omega)) (NestedKey.decide_eq _ _).symm
def rInT (K : PySem.W.Frag) (neg : Bool) : R2 := fun x y H Q => ∃ r a d T, x = .ref r ∧ y = .ref a ∧ (SqL K H a (T.map TRow.v) ∨ SqT K H a (T.map TRow.v)) ∧ (∀ p ∈ T, Dat H p.v p.2 ∧ keyable p.2 = true ∧ p.2.depth ≤ 8) ∧ Dat H (.ref r) d ∧ keyable d = true ∧ d.depth ≤ 8 ∧ Q (.bl (if neg then !inT d T else inT d T)) H
theorem op_inT (hu : X.A.units + 16 < cLine) : OpR X (compareOp .In) (rInT X.K false) := by
  intro pins s σ H x y v u Q I rx ry h
  obtain ⟨r, a, d, T, rfl, rfl, hq, kk, Dr, kd, dp, q⟩ := h
  cases rx; cases ry
  have eqs := eqs_T I.hok kk Dr kd dp (s := s)
  have h8 : X.A.in1.units + 8 < cLine := by rw [Around.in1_units]; omega
  rcases hq with hq | hq
  · obtain ⟨its, rv, pl, hz⟩ := I.list hq
    have e1 : its = T.map TRow.r := vals_rows rv
    subst e1
    refine SeqAt.in_listAt (hitT d T) pl.isList (fun w hw => eqs X.A.in1 h8 w (by simpa using hw)) ⟨.bl _, H, I, rfl, ?_⟩
    rw [show (T.map TRow.r).toArray.any (hitT d T) = (T.map TRow.r).any (hitT d T) by simp only [List.any_toArray], any_hits I.hok kk]
    exact q
  · obtain ⟨its, rv, pl, hz⟩ := I.tuple hq
    have e1 : its = T.map TRow.r := vals_rows rv
    subst e1
    refine SeqAt.in_tupleAt (hitT d T) pl (fun w hw => eqs X.A.in1 h8 w (by simpa using hw)) ⟨.bl _, H, I, rfl, ?_⟩
    rw [show (T.map TRow.r).toArray.any (hitT d T) = (T.map TRow.r).any (hitT d T) by simp only [List.any_toArray], any_hits I.hok kk]
    exact q
theorem op_notInT (hu : X.A.units + 16 < cLine) : OpR X (compareOp .NotIn) (rInT X.K true) := by
  intro pins s σ H x y v u Q I rx ry h
  obtain ⟨r, a, d, T, rfl, rfl, hq, kk, Dr, kd, dp, q⟩ := h
  cases rx; cases ry
  have eqs := eqs_T I.hok kk Dr kd dp (s := s)
  have h8 : X.A.in1.units + 8 < cLine := by rw [Around.in1_units]; omega
  rcases hq with hq | hq
  · obtain ⟨its, rv, pl, hz⟩ := I.list hq
    have e1 : its = T.map TRow.r := vals_rows rv
    subst e1
    refine SeqAt.notIn_listAt (hitT d T) pl.isList (fun w hw => eqs X.A.in1 h8 w (by simpa using hw)) ⟨.bl _, H, I, rfl, ?_⟩
    rw [show (T.map TRow.r).toArray.any (hitT d T) = (T.map TRow.r).any (hitT d T) by simp only [List.any_toArray], any_hits I.hok kk]
    exact q
  · obtain ⟨its, rv, pl, hz⟩ := I.tuple hq
    have e1 : its = T.map TRow.r := vals_rows rv
    subst e1
    refine SeqAt.notIn_tupleAt (hitT d T) pl (fun w hw => eqs X.A.in1 h8 w (by simpa using hw)) ⟨.bl _, H, I, rfl, ?_⟩
    rw [show (T.map TRow.r).toArray.any (hitT d T) = (T.map TRow.r).any (hitT d T) by simp only [List.any_toArray], any_hits I.hok kk]
    exact q
end
end L2

set_option Elab.async false
set_option linter.all false
set_option maxRecDepth 100000
set_option maxHeartbeats 4000000
/-! owns that see a pick; letters beside a letter -/
namespace S1
open PySem PySem.W PySem.Spec PyProof.Rows L2
section
variable {X : Cx}
def rNeP : R2 := fun x y H Q => ∃ d e, Dat H x d ∧ Dat H y e ∧ d.plain = true ∧ e.plain = true ∧ d.depth ≤ 8 ∧ Q (.bl (!PyData.eqv d e)) H
theorem op_neP (hu : X.A.units + 64 < cLine) : OpR X (compareOp .NotEq) rNeP := by
  intro pins s σ H x y v u Q I rx ry h
  obtain ⟨d, e, D1, D2, p1, p2, dp, q⟩ := h
  obtain ⟨as, R1⟩ := reads_of_dat I.hok D1 rx
  obtain ⟨bs, R2⟩ := reads_of_dat I.hok D2 ry
  exact PySem.SeqAt.ne_plain R1 R2 p1 p2 (by have := Nat.min_le_left d.depth e.depth; omega) ⟨.bl _, H, I, rfl, q⟩
end
section
variable {K : PySem.W.Frag} {a : Addr} {xs : List V} {F : V → Hp → (Hp → Prop) → Prop} {H0 : Hp} {Qd : Hp → Prop}
theorem turns_list (Pv : Nat → Hp → Prop) (h0 : Pv 0 H0) (hl : ∀ i H, i ≤ xs.length → Pv i H → SqL K H a xs) (hs : ∀ i x H, xs[i]? = some x → Pv i H → F x H (Pv (i + 1))) (hd : ∀ H, Pv xs.length H → Qd H) :
    ∃ W : Nat → Nat → Hp → Prop, (∃ m, W 0 m H0) ∧ ∀ i m H, W i m H →
      ((Itl K a).stop i H ∧ Qd H) ∨ ((Itl K a).go i H ∧ ∃ Nx : Hp → Prop, (∀ H', Nx H' → ∃ m', m' < m ∧ W (i + 1) m' H') ∧ ∀ x H', (Itl K a).yld i H x H' → F x H' Nx) := by
  refine ⟨fun i m H => m = xs.length - i ∧ i ≤ xs.length ∧ Pv i H, ⟨_, rfl, Nat.zero_le _, h0⟩, ?_⟩
  rintro i m H ⟨rfl, hi, p⟩
  have q := hl i H hi p
  by_cases lt : i < xs.length
  · refine .inr ⟨⟨xs, xs[i], q, List.getElem?_eq_getElem lt⟩, Pv (i + 1), fun H' p' => ⟨xs.length - (i + 1), by omega, rfl, lt, p'⟩, ?_⟩
    rintro x H' ⟨e, y⟩
    subst e
    exact hs i x _ (y xs q) p
  · have e : i = xs.length := by omega
    subst e
    exact .inl ⟨⟨xs, q, Nat.le_refl _⟩, hd H p⟩
theorem turns_tup (Pv : Nat → Hp → Prop) (h0 : Pv 0 H0) (hl : ∀ i H, i ≤ xs.length → Pv i H → SqT K H a xs) (hs : ∀ i x H, xs[i]? = some x → Pv i H → F x H (Pv (i + 1))) (hd : ∀ H, Pv xs.length H → Qd H) :
    ∃ W : Nat → Nat → Hp → Prop, (∃ m, W 0 m H0) ∧ ∀ i m H, W i m H →
      ((Itt K a).stop i H ∧ Qd H) ∨ ((Itt K a).go i H ∧ ∃ Nx : Hp → Prop, (∀ H', Nx H' → ∃ m', m' < m ∧ W (i + 1) m' H') ∧ ∀ x H', (Itt K a).yld i H x H' → F x H' Nx) := by
  refine ⟨fun i m H => m = xs.length - i ∧ i ≤ xs.length ∧ Pv i H, ⟨_, rfl, Nat.zero_le _, h0⟩, ?_⟩
  rintro i m H ⟨rfl, hi, p⟩
  have q := hl i H hi p
  by_cases lt : i < xs.length
  · refine .inr ⟨⟨xs, xs[i], q, List.getElem?_eq_getElem lt⟩, Pv (i + 1), fun H' p' => ⟨xs.length - (i + 1), by omega, rfl, lt, p'⟩, ?_⟩
    rintro x H' ⟨e, y⟩
    subst e
    exact hs i x _ (y xs q) p
  · have e : i = xs.length := by omega
    subst e
    exact .inl ⟨⟨xs, q, Nat.le_refl _⟩, hd H p⟩
end
def vw (s : Say) (x : Str) : List Str := (s.owns.filter fun o => decide (x ∈ o.2)).map Prod.fst
def besC (ws : List Str) (l : Ltr) (cl : List Ltr) : List Ltr := if l ∈ cl then cl.filter fun o => decide (o ≠ l) && decide (o.1 ∈ ws) else []
def bes (s : Say) (ws : List Str) (l : Ltr) : List Ltr := s.cls.flatMap (besC ws l)
theorem ltD_inj {a b : Ltr} (h : ltD a = ltD b) : a = b := by
  unfold ltD at h
  injection h with h
  injection h with h1 h2
  injection h1 with h1
  injection h2 with h2 _
  injection h2 with h2
  exact Prod.ext h1 h2
theorem nkey_lt {a b : Ltr} : nkey (ltD a) = nkey (ltD b) ↔ a = b :=
  ⟨fun h => ltD_inj (nkey_inj _ _ (keyable_lt a) (keyable_lt b) (alike_lt a b) h), fun h => by rw [h]⟩
theorem eqv_lt (a b : Ltr) : PyData.eqv (ltD a) (ltD b) = decide (a = b) := by
  obtain ⟨x, p⟩ := a
  obtain ⟨y, q⟩ := b
  by_cases h : x = y
  · subst h
    cases p <;> cases q <;> simp [ltD, PyData.eqv, PyData.eqvAll]
  · cases p <;> cases q <;> simp [ltD, PyData.eqv, PyData.eqvAll, h]
/-- letters in a row of letters -/
theorem inT_lt {T : List TRow} {cl : List Ltr} (e : T.map Prod.snd = cl.map ltD) (l : Ltr) : inT (ltD l) T = decide (l ∈ cl) := by
  unfold inT
  have e2 : (T.any fun p => decide (nkey p.2 = nkey (ltD l))) = (T.map Prod.snd).any fun d => decide (nkey d = nkey (ltD l)) := by rw [List.any_map]; rfl
  rw [e2, e, List.any_map]
  rw [Bool.eq_iff_iff, List.any_eq_true, decide_eq_true_eq]
  constructor
  · rintro ⟨o, ho, z⟩
    have z := of_decide_eq_true z
    rw [← nkey_lt.mp z]
    exact ho
  · intro h
    exact ⟨l, h, decide_eq_true rfl⟩
theorem bes_len (ws : List Str) (l : Ltr) (m : Nat) : ∀ cs : List (List Ltr), (∀ cl ∈ cs, cl.length ≤ m) → (cs.flatMap (besC ws l)).length ≤ m * cs.length
  | [], _ => Nat.zero_le _
  | cl :: cs, h => by
    have h1 := bes_len ws l m cs fun c hc => h c (List.mem_cons_of_mem _ hc)
    have h2 := h cl List.mem_cons_self
    have h3 : (besC ws l cl).length ≤ cl.length := by
      unfold besC
      split
      · exact List.length_filter_le _ _
      · exact Nat.zero_le _
    rw [List.flatMap_cons, List.length_append, List.length_cons, Nat.mul_succ]
    omega
def spViewers : Sp := fun vs H Q _ => ∃ (v : V) (s : Say) (x : Str), vs = [v, .str x] ∧ DatS H v s ∧ SayOk 6 8 120 40 s ∧ ∀ (l : Addr) (H' : Hp), Same H H' → H l = none → H' l = some (.lst ((vw s x).map V.str)) → Q (.ref l) H'
def spBeside : Sp := fun vs H Q _ => ∃ (v : V) (lv r : Addr) (s : Say) (ws : List Str) (lt : Ltr), vs = [v, .ref lv, .ref r] ∧ DatS H v s ∧ SayOk 6 8 120 40 s ∧ H lv = some (.lst (ws.map V.str)) ∧ Dat H (.ref r) (ltD lt) ∧
  ∀ (l : Addr) (T : List TRow) (H' : Hp), Same H H' → H l = none → H' l = some (.lst (T.map TRow.v)) → T.map Prod.snd = (bes s ws lt).map ltD → (∀ q ∈ T, Dat H' q.v q.2) → Q (.ref l) H'
section
variable {P : Program} {w : World} {K : PySem.W.Frag} {mg : Str → Option Value} {base : Heap}
abbrev nBs : List Str := ["saying", "viewers", "letter", "clause", "other"]
theorem scVw : FnScope ["saying", "pick", "name", "sight"] ["saying", "pick"] (defScope sViewersOf) := ⟨rfl, rfl, rfl, by decide +kernel, rfl, by decide +kernel, by decide +kernel⟩
theorem scBs : FnScope nBs ["saying", "viewers", "letter"] (defScope sBeside) := ⟨rfl, rfl, rfl, by decide +kernel, rfl, by decide +kernel, by decide +kernel⟩
theorem ok_viewersOf {f : Addr} {fd : FuncData} (F : Fun K "viewers_of" "viewers_of" sViewersOf f fd) : FnOk P w K mg base CX0 1 f fd ["saying", "pick"] spViewers := by
  refine F.ok scVw (fun vs H Q E h => ?_) (fun cdv A outer s H vs Q E hr h => ?_)
  · obtain ⟨v, sy, x, rfl, _⟩ := h
    rfl
  · obtain ⟨v, sy, x, rfl, D, ok, q⟩ := h
    refine ⟨_, pss_one (ps_ret (pe_lc (own := [("name", 2), ("sight", 3)]) (g := gTup K 2 (gCons (gName 2) (gCons (gName 3) gNil))) (tt := tTest (tOp (rIn K false) (tVar 1) (tVar 3))) (te := tVar 2) rfl scVw.nd (pi_tup (pe_ix ix_tup (pv 0) pe_int (fun _ _ => rfl))) (blkOk_by (N := ["saying", "pick", "name", "sight"]) (sc := defScope sViewersOf) (by decide +kernel))
        (fun _ _ _ _ _ => by exact pg_tup rfl (pgs_cons (pg_name (i := 2) scVw.nd rfl (.inl rfl)) (pgs_cons (pg_name (i := 3) scVw.nd rfl (.inl rfl)) pgs_nil))) (fun _ _ _ _ _ => by exact pts_one (pt_cmpR op_in_seq (pv 1) (pv 3) (by with_unfolding_all rfl))) (fun _ _ _ _ _ => by exact pv 2))), ?_⟩
    obtain ⟨a, pk, ow, c, rfl, ea, Dp, Do, Dc⟩ := say_row D
    obtain ⟨b, us, rfl, eb, Db⟩ := Do
    have lu : us.length = sy.owns.length := by rw [Db.len, List.length_map]
    have lo := ok.ol
    refine ⟨_, rfl, a, _, 1, _, rfl, rfl, SqT.of ea, rfl, b, rfl, ⟨_, FT.sq eb⟩, fun D0 hD0 => ?_⟩
    refine lc_tup (K := K) (a := b) (xs := us) (fun j H4 => H4 D0 = some (.lst ((((sy.owns.take j).filter fun o => decide (x ∈ o.2)).map Prod.fst).map V.str)) ∧ Same H H4) ⟨upd_same, same_new hD0⟩ (fun j H4 _ h => FT.sq (FT.same eb h.2)) ?_ ?_
    · rintro j y H4 hy ⟨e4, S4⟩
      obtain ⟨d, hd, Dx⟩ := dats_get' Db j y hy
      obtain ⟨o, ho, rfl⟩ := get_map hd
      obtain ⟨to, rfl⟩ := tuple_ref (ds := [.str o.1, nmsD o.2]) Dx
      obtain ⟨t', g1, g2⟩ := own_row (q := (to, ownD o)) rfl Dx
      have jl : j < sy.owns.length := (List.getElem?_eq_some_iff.mp ho).1
      refine ⟨to, _, rfl, SqT.of (S4 _ _ g1), rfl, _, _, rfl, _, _, rfl, rfl, rfl, ?_⟩
      refine ⟨_, rfl, _, rfl, t', _, rfl, .inr (SqT.of (S4 _ _ g2)), rfl, flat_strs _, _, rfl, ?_⟩
      show if inV (V.str x) (o.2.map V.str) = true then _ else _
      rw [inV_str]
      have len : ((((sy.owns.take j).filter fun o => decide (x ∈ o.2)).map Prod.fst).map V.str).length < sizeLine := by
        rw [List.length_map, List.length_map]
        have z := List.length_filter_le (fun o : Own => decide (x ∈ o.2)) (sy.owns.take j)
        rw [List.length_take] at z
        exact small1000 (by omega)
      by_cases hx : x ∈ o.2
      · rw [if_pos (decide_eq_true hx)]
        refine ⟨_, rfl, _, e4, len, ?_, same_upd S4 hD0⟩
        have eo : [o].filter (fun o : Own => decide (x ∈ o.2)) = [o] := by simp [hx]
        rw [upd_same, take_next ho, List.filter_append, List.map_append, List.map_append, eo]
        rfl
      · rw [if_neg (by rw [decide_eq_false hx]; decide)]
        refine ⟨?_, S4⟩
        have eo : [o].filter (fun o : Own => decide (x ∈ o.2)) = [] := by simp [hx]
        rw [take_next ho, List.filter_append, eo, List.append_nil]
        exact e4
    · rintro H4 ⟨e4, S4⟩
      rw [lu, List.take_length] at e4
      exact q D0 H4 S4 hD0 e4
theorem ok_beside {f : Addr} {fd : FuncData} (F : Fun K "letters_beside" "letters_beside" sBeside f fd) : FnOk P w K mg base CX0 1 f fd ["saying", "viewers", "letter"] spBeside := by
  refine F.ok scBs (fun vs H Q E h => ?_) (fun cdv A outer s H vs Q E hr h => ?_)
  · obtain ⟨v, lv, r, sy, ws, lt, rfl, _⟩ := h
    rfl
  · obtain ⟨v, lv, r, sy, ws, lt, rfl, D, ok, ev, Dr, q⟩ := h
    have hu : (A.deeper (envOfC "letters_beside" (defScope sBeside) s.heap.objs.size f cdv)).units + 64 < cLine := hr.units
    have hu2 : (A.deeper (envOfC "letters_beside" (defScope sBeside) s.heap.objs.size f cdv)).units + 16 < cLine := by omega
    refine ⟨_, pss_one (ps_ret (pe_lc2 (own := [("clause", 3), ("other", 4)]) (vs1 := [4]) (g := gName 3) (g1 := gName 4) (wi1 := iTup K (tVar 3)) (tt := tTest (tOp (rInT K false) (tVar 2) (tVar 3))) (tt1 := tAnd (tTest (tOp rNeP (tVar 4) (tVar 2))) (tTest (tOp (rIn K false) (tOp (rIxT K) (tVar 4) (tC (V.int 0))) (tVar 1)))) (te := tVar 4) rfl scBs.nd (pi_tup (pe_ix ix_tup (pv 0) pe_int (fun _ _ => rfl))) (blkOk_by (N := nBs) (sc := defScope sBeside) (by decide +kernel)) (by decide)
        (fun _ _ _ _ _ => pg_name (i := 3) scBs.nd rfl (Or.inl rfl)) (fun _ _ _ _ _ => by exact pts_one (pt_cmpR (op_inT (by exact hu2)) (pv 2) (pv 3) (by with_unfolding_all rfl))) (fun _ _ _ _ _ => by exact pi_tup (pv 3))
        (fun _ _ _ _ _ => pg_name (i := 4) scBs.nd rfl (Or.inl rfl)) (fun _ _ _ _ _ => by exact pts_one (PW.pt (pw_and (pt_cmpR (op_neP (by exact hu)) (pv 4) (pv 2) (by with_unfolding_all rfl)) (pw_and1 (pt_cmpR op_in_seq (pe_ix ix_tup (pv 4) pe_int (fun _ _ => rfl)) (pv 1) (by with_unfolding_all rfl)))))) (fun _ _ _ _ _ => by exact pv 4))), ?_⟩
    obtain ⟨a, pk, ow, c, rfl, ea, Dp, Do, Dc⟩ := say_row D
    obtain ⟨b, us, rfl, eb, Db⟩ := dat_tup (ds := sy.cls.map clD) Dc
    have lu : us.length = sy.cls.length := by rw [Db.len, List.length_map]
    have lc := ok.cl
    refine ⟨_, rfl, a, _, 2, _, rfl, rfl, SqT.of ea, rfl, b, rfl, ⟨_, SqT.of eb⟩, fun D0 hD0 => ?_⟩
    refine turns_tup (K := K) (a := b) (xs := us) (fun j H4 => ∃ T4 : List TRow, H4 D0 = some (.lst (T4.map TRow.v)) ∧ T4.map Prod.snd = ((sy.cls.take j).flatMap (besC ws lt)).map ltD ∧ (∀ q' ∈ T4, Dat H4 q'.v q'.2) ∧ Same H H4)
      ⟨[], upd_same, rfl, fun q' hq' => absurd hq' (by simp), same_new hD0⟩ (fun j H4 _ ⟨_, _, _, _, S4⟩ => SqT.of (S4 _ _ eb)) ?_ ?_
    · rintro j x4 H4 hx4 ⟨T4, e4, d4, D4, S4⟩
      obtain ⟨d, hd, Dx⟩ := dats_get' Db j x4 hx4
      obtain ⟨cl, hc, rfl⟩ := get_map hd
      have jl : j < sy.cls.length := (List.getElem?_eq_some_iff.mp hc).1
      have mc := List.mem_of_getElem? hc
      obtain ⟨t, ls, rfl, et, Dl⟩ := dat_tup (ds := cl.map ltD) Dx
      have lcl : cl.length ≤ 14 := Nat.le_trans (cl_len (ok.ck cl mc)) ok.nlen
      have ll : ls.length = cl.length := by rw [Dl.len, List.length_map]
      obtain ⟨Tc, eT, dT, DT⟩ := rows_of_dat Dl (fun d hd => by obtain ⟨o, _, rfl⟩ := List.mem_map.mp hd; exact ⟨_, rfl⟩)
      have len4 : T4.length ≤ 14 * j := by
        rw [← List.length_map (f := Prod.snd), d4, List.length_map]
        have z := bes_len ws lt 14 (sy.cls.take j) (fun cl' h' => Nat.le_trans (cl_len (ok.ck cl' (List.mem_of_mem_take h'))) ok.nlen)
        rw [List.length_take, Nat.min_eq_left (Nat.le_of_lt jl)] at z
        exact z
      have KT : ∀ p ∈ Tc, Dat H4 p.v p.2 ∧ keyable p.2 = true ∧ p.2.depth ≤ 8 := fun p hp => by
        have m : p.2 ∈ cl.map ltD := dT ▸ List.mem_map_of_mem hp
        obtain ⟨o, _, ho⟩ := List.mem_map.mp m
        refine ⟨(DT p hp).same S4, by rw [← ho]; exact keyable_lt o, by rw [← ho]; have := depth_lt o; omega⟩
      refine ⟨rfl, _, rfl, _, rfl, r, t, ltD lt, Tc, rfl, rfl, .inr (SqT.of (by rw [← eT]; exact S4 _ _ et)), KT, Dr.same S4, keyable_lt lt, by have := depth_lt lt; omega, _, rfl, ?_⟩
      show if inT (ltD lt) Tc = true then _ else _
      rw [inT_lt dT.symm]
      by_cases hin : lt ∈ cl
      · rw [if_pos (decide_eq_true hin)]
        refine ⟨_, rfl, t, rfl, ⟨_, SqT.of (S4 _ _ et)⟩, ?_⟩
        have eB : besC ws lt cl = cl.filter fun o => decide (o ≠ lt) && decide (o.1 ∈ ws) := if_pos hin
        refine turns_tup (K := K) (a := t) (xs := ls) (fun k H5 => ∃ T5 : List TRow, H5 D0 = some (.lst (T5.map TRow.v)) ∧ T5.map Prod.snd = T4.map Prod.snd ++ ((cl.take k).filter fun o => decide (o ≠ lt) && decide (o.1 ∈ ws)).map ltD ∧ (∀ q' ∈ T5, Dat H5 q'.v q'.2) ∧ Same H H5)
          ⟨T4, e4, by simp, D4, S4⟩ (fun k H5 _ ⟨_, _, _, _, S5⟩ => SqT.of (S5 _ _ et)) ?_ ?_
        · rintro k x5 H5 hx5 ⟨T5, e5, d5, D5, S5⟩
          rw [eT, List.getElem?_map] at hx5
          obtain ⟨p, hp, rfl⟩ := Option.map_eq_some_iff.mp hx5
          have ep : (cl.map ltD)[k]? = some p.2 := by rw [dT, List.getElem?_map, hp]; rfl
          obtain ⟨o, ho, eo⟩ := get_map ep
          have Dp := (DT p (List.mem_of_getElem? hp)).same S5
          rw [eo] at Dp
          obtain ⟨ot, ol, eov, eot, Dol⟩ := dat_tup (ds := [.str o.1, .bool o.2]) Dp
          have kl : k < cl.length := (List.getElem?_eq_some_iff.mp ho).1
          have len5 : T5.length < sizeLine := by
            rw [← List.length_map (f := Prod.snd), d5, List.length_append, List.length_map, List.length_map]
            have z := List.length_filter_le (fun o : Ltr => decide (o ≠ lt) && decide (o.1 ∈ ws)) (cl.take k)
            rw [List.length_take] at z
            exact small1000 (by omega)
          have no : (cl.take (k + 1)).filter (fun o => decide (o ≠ lt) && decide (o.1 ∈ ws)) = (cl.take k).filter (fun o => decide (o ≠ lt) && decide (o.1 ∈ ws)) ++ (if (decide (o ≠ lt) && decide (o.1 ∈ ws)) = true then [o] else []) := by
            rw [take_next ho, List.filter_append]
            congr 1
            by_cases z : (decide (o ≠ lt) && decide (o.1 ∈ ws)) = true
            · rw [if_pos z]; simp only [List.filter_cons, z, if_true, List.filter_nil]
            · rw [if_neg z]; simp only [List.filter_cons, z, if_false, List.filter_nil, Bool.false_eq_true]
          have skip : (decide (o ≠ lt) && decide (o.1 ∈ ws)) ≠ true → ∃ T5 : List TRow, H5 D0 = some (.lst (T5.map TRow.v)) ∧ T5.map Prod.snd = T4.map Prod.snd ++ ((cl.take (k + 1)).filter fun o => decide (o ≠ lt) && decide (o.1 ∈ ws)).map ltD ∧ (∀ q' ∈ T5, Dat H5 q'.v q'.2) ∧ Same H H5 := fun z =>
            ⟨T5, e5, by rw [no, if_neg z, List.append_nil]; exact d5, D5, S5⟩
          refine ⟨rfl, _, rfl, _, rfl, ltD o, ltD lt, Dp, Dr.same S5, rfl, rfl, by have := depth_lt o; omega, _, rfl, ?_⟩
          show if (!PyData.eqv (ltD o) (ltD lt)) = true then _ else _
          rw [eqv_lt]
          by_cases hne : o = lt
          · rw [if_neg (by rw [decide_eq_true hne]; decide)]
            show if false = true then _ else _
            rw [if_neg (by decide)]
            exact skip (by rw [decide_eq_false (fun z => z hne), Bool.false_and]; decide)
          rw [if_pos (by rw [decide_eq_false hne]; rfl)]
          cases Dol with
          | cons h1 t1 =>
          cases t1 with
          | cons h2 t2 =>
          cases t2
          cases h1
          cases h2
          refine ⟨_, rfl, ot, _, 0, _, eov, rfl, SqT.of eot, rfl, _, rfl, lv, _, rfl, .inl (SqL.of (S5 _ _ ev)), rfl, flat_strs _, _, rfl, ?_⟩
          show if inV (V.str o.1) (ws.map V.str) = true then _ else _
          rw [inV_str]
          by_cases hw : o.1 ∈ ws
          · have yes : (decide (o ≠ lt) && decide (o.1 ∈ ws)) = true := by rw [decide_eq_true hne, decide_eq_true hw]; rfl
            rw [if_pos (decide_eq_true hw)]
            refine ⟨_, rfl, _, e5, by rw [List.length_map]; exact len5, T5 ++ [(p.1, ltD o)], by rw [upd_same, List.map_append]; rfl, ?_, fun q' hq' => ?_, same_upd S5 hD0⟩
            · rw [List.map_append, d5, no, if_pos yes, List.map_append, List.append_assoc]
              rfl
            · have kq : keyable q'.2 = true := by
                rcases List.mem_append.mp hq' with m | m
                · have m2 : q'.2 ∈ T5.map Prod.snd := List.mem_map_of_mem m
                  rw [d5, d4, ← List.map_append] at m2
                  obtain ⟨z, _, hz⟩ := List.mem_map.mp m2
                  rw [← hz]
                  exact keyable_lt z
                · cases List.mem_singleton.mp m
                  exact keyable_lt o
              refine dat_upd e5 kq ?_
              rcases List.mem_append.mp hq' with m | m
              · exact D5 q' m
              · cases List.mem_singleton.mp m
                exact Dp
          · rw [if_neg (by rw [decide_eq_false hw]; decide)]
            exact skip (by rw [decide_eq_false hw, Bool.and_false]; decide)
        · rintro H5 ⟨T5, e5, d5, D5, S5⟩
          rw [ll, List.take_length] at d5
          refine ⟨T5, e5, ?_, D5, S5⟩
          rw [d5, d4, take_next hc, List.flatMap_append, List.flatMap_cons, List.flatMap_nil, List.append_nil, List.map_append, eB]
      · rw [if_neg (by rw [decide_eq_false hin]; decide)]
        refine ⟨T4, e4, ?_, D4, S4⟩
        rw [d4, take_next hc, List.flatMap_append, List.flatMap_cons, List.flatMap_nil, List.append_nil]
        have e0 : besC ws lt cl = [] := if_neg hin
        rw [e0, List.append_nil]
    · rintro H4 ⟨T4, e4, d4, D4, S4⟩
      rw [lu, List.take_length] at d4
      exact q D0 T4 H4 S4 hD0 e4 d4 D4
end
end S1

set_option Elab.async false
set_option linter.all false
set_option maxRecDepth 100000
set_option maxHeartbeats 4000000
/-! what is reached -/
namespace S1
open PySem PySem.W PySem.Spec PyProof.Rows L2
def neg (l : Ltr) : Ltr := (l.1, !l.2)
inductive Reach (s : Say) (ws : List Str) (l0 : Ltr) : Ltr → Prop
  | start {m : Ltr} : m ∈ bes s ws l0 → Reach s ws l0 m
  | step {l m : Ltr} : Reach s ws l0 l → m ∈ bes s ws (neg l) → Reach s ws l0 m
/-- all letters of a saying -/
def univ (s : Say) : List Ltr := s.names.flatMap fun n => [(n, true), (n, false)]
theorem univ_len : ∀ ns : List Str, (ns.flatMap fun n => [((n, true) : Ltr), (n, false)]).length = 2 * ns.length
  | [] => rfl
  | n :: ns => by
    rw [List.flatMap_cons, List.length_append, univ_len ns, List.length_cons]
    show 2 + 2 * ns.length = 2 * (ns.length + 1)
    omega
theorem bes_mem {s : Say} {ws : List Str} {l m : Ltr} (h : m ∈ bes s ws l) : ∃ cl ∈ s.cls, l ∈ cl ∧ m ∈ cl ∧ m ≠ l ∧ m.1 ∈ ws := by
  unfold bes at h
  obtain ⟨cl, hc, hm⟩ := List.mem_flatMap.mp h
  unfold besC at hm
  by_cases hl : l ∈ cl
  · rw [if_pos hl] at hm
    obtain ⟨h1, h2⟩ := List.mem_filter.mp hm
    rw [Bool.and_eq_true, decide_eq_true_eq, decide_eq_true_eq] at h2
    exact ⟨cl, hc, hl, h1, h2.1, h2.2⟩
  · rw [if_neg hl] at hm
    exact absurd hm (by simp)
theorem bes_of {s : Say} {ws : List Str} {l m : Ltr} {cl : List Ltr} (hc : cl ∈ s.cls) (hl : l ∈ cl) (hm : m ∈ cl) (ne : m ≠ l) (hw : m.1 ∈ ws) : m ∈ bes s ws l := by
  unfold bes besC
  refine List.mem_flatMap.mpr ⟨cl, hc, ?_⟩
  rw [if_pos hl]
  exact List.mem_filter.mpr ⟨hm, by rw [Bool.and_eq_true, decide_eq_true_eq, decide_eq_true_eq]; exact ⟨ne, hw⟩⟩
theorem bes_univ {s : Say} (ok : SayOk 6 8 120 40 s) {ws : List Str} {l m : Ltr} (h : m ∈ bes s ws l) : m ∈ univ s := by
  obtain ⟨cl, hc, _, hm, _⟩ := bes_mem h
  have z := (ok.ck cl hc).mem m hm
  refine List.mem_flatMap.mpr ⟨m.1, z, ?_⟩
  obtain ⟨n, b⟩ := m
  cases b <;> simp
theorem bes_max {s : Say} (ok : SayOk 6 8 120 40 s) (ws : List Str) (l : Ltr) : (bes s ws l).length ≤ 560 := by
  have z := bes_len ws l 14 s.cls fun cl h => Nat.le_trans (cl_len (ok.ck cl h)) ok.nlen
  have := ok.cl
  show (s.cls.flatMap (besC ws l)).length ≤ 560
  omega
/-- letters waiting, letters found -/
structure WInv (s : Say) (ws : List Str) (l0 : Ltr) (A F : List Ltr) : Prop where
  nd : F.Nodup
  ra : ∀ m ∈ A, Reach s ws l0 m
  rf : ∀ m ∈ F, Reach s ws l0 m
  c0 : ∀ m ∈ bes s ws l0, m ∈ F ∨ m ∈ A
  c1 : ∀ l ∈ F, ∀ m ∈ bes s ws (neg l), m ∈ F ∨ m ∈ A
  len : A.length ≤ 560 * (F.length + 1)
theorem reach_univ {s : Say} (ok : SayOk 6 8 120 40 s) {ws : List Str} {l0 m : Ltr} (h : Reach s ws l0 m) : m ∈ univ s := by
  cases h with
  | start h => exact bes_univ ok h
  | step _ h => exact bes_univ ok h
section
variable {s : Say} {ws : List Str} {l0 : Ltr} {A F : List Ltr}
theorem WInv.start (ok : SayOk 6 8 120 40 s) : WInv s ws l0 (bes s ws l0) [] := ⟨List.nodup_nil, fun m h => .start h, fun m h => absurd h (by simp), fun m h => .inr h, fun l h => absurd h (by simp), by have := bes_max ok ws l0; simpa using this⟩
theorem WInv.few (h : WInv s ws l0 A F) (ok : SayOk 6 8 120 40 s) : F.length ≤ 28 := by
  have z := nodup_le h.nd fun x hx => reach_univ ok (h.rf x hx)
  have y := univ_len s.names
  have x := ok.nlen
  have e : (univ s).length = 2 * s.names.length := y
  omega
theorem WInv.skip {l : Ltr} (h : WInv s ws l0 (A ++ [l]) F) (hl : l ∈ F) : WInv s ws l0 A F := by
  have back : ∀ m, (m ∈ F ∨ m ∈ A ++ [l]) → m ∈ F ∨ m ∈ A := fun m z => by
    rcases z with z | z
    · exact .inl z
    · rcases List.mem_append.mp z with z | z
      · exact .inr z
      · rw [List.mem_singleton.mp z]; exact .inl hl
  exact ⟨h.nd, fun m hm => h.ra m (List.mem_append_left _ hm), h.rf, fun m hm => back m (h.c0 m hm), fun k hk m hm => back m (h.c1 k hk m hm), by have := h.len; rw [List.length_append] at this; omega⟩
theorem WInv.add {l : Ltr} (h : WInv s ws l0 (A ++ [l]) F) (ok : SayOk 6 8 120 40 s) (hl : l ∉ F) : WInv s ws l0 (A ++ bes s ws (neg l)) (F ++ [l]) := by
  have rl : Reach s ws l0 l := h.ra l (List.mem_append_right _ List.mem_cons_self)
  have back : ∀ m, (m ∈ F ∨ m ∈ A ++ [l]) → m ∈ F ++ [l] ∨ m ∈ A ++ bes s ws (neg l) := fun m z => by
    rcases z with z | z
    · exact .inl (List.mem_append_left _ z)
    · rcases List.mem_append.mp z with z | z
      · exact .inr (List.mem_append_left _ z)
      · exact .inl (List.mem_append_right _ z)
  refine ⟨?_, fun m hm => ?_, fun m hm => ?_, fun m hm => back m (h.c0 m hm), fun k hk m hm => ?_, ?_⟩
  · rw [List.nodup_append]
    exact ⟨h.nd, by simp, fun a ha b hb e => by rw [List.mem_singleton.mp hb] at e; rw [e] at ha; exact hl ha⟩
  · rcases List.mem_append.mp hm with z | z
    · exact h.ra m (List.mem_append_left _ z)
    · exact .step rl z
  · rcases List.mem_append.mp hm with z | z
    · exact h.rf m z
    · rw [List.mem_singleton.mp z]; exact rl
  · rcases List.mem_append.mp hk with z | z
    · exact back m (h.c1 k z m hm)
    · rw [List.mem_singleton.mp z] at hm
      exact .inr (List.mem_append_right _ hm)
  · have y := bes_max ok ws (neg l)
    have x := h.len
    rw [List.length_append, List.length_append]
    rw [List.length_append] at x
    show A.length + _ ≤ 560 * (F.length + 1 + 1)
    omega
theorem WInv.done (h : WInv s ws l0 [] F) (m : Ltr) : m ∈ F ↔ Reach s ws l0 m := by
  refine ⟨h.rf m, fun r => ?_⟩
  induction r with
  | start hm => exact (h.c0 _ hm).resolve_right (by simp)
  | step _ hm ih => exact (h.c1 _ ih _ hm).resolve_right (by simp)
end
/-! ### tuples alone -/
mutual
theorem dat_tk {H H' : Hp} (K : ∀ b xs, H b = some (.tup xs) → H' b = some (.tup xs)) : ∀ (d : PyData) (v : V), keyable d = true → Dat H v d → Dat H' v d
  | .none, _, _, D => by cases D; exact .non
  | .bool _, _, _, D => by cases D; exact .bl _
  | .int _, _, _, D => by cases D; exact .int _
  | .str _, _, _, D => by cases D; exact .str _
  | .tuple ds, _, k, D => by
    cases D with
    | tup e h => exact .tup (K _ _ e) (dats_tk K ds _ (by simpa [keyable] using k) h)
  | .list _, _, k, _ => by simp [keyable] at k
  | .dict _, _, k, _ => by simp [keyable] at k
theorem dats_tk {H H' : Hp} (K : ∀ b xs, H b = some (.tup xs) → H' b = some (.tup xs)) : ∀ (ds : List PyData) (vs : List V), keyables ds = true → DatAll H vs ds → DatAll H' vs ds
  | [], _, _, D => by cases D; exact .nil
  | d :: ds, _, k, D => by
    rw [keyables, Bool.and_eq_true] at k
    cases D with
    | cons h t => exact .cons (dat_tk K d _ k.1 h) (dats_tk K ds _ k.2 t)
end
theorem tk_put {H : Hp} {a : Addr} {o : HO} (n : ∀ xs, H a ≠ some (.tup xs)) : ∀ b xs, H b = some (.tup xs) → upd H a o b = some (.tup xs) := fun b xs e => by
  have z : b ≠ a := fun z => n xs (by rw [← z]; exact e)
  rw [upd_ne z]
  exact e
end S1

set_option Elab.async false
set_option linter.all false
set_option maxRecDepth 100000
set_option maxHeartbeats 4000000
/-! a heap off another one by draws and new things -/
namespace S1
open PySem PySem.W PySem.Spec PyProof.Rows L2
/-- G comes of H by draws at p and by new things -/
structure Dr (H : Hp) (p : Addr) (c : Nat) (G : Hp) : Prop where
  s : Src G p c
  m : Same (del H p) (del G p)
section
variable {H G : Hp} {p : Addr} {c c' : Nat}
theorem Dr.start (h : Src H p c) : Dr H p c H := ⟨h, Same.refl _⟩
theorem Dr.up (d : Dr H p c G) (le : c ≤ c') : Dr H p c' G := ⟨d.s.mono rfl le, d.m⟩
theorem Dr.src {o : HO} (d : Dr H p c G) (h : Src (upd G p o) p c') : Dr H p c' (upd G p o) := ⟨h, sd_at d.m⟩
theorem Dr.ne {l : Addr} (d : Dr H p c G) (h : G l = none) : l ≠ p := (d.s.ne h).symm
theorem Dr.free {l : Addr} (d : Dr H p c G) (h : G l = none) : H l = none := sd_free d.m h (d.ne h)
theorem Dr.new {l : Addr} {o : HO} (d : Dr H p c G) (h : G l = none) : Dr H p c (upd G l o) :=
  ⟨d.s.mono (upd_ne (d.ne h).symm) (Nat.le_refl _), sd_new d.m h (d.ne h)⟩
theorem Dr.put {l : Addr} {o : HO} (d : Dr H p c G) (h : H l = none) (n : l ≠ p) : Dr H p c (upd G l o) :=
  ⟨d.s.mono (upd_ne n.symm) (Nat.le_refl _), sd_put d.m h⟩
theorem Dr.keep {x : Addr} {o : HO} (d : Dr H p c G) (e : H x = some o) (n : x ≠ p) : G x = some o := by
  have z := d.m x o (by rw [del_ne n]; exact e)
  rwa [del_ne n] at z
theorem Dr.dat {c0 : Nat} (d : Dr H p c G) (h : Src H p c0) {v : V} {u : PyData} (k : keyable u = true) (D : Dat H v u) : Dat G v u := dat_src h d.m k D
theorem Dr.trans {G2 : Hp} (d : Dr H p c G) (d2 : Dr G p c' G2) : Dr H p c' G2 := ⟨d2.s, d.m.trans d2.m⟩
theorem Dr.same {G2 : Hp} (d : Dr H p c G) (S : Same G G2) : Dr H p c G2 := by
  obtain ⟨xs, hx⟩ := d.s.lst
  exact ⟨d.s.mono (by rw [hx, S _ _ hx]) (Nat.le_refl _), d.m.trans (sd_of S)⟩
end
theorem Src.nes {H : Hp} {p l : Addr} {c : Nat} {xs : List Str} (h : Src H p c) (e : H l = some (.lst (xs.map V.str))) : l ≠ p := fun z => by
  obtain ⟨a, b, d, hp, _⟩ := h.at_
  rw [z, hp] at e
  injection e with e
  injection e with e
  cases xs with
  | nil => cases e
  | cons x xs =>
    rw [List.map_cons] at e
    injection e with e
    cases e
/-- draws have been made at p; what stands at F and the data R are known -/
structure Wk (H : Hp) (p : Addr) (c : Nat) (F : List (Addr × HO)) (R : List (V × PyData)) (G : Hp) : Prop where
  d : Dr H p c G
  f : ∀ x ∈ F, G x.1 = some x.2
  n : ∀ x ∈ F, x.1 ≠ p
  nd : (F.map Prod.fst).Nodup
  r : ∀ x ∈ R, keyable x.2 = true ∧ Dat G x.1 x.2
section
variable {H G : Hp} {p a : Addr} {c c' : Nat} {F : List (Addr × HO)} {R : List (V × PyData)} {o : HO}
theorem Wk.start (h : Src H p c) : Wk H p c [] [] H := ⟨Dr.start h, fun x z => absurd z (by simp), fun x z => absurd z (by simp), List.nodup_nil, fun x z => absurd z (by simp)⟩
theorem Wk.at (W : Wk H p c F R G) (i : Nat) (e : F[i]? = some (a, o)) : G a = some o := W.f (a, o) (List.mem_of_getElem? e)
theorem Wk.np (W : Wk H p c F R G) (i : Nat) (e : F[i]? = some (a, o)) : a ≠ p := W.n (a, o) (List.mem_of_getElem? e)
theorem Wk.row (W : Wk H p c F R G) (i : Nat) {v : V} {d : PyData} (e : R[i]? = some (v, d)) : Dat G v d := (W.r (v, d) (List.mem_of_getElem? e)).2
theorem Wk.s (W : Wk H p c F R G) : Src G p c := W.d.s
theorem Wk.up (W : Wk H p c F R G) (le : c ≤ c') : Wk H p c' F R G := { W with d := W.d.up le }
theorem Wk.no (W : Wk H p c F R G) (h : G a = none) : ∀ x ∈ F, x.1 ≠ a := fun x hx => ne_of_none (W.f x hx) h
theorem Wk.new (W : Wk H p c F R G) (h : G a = none) : Wk H p c ((a, o) :: F) R (upd G a o) :=
  ⟨W.d.new h, fun x hx => by
    rcases List.mem_cons.mp hx with rfl | hx
    · exact upd_same
    · show upd G a o x.1 = _
      rw [upd_ne (W.no h x hx)]
      exact W.f x hx, fun x hx => by
    rcases List.mem_cons.mp hx with rfl | hx
    · exact W.d.ne h
    · exact W.n x hx, List.nodup_cons.mpr ⟨fun z => by
    obtain ⟨x, hx, e⟩ := List.mem_map.mp z
    exact W.no h x hx e, W.nd⟩, fun x hx => ⟨(W.r x hx).1, dat_new h (W.r x hx).2⟩⟩
/-- a new thing that need not be known -/
theorem Wk.new' (W : Wk H p c F R G) (h : G a = none) : Wk H p c F R (upd G a o) :=
  ⟨W.d.new h, fun x hx => by
    rw [upd_ne (W.no h x hx)]
    exact W.f x hx, W.n, W.nd, fun x hx => ⟨(W.r x hx).1, dat_new h (W.r x hx).2⟩⟩
theorem Wk.trans {G2 : Hp} (W : Wk H p c F R G) (d : Dr G p c' G2) : Wk H p c' F R G2 :=
  ⟨W.d.trans d, fun x hx => d.keep (W.f x hx) (W.n x hx), W.n, W.nd, fun x hx => ⟨(W.r x hx).1, d.dat W.s (W.r x hx).1 (W.r x hx).2⟩⟩
theorem Wk.src (W : Wk H p c F R G) (h : Src (upd G p o) p c') : Wk H p c' F R (upd G p o) := W.trans ⟨h, sd_at (Same.refl _)⟩
theorem Wk.same {G2 : Hp} (W : Wk H p c F R G) (S : Same G G2) : Wk H p c F R G2 := W.trans ((Dr.start W.s).same S)
theorem set_fst {o' : HO} : ∀ {F : List (Addr × HO)} {i : Nat}, F[i]? = some (a, o) → (F.set i (a, o')).map Prod.fst = F.map Prod.fst
  | [], _, e => by simp at e
  | x :: F, 0, e => by simp at e; subst e; rfl
  | x :: F, i + 1, e => by
    rw [List.set_cons_succ, List.map_cons, List.map_cons, set_fst (F := F) (i := i) (by simpa using e)]
theorem mem_set {o' : HO} : ∀ {F : List (Addr × HO)} {i : Nat}, F[i]? = some (a, o) → (F.map Prod.fst).Nodup → ∀ x ∈ F.set i (a, o'), x = (a, o') ∨ (x ∈ F ∧ x.1 ≠ a)
  | [], _, e, _, _, _ => by simp at e
  | y :: F, 0, e, nd, x, hx => by
    simp at e
    subst e
    rw [List.map_cons, List.nodup_cons] at nd
    rw [List.set_cons_zero] at hx
    rcases List.mem_cons.mp hx with z | z
    · exact .inl z
    · exact .inr ⟨List.mem_cons_of_mem _ z, fun w => nd.1 (List.mem_map.mpr ⟨x, z, w⟩)⟩
  | y :: F, i + 1, e, nd, x, hx => by
    rw [List.map_cons, List.nodup_cons] at nd
    rw [List.set_cons_succ] at hx
    rcases List.mem_cons.mp hx with z | z
    · subst z
      refine .inr ⟨List.mem_cons_self, fun w => nd.1 (List.mem_map.mpr ⟨(a, o), List.mem_of_getElem? (i := i) (by simpa using e), w.symm⟩)⟩
    · rcases mem_set (F := F) (i := i) (by simpa using e) nd.2 x z with w | ⟨w, v⟩
      · exact .inl w
      · exact .inr ⟨List.mem_cons_of_mem _ w, v⟩
/-- what stands at a, no tuple, is changed -/
theorem Wk.put {o' : HO} (W : Wk H p c F R G) (i : Nat) (e : F[i]? = some (a, o)) (hH : H a = none) (nt : ∀ xs, o ≠ .tup xs) : Wk H p c (F.set i (a, o')) R (upd G a o') := by
  have hn := W.np i e
  have K := tk_put (H := G) (a := a) (o := o') fun xs z => by
    rw [W.at i e] at z
    exact nt xs (Option.some.inj z)
  refine ⟨W.d.put hH hn, fun x hx => ?_, fun x hx => ?_, by rw [set_fst e]; exact W.nd, fun x hx => ⟨(W.r x hx).1, dat_tk K _ _ (W.r x hx).1 (W.r x hx).2⟩⟩
  · rcases mem_set e W.nd x hx with rfl | ⟨w, v⟩
    · exact upd_same
    · rw [upd_ne v]
      exact W.f x w
  · rcases mem_set e W.nd x hx with rfl | ⟨w, v⟩
    · exact hn
    · exact W.n x w
theorem Wk.sub {F' : List (Addr × HO)} (W : Wk H p c F R G) (s : F'.Sublist F) : Wk H p c F' R G := ⟨W.d, fun x hx => W.f x (s.subset hx), fun x hx => W.n x (s.subset hx), W.nd.sublist (s.map _), W.r⟩
theorem Wk.rows {R' : List (V × PyData)} (W : Wk H p c F R G) (h : ∀ x ∈ R', x ∈ R ∨ (keyable x.2 = true ∧ Dat G x.1 x.2)) : Wk H p c F R' G := ⟨W.d, W.f, W.n, W.nd, fun x hx => (h x hx).elim (W.r x) id⟩
theorem Wk.addR {v : V} {d : PyData} (W : Wk H p c F R G) (k : keyable d = true) (D : Dat G v d) : Wk H p c F ((v, d) :: R) G := W.rows fun x hx => by
  rcases List.mem_cons.mp hx with rfl | z
  · exact .inr ⟨k, D⟩
  · exact .inl z
theorem Wk.know (W : Wk H p c F R G) (e : G a = some o) (n : a ≠ p) (nf : ∀ x ∈ F, x.1 ≠ a) : Wk H p c ((a, o) :: F) R G :=
  ⟨W.d, fun x hx => by
    rcases List.mem_cons.mp hx with rfl | hx
    · exact e
    · exact W.f x hx, fun x hx => by
    rcases List.mem_cons.mp hx with rfl | hx
    · exact n
    · exact W.n x hx, List.nodup_cons.mpr ⟨fun z => by
    obtain ⟨x, hx, e⟩ := List.mem_map.mp z
    exact nf x hx e, W.nd⟩, W.r⟩
theorem Wk.free (W : Wk H p c F R G) (h : G a = none) : H a = none := W.d.free h
end
theorem lst_nt {xs : List V} : ∀ ys, HO.lst xs ≠ .tup ys := fun _ z => by cases z
theorem dK_nt {kvs : List (Key × V)} : ∀ ys, HO.dK kvs ≠ .tup ys := fun _ z => by cases z
theorem frz_nt {od : Obj} {u : HO} : ∀ ys, HO.frz od u ≠ .tup ys := fun _ z => by cases z
theorem dn_nt {w : World} {a : Addr} {D : List DRow} : ∀ ys, DnO w a D ≠ .tup ys := fun _ z => by cases z
end S1

set_option Elab.async false
set_option linter.all false
set_option maxRecDepth 100000
set_option maxHeartbeats 4000000
/-! unlike names, parts of picks, drawn -/
namespace S1
open PySem PySem.W PySem.Spec PyProof.Rows L2
def abcN : List Nat := ("abcdefghijklmnopqrstuvwxyz" : Str).cps.toList
theorem abc_signs : signV "abcdefghijklmnopqrstuvwxyz" = (abcN.map sg).map V.str := by
  rw [List.map_map]
  rfl
def more9 : List Str := ["aa", "ab", "az", "ba", "xx", "xy", "abc", "aaaaaaaa", "azzzzzz"]
def pot35 : List Str := abcN.map sg ++ more9
theorem pot_nd : pot35.Nodup := by decide +kernel
theorem pot_len : pot35.length = 35 := by decide +kernel
theorem pot_nm : ∀ x ∈ pot35, Nm x := fun x hx => by
  have z : (pot35.all nmB) = true := by decide +kernel
  exact nm_of (List.all_eq_true.mp z x hx)
def spNames : Sp := fun vs H Q _ => ∃ (p : Addr) (c n : Nat), vs = [.ref p, .int n] ∧ Src H p c ∧ c ≤ 80000 ∧ n ≤ 35 ∧
  ∀ (b : Addr) (ws : List Str) (H' : Hp), ws.length = n → ws.Nodup → (∀ x ∈ ws, Nm x) → H b = none → H' b = some (.lst (ws.map V.str)) → Dr H p (c + n) H' → Q (.ref b) H'
def spPart : Sp := fun vs H Q _ => ∃ (p : Addr) (c : Nat) (v : V) (xs : List Str) (m : Int), vs = [.ref p, v, .int m] ∧ Src H p c ∧ c ≤ 90000 ∧ Dat H v (nmsD xs) ∧ xs.length ≤ 100 ∧ 0 < m ∧ m < 2 ^ 100 ∧
  ∀ (b : Addr) (ys : List Str) (H' : Hp), ys.Sublist xs → H b = none → H' b = some (.lst (ys.map V.str)) → Dr H p (c + xs.length) H' → Q (.ref b) H'
abbrev tLen (K : PySem.W.Frag) (i : Nat) : TE := tCB (fun xs H Q => ∃ p ys, xs = [V.ref p] ∧ (SqL K H p ys ∨ SqT K H p ys) ∧ Q (V.int ys.length) H) (tCons (tVar i) tNil)
abbrev nNames : List Str := ["pot", "size", "left", "turn"]
section
variable {P : Program} {w : World} {K : PySem.W.Frag} {mg : Str → Option Value} {base : Heap}
theorem scNames : FnScope nNames ["pot", "size"] (defScope sLNames) := ⟨rfl, rfl, rfl, by decide +kernel, rfl, by decide +kernel, by decide +kernel⟩
theorem ok_names {f fP : Addr} {fd fdP : FuncData} (F : Fun K "_law_names" "_law_names" sLNames f fd) (Pk : Has K mg "_law_draw" sDraw ["pot", "top"] fP fdP) (B : Blt mg) : FnOk P w K mg base CX0 2 f fd ["pot", "size"] spNames := by
  have GP : FnOk P w K mg base CX0 1 fP fdP ["pot", "top"] spPick := ok_pick Pk.F B
  refine F.ok scNames (fun vs H Q E h => ?_) (fun cdv A outer s H vs Q E hr h => ?_)
  · obtain ⟨p, c, n, rfl, _⟩ := h
    rfl
  · obtain ⟨p, c, n, rfl, hs, hc, hn, q⟩ := h
    refine ⟨_, pss_cons (ps_set (i := 2) scNames.nd rfl (.inr rfl) (pe_op op_cat (pe_callTy (call_listStr rfl) (by rfl) B.list (by decide +kernel) (pa_cons pe_str pa_nil))
          (pe_lst (pa_cons pe_str (pa_cons pe_str (pa_cons pe_str (pa_cons pe_str (pa_cons pe_str (pa_cons pe_str (pa_cons pe_str (pa_cons pe_str (pa_cons pe_str pa_nil))))))))))))
      (pss_one (ps_ret (pe_lc (own := [("turn", 3)]) (g := gName 3) (tt := tYes) (te := tBM K "list" rPopAt (tVar 2) (tCons (tCall spPick [] E0 (tCons (tVar 0) (tCons (tLen K 2) tNil))) tNil)) rfl scNames.nd
            (pi_range1 rfl B.range (pa_cons (pv 1) pa_nil)) (blkOk_by (N := nNames) (sc := defScope sLNames) (by decide +kernel)) (fun _ _ _ _ _ => pg_name (i := 3) scNames.nd rfl (.inl rfl)) (fun _ _ _ _ _ => pts_nil)
            (fun _ _ _ _ _ => by exact pe_bm PySem.F.plainAttrs_list PySem.F.slot_list_pop PySem.F.type_list_pop mt_popAt (pv 2) (pa_cons (pe_call GP (by exact hr) (by rfl) Pk.g Pk.F.kp Pk.b .nil pass0 (pa_cons (pv 0) (pa_cons (pe_callB call_len_seq (by rfl) B.len (by decide +kernel) (pa_cons (pv 2) pa_nil)) pa_nil))) pa_nil))))), ?_⟩
    have W0 := Wk.start hs
    refine ⟨_, rfl, by decide +kernel, fun aA hA => ?_⟩
    rw [abc_signs]
    have W1 := W0.new (o := .lst ((abcN.map sg).map V.str)) hA
    refine ⟨(by show 9 ≤ sizeLine; decide), fun l0 hl0 => ?_⟩
    have W2 := W1.new (o := .lst (more9.map V.str)) hl0
    refine ⟨_, _, _, _, rfl, rfl, W2.at 1 rfl, W2.at 0 rfl, ?_, fun l hl => ?_⟩
    · rw [List.length_map, List.length_map]
      exact Nat.le_of_lt (small1000 (by decide +kernel))
    rw [← List.map_append]
    have W3 := (W2.new (o := .lst (pot35.map V.str)) hl).sub (F' := [(l, .lst (pot35.map V.str))]) (by simp)
    have hl1 := W2.free hl
    refine ⟨_, rfl, _, rfl, by omega, by omega, fun D hD => ?_⟩
    have W4 := W3.new (o := .lst ([] : List V)) hD
    have hD0 := W3.free hD
    refine lc_range (lo := 0) (n := ((n : Nat) : Int).toNat) (fun i H4 => ∃ (L1 W : List Str), Wk H p (c + i) [(D, .lst (W.map V.str)), (l, .lst (L1.map V.str))] [] H4 ∧ W.length = i ∧ (W ++ L1).Perm pot35) ?_ ?_ ?_
    · exact ⟨pot35, [], W4, rfl, List.Perm.refl _⟩
    · rintro i H4 hi ⟨L1, W, W5, hW, pm⟩
      have len : W.length + L1.length = 35 := by rw [← List.length_append, pm.length_eq, pot_len]
      refine ⟨rfl, yes_of ?_⟩
      refine ⟨_, rfl, .inl ⟨rfl, _, SqL.of (W5.at 1 rfl)⟩, _, rfl, _, rfl, _, _, rfl, .inl (SqL.of (W5.at 1 rfl)), p, _, _, rfl, W5.s, by omega, by rw [List.length_map]; omega, by rw [List.length_map]; omega, fun k o k0 k1 hp5 => ?_⟩
      rw [List.length_map] at k1
      have kl : k.toNat < L1.length := by omega
      have pp := pop_perm L1 k.toNat kl
      have W6 := W5.src hp5
      refine ⟨l, _, k, k.toNat, .str L1[k.toNat], rfl, rfl, W6.at 1 rfl, by omega, by omega, by rw [List.length_map]; exact seq_nat k0 k1, by rw [List.getElem?_map, List.getElem?_eq_getElem kl]; rfl, ?_⟩
      rw [map_erase]
      have W7 := W6.put (o' := .lst ((L1.eraseIdx k.toNat).map V.str)) 1 rfl hl1 lst_nt
      refine ⟨_, W7.at 0 rfl, by rw [List.length_map]; exact small1000 (by omega), L1.eraseIdx k.toNat, W ++ [L1[k.toNat]], ?_, by rw [List.length_append, hW]; rfl, ?_⟩
      · have W8 := W7.put (o' := .lst (W.map V.str ++ [V.str L1[k.toNat]])) 0 rfl hD0 lst_nt
        rw [List.map_append]
        exact W8.up (by omega)
      · rw [List.append_assoc]
        exact ((List.Perm.refl W).append pp.symm).trans pm
    · rintro H4 ⟨L1, W, W5, hW, pm⟩
      have ndW : (W ++ L1).Nodup := pm.nodup_iff.mpr pot_nd
      exact q D W H4 (by omega) (List.nodup_append.mp ndW).1 (fun y hy => pot_nm y (pm.mem_iff.mp (List.mem_append_left _ hy))) hD0 (W5.at 0 rfl) (W5.d.up (by omega))
end
end S1

set_option Elab.async false
set_option linter.all false
set_option maxRecDepth 100000
set_option maxHeartbeats 4000000
/-! owns, drawn -/
namespace S1
open PySem PySem.W PySem.Spec PyProof.Rows L2
/-- picks and owns as of a saying -/
structure FrOk (a b m : Nat) (picks : List Str) (owns : List Own) : Prop where
  pu : picks.Pairwise tlt
  pn : ∀ x ∈ picks, Nm x
  pl : picks.length ≤ a
  ou : owns.Pairwise fun x y => tlt x.1 y.1
  on : ∀ o ∈ owns, Nm o.1 ∧ o.1 ∉ picks ∧ o.2.Pairwise tlt ∧ ∀ x ∈ o.2, x ∈ picks
  ol : owns.length ≤ b
  oc : copies owns ≤ m
def spOwns : Sp := fun vs H Q _ => ∃ (p ln : Addr) (c m : Nat) (v : V) (picks ns : List Str), vs = [.ref p, v, .ref ln, .int m] ∧ Src H p c ∧ c ≤ 50000 ∧ Dat H v (nmsD picks) ∧ picks.Pairwise tlt ∧ (∀ x ∈ picks, Nm x) ∧ picks.length ≤ 14 ∧
  H ln = some (.lst (ns.map V.str)) ∧ ns.Nodup ∧ (∀ x ∈ ns, Nm x ∧ x ∉ picks) ∧ ns.length ≤ 14 ∧ ns.length ≤ m ∧ m ≤ 1000 ∧
  ∀ (v2 : V) (owns : List Own) (H' : Hp), Dat H' v2 (.tuple (owns.map ownD)) → FrOk 14 ns.length m picks owns → owns.length = ns.length → (∀ x ∈ owns.map Prod.fst, x ∈ ns) → Dr H p (c + 500) H' → Q v2 H'
abbrev nOwns : List Str := ["pot", "picks", "names", "space", "found", "room", "shares", "at", "name", "sight"]
abbrev rowR (T : List TRow) : List (V × PyData) := T.map fun q => (q.v, q.2)
theorem rowR_mem {T : List TRow} {x : V × PyData} (h : x ∈ rowR T) : ∃ q ∈ T, x = (q.v, q.2) := by
  obtain ⟨q, hq, e⟩ := List.mem_map.mp h
  exact ⟨q, hq, e.symm⟩
end S1

set_option Elab.async false
set_option linter.all false
set_option maxRecDepth 100000
set_option maxHeartbeats 4000000
/-! clauses, drawn -/
namespace S1
open PySem PySem.W PySem.Spec PyProof.Rows L2
theorem gPair_mono {K : PySem.W.Frag} {i j : Nat} : ∀ (x : V) (σ1 : L2.St) (H1 : Hp) (A B : L2.St → Hp → Prop), (∀ σ2 H2, A σ2 H2 → B σ2 H2) → gTup K 2 (gCons (gName i) (gCons (gName j) gNil)) x σ1 H1 A → gTup K 2 (gCons (gName i) (gCons (gName j) gNil)) x σ1 H1 B := by
  rintro x σ1 H1 A B h ⟨a, xs, e1, e2, e3, v, r, e4, v2, r2, e5, e6, z⟩
  exact ⟨a, xs, e1, e2, e3, v, r, e4, v2, r2, e5, e6, h _ _ z⟩
/-- the names of owns, one by one -/
theorem own_names {H : Hp} {us : List V} {owns : List Own} (D : DatAll H us (owns.map ownD)) {i : Nat} {x : V} (hx : us[i]? = some x) : ∃ (o : Own) (t t' : Addr), owns[i]? = some o ∧ x = .ref t ∧ H t = some (.tup [.str o.1, .ref t']) := by
  obtain ⟨d, hd, Dx⟩ := dats_get' D i x hx
  obtain ⟨o, ho, rfl⟩ := get_map hd
  obtain ⟨t, rfl⟩ := tuple_ref (ds := [.str o.1, nmsD o.2]) Dx
  obtain ⟨t', g1, g2⟩ := own_row (q := (t, ownD o)) rfl Dx
  exact ⟨o, t, t', ho, rfl, g1⟩
/-- [name for name, sight in owns] -/
theorem lc_names {K : PySem.W.Frag} {σ : L2.St} {H : Hp} {D b : Addr} {us : List V} {owns : List Own} {Qd : Hp → Prop} {i j : Nat} {ws : List Nat} (eb : H b = some (.tup us)) (Db : DatAll H us (owns.map ownD)) (hD : H D = none) (len : owns.length ≤ 1000)
    (hw : ∀ (x y : V), wipe (((wipe σ ws).set i (some x)).set j (some y)) ws = wipe σ ws) (hi : ∀ (x y : V), (((wipe σ ws).set i (some x)).set j (some y))[i]? = some (some x))
    (hd : ∀ H5, H5 D = some (.lst ((owns.map Prod.fst).map V.str)) → Same H H5 → Qd H5) :
    ∃ W : Nat → Nat → Hp → Prop, (∃ m, W 0 m (upd H D (.lst []))) ∧ ∀ n m H, W n m H →
      ((Itt K b).stop n H ∧ Qd H) ∨ ((Itt K b).go n H ∧ ∃ Nx : Hp → Prop, (∀ H', Nx H' → ∃ m', m' < m ∧ W (n + 1) m' H') ∧ ∀ x H', (Itt K b).yld n H x H' → gTup K 2 (gCons (gName i) (gCons (gName j) gNil)) x (wipe σ ws) H' fun σ2 H2 => wipe σ2 ws = wipe σ ws ∧ tYes σ2 H2 fun b H3 =>
        if b = true then tVar i σ2 H3 fun y H4 => ∃ acc, H4 D = some (.lst acc) ∧ acc.length < sizeLine ∧ Nx (upd H4 D (.lst (acc ++ [y]))) else Nx H3) := by
  have lu : us.length = owns.length := by rw [Db.len, List.length_map]
  refine lc_mapT (K := K) (ys := (owns.map Prod.fst).map V.str) (SqT.of eb) hD (by rw [List.length_map, List.length_map, lu]) (by omega) (fun n x y H4 Qe hx hy S4 k => ?_) gPair_mono hd
  obtain ⟨o, t, t', ho, rfl, g1⟩ := own_names Db hx
  have ey : y = V.str o.1 := by
    rw [List.getElem?_map, List.getElem?_map, ho] at hy
    exact (Option.some.inj hy).symm
  rw [ey] at k
  exact ⟨t, _, rfl, SqT.of (S4 _ _ g1), rfl, _, _, rfl, _, _, rfl, rfl, hw _ _, _, hi _ _, k H4 (Same.refl _)⟩
theorem nms_at {G : Hp} {v : V} {xs : List Str} (D : Dat G v (nmsD xs)) : ∃ a, v = .ref a ∧ G a = some (.tup (xs.map V.str)) := by
  obtain ⟨a, ps, e, e1, Dp⟩ := dat_tup (ds := xs.map PyData.str) D
  cases dats_strs_eq Dp
  exact ⟨a, e, e1⟩
theorem tup_at {G : Hp} {a : Addr} {ds : List PyData} (D : Dat G (.ref a) (.tuple ds)) : ∃ us, G a = some (.tup us) ∧ DatAll G us ds := by
  obtain ⟨b, us, e, e1, h⟩ := dat_tup D
  cases e
  exact ⟨us, e1, h⟩
theorem nms_get {G : Hp} {a : Addr} {xs : List Str} (D : Dat G (.ref a) (nmsD xs)) : G a = some (.tup (xs.map V.str)) := by
  obtain ⟨b, e, h⟩ := nms_at D
  cases e
  exact h
theorem keyable_owns (os : List Own) : keyable (.tuple (os.map ownD)) = true := by
  show keyables (os.map ownD) = true
  exact keyables_map ownD keyable_own os
theorem FrOk.nd {a b m : Nat} {picks : List Str} {owns : List Own} (h : FrOk a b m picks owns) : (picks ++ owns.map Prod.fst).Nodup := by
  have nt : ∀ {xs : List Str}, xs.Pairwise tlt → xs.Nodup := fun h => List.Pairwise.imp (fun {a b} z => fun e : a = b => by
    rw [e] at z
    exact absurd z (by unfold tlt; exact List.lt_irrefl _)) h
  refine List.nodup_append.mpr ⟨nt h.pu, nt (List.pairwise_map.mpr h.ou), fun x hx y hy e => ?_⟩
  obtain ⟨o, ho, rfl⟩ := List.mem_map.mp hy
  exact (h.on o ho).2.1 (e ▸ hx)
theorem FrOk.len {a b m : Nat} {picks : List Str} {owns : List Own} (h : FrOk a b m picks owns) : (picks ++ owns.map Prod.fst).length ≤ a + b := by
  have := h.pl
  have := h.ol
  rw [List.length_append, List.length_map]
  omega
/-! ### dicts of letters -/
def ltK (cl : List Ltr) : List (Key × V) := cl.map fun l => (Sum.inr l.1, V.bl l.2)
theorem ltK_val (x : Str) : ∀ cl : List Ltr, valV (ltK cl) (.inr x) = (cl.find? fun l => decide (l.1 = x)).map fun l => V.bl l.2
  | [] => rfl
  | l :: cl => by
    show valV ((Sum.inr l.1, V.bl l.2) :: ltK cl) (.inr x) = _
    rw [List.find?_cons]
    by_cases h : l.1 = x
    · rw [valV_pos (by rw [h]), decide_eq_true h]
      rfl
    · rw [valV_neg (by intro z; injection z with z; exact h z), ltK_val x cl, decide_eq_false h]
structure LD (cl : List Ltr) (ws : List Str) : Prop where
  nd : (cl.map Prod.fst).Nodup
  mem : ∀ l ∈ cl, l.1 ∈ ws
theorem LD.put {cl : List Ltr} {ws : List Str} {x : Str} (b : Bool) (h : LD cl ws) (hx : x ∈ ws) : ∃ cl', putK (ltK cl) (.inr x) (.bl b) = ltK cl' ∧ LD cl' ws := by
  cases e : cl.find? fun l => decide (l.1 = x) with
  | none =>
    have nx : x ∉ cl.map Prod.fst := fun z => by
      obtain ⟨l, hl, el⟩ := List.mem_map.mp z
      have := List.find?_eq_none.mp e l hl
      exact this (decide_eq_true el)
    refine ⟨cl ++ [(x, b)], ?_, ?_, fun l hl => ?_⟩
    · rw [putK_new _ (by rw [ltK_val, e]; rfl)]
      unfold ltK
      rw [List.map_append]
      rfl
    · rw [List.map_append]
      exact List.nodup_append.mpr ⟨h.nd, by simp, fun a ha c hc z => by
        have : c = x := by simpa using hc
        exact nx (this ▸ z ▸ ha)⟩
    · rcases List.mem_append.mp hl with z | z
      · exact h.mem l z
      · cases List.mem_singleton.mp z
        exact hx
  | some l0 =>
    refine ⟨cl.map fun l => if l.1 = x then (l.1, b) else l, ?_, ?_, fun l hl => ?_⟩
    · unfold putK
      have z : ((ltK cl).any fun kv => decide (kv.1 = Sum.inr x)) = true := by
        rw [valV_any, ltK_val, e]
        rfl
      rw [if_pos z]
      unfold ltK
      rw [List.map_map, List.map_map]
      refine List.map_congr_left fun l _ => ?_
      simp only [Function.comp]
      by_cases h : l.1 = x
      · rw [if_pos (by rw [h]), if_pos h]
      · rw [if_neg (by intro z; injection z with z; exact h z), if_neg h]
    · rw [List.map_map]
      have : (Prod.fst ∘ fun l : Ltr => if l.1 = x then (l.1, b) else l) = Prod.fst := by
        funext l
        simp only [Function.comp]
        split <;> rfl
      rw [this]
      exact h.nd
    · obtain ⟨l', hl', rfl⟩ := List.mem_map.mp hl
      split
      · exact h.mem l' hl'
      · exact h.mem l' hl'
theorem LD.len {cl : List Ltr} {ws : List Str} (h : LD cl ws) : cl.length ≤ ws.length := by
  have := nodup_le (m := ws) h.nd fun x hx => by
    obtain ⟨l, hl, rfl⟩ := List.mem_map.mp hx
    exact h.mem l hl
  rwa [List.length_map] at this
theorem LD.get {cl : List Ltr} {ws : List Str} (h : LD cl ws) {i : Nat} {l : Ltr} (hl : cl[i]? = some l) : valV (ltK cl) (.inr l.1) = some (.bl l.2) := by
  rw [ltK_val]
  have m := List.mem_of_getElem? hl
  have : (cl.find? fun l' => decide (l'.1 = l.1)) = some l := by
    clear hl
    induction cl with
    | nil => exact absurd m (by simp)
    | cons a cl ih =>
      rw [List.find?_cons]
      have nd := h.nd
      rw [List.map_cons, List.nodup_cons] at nd
      rcases List.mem_cons.mp m with rfl | m2
      · rw [decide_eq_true rfl]
      · have ne : a.1 ≠ l.1 := fun z => nd.1 (z ▸ List.mem_map_of_mem m2)
        rw [decide_eq_false ne]
        exact ih ⟨nd.2, fun l hl => h.mem l (List.mem_cons_of_mem _ hl)⟩ m2
  rw [this]
  rfl
theorem plain_nms (xs : List Str) : PyData.plainAll (xs.map PyData.str) = true := by
  induction xs with
  | nil => rfl
  | cons x xs ih => rw [List.map_cons, PyData.plainAll, ih]; rfl
def spDrCl : Sp := fun vs H Q _ => ∃ (p a1 a2 : Addr) (c a b m most : Nat) (picks : List Str) (owns : List Own), vs = [.ref p, .ref a1, .ref a2, .int most] ∧ Src H p c ∧ c ≤ 60000 ∧ Dat H (.ref a1) (nmsD picks) ∧ Dat H (.ref a2) (.tuple (owns.map ownD)) ∧ FrOk a b m picks owns ∧ a ≤ 14 ∧ b ≤ 14 ∧ 0 < most ∧ most ≤ 40 ∧
  ∀ (v : V) (cl : List Ltr) (H' : Hp), Dat H' v (clD cl) → ClOk (picks ++ owns.map Prod.fst) cl → Dr H p (c + 100) H' → Q v H'
abbrev nCl : List Str := ["pot", "picks", "owns", "most", "found", "names", "few", "turn", "name", "sight"]
abbrev tDrw (i : Int) : TE := tCall spPick [] E0 (tCons (tVar 0) (tCons (tC (V.int i)) tNil))
/-- sorted letters, as a clause -/
theorem clause_of {G : Hp} {T T' : List TRow} {t : Addr} {cl : List Ltr} {ws : List Str} (eT : T.map Prod.snd = cl.map ltD) (ndc : (cl.map Prod.fst).Nodup) (mem : ∀ l ∈ cl, l.1 ∈ ws) (pm : T'.Perm T) (up : (T.map Prod.snd).Nodup → T'.Pairwise fun p q => dataLt p.2 q.2 = true)
    (hT : ∀ q ∈ T, Dat G q.v q.2) (et : G t = some (.tup (T'.map TRow.v))) : ∃ cl', Dat G (.ref t) (clD cl') ∧ ClOk ws cl' := by
  obtain ⟨cl', p2, e9, up2⟩ := letters_back pm eT ndc up
  refine ⟨cl', .tup et ?_, up2, fun l hl => mem l (p2.mem_iff.mp hl)⟩
  rw [← e9]
  exact dats_rows fun r hr => hT r (pm.mem_iff.mp hr)
theorem keys_lt {T : List TRow} {cl : List Ltr} (e : T.map Prod.snd = cl.map ltD) : ∀ q ∈ T, keyable q.2 = true := fun q hq => by
  have m : q.2 ∈ cl.map ltD := e ▸ List.mem_map_of_mem hq
  obtain ⟨x, _, hx⟩ := List.mem_map.mp m
  rw [← hx]
  rfl
theorem Wk.rr {H G : Hp} {p : Addr} {c : Nat} {F : List (Addr × HO)} {R0 : List (V × PyData)} {T : List TRow} (W : Wk H p c F (R0 ++ rowR T) G) : ∀ q ∈ T, Dat G q.v q.2 := fun q hq => (W.r (q.v, q.2) (List.mem_append_right _ (List.mem_map.mpr ⟨q, hq, rfl⟩))).2
theorem Wk.snoc {H G : Hp} {p : Addr} {c : Nat} {F : List (Addr × HO)} {R0 : List (V × PyData)} {T : List TRow} {q : TRow} (W : Wk H p c F (R0 ++ rowR T) G) (k : keyable q.2 = true) (D : Dat G q.v q.2) : Wk H p c F (R0 ++ rowR (T ++ [q])) G := W.rows fun x hx => by
  rcases List.mem_append.mp hx with h | h
  · exact .inl (List.mem_append_left _ h)
  · obtain ⟨q', hq', rfl⟩ := rowR_mem h
    rcases List.mem_append.mp hq' with y | y
    · exact .inl (List.mem_append_right _ (List.mem_map.mpr ⟨q', y, rfl⟩))
    · cases List.mem_singleton.mp y
      exact .inr ⟨k, D⟩
end S1

set_option Elab.async false
set_option linter.all false
set_option maxRecDepth 100000
set_option maxHeartbeats 2000000
/-! list(d), sorted(d), d a dict keyed by tuples -/
namespace L2
open PySem PySem.W PySem.Spec PyProof.Rows
section
variable {X : Cx} {pins : List (Addr × Obj)} {σ : L2.St} {H : Hp} {s : Shared} {a : Addr} {D : List DRow}
theorem kn_get : ∀ {D : List DRow} {xs : List (NestedKey × Addr × Value)} {i : Nat} {p : DRow}, KN D xs → D[i]? = some p → ∃ q, xs[i]? = some q ∧ q.1 = nkey p.1.2 ∧ q.2.1 = p.1.1 ∧ RelV p.2 q.2.2
  | _, _, _, _, .nil, e => by simp at e
  | _, _, 0, _, .cons h _, e => by simp at e; subst e; exact ⟨_, rfl, h⟩
  | _, _, i + 1, _, .cons _ t, e => kn_get (i := i) t e
/-- the dict's own entries -/
theorem dn_raw {h : Heap} {P : Program} {w : World} (ok : HOk P w H h) (e : DnAt w H a D) (kk : KeysAt H D) : ∃ (es : Array DictEntry) (ep : Nat), h.DictRaw a es ep ∧ es.size = D.length ∧ (∀ (i : Nat) (p : DRow), D[i]? = some p → ∃ en : DictEntry, es[i]? = some en ∧ en.key = .ref p.1.1 ∧ RelV p.2 en.val) ∧ D.length ≤ sizeLine ∧ (a == sysModules) = false := by
  obtain ⟨xs, rel, ⟨o, es, ep, h1, h2, h3, h4, _, _⟩, hz, hd⟩ := dn_of ok e kk
  have hl : D.length = xs.length := Paired.length rel
  refine ⟨es, ep, ⟨o, h1, h2, h3⟩, (size_of_entries h4).trans hl.symm, fun i p hp => ?_, by omega, hd⟩
  obtain ⟨q, hq, q1, q2, q3⟩ := kn_get rel hp
  have z := entry_at h4 i
  rw [hq] at z
  exact ⟨_, z, by show Value.ref q.2.1 = _; rw [q2], q3⟩
theorem keys_items {es : Array DictEntry} {acc : Array Value} (hs : es.size = D.length) (he : ∀ (i : Nat) (p : DRow), D[i]? = some p → ∃ en : DictEntry, es[i]? = some en ∧ en.key = .ref p.1.1 ∧ RelV p.2 en.val) (h : ItemsOf (fun i v => ∃ hi : i < es.size, v = es[i].key) acc es.size) : acc.toList = (D.map Prod.fst).map TRow.r := by
  apply List.ext_getElem?
  intro i
  rw [Array.getElem?_toList, List.map_map, List.getElem?_map]
  cases hp : D[i]? with
  | none =>
    have hi : D.length ≤ i := List.getElem?_eq_none_iff.mp hp
    have : acc.size ≤ i := by rw [h.1]; omega
    rw [Array.getElem?_eq_none this]
    rfl
  | some p =>
    have hi : i < D.length := (List.getElem?_eq_some_iff.mp hp).1
    have ha : i < acc.size := by rw [h.1]; omega
    obtain ⟨hi2, e⟩ := h.2 i _ (Array.getElem?_eq_getElem ha)
    obtain ⟨en, h1, h2, _⟩ := he i p hp
    rw [Array.getElem?_eq_getElem ha, e]
    rw [Array.getElem?_eq_getElem hi2] at h1
    cases h1
    rw [h2]
    rfl
end
section
variable {X : Cx}
def rSortDn (w : World) : List V → Hp → VK → Prop := fun vs H Q => ∃ (a : Addr) (D : List DRow), vs = [V.ref a] ∧ DnAt w H a D ∧ KeysAt H D ∧ Sorty (D.map Prod.fst) ∧
  ∀ (T' : List TRow) (b : Addr), T'.Perm (D.map Prod.fst) → (T'.Pairwise fun p q => dataLt q.2 p.2 = false) → (((D.map Prod.fst).map Prod.snd).Nodup → T'.Pairwise fun p q => dataLt p.2 q.2 = true) → H b = none → Q (.ref b) (upd H b (.lst (T'.map TRow.v)))
theorem cr_sortDn (hc : X.calm = true) (hu : X.A.units + 64 < cLine) : CallR X (.builtin "sorted") (rSortDn X.w) := by
  intro pins s σ H vs us Q I r h
  obtain ⟨a, D, rfl, e, kk, so, q⟩ := h
  rw [Vals.ref1 r]
  obtain ⟨es, ep, raw, hs, he, hz, hd⟩ := dn_raw I.hok e kk
  have hsz : es.size ≤ sizeLine := by rw [hs]; exact hz
  refine Calls.call_function_entry PyProof.Rows.kind_sorted PyProof.Rows.plain_sorted PyProof.Rows.entry_sorted (PyProof.Rows.args_sorted1 _) ?_
  unfold Builtin.«sorted»
  refine wpAny_bind (m := checkCount "sorted" 1 1 _) (wpAny_pure ?_)
  refine wpAny_bind (kdu_collect (A := X.A.in1) (KdlSrc.rawDict (es := es) (ep := ep) hd) (I.ok.hd hc) raw hsz fun h' tk acc hk hacc => ?_)
  have ea := keys_items hs he hacc
  rw [ea]
  generalize hT : D.map Prod.fst = T at so q ⊢
  have hdat : ∀ p ∈ T, Dat H p.v p.2 := fun p hp => by
    rw [← hT] at hp
    obtain ⟨p', hp', rfl⟩ := List.mem_map.mp hp
    exact (kk p' hp').1
  have hzl : (T.map TRow.r).length ≤ sizeLine := by
    rw [List.length_map, ← hT, List.length_map]
    exact hz
  have I1 : Inv X pins σ H { s with heap := h', toks := tk } := I.kept (t' := tk) hk
  refine wpAny_bind (wpAny_newList ?_ (by exact hzl))
  have hoL : (h'.push (seqObj "list" (T.map TRow.r).toArray 0)).get? h'.objs.size = some (seqObj "list" (T.map TRow.r).toArray 0) := Heap.get?_push_size _ rfl
  show wpAny _ _ _ _ _ { s with heap := h'.push (seqObj "list" (T.map TRow.r).toArray 0), toks := tk }
  have old : ∀ {b : Addr} {u : Obj}, h'.get? b = some u → (h'.push (seqObj "list" (T.map TRow.r).toArray 0)).get? b = some u := fun e => Heap.get?_push_of_some _ e
  have rd : EachIs (fun v p => ∃ as, Reads (sortingHeap (h'.push (seqObj "list" (T.map TRow.r).toArray 0)) h'.objs.size (T.map TRow.r)) v p.2 as) (T.map TRow.r) T :=
    each_rows T fun p hp => by
      obtain ⟨as, z⟩ := I1.reads (hdat p hp)
      exact ⟨as, PyProof.Rows.Reads.keeps (fun b u e => sortingHeap_old (Nat.ne_of_lt (Heap.lt_size e)) (old e)) z⟩
  have tp : ∀ d ∈ T.map Prod.snd, ∃ xs, d = PyData.tuple xs := fun d z => by
    obtain ⟨p, hp, rfl⟩ := List.mem_map.mp z
    exact so.tup p hp
  have un : ∀ d, d ∈ T.map Prod.snd → X.A.in1.in1.units + d.depth < cLine := fun d z => by
    obtain ⟨p, hp, rfl⟩ := List.mem_map.mp z
    have z := so.deep p hp
    simp only [Around.in1_units]
    omega
  have srt := sortsAt_tups (prog := X.prog) (w := X.w) (A := X.A.in1.in1) (s := { s with heap := sortingHeap (h'.push (seqObj "list" (T.map TRow.r).toArray 0)) h'.objs.size (T.map TRow.r), toks := tk }) (each_map (R := fun v d => ∃ as, Reads _ v d as) Prod.snd rd) so.alike tp un
  have out := rows_each (sortVals_data (R := fun v p => v = TRow.r p) (enc := Prod.snd) false (each_rows T fun p _ => rfl) rd so.alike)
  refine wpAny_bind (wpAny_holding (wpAny_call_entry PyProof.Rows.slot_list_sort ⟨_, hoL, rfl⟩ PyProof.Rows.entry_list_sort
    (list_sort_vals (s := { s with heap := h'.push (seqObj "list" (T.map TRow.r).toArray 0), toks := tk }) hoL srt hzl ⟨_, rfl, ?_⟩) (PyProof.Rows.args_list_sort _)))
  rw [out]
  obtain ⟨e', he'⟩ := PyProof.Rows.sortedHeap_at (vs := T.map TRow.r) (out := ((sortT T).map TRow.r).toArray) hoL
  refine wpAny_pure ⟨_, rfl, .ref h'.objs.size, upd H h'.objs.size (.lst ((sortT T).map TRow.v)), I1.laid (t' := tk) (fun b u e => ?_) (Nat.le_refl _)
    ⟨by rw [List.length_map, (sortT_perm T).length_eq]; rw [List.length_map] at hzl; exact hzl, _, e', rows_vals _, he'⟩, rfl, q (sortT T) _ (sortT_perm T) (sortT_le T) (sortT_up T so.alike) (I1.hok.fresh (Nat.le_refl _))⟩
  have hb : b < h'.objs.size := Heap.lt_size e
  rw [PyProof.Rows.sortedHeap_old (Nat.ne_of_lt hb) (by rw [size_push']; exact Nat.lt_succ_of_lt hb)]
  exact old e
def rListDn (w : World) : List V → Hp → VK → Prop := fun vs H Q => ∃ (a : Addr) (D : List DRow), vs = [V.ref a] ∧ DnAt w H a D ∧ KeysAt H D ∧ ∀ b, H b = none → Q (.ref b) (upd H b (.lst ((D.map Prod.fst).map TRow.v)))
theorem call_listDn (hc : X.calm = true) : CallR X (.type "list") (rListDn X.w) := by
  intro pins s σ H vs us Q I r h
  obtain ⟨a, D, rfl, e, kk, q⟩ := h
  rw [Vals.ref1 r]
  obtain ⟨es, ep, raw, hs, he, hz, hd⟩ := dn_raw I.hok e kk
  have hsz : es.size ≤ sizeLine := by rw [hs]; exact hz
  refine kdl_call (KdlSrc.rawDict (es := es) (ep := ep) hd) (I.ok.hd hc) raw hsz fun h' tk acc c' hk hl hacc => ?_
  have ea := keys_items hs he hacc
  have ea2 : acc = ((D.map Prod.fst).map TRow.r).toArray := by rw [← ea]
  exact ⟨.ref _, upd H s.heap.objs.size (.lst ((D.map Prod.fst).map TRow.v)), I.laid (t' := tk) hk (Nat.le_refl _) ⟨by rw [List.length_map, List.length_map]; exact hz, _, c', rows_vals _, by rw [hl, ea2]⟩, rfl, q _ (I.hok.fresh (Nat.le_refl _))⟩
end
end L2

set_option Elab.async false
set_option linter.all false
set_option maxRecDepth 100000
set_option maxHeartbeats 4000000
/-! sayings, drawn -/
namespace S1
open PySem PySem.W PySem.Spec PyProof.Rows L2
theorem branchH {c : Prop} [Decidable c] {t u : TS} {D : Ends} {σ : L2.St} {H : Hp} (F : Hp → Prop) (hF : F H) (I : L2.St → Hp → Prop) (R : ∀ σ' H', I σ' H' → D.nx σ' H') (h1 : c → ∀ G, F G → (∀ σ' H', I σ' H' → D.nx σ' H') → t D σ G)
    (h2 : ¬ c → ∀ G, F G → (∀ σ' H', I σ' H' → D.nx σ' H') → u D σ G) : if c then t D σ H else u D σ H := by
  by_cases h : c
  · rw [if_pos h]; exact h1 h _ hF R
  · rw [if_neg h]; exact h2 h _ hF R
theorem gen_hp {D : Hp → Prop} {G : Hp} (F : Hp → Prop) (h : F G) (k : ∀ G', F G' → D G') : D G := k G h
theorem cut_drop {ws : List Str} {r : Nat} (h : r ≤ ws.length) : cutV (ws.map V.str) (some (r : Int)) none = (ws.drop r).map V.str := by
  unfold cutV
  rw [HT.sIx_nat, HT.sIx_none, List.length_map, Nat.min_eq_left h, ← List.map_drop, ← List.map_take]
  congr 1
  exact List.take_of_length_le (by rw [List.length_drop]; omega)
theorem datS_of {H : Hp} {v : V} {s : Say} (D : Dat H v s.d) : DatS H v s := by
  obtain ⟨a, xs, rfl, e, h⟩ := dat_tup D
  cases h with
  | cons h1 h =>
    cases h with
    | cons h2 h =>
      cases h with
      | cons h3 h =>
        cases h
        obtain ⟨b, us, rfl, eb, hb⟩ := dat_tup h2
        exact ⟨a, _, _, _, rfl, e, h1, ⟨b, us, rfl, eb, hb⟩, h3⟩
theorem plains_map {α : Type} (f : α → PyData) (h : ∀ x, (f x).plain = true) : ∀ l : List α, PyData.plainAll (l.map f) = true
  | [] => rfl
  | x :: l => by rw [List.map_cons, PyData.plainAll, h x, plains_map f h l]; rfl
theorem plain_cl (cl : List Ltr) : (clD cl).plain = true := plains_map ltD (fun _ => rfl) cl
theorem keyable_clss (cs : List (List Ltr)) : keyable (.tuple (cs.map clD)) = true := by
  show keyables (cs.map clD) = true
  exact keyables_map clD keyable_cl cs
theorem keyable_say (s : Say) : keyable s.d = true := by
  show keyables [nmsD s.picks, .tuple (s.owns.map ownD), .tuple (s.cls.map clD)] = true
  simp only [keyables, keyable_nms, keyable_owns, keyable_clss, Bool.and_self]
/-- a dict of clauses: what stands at its address -/
def DnS (w : World) (a : Addr) (D : List DRow) (o : HO) : Prop := o = DnO w a D ∨ (o = .dK [] ∧ D = [])
theorem DnS.at {w : World} {a : Addr} {D : List DRow} {o : HO} {G : Hp} (h : DnS w a D o) (e : G a = some o) : DnAt w G a D := by
  rcases h with rfl | ⟨rfl, rfl⟩
  · exact .inl e
  · exact .inr ⟨e, rfl⟩
theorem DnS.nt {w : World} {a : Addr} {D : List DRow} {o : HO} (h : DnS w a D o) : ∀ ys, o ≠ .tup ys := by
  rcases h with rfl | ⟨rfl, rfl⟩
  · exact dn_nt
  · exact dK_nt
/-- the rows of a dict of clauses: unlike, all of them clauses over ws -/
structure CD (D : List DRow) (cls : List (List Ltr)) (ws : List Str) : Prop where
  e : (D.map Prod.fst).map Prod.snd = cls.map clD
  nd : cls.Nodup
  ok : ∀ cl ∈ cls, ClOk ws cl
theorem clD_inj {a b : List Ltr} (h : clD a = clD b) : a = b := by
  unfold clD at h
  injection h with h
  induction a generalizing b with
  | nil => cases b with
    | nil => rfl
    | cons _ _ => cases h
  | cons x xs ih => cases b with
    | nil => cases h
    | cons y ys =>
      rw [List.map_cons, List.map_cons] at h
      injection h with h1 h2
      rw [ltD_inj h1, ih h2]
theorem nkey_cl {a b : List Ltr} : nkey (clD a) = nkey (clD b) ↔ a = b :=
  ⟨fun h => clD_inj (nkey_inj _ _ (keyable_cl a) (keyable_cl b) (alike_cl a b) h), fun h => by rw [h]⟩
theorem CD.put {D : List DRow} {cls : List (List Ltr)} {ws : List Str} {cl : List Ltr} {r : Addr} {v : V} (h : CD D cls ws) (ck : ClOk ws cl) :
    ∃ cls' : List (List Ltr), CD (putN D (r, clD cl) v) cls' ws ∧ cls'.length ≤ cls.length + 1 ∧ ∀ q ∈ (putN D (r, clD cl) v).map Prod.fst, q ∈ D.map Prod.fst ∨ q = (r, clD cl) := by
  cases e : lookN D (clD cl) with
  | none =>
    refine ⟨cls ++ [cl], ?_, by rw [List.length_append]; exact Nat.le_refl _, fun q hq => ?_⟩
    · rw [putN_new e]
      refine ⟨by rw [List.map_append, List.map_append, h.e, List.map_append]; rfl, ?_, fun c hc => ?_⟩
      · refine List.nodup_append.mpr ⟨h.nd, by simp, fun a ha c hc z => ?_⟩
        have : c = cl := by simpa using hc
        subst this
        subst z
        have m : clD a ∈ (D.map Prod.fst).map Prod.snd := h.e ▸ List.mem_map_of_mem ha
        obtain ⟨q, hq, eq⟩ := List.mem_map.mp m
        obtain ⟨q', hq', rfl⟩ := List.mem_map.mp hq
        exact lookN_none.mp e q' hq' (by rw [eq])
      · rcases List.mem_append.mp hc with z | z
        · exact h.ok c z
        · cases List.mem_singleton.mp z
          exact ck
    · rw [putN_new e, List.map_append] at hq
      rcases List.mem_append.mp hq with z | z
      · exact .inl z
      · exact .inr (by simpa using z)
  | some x =>
    have e2 : (putN D (r, clD cl) v).map Prod.fst = D.map Prod.fst := by
      rw [putN_old e, List.map_map]
      refine List.map_congr_left fun p _ => ?_
      simp only [Function.comp]
      split <;> rfl
    exact ⟨cls, ⟨by rw [e2]; exact h.e, h.nd, h.ok⟩, by omega, fun q hq => .inl (e2 ▸ hq)⟩
theorem CD.keys {D : List DRow} {cls : List (List Ltr)} {ws : List Str} {G : Hp} (h : CD D cls ws) (hD : ∀ q ∈ D.map Prod.fst, Dat G q.v q.2) : KeysAt G D := fun p hp => by
  have m : p.1.2 ∈ cls.map clD := h.e ▸ List.mem_map_of_mem (List.mem_map_of_mem hp)
  obtain ⟨c, _, ec⟩ := List.mem_map.mp m
  refine ⟨hD p.1 (List.mem_map_of_mem hp), by rw [← ec]; exact keyable_cl c, ?_⟩
  rw [← ec]
  have := depth_cl c
  omega
theorem CD.len {D : List DRow} {cls : List (List Ltr)} {ws : List Str} (h : CD D cls ws) : D.length = cls.length := by
  have := congrArg List.length h.e
  simpa using this
theorem CD.sorty {D : List DRow} {cls : List (List Ltr)} {ws : List Str} (h : CD D cls ws) : Sorty (D.map Prod.fst) := sorty_of h.e alike_cl (fun x => ⟨_, rfl⟩) (fun x => by have := depth_cl x; omega)
/-- the clauses of a dict, sorted -/
theorem CD.sorted {D : List DRow} {cls : List (List Ltr)} {ws : List Str} {T' : List TRow} (h : CD D cls ws) (pm : T'.Perm (D.map Prod.fst)) (up : ((D.map Prod.fst).map Prod.snd).Nodup → T'.Pairwise fun p q => dataLt p.2 q.2 = true) :
    ∃ cls' : List (List Ltr), T'.map Prod.snd = cls'.map clD ∧ (cls'.Pairwise fun x y => dataLt (clD x) (clD y) = true) ∧ (∀ cl ∈ cls', ClOk ws cl) ∧ cls'.length = cls.length := by
  obtain ⟨cls', p2, e2⟩ := perm_back (f := clD) ((pm.map Prod.snd).trans (.of_eq h.e)) cls rfl
  have nT : ((D.map Prod.fst).map Prod.snd).Nodup := by
    rw [h.e]
    exact List.pairwise_map.mpr (h.nd.imp fun {a b} ne z => ne (clD_inj z))
  have u1 : (T'.map Prod.snd).Pairwise fun d e => dataLt d e = true := List.pairwise_map.mpr (up nT)
  rw [e2] at u1
  exact ⟨cls', e2, List.pairwise_map.mp u1, fun cl hc => h.ok cl (p2.mem_iff.mp hc), p2.length_eq⟩
def spDrSay : Sp := fun vs H Q _ => ∃ (p z : Addr) (c a b m d : Nat), vs = [.ref p, .ref z, .int d, .int m] ∧ Src H p c ∧ c ≤ 20000 ∧ H z = some (.lst [.int a, .int b]) ∧ z ≠ p ∧ 1 ≤ a ∧ a ≤ 6 ∧ 2 ≤ b ∧ b ≤ 8 ∧ b ≤ m ∧ m ≤ 120 ∧ d ≤ 40 ∧
  ∀ (v : V) (sy : Say) (H' : Hp), Dat H' v sy.d → SayOk a b m d sy → Dr H p (c + 5000) H' → Q v H'
abbrev nSay : List Str := ["pot", "sizes", "clauses", "space", "picks", "owns", "names", "found", "most", "some", "turn", "clause"]
end S1

set_option Elab.async false
set_option linter.all false
set_option maxRecDepth 100000
set_option maxHeartbeats 2000000
/-! dict(pairs), the keys unlike tuples -/
namespace L2
open PySem PySem.W PySem.Spec PyProof.Rows
section
variable {X : Cx}
theorem kn_pairs {pins : List (Addr × Obj)} {σ : L2.St} {H : Hp} {s : Shared} (I : Inv X pins σ H s) : ∀ {ps : List Addr} {E : List DRow}, Paired (fun (p : Addr) (e : DRow) => H p = some (.tup [.ref e.1.1, e.2])) ps E →
    ∃ xs : List (NestedKey × Addr × Value), KN E xs ∧ xs.length = ps.length ∧ ∀ (j : Nat) (p : Addr), ps[j]? = some p → ∃ x, xs[j]? = some x ∧ s.heap.IsTuple p #[.ref x.2.1, x.2.2]
  | _, _, .nil => ⟨[], .nil, rfl, fun j q e => by simp at e⟩
  | _, _, .cons (a := p) (b := e) h t => by
    obtain ⟨xs, r, hl, hp⟩ := kn_pairs I t
    obtain ⟨its, rv, ht, _⟩ := I.tuple (SqT.of (K := X.K) h)
    obtain ⟨u, y, ei, ru, ry⟩ := vals2 rv
    subst ei
    cases (show u = Value.ref e.1.1 from ru)
    refine ⟨(nkey e.1.2, e.1.1, y) :: xs, .cons ⟨rfl, rfl, ry⟩ r, by rw [List.length_cons, List.length_cons, hl], fun j q e' => ?_⟩
    cases j with
    | zero =>
      have e' : p = q := Option.some.inj e'
      subst e'
      obtain ⟨o, a1, a2, a3, a4⟩ := ht
      exact ⟨_, rfl, o, a1, a2, _, a4⟩
    | succ j =>
      obtain ⟨x, e1, e2⟩ := hp j q (by simpa using e')
      exact ⟨x, by simpa using e1, e2⟩
def rDictN (K : PySem.W.Frag) (w : World) : List V → Hp → VK → Prop := fun vs H Q => ∃ (l : Addr) (ps : List Addr) (E : List DRow), vs = [.ref l] ∧ SqL K H l (ps.map V.ref) ∧ Paired (fun (p : Addr) (e : DRow) => H p = some (.tup [.ref e.1.1, e.2])) ps E ∧ KeysAt H E ∧
  (E.map fun e => nkey e.1.2).Nodup ∧ ∀ b, H b = none → Q (.ref b) (upd H b (DnO w b E))
theorem call_dictN (hc : X.calm = true) (hu : X.A.units + 16 < cLine) : CallR X (.type "dict") (rDictN X.K X.w) := by
  intro pins s σ H vs us Q I r h
  obtain ⟨l, ps, E, rfl, hq, pr, kk, nd, q⟩ := h
  rw [Vals.ref1 r]
  obtain ⟨its, rv, pl, hz⟩ := I.list hq
  have ei := refs_at rv
  subst ei
  obtain ⟨o, n, ho, hcl, hd, hdat⟩ := pl
  obtain ⟨xs, rel, lx, hx⟩ := kn_pairs I pr
  have lE : E.length = xs.length := Paired.length rel
  have ex : xs.map (·.1) = E.map fun e => nkey e.1.2 := by
    clear hx lx lE nd kk pr q
    induction rel with
    | nil => rfl
    | cons h t ih => rw [List.map_cons, List.map_cons, h.1, ih]
  have ok : PlainSeq "list" s.heap l (ps.map Value.ref).toArray ∧ PairItems s.heap (ps.map Value.ref).toArray (fun j => ps[j]?.getD 0) (xs.map fun x => (Value.ref x.2.1, x.2.2)) := by
    refine ⟨⟨o, n, ho, hcl, hd, hdat⟩, ?_, fun j k v hj => ?_⟩
    · simp [lx]
    · rw [List.getElem?_map] at hj
      obtain ⟨x, hx1, e⟩ := Option.map_eq_some_iff.mp hj
      cases e
      have jl : j < ps.length := by rw [← lx]; exact (List.getElem?_eq_some_iff.mp hx1).1
      obtain ⟨x', h1, h2⟩ := hx j ps[j] (List.getElem?_eq_getElem jl)
      rw [hx1] at h1
      cases h1
      refine ⟨by simp [jl], ?_⟩
      show PairAt _ (ps[j]?.getD 0) _ _
      rw [List.getElem?_eq_getElem jl]
      exact .inl h2
  refine call_dict_pairsH (knd := nestedKind X.prog X.w) (ps := xs) (PairArg.list l _ _ _) (I.ok.hd hc) (show X.A.in1.in1.units + 8 < cLine by simp only [Around.in1_units]; omega) ok ⟨by rw [List.length_map], fun i key v hr => ?_⟩ (fun h' hk x hx' => ?_) ?_ fun h' tk hd' hk => ?_
  · unfold PairRel at hr
    rw [List.getElem?_map] at hr
    obtain ⟨x, hx1, e⟩ := Option.map_eq_some_iff.mp hr
    cases e
    exact ⟨x.1, x.2.1, hx1, rfl⟩
  · have z := kn_keys I.hok rel kk x hx'
    exact nestedKind_stays.all h' (fun b o' _ e => hk b o' (Nat.ne_of_lt (Heap.lt_size e)) (by simp) e) _ _ z
  · rw [List.length_map, lx]
    rw [List.length_map] at hz
    exact hz
  · rw [storedAllH_nil_of_nodup xs (by rw [ex]; exact nd)] at hd'
    obtain ⟨o', es, ep, h1, h2, h3, h4, _, h5⟩ := hd'
    have hm : (s.heap.objs.size == sysModules) = false := beq_eq_false_iff_ne.mpr (Nat.ne_of_gt I.big)
    rw [List.length_map] at hz
    exact ⟨.ref s.heap.objs.size, upd H s.heap.objs.size (DnO X.w s.heap.objs.size E), I.laid (t' := tk) (fun b o e => hk b o (by simp) e) (Nat.le_refl _) (dn_ok ⟨xs, o', es, ep, rel, h1, h2, h3, h4, h5, by omega, hm⟩), rfl, q _ (I.hok.fresh (Nat.le_refl _))⟩
end
end L2

set_option Elab.async false
set_option linter.all false
set_option maxRecDepth 100000
set_option maxHeartbeats 4000000
/-! clauses of two letters put to a saying -/
namespace S1
open PySem PySem.W PySem.Spec PyProof.Rows L2
theorem other_of {a r n : Int} (h0 : 0 ≤ a) (h1 : a < n) (h2 : 0 ≤ r) (h3 : r < n - 1) : 0 ≤ (a + 1 + r) % n ∧ (a + 1 + r) % n < n ∧ (a + 1 + r) % n ≠ a := by
  by_cases h : a + 1 + r < n
  · rw [Int.emod_eq_of_lt (by omega) h]
    omega
  · have e : a + 1 + r = (a + 1 + r - n) + n := by omega
    have e2 : (a + 1 + r) % n = a + 1 + r - n := by
      rw [e, Int.add_emod_right, Int.emod_eq_of_lt (by omega) (by omega)]
      omega
    rw [e2]
    omega
theorem SayOk.le {a b c d a' b' c' d' : Nat} {s : Say} (h : SayOk a b c d s) (ha : a ≤ a') (hb : b ≤ b') (hc : c ≤ c') (hd : d ≤ d') : SayOk a' b' c' d' s := ⟨h.pu, h.pn, Nat.le_trans h.pl ha, h.ou, h.on, Nat.le_trans h.ol hb, Nat.le_trans h.oc hc, h.cu, h.ck, Nat.le_trans h.cl hd⟩
theorem SayOk.fr {a b c d : Nat} {s : Say} (h : SayOk a b c d s) : FrOk a b c s.picks s.owns := ⟨h.pu, h.pn, h.pl, h.ou, h.on, h.ol, h.oc⟩
theorem ite_te {c : Prop} [Decidable c] {ta tb : TE} {σ : L2.St} {H : Hp} {Q : VK} (I : V → Hp → Prop) (R : ∀ v H', I v H' → Q v H') (h1 : c → (∀ v H', I v H' → Q v H') → ta σ H Q) (h2 : ¬ c → (∀ v H', I v H' → Q v H') → tb σ H Q) : if c then ta σ H Q else tb σ H Q := by
  by_cases h : c
  · rw [if_pos h]; exact h1 h R
  · rw [if_neg h]; exact h2 h R
theorem paired_snoc {α β : Type} {G : α → β → Prop} : ∀ {l₁ : List α} {l₂ : List β} {a : α} {b : β}, Paired G l₁ l₂ → G a b → Paired G (l₁ ++ [a]) (l₂ ++ [b])
  | _, _, _, _, .nil, h => .cons h .nil
  | _, _, _, _, .cons r t, h => .cons r (paired_snoc t h)
theorem paired_mono {α β : Type} {G G' : α → β → Prop} (k : ∀ a b, G a b → G' a b) : ∀ {l₁ : List α} {l₂ : List β}, Paired G l₁ l₂ → Paired G' l₁ l₂
  | _, _, .nil => .nil
  | _, _, .cons r t => .cons (k _ _ r) (paired_mono k t)
theorem cls_nodup {cs : List (List Ltr)} (h : cs.Pairwise fun x y => dataLt (clD x) (clD y) = true) : cs.Nodup := h.imp fun {a b} z e => by
  rw [e, dataLt_irrefl] at z
  cases z
theorem nofix_tup {H G : Hp} {p a : Addr} {c c1 : Nat} {xs : List V} (hs : Src H p c) (d : Dr H p c1 G) (e : H a = some (.tup xs)) : G a = some (.tup xs) := d.keep e fun z => by
  obtain ⟨ys, hy⟩ := hs.lst
  rw [z, hy] at e
  cases e
def spChained : Sp := fun vs H Q _ => ∃ (p : Addr) (v : V) (c a b m d : Nat) (sy : Say), vs = [.ref p, v] ∧ Src H p c ∧ c ≤ 30000 ∧ Dat H v sy.d ∧ SayOk a b m d sy ∧ a ≤ 6 ∧ b ≤ 8 ∧ d ≤ 40 ∧
  ∀ (v' : V) (sy' : Say) (H' : Hp), Dat H' v' sy'.d → SayOk a b m 40 sy' → Dr H p (c + 200) H' → Q v' H'
abbrev nCh : List Str := ["pot", "saying", "picks", "owns", "clauses", "found", "names", "turn", "at", "other", "letters", "clause", "name", "sight"]
end S1

set_option Elab.async false
set_option linter.all false
set_option maxRecDepth 100000
set_option maxHeartbeats 4000000
/-! all that is reached, as the program finds it -/
namespace S1
open PySem PySem.W PySem.Spec PyProof.Rows L2
def ltLt (a b : Ltr) : Prop := dataLt (ltD a) (ltD b) = true
/-- sorted letters, each that is reached -/
structure RchOk (s : Say) (ws : List Str) (l0 : Ltr) (L : List Ltr) : Prop where
  up : L.Pairwise ltLt
  mem : ∀ m, m ∈ L ↔ Reach s ws l0 m
def spAllReached : Sp := fun vs H Q _ => ∃ (v : V) (s : Say) (x : Str) (t : Bool), vs = [v, .str x, .bl t] ∧ DatS H v s ∧ SayOk 6 8 120 40 s ∧
  ∀ (u : V) (L : List Ltr) (H' : Hp), Same H H' → Dat H' u (clD L) → RchOk s (vw s x) (x, t) L → Q u H'
theorem lookN_lt {D : List DRow} {F : List Ltr} (e : (D.map Prod.fst).map Prod.snd = F.map ltD) (l : Ltr) : (lookN D (ltD l)).isSome = decide (l ∈ F) := by
  have z : lookN D (ltD l) = none ↔ l ∉ F := by
    rw [lookN_none]
    constructor
    · intro h hl
      have m : ltD l ∈ (D.map Prod.fst).map Prod.snd := e ▸ List.mem_map_of_mem hl
      obtain ⟨r, hr, e2⟩ := List.mem_map.mp m
      obtain ⟨p, hp, rfl⟩ := List.mem_map.mp hr
      exact h p hp (by rw [e2])
    · intro h p hp e2
      have m : p.1.2 ∈ F.map ltD := e ▸ List.mem_map_of_mem (List.mem_map_of_mem hp)
      obtain ⟨o, ho, e3⟩ := List.mem_map.mp m
      rw [← e3] at e2
      exact h (nkey_lt.mp e2 ▸ ho)
  by_cases h : l ∈ F
  · rw [decide_eq_true h]
    cases hh : lookN D (ltD l) with
    | none => exact absurd h (z.mp hh)
    | some y => rfl
  · rw [decide_eq_false h, z.mpr h]
    rfl
structure AInv (w : World) (H0 : Hp) (lv fD wL : Addr) (s : Say) (x : Str) (t : Bool) (H' : Hp) (Tw : List TRow) (D : List DRow) (A F : List Ltr) : Prop where
  S : Same H0 H'
  v : H' lv = some (.lst ((vw s x).map V.str))
  wl : H' wL = some (.lst (Tw.map TRow.v))
  wd : Tw.map Prod.snd = A.map ltD
  wD : ∀ q ∈ Tw, Dat H' q.v q.2
  f : DnAt w H' fD D
  fd : (D.map Prod.fst).map Prod.snd = F.map ltD
  fD : ∀ p ∈ D, Dat H' p.1.v p.1.2
  i : WInv s (vw s x) (x, t) A F
section
variable {w : World} {H0 H' : Hp} {lv fD wL : Addr} {s : Say} {x : Str} {t : Bool} {Tw : List TRow} {D : List DRow} {A F : List Ltr}
theorem AInv.keys (a : AInv w H0 lv fD wL s x t H' Tw D A F) : KeysAt H' D := fun p hp => by
  have m : p.1.2 ∈ F.map ltD := a.fd ▸ List.mem_map_of_mem (List.mem_map_of_mem hp)
  obtain ⟨o, _, e⟩ := List.mem_map.mp m
  exact ⟨a.fD p hp, by rw [← e]; exact keyable_lt o, by rw [← e]; have := depth_lt o; omega⟩
theorem dn_not_tup (h : DnAt w H' fD D) : ∀ xs, H' fD ≠ some (.tup xs) := fun xs e => by
  rcases h with h | ⟨h, _⟩ <;> rw [h] at e <;> cases e
theorem dn_not_lst (h : DnAt w H' fD D) : ∀ xs, H' fD ≠ some (.lst xs) := fun xs e => by
  rcases h with h | ⟨h, _⟩ <;> rw [h] at e <;> cases e
theorem dnAt_put {l : Addr} {o : HO} (h : DnAt w H' fD D) (n : fD ≠ l) : DnAt w (upd H' l o) fD D := by
  rcases h with h | ⟨h, e⟩
  · exact .inl (by rw [upd_ne n]; exact h)
  · exact .inr ⟨by rw [upd_ne n]; exact h, e⟩
theorem AInv.pop {p : TRow} {l : Ltr} (a : AInv w H0 lv fD wL s x t H' (Tw ++ [p]) D (A ++ [l]) F) (h0 : H0 wL = none) (nl : lv ≠ wL) : p.2 = ltD l ∧
    Same H0 (upd H' wL (.lst (Tw.map TRow.v))) ∧ (upd H' wL (.lst (Tw.map TRow.v))) lv = some (.lst ((vw s x).map V.str)) ∧ (upd H' wL (.lst (Tw.map TRow.v))) wL = some (.lst (Tw.map TRow.v)) ∧ Tw.map Prod.snd = A.map ltD ∧ (∀ q ∈ Tw ++ [p], Dat (upd H' wL (.lst (Tw.map TRow.v))) q.v q.2) ∧
    DnAt w (upd H' wL (.lst (Tw.map TRow.v))) fD D ∧ (∀ p ∈ D, Dat (upd H' wL (.lst (Tw.map TRow.v))) p.1.v p.1.2) := by
  have e := a.wd
  rw [List.map_append, List.map_append] at e
  have e2 := List.append_inj' e rfl
  have ep : p.2 = ltD l := by
    have z := e2.2
    injection z
  have nf : fD ≠ wL := fun z => dn_not_lst a.f _ (by rw [z]; exact a.wl)
  have K : ∀ b xs, H' b = some (.tup xs) → upd H' wL (.lst (Tw.map TRow.v)) b = some (.tup xs) := tk_put fun xs z => by rw [a.wl] at z; cases z
  refine ⟨ep, same_upd a.S h0, by rw [upd_ne nl]; exact a.v, upd_same, e2.1, fun q hq => ?_, dnAt_put a.f nf, fun p hp => dat_tk K _ _ (a.keys p hp).2.1 (a.fD p hp)⟩
  have m : q.2 ∈ (A ++ [l]).map ltD := a.wd ▸ List.mem_map_of_mem hq
  obtain ⟨o, _, eo⟩ := List.mem_map.mp m
  exact dat_tk K _ _ (by rw [← eo]; exact keyable_lt o) (a.wD q hq)
end
abbrev nAR : List Str := ["saying", "pick", "truth", "viewers", "found", "waiting", "letter"]
section
variable {P : Program} {w : World} {K : PySem.W.Frag} {mg : Str → Option Value} {base : Heap}
theorem scAR : FnScope nAR ["saying", "pick", "truth"] (defScope sAllReached) := ⟨rfl, rfl, rfl, by decide +kernel, rfl, by decide +kernel, by decide +kernel⟩
theorem ok_allReached {f fV fB : Addr} {fd fdV fdB : FuncData} (F : Fun K "all_reached" "all_reached" sAllReached f fd) (B : Blt mg) (Vw : Has K mg "viewers_of" sViewersOf ["saying", "pick"] fV fdV) (Bs : Has K mg "letters_beside" sBeside ["saying", "viewers", "letter"] fB fdB) :
    FnOk P w K mg base CX0 2 f fd ["saying", "pick", "truth"] spAllReached := by
  have GV : FnOk P w K mg base CX0 1 fV fdV ["saying", "pick"] spViewers := ok_viewersOf Vw.F
  have GB : FnOk P w K mg base CX0 1 fB fdB ["saying", "viewers", "letter"] spBeside := ok_beside Bs.F
  refine F.ok scAR (fun vs H Q E h => ?_) (fun cdv A outer s H vs Q E hr h => ?_)
  · obtain ⟨v, sy, x, t, rfl, _⟩ := h
    rfl
  · obtain ⟨v, sy, x, t, rfl, D, ok, q⟩ := h
    have hu : (A.deeper (envOfC "all_reached" (defScope sAllReached) s.heap.objs.size f cdv)).units + 64 < cLine := hr.units
    have hu2 : (A.deeper (envOfC "all_reached" (defScope sAllReached) s.heap.objs.size f cdv)).units + 16 < cLine := by omega
    refine ⟨_, pss_cons (ps_set (i := 3) scAR.nd rfl (.inl rfl) (pe_call GV hr rfl Vw.g Vw.F.kp Vw.b .nil pass0 (pa_cons (pv 0) (pa_cons (pv 1) pa_nil))))
      (pss_cons (ps_set (i := 4) scAR.nd rfl (.inl rfl) pe_dnewK)
      (pss_cons (ps_set (i := 5) scAR.nd rfl (.inl rfl) (pe_call GB hr rfl Bs.g Bs.F.kp Bs.b .nil pass0 (pa_cons (pv 0) (pa_cons (pv 3) (pa_cons (pe_tup (pa_cons (pv 1) (pa_cons (pv 2) pa_nil))) pa_nil)))))
      (pss_cons (ps_while PassesOwn.never (pt_truth (pv 5) (fun _ => rfl))
        (pss_cons (ps_set (i := 6) scAR.nd rfl (.inl rfl) (pe_bm0 PySem.F.plainAttrs_list PySem.F.slot_list_pop PySem.F.type_list_pop mt_pop (pv 5)))
        (pss_one (ps_if (pt_cmpR (op_notInN (by exact hu2)) (pv 6) (pv 4) (by with_unfolding_all rfl))
          (pss_cons (ps_nput (by exact hu2) (pv 4) (pv 6) pe_bl (by rfl))
          (pss_one (ps_expr (pe_bm PySem.F.plainAttrs_list PySem.F.slot_list_extend PySem.F.type_list_extend mt_extend (pv 5) (pa_cons (pe_call GB hr rfl Bs.g Bs.F.kp Bs.b .nil pass0 (pa_cons (pv 0) (pa_cons (pv 3)
            (pa_cons (pe_tup (pa_cons (pe_ix ix_tup (pv 6) pe_int (fun _ _ => rfl)) (pa_cons (pe_not (pe_ix ix_tup (pv 6) pe_int (fun _ _ => rfl))) pa_nil))) pa_nil)))) pa_nil))))) pss_nil))))
      (pss_one (ps_ret (pe_tupleOf rfl B.tuple (pe_callB (cr_sortDn rfl (by exact hu)) (by rfl) B.sorted (by decide +kernel) (pa_cons (pv 4) pa_nil)))))))), ?_⟩
    have s2 : 2 ≤ sizeLine := by decide
    refine ⟨_, rfl, _, rfl, v, sy, x, rfl, D, ok, fun lv H1 S1 hlv ev => fun fD hfD => ?_⟩
    have S2 := S1.trans (same_new (o := .dK []) hfD)
    have nvf : lv ≠ fD := ne_of_none ev hfD
    have ev2 : upd H1 fD (.dK []) lv = some (.lst ((vw sy x).map V.str)) := by rw [upd_ne nvf]; exact ev
    have ef2 : upd H1 fD (.dK []) fD = some (.dK []) := upd_same
    have hfD0 : H fD = none := S1.free hfD
    generalize upd H1 fD (.dK []) = H2 at S2 ev2 ef2 ⊢
    refine ⟨_, rfl, _, rfl, _, rfl, _, rfl, s2, fun tt htt => ?_⟩
    have S3 := same_new (o := .tup [V.str x, .bl t]) htt
    have e3 : upd H2 tt (.tup [V.str x, .bl t]) tt = some (.tup [V.str x, .bl t]) := upd_same
    refine ⟨v, lv, tt, sy, vw sy x, (x, t), rfl, (D.same S2).same S3, ok, S3 _ _ ev2, .tup e3 (.cons (.str x) (.cons (.bl t) .nil)), fun wL Tw H4 S4 hwL eW dW DW => ?_⟩
    have SA := S2.trans (S3.trans S4)
    have nvw : lv ≠ wL := ne_of_none (S3 _ _ ev2) hwL
    have hwL0 : H wL = none := (S2.trans S3).free hwL
    refine ⟨fun m σ H' => ∃ (o6 : Option V) (Tw : List TRow) (D : List DRow) (A F : List Ltr), σ = [some v, some (.str x), some (.bl t), some (.ref lv), some (.ref fD), some (.ref wL), o6] ∧ AInv w H lv fD wL sy x t H' Tw D A F ∧ m = (28 - F.length) * 2000 + A.length,
      ⟨_, none, Tw, [], _, [], rfl, ⟨SA, S4 _ _ (S3 _ _ ev2), eW, dW, DW, .inr ⟨S4 _ _ (S3 _ _ ef2), rfl⟩, rfl, fun p hp => absurd hp (by simp), WInv.start ok⟩, rfl⟩, ?_⟩
    rintro m σ H5 ⟨o6, Tw5, D5, A5, F5, rfl, a, rfl⟩
    refine ⟨_, rfl, _, .inl ⟨_, SqL.of a.wl, rfl⟩, ?_⟩
    have few := a.i.few ok
    rcases List.eq_nil_or_concat Tw5 with rfl | ⟨Tw6, p, rfl⟩
    · have eA : A5 = [] := by
        have z := a.wd
        cases A5 with
        | nil => rfl
        | cons y l => cases z
      subst eA
      show if false = true then _ else _
      rw [if_neg (by decide)]
      refine ⟨_, rfl, fD, D5, rfl, a.f, a.keys, sorty_of a.fd alike_lt (fun o => ⟨_, rfl⟩) (fun o => by have := depth_lt o; omega), fun T' b pm _ up hb => ?_⟩
      have Sb := same_new (o := .lst (T'.map TRow.v)) hb
      refine .inl ⟨b, _, rfl, SqL.of upd_same, fun tt2 htt2 => ?_⟩
      have St := same_new (o := .tup (T'.map TRow.v)) htt2
      obtain ⟨L, pL, eL⟩ := perm_back (f := ltD) ((pm.map Prod.snd).trans (.of_eq a.fd)) F5 rfl
      have nT : ((D5.map Prod.fst).map Prod.snd).Nodup := by
        rw [a.fd]
        exact List.pairwise_map.mpr (a.i.nd.imp fun {x y} ne z => ne (ltD_inj z))
      refine q _ L _ (a.S.trans (Sb.trans St)) (.tup upd_same ?_) ⟨?_, fun m => ?_⟩
      · rw [← eL]
        refine dats_rows fun r hr => ?_
        have m := pm.mem_iff.mp hr
        obtain ⟨p, hp, rfl⟩ := List.mem_map.mp m
        exact ((a.fD p hp).same Sb).same St
      · have u1 : (T'.map Prod.snd).Pairwise fun d e => dataLt d e = true := List.pairwise_map.mpr (up nT)
        rw [eL] at u1
        have u2 : L.Pairwise fun x y => dataLt (ltD x) (ltD y) = true := List.pairwise_map.mp u1
        exact u2
      · rw [pL.mem_iff]
        exact a.i.done m
    · rw [List.concat_eq_append] at a ⊢
      obtain ⟨A6, l, rfl⟩ : ∃ A6 l, A5 = A6 ++ [l] := by
        rcases List.eq_nil_or_concat A5 with rfl | ⟨A6, l, rfl⟩
        · have z := a.wd
          rw [List.map_append] at z
          simp at z
        · exact ⟨A6, l, List.concat_eq_append⟩
      obtain ⟨ep, S6, v6, w6, d6, D6, f6, k6⟩ := a.pop hwL0 nvw
      rw [show (!((Tw6 ++ [p]).map TRow.v).isEmpty) = true by rw [List.map_append]; simp]
      show if true = true then _ else _
      rw [if_pos rfl]
      refine ⟨_, fun σ' H' z => z, ?_⟩
      refine ⟨_, rfl, .inl ⟨rfl, _, SqL.of a.wl⟩, wL, _, p.v, rfl, rfl, a.wl, by simp, ?_⟩
      rw [show ((Tw6 ++ [p]).map TRow.v).dropLast = Tw6.map TRow.v by rw [List.map_append]; simp]
      have mp : p ∈ Tw6 ++ [p] := List.mem_append_right _ List.mem_cons_self
      have Dp := D6 p mp
      rw [ep] at Dp
      have kk6 : KeysAt (upd H5 wL (.lst (Tw6.map TRow.v))) D5 := fun r hr => ⟨k6 r hr, (a.keys r hr).2⟩
      have nfw : fD ≠ wL := fun z => dn_not_lst a.f _ (by rw [z]; exact a.wl)
      generalize upd H5 wL (.lst (Tw6.map TRow.v)) = H6 at S6 v6 w6 D6 f6 k6 Dp kk6 ⊢
      refine ⟨_, rfl, _, rfl, p.1, fD, D5, ltD l, rfl, rfl, f6, kk6, Dp, keyable_lt l, by have := depth_lt l; omega, _, rfl, ?_⟩
      show if (!(lookN D5 (ltD l)).isSome) = true then _ else _
      rw [lookN_lt a.fd]
      have lenA : (A6 ++ [l]).length = A6.length + 1 := by rw [List.length_append]; rfl
      have lT6 : Tw6.length = A6.length := by
        have z := congrArg List.length d6
        rw [List.length_map, List.length_map] at z
        exact z
      by_cases hl : l ∈ F5
      · rw [if_neg (by rw [decide_eq_true hl]; decide)]
        have iv := a.i.skip hl
        exact ⟨_, by rw [lenA]; exact Nat.add_lt_add_left (Nat.lt_succ_self _) _, _, Tw6, D5, A6, F5, rfl, ⟨S6, v6, w6, d6, fun q hq => D6 q (List.mem_append_left _ hq), f6, a.fd, k6, iv⟩, rfl⟩
      · rw [if_pos (by rw [decide_eq_false hl]; rfl)]
        have hnone : lookN D5 (ltD l) = none := by
          have z := lookN_lt a.fd l
          rw [decide_eq_false hl] at z
          cases hh : lookN D5 (ltD l) with
          | none => rfl
          | some y => rw [hh] at z; cases z
        have lD : D5.length = F5.length := by
          have z := congrArg List.length a.fd
          rw [List.length_map, List.length_map, List.length_map] at z
          exact z
        refine ⟨_, rfl, _, rfl, fD, p.1, D5, ltD l, rfl, rfl, f6, kk6, Dp, keyable_lt l, by have := depth_lt l; omega, Nat.lt_of_le_of_lt (show D5.length ≤ 28 by omega) (by decide), ?_⟩
        rw [putN_new (r := (p.1, ltD l)) hnone]
        have hw : (cxOf CX0 P w K mg base nAR "all_reached" (defScope sAllReached) f cdv A outer s H E).nox.w = w := rfl
        rw [hw]
        have K7 := tk_put (o := DnO w fD (D5 ++ [((p.1, ltD l), .bl true)])) (dn_not_tup f6)
        have S7 : Same H (upd H6 fD (DnO w fD (D5 ++ [((p.1, ltD l), .bl true)]))) := same_upd S6 hfD0
        have v7 : upd H6 fD (DnO w fD (D5 ++ [((p.1, ltD l), .bl true)])) lv = some (.lst ((vw sy x).map V.str)) := by rw [upd_ne nvf]; exact v6
        have w7 : upd H6 fD (DnO w fD (D5 ++ [((p.1, ltD l), .bl true)])) wL = some (.lst (Tw6.map TRow.v)) := by rw [upd_ne nfw.symm]; exact w6
        have f7 : DnAt w (upd H6 fD (DnO w fD (D5 ++ [((p.1, ltD l), .bl true)]))) fD (D5 ++ [((p.1, ltD l), .bl true)]) := .inl upd_same
        have D7 : ∀ q ∈ Tw6, Dat (upd H6 fD (DnO w fD (D5 ++ [((p.1, ltD l), .bl true)]))) q.v q.2 := fun q hq => by
          have m : q.2 ∈ A6.map ltD := d6 ▸ List.mem_map_of_mem hq
          obtain ⟨o, _, eo⟩ := List.mem_map.mp m
          exact dat_tk K7 _ _ (by rw [← eo]; exact keyable_lt o) (D6 q (List.mem_append_left _ hq))
        have p7 : Dat (upd H6 fD (DnO w fD (D5 ++ [((p.1, ltD l), .bl true)]))) (.ref p.1) (ltD l) := dat_tk K7 _ _ (keyable_lt l) Dp
        have k7 : ∀ r ∈ D5 ++ [((p.1, ltD l), V.bl true)], Dat (upd H6 fD (DnO w fD (D5 ++ [((p.1, ltD l), .bl true)]))) r.1.v r.1.2 := fun r hr => by
          rcases List.mem_append.mp hr with m | m
          · exact dat_tk K7 _ _ (kk6 r m).2.1 (k6 r m)
          · cases List.mem_singleton.mp m
            exact p7
        generalize upd H6 fD (DnO w fD (D5 ++ [((p.1, ltD l), .bl true)])) = H7 at S7 v7 w7 f7 D7 p7 k7 ⊢
        obtain ⟨pt, pl, ept, ept2, Dpl⟩ := dat_tup (ds := [.str l.1, .bool l.2]) p7
        have ept' : p.1 = pt := by injection ept
        subst ept'
        cases Dpl with
        | cons h1 t1 =>
        cases t1 with
        | cons h2 t2 =>
        cases t2
        cases h1
        cases h2
        refine ⟨_, rfl, .inl ⟨rfl, _, SqL.of w7⟩, _, rfl, _, rfl, _, rfl, p.1, _, 0, _, rfl, rfl, SqT.of ept2, rfl, _, rfl, p.1, _, 1, _, rfl, rfl, SqT.of ept2, rfl, _, rfl, s2, fun t8 ht8 => ?_⟩
        have S8 := same_new (o := .tup [V.str l.1, .bl (!l.2)]) ht8
        have e8 : upd H7 t8 (.tup [V.str l.1, .bl (!l.2)]) t8 = some (.tup [V.str l.1, .bl (!l.2)]) := upd_same
        refine ⟨v, lv, t8, sy, vw sy x, neg l, rfl, (D.same S7).same S8, ok, S8 _ _ v7, .tup e8 (.cons (.str l.1) (.cons (.bl _) .nil)), fun lB TB H9 S9 hB eB dB DB => ?_⟩
        have S79 := S8.trans S9
        have iv := a.i.add ok hl
        have lTB : TB.length ≤ 560 := by
          have z := congrArg List.length dB
          rw [List.length_map, List.length_map] at z
          rw [z]
          exact bes_max ok _ _
        have lAl := a.i.len
        refine ⟨wL, lB, _, _, rfl, rfl, S79 _ _ w7, eB, ?_, ?_⟩
        · rw [List.length_map, List.length_map]
          exact Nat.le_trans (show _ ≤ 100000 by omega) (by decide)
        have K9 : ∀ b xs, H9 b = some (.tup xs) → upd H9 wL (.lst (Tw6.map TRow.v ++ TB.map TRow.v)) b = some (.tup xs) := tk_put fun xs z => by rw [S79 _ _ w7] at z; cases z
        have few2 := iv.few ok
        rw [List.length_append] at few2
        have few3 : F5.length + 1 ≤ 28 := few2
        refine ⟨_, ?_, _, Tw6 ++ TB, D5 ++ [((p.1, ltD l), .bl true)], A6 ++ bes sy (vw sy x) (neg l), F5 ++ [l], rfl, ⟨same_upd (S7.trans S79) hwL0, by rw [upd_ne nvw]; exact S79 _ _ v7, by rw [upd_same, List.map_append], by rw [List.map_append, List.map_append, d6, dB], fun q hq => ?_, dnAt_put (DnAt.same f7 S79) nfw, ?_, fun r hr => ?_, iv⟩, rfl⟩
        · have z := bes_max ok (vw sy x) (neg l)
          rw [lenA, List.length_append, List.length_append]
          show (28 - (F5.length + 1)) * 2000 + (A6.length + _) < (28 - F5.length) * 2000 + (A6.length + 1)
          omega
        · rcases List.mem_append.mp hq with m | m
          · have m2 : q.2 ∈ A6.map ltD := d6 ▸ List.mem_map_of_mem m
            obtain ⟨o, _, eo⟩ := List.mem_map.mp m2
            exact dat_tk K9 _ _ (by rw [← eo]; exact keyable_lt o) ((D7 q m).same S79)
          · have m2 : q.2 ∈ (bes sy (vw sy x) (neg l)).map ltD := dB ▸ List.mem_map_of_mem m
            obtain ⟨o, _, eo⟩ := List.mem_map.mp m2
            exact dat_tk K9 _ _ (by rw [← eo]; exact keyable_lt o) (DB q m)
        · rw [List.map_append, List.map_append, a.fd, List.map_append]
          rfl
        · have kr : keyable r.1.2 = true := by
            rcases List.mem_append.mp hr with m | m
            · exact (kk6 r m).2.1
            · cases List.mem_singleton.mp m
              exact keyable_lt l
          exact dat_tk K9 _ _ kr ((k7 r hr).same S79)
end
end S1

set_option Elab.async false
set_option linter.all false
set_option maxRecDepth 100000
set_option maxHeartbeats 4000000
/-! papers, what hangs by them, idle owns -/
namespace S1
open PySem PySem.W PySem.Spec PyProof.Rows L2
def hangB (L1 L2 : List Ltr) (n : Str) : Bool := (decide ((n, false) ∈ L1) && decide ((n, true) ∈ L2)) || (decide ((n, true) ∈ L1) && decide ((n, false) ∈ L2))
/-- a paper: what a pick's True reaches, and what its False -/
def Pap (H : Hp) (a : Addr) (s : Say) (x : Str) (L1 L2 : List Ltr) : Prop := ∃ u1 u2, H a = some (.tup [u1, u2]) ∧ _root_.L2.Dat H u1 (clD L1) ∧ _root_.L2.Dat H u2 (clD L2) ∧ RchOk s (vw s x) (x, true) L1 ∧ RchOk s (vw s x) (x, false) L2
def spPaper : Sp := fun vs H Q _ => ∃ (v : V) (s : Say) (x : Str), vs = [v, .str x] ∧ DatS H v s ∧ SayOk 6 8 120 40 s ∧ ∀ (a : Addr) (M N : List Ltr) (H' : Hp), Same H H' → Pap H' a s x M N → Q (.ref a) H'
def spHangsBy : Sp := fun vs H Q _ => ∃ (a : Addr) (n : Str) (M N : List Ltr) (u1 u2 : V), vs = [.ref a, .str n] ∧ H a = some (.tup [u1, u2]) ∧ _root_.L2.Dat H u1 (clD M) ∧ _root_.L2.Dat H u2 (clD N) ∧ ∀ H', Same H H' → Q (.bl (hangB M N n)) H'
section
variable {P : Program} {w : World} {K : PySem.W.Frag} {mg : Str → Option Value} {base : Heap}
theorem scPa : FnScope ["saying", "pick"] ["saying", "pick"] (defScope sPaperOf) := ⟨rfl, rfl, rfl, by decide +kernel, rfl, by decide +kernel, by decide +kernel⟩
theorem scHb : FnScope ["paper", "name", "truth"] ["paper", "name"] (defScope sHangsBy) := ⟨rfl, rfl, rfl, by decide +kernel, rfl, by decide +kernel, by decide +kernel⟩
theorem ok_paperOf {f fA : Addr} {fd fdA : FuncData} (F : Fun K "paper_of" "paper_of" sPaperOf f fd) (Ar : Has K mg "all_reached" sAllReached ["saying", "pick", "truth"] fA fdA) (GA : FnOk P w K mg base CX0 2 fA fdA ["saying", "pick", "truth"] spAllReached) : FnOk P w K mg base CX0 3 f fd ["saying", "pick"] spPaper := by
  refine F.ok scPa (fun vs H Q E h => ?_) (fun cdv A outer s H vs Q E hr h => ?_)
  · obtain ⟨v, sy, x, rfl, _⟩ := h
    rfl
  · obtain ⟨v, sy, x, rfl, D, ok, q⟩ := h
    refine ⟨_, pss_one (ps_ret (pe_tup (pa_cons (pe_call GA hr rfl Ar.g Ar.F.kp Ar.b .nil pass0 (pa_cons (pv 0) (pa_cons (pv 1) (pa_cons pe_bl pa_nil)))) (pa_cons (pe_call GA hr rfl Ar.g Ar.F.kp Ar.b .nil pass0 (pa_cons (pv 0) (pa_cons (pv 1) (pa_cons pe_bl pa_nil)))) pa_nil)))), ?_⟩
    refine ⟨_, rfl, _, rfl, v, sy, x, true, rfl, D, ok, fun u1 M H1 S1 D1 r1 => ⟨_, rfl, _, rfl, v, sy, x, false, rfl, D.same S1, ok, fun u2 N H2 S2 D2 r2 => ⟨(by show 2 ≤ sizeLine; decide), fun a ha => ?_⟩⟩⟩
    have S3 := same_new (o := .tup [u1, u2]) ha
    exact q a M N _ (S1.trans (S2.trans S3)) ⟨u1, u2, upd_same, (D1.same S2).same S3, D2.same S3, r1, r2⟩
theorem cl_rows {H : Hp} {u : V} {L : List Ltr} (D : Dat H u (clD L)) : ∃ (a : Addr) (T : List TRow), u = .ref a ∧ H a = some (.tup (T.map TRow.v)) ∧ T.map Prod.snd = L.map ltD ∧ ∀ p ∈ T, Dat H p.v p.2 ∧ keyable p.2 = true ∧ p.2.depth ≤ 8 := by
  obtain ⟨a, xs, rfl, e, Da⟩ := dat_tup (ds := L.map ltD) D
  obtain ⟨T, eT, dT, DT⟩ := rows_of_dat Da (fun d hd => by obtain ⟨o, _, rfl⟩ := List.mem_map.mp hd; exact ⟨_, rfl⟩)
  refine ⟨a, T, rfl, by rw [← eT]; exact e, dT.symm, fun p hp => ?_⟩
  have m : p.2 ∈ L.map ltD := dT ▸ List.mem_map_of_mem hp
  obtain ⟨o, _, ho⟩ := List.mem_map.mp m
  exact ⟨DT p hp, by rw [← ho]; exact keyable_lt o, by rw [← ho]; have := depth_lt o; omega⟩
theorem ok_hangsBy {f : Addr} {fd : FuncData} (F : Fun K "hangs_by" "hangs_by" sHangsBy f fd) (an : mg "any" = none) : FnOk P w K mg base CX0 1 f fd ["paper", "name"] spHangsBy := by
  refine F.ok scHb (fun vs H Q E h => ?_) (fun cdv A outer s H vs Q E hr h => ?_)
  · obtain ⟨a, n, M, N, u1, u2, rfl, _⟩ := h
    rfl
  · obtain ⟨a, n, M, N, u1, u2, rfl, ea, D1, D2, q⟩ := h
    have hu : (A.deeper (envOfC "hangs_by" (defScope sHangsBy) s.heap.objs.size f cdv)).units + 64 < cLine := hr.units
    have hu2 : (A.deeper (envOfC "hangs_by" (defScope sHangsBy) s.heap.objs.size f cdv)).units + 16 < cLine := by omega
    refine ⟨_, pss_one (ps_ret (pe_callB (cr_any rfl) (by rfl) an (by decide +kernel) (pa_cons (pe_lc (own := [("truth", 2)]) (g := gName 2) (tt := tYes)
        (te := tAndV (tOp (rInT K false) (tTup (tCons (tVar 1) (tCons (tVar 2) tNil))) (tOp (rIxT K) (tVar 0) (tC (V.int 0)))) (tOp (rInT K false) (tTup (tCons (tVar 1) (tCons (tNotV (tVar 2)) tNil))) (tOp (rIxT K) (tVar 0) (tC (V.int 1)))))
        rfl scHb.nd (pi_tup (pe_tup (pa_cons pe_bl (pa_cons pe_bl pa_nil)))) (blkOk_by (N := ["paper", "name", "truth"]) (sc := defScope sHangsBy) (by decide +kernel))
        (fun _ _ _ _ _ => pg_name (i := 2) scHb.nd rfl (Or.inl rfl)) (fun _ _ _ _ _ => pts_nil)
        (fun _ _ _ _ _ => by
          refine pe_and ?_ ?_
          · exact pe_cmpR (op_inT (by exact hu2)) (pe_tup (pa_cons (pv 1) (pa_cons (pv 2) pa_nil))) (pe_ix ix_tup (pv 0) pe_int (fun _ _ => rfl)) (by with_unfolding_all rfl)
          · refine pe_one ?_
            exact pe_cmpR (op_inT (by exact hu2)) (pe_tup (pa_cons (pv 1) (pa_cons (pe_not (pv 2)) pa_nil))) (pe_ix ix_tup (pv 0) pe_int (fun _ _ => rfl)) (by with_unfolding_all rfl))) pa_nil))), ?_⟩
    have s2 : 2 ≤ sizeLine := by decide
    obtain ⟨a1, T1, rfl, e1, d1, K1⟩ := cl_rows D1
    obtain ⟨a2, T2, rfl, e2, d2, K2⟩ := cl_rows D2
    refine ⟨s2, fun tt htt => ⟨tt, rfl, ⟨_, SqT.of upd_same⟩, fun D0 hD0 => ?_⟩⟩
    have S1 := same_new (o := .tup [V.bl false, .bl true]) htt
    have et : upd H tt (.tup [V.bl false, .bl true]) tt = some (.tup [V.bl false, .bl true]) := upd_same
    generalize upd H tt (.tup [V.bl false, .bl true]) = H1 at S1 et hD0 ⊢
    refine lc_tup (K := K) (a := tt) (xs := [V.bl false, .bl true]) (fun j H4 => H4 D0 = some (.lst ((([false, true].take j).map fun c => decide ((n, c) ∈ M) && decide ((n, !c) ∈ N)).map V.bl)) ∧ Same H1 H4) ⟨upd_same, same_new hD0⟩ (fun j H4 _ h => SqT.of (h.2 _ _ et)) ?_ ?_
    · rintro j y H4 hy ⟨e4, S4⟩
      obtain ⟨c, rfl, hc, jl⟩ : ∃ c : Bool, y = .bl c ∧ [false, true][j]? = some c ∧ j < 2 := by
        match j, hy with
        | 0, h => exact ⟨false, (Option.some.inj h).symm, rfl, by decide⟩
        | 1, h => exact ⟨true, (Option.some.inj h).symm, rfl, by decide⟩
        | j + 2, h => simp at h
      have S14 := S1.trans S4
      have fin : ∀ (b : Bool) (H5 : Hp), Same H4 H5 → b = (decide ((n, c) ∈ M) && decide ((n, !c) ∈ N)) → ∃ acc, H5 D0 = some (.lst acc) ∧ acc.length < sizeLine ∧ (upd H5 D0 (.lst (acc ++ [V.bl b]))) D0 = some (.lst ((([false, true].take (j + 1)).map fun c => decide ((n, c) ∈ M) && decide ((n, !c) ∈ N)).map V.bl)) ∧ Same H1 (upd H5 D0 (.lst (acc ++ [V.bl b]))) := fun b H5 S5 eb =>
        ⟨_, S5 _ _ e4, by rw [List.length_map, List.length_map, List.length_take]; exact Nat.lt_of_le_of_lt (show _ ≤ 2 by simp; omega) (by decide), by rw [upd_same, take_next hc, List.map_append, List.map_append, eb]; rfl, same_upd (S4.trans S5) hD0⟩
      refine ⟨rfl, yes_of ?_⟩
      refine ⟨_, rfl, _, rfl, s2, fun t1 ht1 => ?_⟩
      have S5 := same_new (o := .tup [V.str n, .bl c]) ht1
      have e5 : upd H4 t1 (.tup [V.str n, .bl c]) t1 = some (.tup [V.str n, .bl c]) := upd_same
      have S15 := S14.trans S5
      generalize upd H4 t1 (.tup [V.str n, .bl c]) = H5 at S5 e5 S15 ⊢
      refine ⟨_, rfl, a, _, 0, _, rfl, rfl, SqT.of (S15 _ _ ea), rfl, t1, a1, ltD (n, c), T1, rfl, rfl, .inr (SqT.of (S15 _ _ e1)), fun p hp => ⟨(K1 p hp).1.same S15, (K1 p hp).2⟩, .tup e5 (.cons (.str n) (.cons (.bl c) .nil)), keyable_lt _, by have := depth_lt (n, c); omega, _, rfl, ?_⟩
      show if inT (ltD (n, c)) T1 = true then _ else _
      rw [inT_lt d1]
      by_cases h1 : (n, c) ∈ M
      · rw [if_pos (decide_eq_true h1)]
        refine ⟨_, rfl, _, rfl, c, rfl, s2, fun t2 ht2 => ?_⟩
        have S6 := same_new (o := .tup [V.str n, .bl (!c)]) ht2
        have e6 : upd H5 t2 (.tup [V.str n, .bl (!c)]) t2 = some (.tup [V.str n, .bl (!c)]) := upd_same
        have S16 := S15.trans S6
        refine ⟨_, rfl, a, _, 1, _, rfl, rfl, SqT.of (S16 _ _ ea), rfl, t2, a2, ltD (n, !c), T2, rfl, rfl, .inr (SqT.of (S16 _ _ e2)), fun p hp => ⟨(K2 p hp).1.same S16, (K2 p hp).2⟩, .tup e6 (.cons (.str n) (.cons (.bl _) .nil)), keyable_lt _, by have := depth_lt (n, !c); omega, ?_⟩
        refine fin _ _ (S5.trans S6) ?_
        show inT (ltD (n, !c)) T2 = _
        rw [inT_lt d2, decide_eq_true h1, Bool.true_and]
      · rw [if_neg (by rw [decide_eq_false h1]; decide)]
        exact fin _ _ S5 (by rw [decide_eq_false h1]; rfl)
    · rintro H4 ⟨e4, S4⟩
      refine ⟨D0, _, rfl, SqL.of e4, ?_⟩
      have eq : ((([false, true].take 2).map fun c => decide ((n, c) ∈ M) && decide ((n, !c) ∈ N)).any id) = hangB M N n := by
        show ((decide ((n, false) ∈ M) && decide ((n, true) ∈ N)) || ((decide ((n, true) ∈ M) && decide ((n, false) ∈ N)) || false)) = _
        rw [Bool.or_false]
        rfl
      show Q (.bl ((([false, true].take 2).map fun c => decide ((n, c) ∈ M) && decide ((n, !c) ∈ N)).any id)) H4
      rw [eq]
      exact q H4 (S1.trans S4)
end
end S1

set_option Elab.async false
set_option linter.all false
set_option maxRecDepth 100000
set_option maxHeartbeats 4000000
/-! idle owns; reached, hangs -/
namespace S1
open PySem PySem.W PySem.Spec PyProof.Rows L2
def hangR (s : Say) (x n : Str) : Prop := (Reach s (vw s x) (x, true) (n, false) ∧ Reach s (vw s x) (x, false) (n, true)) ∨ (Reach s (vw s x) (x, true) (n, true) ∧ Reach s (vw s x) (x, false) (n, false))
theorem hangB_iff {s : Say} {x n : Str} {M N : List Ltr} (h1 : RchOk s (vw s x) (x, true) M) (h2 : RchOk s (vw s x) (x, false) N) : hangB M N n = true ↔ hangR s x n := by
  unfold hangB hangR
  rw [Bool.or_eq_true, Bool.and_eq_true, Bool.and_eq_true, decide_eq_true_eq, decide_eq_true_eq, decide_eq_true_eq, decide_eq_true_eq, h1.mem, h2.mem, h1.mem, h2.mem]
/-- names of owns that are idle at a pick -/
def IdlOk (s : Say) (x : Str) (L : List Str) : Prop := ∃ M N, RchOk s (vw s x) (x, true) M ∧ RchOk s (vw s x) (x, false) N ∧ L = (vw s x).filter fun n => !hangB M N n
def spIdleOwns : Sp := fun vs H Q _ => ∃ (v : V) (s : Say) (x : Str), vs = [v, .str x] ∧ DatS H v s ∧ SayOk 6 8 120 40 s ∧ ∀ (l : Addr) (L : List Str) (H' : Hp), Same H H' → H l = none → H' l = some (.lst (L.map V.str)) → IdlOk s x L → Q (.ref l) H'
def spReached : Sp := fun vs H Q _ => ∃ (v : V) (s : Say) (x : Str) (t : Bool), vs = [v, .str x, .bl t] ∧ DatS H v s ∧ SayOk 6 8 120 40 s ∧ x ∈ s.picks ∧
  ∀ (u : V) (L : List Ltr) (H' : Hp), Same H H' → Dat H' u (clD L) → RchOk s (vw s x) (x, t) L → Q u H'
def spHangs : Sp := fun vs H Q _ => ∃ (v : V) (s : Say) (o : Own) (x : Str), vs = [v, .str o.1, .str x] ∧ DatS H v s ∧ SayOk 6 8 120 40 s ∧ o ∈ s.owns ∧ x ∈ s.picks ∧ ∀ (b : Bool) (H' : Hp), Same H H' → (b = true ↔ hangR s x o.1) → Q (.bl b) H'
section
variable {P : Program} {w : World} {K : PySem.W.Frag} {mg : Str → Option Value} {base : Heap}
theorem scIo : FnScope ["saying", "pick", "paper", "name"] ["saying", "pick"] (defScope sIdleOwns) := ⟨rfl, rfl, rfl, by decide +kernel, rfl, by decide +kernel, by decide +kernel⟩
theorem scRe : FnScope ["saying", "pick", "truth"] ["saying", "pick", "truth"] (defScope sReached) := ⟨rfl, rfl, rfl, by decide +kernel, rfl, by decide +kernel, by decide +kernel⟩
theorem scHg : FnScope ["saying", "name", "pick"] ["saying", "name", "pick"] (defScope sHangs) := ⟨rfl, rfl, rfl, by decide +kernel, rfl, by decide +kernel, by decide +kernel⟩
theorem ok_idleOwns {f fP fV fH : Addr} {fd fdP fdV fdH : FuncData} (F : Fun K "idle_owns" "idle_owns" sIdleOwns f fd) (Pa : Has K mg "paper_of" sPaperOf ["saying", "pick"] fP fdP) (Vw : Has K mg "viewers_of" sViewersOf ["saying", "pick"] fV fdV) (Hb : Has K mg "hangs_by" sHangsBy ["paper", "name"] fH fdH)
    (GP : FnOk P w K mg base CX0 3 fP fdP ["saying", "pick"] spPaper) (an : mg "any" = none) : FnOk P w K mg base CX0 4 f fd ["saying", "pick"] spIdleOwns := by
  have GV : FnOk P w K mg base CX0 1 fV fdV ["saying", "pick"] spViewers := ok_viewersOf Vw.F
  have GH : FnOk P w K mg base CX0 1 fH fdH ["paper", "name"] spHangsBy := ok_hangsBy Hb.F an
  refine F.ok scIo (fun vs H Q E h => ?_) (fun cdv A outer s H vs Q E hr h => ?_)
  · obtain ⟨v, sy, x, rfl, _⟩ := h
    rfl
  · obtain ⟨v, sy, x, rfl, D, ok, q⟩ := h
    have hr1 := hr.mono (show 1 ≤ 3 by decide)
    refine ⟨_, pss_cons (ps_set (i := 2) scIo.nd rfl (.inr rfl) (pe_call GP hr rfl Pa.g Pa.F.kp Pa.b .nil pass0 (pa_cons (pv 0) (pa_cons (pv 1) pa_nil))))
      (pss_one (ps_ret (pe_lc (own := [("name", 3)]) (g := gName 3) (tt := tNot (tB (tCall spHangsBy [] E0 (tCons (tVar 2) (tCons (tVar 3) tNil))))) (te := tVar 3) rfl scIo.nd (pi_list (pe_call GV hr1 rfl Vw.g Vw.F.kp Vw.b .nil pass0 (pa_cons (pv 0) (pa_cons (pv 1) pa_nil))))
        (blkOk_by (N := ["saying", "pick", "paper", "name"]) (sc := defScope sIdleOwns) (by decide +kernel)) (fun _ _ _ _ _ => pg_name (i := 3) scIo.nd rfl (Or.inl rfl))
        (fun _ _ _ _ _ => by exact pts_one (pt_not (pt_val (pe_call GH (by exact hr1) (by rfl) Hb.g Hb.F.kp Hb.b .nil pass0 (pa_cons (pv 2) (pa_cons (pv 3) pa_nil)))))) (fun _ _ _ _ _ => by exact pv 3)))), ?_⟩
    refine ⟨_, rfl, _, rfl, v, sy, x, rfl, D, ok, fun a M N H1 S1 pap => ?_⟩
    refine ⟨_, rfl, _, rfl, v, sy, x, rfl, D.same S1, ok, fun lv H2 S2 hlv ev => ⟨lv, rfl, ⟨_, SqL.of ev⟩, fun D0 hD0 => ?_⟩⟩
    obtain ⟨u1, u2, ea, p1, p2, r1, r2⟩ := pap
    have hD0' : H D0 = none := (S1.trans S2).free hD0
    have lvw : (vw sy x).length ≤ 8 := by
      unfold vw
      rw [List.length_map]
      exact Nat.le_trans (List.length_filter_le _ _) ok.ol
    refine lc_list (K := K) (a := lv) (xs := (vw sy x).map V.str) (fun j H4 => H4 D0 = some (.lst ((((vw sy x).take j).filter fun n => !hangB M N n).map V.str)) ∧ Same H2 H4) ⟨upd_same, same_new hD0⟩ (fun j H4 _ h => SqL.of (h.2 _ _ ev)) ?_ ?_
    · rintro j y H4 hy ⟨e4, S4⟩
      rw [List.getElem?_map] at hy
      obtain ⟨n, hn, rfl⟩ := Option.map_eq_some_iff.mp hy
      have S24 := S2.trans S4
      refine ⟨rfl, _, rfl, _, rfl, a, n, M, N, u1, u2, rfl, S24 _ _ ea, p1.same S24, p2.same S24, fun H5 S5 => ⟨hangB M N n, rfl, ?_⟩⟩
      have z := List.length_filter_le (fun n => !hangB M N n) ((vw sy x).take j)
      rw [List.length_take] at z
      by_cases hh : hangB M N n = true
      · rw [hh]
        show if false = true then _ else _
        rw [if_neg (by decide)]
        refine ⟨?_, S4.trans S5⟩
        have eo : [n].filter (fun n => !hangB M N n) = [] := by simp [hh]
        rw [take_next hn, List.filter_append, eo, List.append_nil]
        exact S5 _ _ e4
      · have hf : hangB M N n = false := by cases h : hangB M N n <;> simp_all
        rw [hf]
        show if true = true then _ else _
        rw [if_pos rfl]
        refine ⟨_, rfl, _, S5 _ _ e4, by rw [List.length_map]; exact small1000 (by omega), ?_, same_upd (S4.trans S5) hD0⟩
        have eo : [n].filter (fun n => !hangB M N n) = [n] := by simp [hf]
        rw [upd_same, take_next hn, List.filter_append, eo, List.map_append]
        rfl
    · rintro H4 ⟨e4, S4⟩
      rw [List.length_map, List.take_length] at e4
      exact q D0 _ H4 (S1.trans (S2.trans S4)) hD0' e4 ⟨M, N, r1, r2, rfl⟩
theorem ok_reached {f fA : Addr} {fd fdA : FuncData} (F : Fun K "reached" "reached" sReached f fd) (e : Env1 K mg) (Wn : Wnt K mg) (W2 : Wnt2 K mg) (Ar : Has K mg "all_reached" sAllReached ["saying", "pick", "truth"] fA fdA) (GA : FnOk P w K mg base CX0 2 fA fdA ["saying", "pick", "truth"] spAllReached) :
    FnOk P w K mg base CX0 8 f fd ["saying", "pick", "truth"] spReached := by
  obtain ⟨fS, fdS, Ws, GS⟩ := g_wantSaying (P := P) (w := w) (base := base) e Wn
  obtain ⟨fK, fdK, Wk, GK⟩ := g_wantPick (P := P) (w := w) (base := base) e W2
  refine F.ok scRe (fun vs H Q E h => ?_) (fun cdv A outer s H vs Q E hr h => ?_)
  · obtain ⟨v, sy, x, t, rfl, _⟩ := h
    rfl
  · obtain ⟨v, sy, x, t, rfl, D, ok, hx, q⟩ := h
    refine ⟨_, pss_cons (ps_expr (pe_call GS hr rfl Ws.g Ws.F.kp Ws.b .nil pass0 (pa_cons (pv 0) pa_nil)))
      (pss_cons (ps_expr (pe_call GK (hr.mono (by decide)) rfl Wk.g Wk.F.kp Wk.b .nil pass0 (pa_cons (pv 0) (pa_cons (pv 1) pa_nil))))
      (pss_one (ps_ret (pe_call GA (hr.mono (by decide)) rfl Ar.g Ar.F.kp Ar.b .nil pass0 (pa_cons (pv 0) (pa_cons (pv 1) (pa_cons (pv 2) pa_nil))))))), ?_⟩
    exact ⟨_, rfl, v, sy, rfl, D, ok, fun H1 S1 => ⟨_, rfl, _, rfl, v, sy, x, rfl, D.same S1, ok, hx, fun H2 S2 => ⟨_, rfl, _, rfl, _, rfl, v, sy, x, t, rfl, D.same (S1.trans S2), ok, fun u L H3 S3 => q u L H3 (S1.trans (S2.trans S3))⟩⟩⟩
theorem ok_hangs {f fP fH : Addr} {fd fdP fdH : FuncData} (F : Fun K "hangs" "hangs" sHangs f fd) (e : Env1 K mg) (Wn : Wnt K mg) (W2 : Wnt2 K mg) (Pa : Has K mg "paper_of" sPaperOf ["saying", "pick"] fP fdP) (Hb : Has K mg "hangs_by" sHangsBy ["paper", "name"] fH fdH)
    (GP : FnOk P w K mg base CX0 3 fP fdP ["saying", "pick"] spPaper) (an : mg "any" = none) : FnOk P w K mg base CX0 8 f fd ["saying", "name", "pick"] spHangs := by
  have GH : FnOk P w K mg base CX0 1 fH fdH ["paper", "name"] spHangsBy := ok_hangsBy Hb.F an
  obtain ⟨fS, fdS, Ws, GS⟩ := g_wantSaying (P := P) (w := w) (base := base) e Wn
  obtain ⟨fO, fdO, Wo, GO⟩ := g_wantOwn (P := P) (w := w) (base := base) e W2
  obtain ⟨fK, fdK, Wk, GK⟩ := g_wantPick (P := P) (w := w) (base := base) e W2
  refine F.ok scHg (fun vs H Q E h => ?_) (fun cdv A outer s H vs Q E hr h => ?_)
  · obtain ⟨v, sy, o, x, rfl, _⟩ := h
    rfl
  · obtain ⟨v, sy, o, x, rfl, D, ok, ho, hx, q⟩ := h
    refine ⟨_, pss_cons (ps_expr (pe_call GS hr rfl Ws.g Ws.F.kp Ws.b .nil pass0 (pa_cons (pv 0) pa_nil)))
      (pss_cons (ps_expr (pe_call GO (hr.mono (by decide)) rfl Wo.g Wo.F.kp Wo.b .nil pass0 (pa_cons (pv 0) (pa_cons (pv 1) pa_nil))))
      (pss_cons (ps_expr (pe_call GK (hr.mono (by decide)) rfl Wk.g Wk.F.kp Wk.b .nil pass0 (pa_cons (pv 0) (pa_cons (pv 2) pa_nil))))
      (pss_one (ps_ret (pe_call GH (hr.mono (by decide)) rfl Hb.g Hb.F.kp Hb.b .nil pass0 (pa_cons (pe_call GP (hr.mono (by decide)) rfl Pa.g Pa.F.kp Pa.b .nil pass0 (pa_cons (pv 0) (pa_cons (pv 2) pa_nil))) (pa_cons (pv 1) pa_nil))))))), ?_⟩
    refine ⟨_, rfl, v, sy, rfl, D, ok, fun H1 S1 => ⟨_, rfl, _, rfl, v, sy, o, rfl, D.same S1, ok, ho, fun H2 S2 => ⟨_, rfl, _, rfl, v, sy, x, rfl, D.same (S1.trans S2), ok, hx, fun H3 S3 => ?_⟩⟩⟩
    have S13 := S1.trans (S2.trans S3)
    refine ⟨_, rfl, _, rfl, v, sy, x, rfl, D.same S13, ok, fun a M N H4 S4 pap => ?_⟩
    obtain ⟨u1, u2, ea, p1, p2, r1, r2⟩ := pap
    refine ⟨_, rfl, a, o.1, M, N, u1, u2, rfl, ea, p1, p2, fun H5 S5 => ?_⟩
    exact q _ H5 (S13.trans (S4.trans S5)) (hangB_iff r1 r2)
end
end S1

set_option Elab.async false
set_option linter.all false
set_option maxRecDepth 100000
set_option maxHeartbeats 4000000
/-! all that is idle -/
namespace S1
open PySem PySem.W PySem.Spec PyProof.Rows L2
abbrev Pr := Str × Str
def prD (q : Pr) : PyData := .tuple [.str q.1, .str q.2]
theorem prD_inj {a b : Pr} (h : prD a = prD b) : a = b := by
  unfold prD at h
  injection h with h
  injection h with h1 h2
  injection h1 with h1
  injection h2 with h2 _
  injection h2 with h2
  exact Prod.ext h1 h2
theorem alike_pr (a b : Pr) : alike (prD a) (prD b) = true := by simp [prD, alike, alikeAll]
theorem depth_pr (l : Pr) : (prD l).depth ≤ 1 := by simp [prD, PyData.depth, PyData.depthAll]
theorem keyable_pr (l : Pr) : keyable (prD l) = true := rfl
def prLt (a b : Pr) : Prop := dataLt (prD a) (prD b) = true
/-- all idle: sorted, each one -/
structure IdleAll (s : Say) (L : List Pr) : Prop where
  up : L.Pairwise prLt
  mem : ∀ q, q ∈ L ↔ (q.2 ∈ s.picks ∧ q.1 ∈ vw s q.2 ∧ ¬ hangR s q.2 q.1)
/-- .. so far, in any order -/
structure IdleTo (s : Say) (xs : List Str) (L : List Pr) : Prop where
  nd : L.Nodup
  mem : ∀ q, q ∈ L ↔ (q.2 ∈ xs ∧ q.1 ∈ vw s q.2 ∧ ¬ hangR s q.2 q.1)
  len : L.length ≤ 8 * xs.length
theorem vw_nodup {s : Say} (ok : SayOk 6 8 120 40 s) (x : Str) : (vw s x).Nodup := by
  unfold vw
  have z : (s.owns.filter fun o => decide (x ∈ o.2)).Pairwise fun a b => tlt a.1 b.1 := ok.ou.sublist List.filter_sublist
  exact nodup_tlt (List.pairwise_map.mpr z)
theorem vw_len {s : Say} (ok : SayOk 6 8 120 40 s) (x : Str) : (vw s x).length ≤ 8 := by
  unfold vw
  rw [List.length_map]
  exact Nat.le_trans (List.length_filter_le _ _) ok.ol
theorem IdlOk.mem {s : Say} {x : Str} {L : List Str} (h : IdlOk s x L) (n : Str) : n ∈ L ↔ n ∈ vw s x ∧ ¬ hangR s x n := by
  obtain ⟨M, N, r1, r2, rfl⟩ := h
  rw [List.mem_filter]
  have z := hangB_iff (n := n) r1 r2
  constructor
  · rintro ⟨a, b⟩
    refine ⟨a, fun c => ?_⟩
    rw [z.mpr c] at b
    exact absurd b (by decide)
  · rintro ⟨a, b⟩
    refine ⟨a, ?_⟩
    cases h : hangB M N n with
    | true => exact absurd (z.mp h) b
    | false => rfl
theorem IdlOk.nd {s : Say} (ok : SayOk 6 8 120 40 s) {x : Str} {L : List Str} (h : IdlOk s x L) : L.Nodup ∧ L.length ≤ 8 := by
  obtain ⟨M, N, r1, r2, rfl⟩ := h
  exact ⟨(vw_nodup ok x).sublist List.filter_sublist, Nat.le_trans (List.length_filter_le _ _) (vw_len ok x)⟩
theorem IdleTo.next {s : Say} (ok : SayOk 6 8 120 40 s) {xs : List Str} {x : Str} {L : List Pr} {N : List Str} (h : IdleTo s xs L) (hx : x ∉ xs) (hn : IdlOk s x N) : IdleTo s (xs ++ [x]) (L ++ N.map fun n => (n, x)) := by
  obtain ⟨nn, nl⟩ := hn.nd ok
  refine ⟨?_, fun q => ?_, ?_⟩
  · rw [List.nodup_append]
    refine ⟨h.nd, List.pairwise_map.mpr (nn.imp fun {a b} ne z => ne (by injection z)), fun a ha b hb e => ?_⟩
    obtain ⟨n, _, rfl⟩ := List.mem_map.mp hb
    subst e
    exact hx ((h.mem _).mp ha).1
  · rw [List.mem_append, List.mem_append, h.mem]
    constructor
    · rintro (⟨a, b, c⟩ | z)
      · exact ⟨.inl a, b, c⟩
      · obtain ⟨n, hn2, rfl⟩ := List.mem_map.mp z
        obtain ⟨a, b⟩ := (hn.mem n).mp hn2
        exact ⟨.inr List.mem_cons_self, a, b⟩
    · rintro ⟨a | a, b, c⟩
      · exact .inl ⟨a, b, c⟩
      · have e := List.mem_singleton.mp a
        refine .inr (List.mem_map.mpr ⟨q.1, (hn.mem q.1).mpr ?_, ?_⟩)
        · rw [← e]; exact ⟨b, c⟩
        · rw [← e]
  · rw [List.length_append, List.length_map, List.length_append]
    have := h.len
    show _ ≤ 8 * (xs.length + 1)
    omega
def spAllIdle : Sp := fun vs H Q _ => ∃ (v : V) (s : Say), vs = [v] ∧ DatS H v s ∧ SayOk 6 8 120 40 s ∧ ∀ (l : Addr) (T : List TRow) (L : List Pr) (H' : Hp), Same H H' → H l = none → H' l = some (.lst (T.map TRow.v)) → T.map Prod.snd = L.map prD → (∀ q ∈ T, Dat H' q.v q.2) → IdleAll s L → Q (.ref l) H'
section
variable {P : Program} {w : World} {K : PySem.W.Frag} {mg : Str → Option Value} {base : Heap}
theorem scAi : FnScope ["saying", "pick", "name"] ["saying"] (defScope sAllIdle) := ⟨rfl, rfl, rfl, by decide +kernel, rfl, by decide +kernel, by decide +kernel⟩
theorem scId : FnScope ["saying"] ["saying"] (defScope sIdle) := ⟨rfl, rfl, rfl, by decide +kernel, rfl, by decide +kernel, by decide +kernel⟩
theorem ok_allIdle {f fI : Addr} {fd fdI : FuncData} (F : Fun K "all_idle" "all_idle" sAllIdle f fd) (B : Blt mg) (Io : Has K mg "idle_owns" sIdleOwns ["saying", "pick"] fI fdI) (GI : FnOk P w K mg base CX0 4 fI fdI ["saying", "pick"] spIdleOwns) : FnOk P w K mg base CX0 5 f fd ["saying"] spAllIdle := by
  refine F.ok scAi (fun vs H Q E h => ?_) (fun cdv A outer s H vs Q E hr h => ?_)
  · obtain ⟨v, sy, rfl, _⟩ := h
    rfl
  · obtain ⟨v, sy, rfl, D, ok, q⟩ := h
    have hu : (A.deeper (envOfC "all_idle" (defScope sAllIdle) s.heap.objs.size f cdv)).units + 64 < cLine := hr.units
    refine ⟨_, pss_one (ps_ret (pe_callB (cr_sortL (by exact hu)) (by rfl) B.sorted (by decide +kernel) (pa_cons (pe_lc2 (own := [("pick", 1), ("name", 2)]) (vs1 := [2]) (g := gName 1) (tt := tYes) (g1 := gName 2) (tt1 := tYes) (wi1 := iList K (tCall spIdleOwns [] E0 (tCons (tVar 0) (tCons (tVar 1) tNil)))) (te := tTup (tCons (tVar 2) (tCons (tVar 1) tNil)))
        rfl scAi.nd (pi_tup (pe_ix ix_tup (pv 0) pe_int (fun _ _ => rfl))) (blkOk_by (N := ["saying", "pick", "name"]) (sc := defScope sAllIdle) (by decide +kernel)) (by decide)
        (fun _ _ _ _ _ => pg_name (i := 1) scAi.nd rfl (Or.inl rfl)) (fun _ _ _ _ _ => pts_nil) (fun _ _ _ _ _ => by exact pi_list (pe_call GI (by exact hr) (by rfl) Io.g Io.F.kp Io.b .nil pass0 (pa_cons (pv 0) (pa_cons (pv 1) pa_nil))))
        (fun _ _ _ _ _ => pg_name (i := 2) scAi.nd rfl (Or.inl rfl)) (fun _ _ _ _ _ => pts_nil) (fun _ _ _ _ _ => by exact pe_tup (pa_cons (pv 2) (pa_cons (pv 1) pa_nil)))) pa_nil))), ?_⟩
    obtain ⟨a, pk, ow, c, rfl, ea, Dp, Do, Dc⟩ := say_row D
    obtain ⟨b, us, rfl, eb, Db⟩ := dat_tup (ds := sy.picks.map PyData.str) Dp
    cases dats_strs_eq Db
    have lp := ok.pl
    refine ⟨_, rfl, a, _, 0, _, rfl, rfl, SqT.of ea, rfl, b, rfl, ⟨_, SqT.of eb⟩, fun D0 hD0 => ?_⟩
    refine turns_tup (K := K) (a := b) (xs := sy.picks.map V.str) (fun j H4 => ∃ (T4 : List TRow) (L : List Pr), H4 D0 = some (.lst (T4.map TRow.v)) ∧ T4.map Prod.snd = L.map prD ∧ (∀ q' ∈ T4, Dat H4 q'.v q'.2) ∧ IdleTo sy (sy.picks.take j) L ∧ Same H H4)
      ⟨[], [], upd_same, rfl, fun q' hq' => absurd hq' (by simp), ⟨List.nodup_nil, fun q => by simp, Nat.zero_le _⟩, same_new hD0⟩ (fun j H4 _ ⟨_, _, _, _, _, _, S4⟩ => SqT.of (S4 _ _ eb)) ?_ ?_
    · rintro j x4 H4 hx4 ⟨T4, L, e4, d4, D4, i4, S4⟩
      rw [List.getElem?_map] at hx4
      obtain ⟨x, hx, rfl⟩ := Option.map_eq_some_iff.mp hx4
      have jl : j < sy.picks.length := (List.getElem?_eq_some_iff.mp hx).1
      refine ⟨rfl, yes_of ?_⟩
      refine ⟨_, rfl, _, rfl, .ref a, sy, x, rfl, D.same S4, ok, fun lI N H5 S5 hlI eN iN => ⟨lI, rfl, ⟨_, SqL.of eN⟩, ?_⟩⟩
      obtain ⟨nn, nl⟩ := iN.nd ok
      have len4 : T4.length ≤ 48 := by
        have z := congrArg List.length d4
        rw [List.length_map, List.length_map] at z
        have y := i4.len
        rw [List.length_take] at y
        omega
      have nD : lI ≠ D0 := fun z => by rw [z] at hlI; rw [hlI] at e4; cases e4
      have S45 := S4.trans S5
      refine turns_list (K := K) (a := lI) (xs := N.map V.str) (fun k H6 => ∃ T5 : List TRow, H6 D0 = some (.lst (T5.map TRow.v)) ∧ T5.map Prod.snd = (L ++ (N.take k).map fun n => (n, x)).map prD ∧ (∀ q' ∈ T5, Dat H6 q'.v q'.2) ∧ Same H H6 ∧ H6 lI = some (.lst (N.map V.str)))
        ⟨T4, S5 _ _ e4, by simpa using d4, fun q' hq' => (D4 q' hq').same S5, S45, eN⟩ (fun k H6 _ ⟨_, _, _, _, _, e⟩ => SqL.of e) ?_ ?_
      · rintro k y H6 hy ⟨T5, e6, d6, D6, S6, n6⟩
        rw [List.getElem?_map] at hy
        obtain ⟨n, hn, rfl⟩ := Option.map_eq_some_iff.mp hy
        have kl : k < N.length := (List.getElem?_eq_some_iff.mp hn).1
        refine ⟨rfl, yes_of ?_⟩
        refine ⟨_, rfl, _, rfl, (by show 2 ≤ sizeLine; decide), fun t ht => ?_⟩
        have S7 := same_new (o := .tup [V.str n, .str x]) ht
        have e7 := S7 _ _ e6
        have len5 : T5.length ≤ 60 := by
          have z := congrArg List.length d6
          rw [List.length_map, List.length_map, List.length_append, List.length_map, List.length_take] at z
          have y := congrArg List.length d4
          rw [List.length_map, List.length_map] at y
          omega
        have kq : ∀ q' ∈ T5, keyable q'.2 = true := fun q' hq' => by
          have m2 : q'.2 ∈ (L ++ (N.take k).map fun n => (n, x)).map prD := d6 ▸ List.mem_map_of_mem hq'
          obtain ⟨z, _, hz⟩ := List.mem_map.mp m2
          rw [← hz]
          exact keyable_pr z
        refine ⟨_, e7, by rw [List.length_map]; exact small1000 (by omega), T5 ++ [(t, prD (n, x))], by rw [upd_same, List.map_append]; rfl, ?_, fun q' hq' => ?_, same_upd (S6.trans S7) hD0, by rw [upd_ne nD]; exact S7 _ _ n6⟩
        · rw [List.map_append, d6, take_next hn, List.map_append, List.map_append, List.map_append, List.map_append, List.append_assoc]
          rfl
        · rcases List.mem_append.mp hq' with m | m
          · exact dat_upd e7 (kq q' m) ((D6 q' m).same S7)
          · cases List.mem_singleton.mp m
            exact dat_upd e7 (keyable_pr _) (.tup upd_same (.cons (.str n) (.cons (.str x) .nil)))
      · rintro H6 ⟨T5, e6, d6, D6, S6, n6⟩
        rw [List.length_map, List.take_length] at d6
        refine ⟨T5, _, e6, d6, D6, ?_, S6⟩
        rw [take_next hx]
        refine i4.next ok (fun z => ?_) iN
        have nd := nodup_tlt ok.pu
        obtain ⟨i, hi, e⟩ := List.mem_take_iff_getElem.mp z
        have h1 := (List.getElem?_eq_some_iff.mp hx)
        obtain ⟨hj, ej⟩ := h1
        have := (List.getElem_inj nd).mp (e.trans ej.symm)
        omega
    · rintro H4 ⟨T4, L, e4, d4, D4, i4, S4⟩
      rw [List.length_map, List.take_length] at i4
      refine ⟨D0, T4, rfl, SqL.of e4, D4, sorty_of d4 alike_pr (fun x => ⟨_, rfl⟩) (fun x => by have := depth_pr x; omega), fun T' b' pm _ up hb => ?_⟩
      have Sb := same_new (o := .lst (T'.map TRow.v)) hb
      obtain ⟨L', pL, eL⟩ := perm_back (f := prD) ((pm.map Prod.snd).trans (.of_eq d4)) L rfl
      have nT : (T4.map Prod.snd).Nodup := by
        rw [d4]
        exact List.pairwise_map.mpr (i4.nd.imp fun {x y} ne z => ne (prD_inj z))
      refine q b' T' L' _ (S4.trans Sb) (S4.free hb) upd_same eL (fun q' hq' => (D4 q' (pm.mem_iff.mp hq')).same Sb) ⟨?_, fun q' => ?_⟩
      · have u1 : (T'.map Prod.snd).Pairwise fun d e => dataLt d e = true := List.pairwise_map.mpr (up nT)
        rw [eL] at u1
        have u2 : L'.Pairwise fun x y => dataLt (prD x) (prD y) = true := List.pairwise_map.mp u1
        exact u2
      · rw [pL.mem_iff]
        exact i4.mem q'
def spIdle : Sp := spAllIdle
theorem ok_idle {f fA : Addr} {fd fdA : FuncData} (F : Fun K "idle" "idle" sIdle f fd) (e : Env1 K mg) (Wn : Wnt K mg) (Ai : Has K mg "all_idle" sAllIdle ["saying"] fA fdA) (GA : FnOk P w K mg base CX0 5 fA fdA ["saying"] spAllIdle) : FnOk P w K mg base CX0 8 f fd ["saying"] spAllIdle := by
  obtain ⟨fS, fdS, Ws, GS⟩ := g_wantSaying (P := P) (w := w) (base := base) e Wn
  refine F.ok scId (fun vs H Q E h => ?_) (fun cdv A outer s H vs Q E hr h => ?_)
  · obtain ⟨v, sy, rfl, _⟩ := h
    rfl
  · obtain ⟨v, sy, rfl, D, ok, q⟩ := h
    refine ⟨_, pss_cons (ps_expr (pe_call GS hr rfl Ws.g Ws.F.kp Ws.b .nil pass0 (pa_cons (pv 0) pa_nil)))
      (pss_one (ps_ret (pe_call GA (hr.mono (by decide)) rfl Ai.g Ai.F.kp Ai.b .nil pass0 (pa_cons (pv 0) pa_nil)))), ?_⟩
    exact ⟨_, rfl, v, sy, rfl, D, ok, fun H1 S1 => ⟨_, rfl, v, sy, rfl, D.same S1, ok, fun l T L H2 S2 hl el eL DT i => q l T L H2 (S1.trans S2) (S1.free hl) el eL DT i⟩⟩
end
end S1

set_option Elab.async false
set_option linter.all false
set_option maxRecDepth 100000
set_option maxHeartbeats 4000000
/-! all that is reached, as the law finds it -/
namespace S1
open PySem PySem.W PySem.Spec PyProof.Rows L2
theorem key_lts {T : List TRow} {F : List Ltr} (e : T.map Prod.snd = F.map ltD) : ∀ q ∈ T, keyable q.2 = true ∧ q.2.depth ≤ 8 := fun q hq => by
  have m : q.2 ∈ F.map ltD := e ▸ List.mem_map_of_mem hq
  obtain ⟨o, _, eo⟩ := List.mem_map.mp m
  exact ⟨by rw [← eo]; exact keyable_lt o, by rw [← eo]; have := depth_lt o; omega⟩
end S1

set_option Elab.async false
set_option linter.all false
set_option maxRecDepth 100000
set_option maxHeartbeats 4000000
/-! what hangs, as the law finds it -/
namespace S1
open PySem PySem.W PySem.Spec PyProof.Rows L2
theorem reach_ws {s : Say} {ws : List Str} {l0 m : Ltr} (h : Reach s ws l0 m) : m.1 ∈ ws := by
  cases h with
  | start h => exact (bes_mem h).choose_spec.2.2.2.2
  | step _ h => exact (bes_mem h).choose_spec.2.2.2.2
theorem hangR_vw {s : Say} {x n : Str} (h : hangR s x n) : n ∈ vw s x := by
  rcases h with ⟨h, _⟩ | ⟨h, _⟩
  · exact reach_ws h
  · exact reach_ws h
/-- a list of reached letters -/
structure RL (H : Hp) (l : Addr) (T : List TRow) (M : List Ltr) : Prop where
  e : H l = some (.lst (T.map TRow.v))
  d : T.map Prod.snd = M.map ltD
  D : ∀ q ∈ T, Dat H q.v q.2
theorem RL.same {H H' : Hp} {l : Addr} {T : List TRow} {M : List Ltr} (h : RL H l T M) (S : Same H H') : RL H' l T M := ⟨S _ _ h.e, h.d, fun q hq => (h.D q hq).same S⟩
section
variable {P : Program} {w : World} {K : PySem.W.Frag} {mg : Str → Option Value} {base : Heap}
/-- (name, truth) in letters -/
theorem in_lst {H : Hp} {l : Addr} {T : List TRow} {M : List Ltr} {Q : VK} (h : RL H l T M) (n : Str) (b : Bool) (k : ∀ H', Same H H' → Q (.bl (decide ((n, b) ∈ M))) H') : 2 ≤ sizeLine ∧ ∀ t, H t = none → rInT K false (.ref t) (.ref l) (upd H t (.tup [.str n, .bl b])) Q := by
  refine ⟨by decide, fun t ht => ?_⟩
  have S := same_new (o := .tup [V.str n, .bl b]) ht
  have h2 := h.same S
  refine ⟨t, l, ltD (n, b), T, rfl, rfl, .inl (SqL.of h2.e), fun p hp => ⟨h2.D p hp, key_lts h2.d p hp⟩, .tup upd_same (.cons (.str n) (.cons (.bl b) .nil)), keyable_lt _, by have := depth_lt (n, b); omega, ?_⟩
  show Q (.bl (inT (ltD (n, b)) T)) _
  rw [inT_lt h2.d]
  exact k _ S
/-- what a reading evaluates to, whatever has been written beside -/
def SEv (t : TE) (σ : L2.St) (H : Hp) (x : V) : Prop := ∀ H1, Same H H1 → ∀ Q : VK, (∀ H2, Same H1 H2 → Q x H2) → t σ H1 Q
theorem sv_and {ta tb : TE} {σ : L2.St} {H : Hp} {a b : Bool} (h1 : SEv ta σ H (.bl a)) (h2 : SEv tb σ H (.bl b)) : SEv (tAndV ta tb) σ H (.bl (a && b)) := fun H1 e Q q => h1 H1 e _ fun H2 e2 => ⟨a, rfl, by
  cases a with
  | true =>
    show tb σ H2 Q
    exact h2 H2 (e.trans e2) Q fun H3 e3 => q H3 (e2.trans e3)
  | false =>
    show Q (.bl false) H2
    exact q H2 e2⟩
theorem sv_or {ta tb : TE} {σ : L2.St} {H : Hp} {a b : Bool} (h1 : SEv ta σ H (.bl a)) (h2 : SEv tb σ H (.bl b)) : SEv (tOrV ta tb) σ H (.bl (a || b)) := fun H1 e Q q => h1 H1 e _ fun H2 e2 => ⟨a, rfl, by
  cases a with
  | true =>
    show Q (.bl true) H2
    exact q H2 e2
  | false =>
    show tb σ H2 Q
    exact h2 H2 (e.trans e2) Q fun H3 e3 => q H3 (e2.trans e3)⟩
theorem sv_in {H : Hp} {l : Addr} {T : List TRow} {M : List Ltr} {σ : L2.St} {n : Str} {i j : Nat} (h : RL H l T M) (b : Bool) (e1 : σ[j]? = some (some (V.str n))) (ei : σ[i]? = some (some (V.ref l))) : SEv (tOp (rInT K false) (tTup (tCons (tVar j) (tCons (tC (V.bl b)) tNil))) (tVar i)) σ H (.bl (decide ((n, b) ∈ M))) := fun H1 S Q q => by
  obtain ⟨hs, k⟩ := in_lst (K := K) (h.same S) n b q
  exact ⟨_, e1, hs, fun t ht => ⟨_, ei, k t ht⟩⟩
end
end S1

set_option Elab.async false
set_option linter.all false
set_option maxRecDepth 100000
set_option maxHeartbeats 4000000
/-! what is the same is told to be the same, by its text -/
namespace S1
open PySem PySem.W PySem.Spec PyProof.Rows L2
/-- may be shown -/
structure Rpr (e : PyData) : Prop where
  s : e.showable = true
  d : e.depth ≤ 50
  z : e.shown.length ≤ sizeLine
def spLSame : Sp := fun vs H Q _ => ∃ (x y : V) (d : PyData), vs = [x, y] ∧ Dat H x d ∧ Dat H y d ∧ Rpr d ∧ Q (.bl true) H
section
variable {P : Program} {w : World} {K : PySem.W.Frag} {mg : Str → Option Value} {base : Heap}
theorem scLSm : FnScope ["told", "due"] ["told", "due"] (defScope sLSame) := ⟨rfl, rfl, rfl, by decide +kernel, rfl, by decide +kernel, by decide +kernel⟩
theorem ok_lSame {f : Addr} {fd : FuncData} (F : Fun K "_law_same" "_law_same" sLSame f fd) (zr : mg "repr" = none) : FnOkG P w K mg base 1 f fd ["told", "due"] spLSame := by
  refine F.okG scLSm (fun vs H Q E h => ?_) (fun cdv A outer s H vs Q E hG0 hr h => ?_)
  · obtain ⟨x, y, d, rfl, _⟩ := h
    rfl
  · obtain ⟨x, y, d, rfl, D1, D2, r, q⟩ := h
    have hG : (A.deeper (envOfC "_law_same" (defScope sLSame) s.heap.objs.size f cdv)).guards = some [] := hG0
    have hu : (A.deeper (envOfC "_law_same" (defScope sLSame) s.heap.objs.size f cdv)).units + 64 < cLine := hr.units
    refine ⟨_, pss_one (ps_ret (pe_cmpR op_eq (pe_callB (call_reprD hG (by exact hu)) (by rfl) zr (by decide +kernel) (pa_cons (pv 0) pa_nil)) (pe_callB (call_reprD hG (by exact hu)) (by rfl) zr (by decide +kernel) (pa_cons (pv 1) pa_nil)) (nomark _))), ?_⟩
    refine ⟨_, rfl, x, d, rfl, D1, r.s, r.d, r.z, _, rfl, y, d, rfl, D2, r.s, r.d, r.z, ?_⟩
    refine (show rEq (V.str d.shown) (V.str d.shown) H Q from ⟨rfl, ?_⟩)
    rw [decide_eq_true rfl]
    exact q
end
end S1

set_option Elab.async false
set_option linter.all false
set_option maxRecDepth 100000
set_option maxHeartbeats 1000000
/-! how long a shown saying is -/
namespace S1
open PySem PySem.W PySem.Spec PyProof.Rows L2
theorem listText_le : ∀ ts : List Str, (listText ts).length ≤ piled ts + 2
  | [] => by decide
  | t :: r => by
    have h := textFrom_length_pos r 1 (("[" : Str) ++ (if (0 : Nat) > 0 then ", " else "" : String) ++ t) (Nat.succ_pos 0)
    have e1 : (("[" : Str) ++ (if (0 : Nat) > 0 then ", " else "" : String) ++ t).length = 1 + t.length := by
      rw [strLen_append, strLen_append]
      rfl
    have e2 : (listText (t :: r)).length = (textFrom 1 (("[" : Str) ++ (if (0 : Nat) > 0 then ", " else "" : String) ++ t) r).length + 1 := by
      show (textFrom 1 _ r ++ "]").length = _
      rw [strLen_append]
      rfl
    rw [piled_cons]
    omega
theorem join_le (ts : List Str) : (Str.join ", " ts).length ≤ piled ts := by
  by_cases h : ts = []
  · subst h
    decide
  · have := join_length_add ts h
    omega
theorem tupleText_le (ts : List Str) : (tupleText ts).length ≤ piled ts + 3 := by
  have h := join_le ts
  unfold tupleText
  rw [strLen_append, strLen_append]
  have e1 : ((("(" : String) : Str)).length = 1 := rfl
  have e3 : (((if ts.length == 1 then ",)" else ")" : String) : Str)).length ≤ 2 := by split <;> decide
  omega
theorem piled_le {b : Nat} : ∀ ts : List Str, (∀ t ∈ ts, t.length ≤ b) → piled ts ≤ ts.length * (b + 2)
  | [], _ => Nat.zero_le _
  | t :: r, h => by
    have h1 := h t (List.mem_cons_self ..)
    have h2 := piled_le r fun u hu => h u (List.mem_cons_of_mem _ hu)
    rw [piled_cons, List.length_cons, Nat.succ_mul]
    omega
/-- it can be shown, in a text of at most b signs, k deep -/
structure Shw (b k : Nat) (d : PyData) : Prop where
  s : d.showable = true
  z : d.shown.length ≤ b
  d : d.depth ≤ k
theorem Shw.up {b b' k k' : Nat} {d : PyData} (h : Shw b k d) (hb : b ≤ b') (hk : k ≤ k') : Shw b' k' d := ⟨h.s, Nat.le_trans h.z hb, Nat.le_trans h.d hk⟩
theorem shw_all {b k : Nat} : ∀ ds : List PyData, (∀ d ∈ ds, Shw b k d) → PyData.showableAll ds = true ∧ PyData.depthAll ds ≤ k ∧ (∀ t ∈ PyData.shownAll ds, t.length ≤ b) ∧ (PyData.shownAll ds).length = ds.length
  | [], _ => ⟨by simp only [PyData.showableAll], by simp only [PyData.depthAll]; omega, (fun t h => by simp only [PyData.shownAll] at h; exact nomatch h), by simp only [PyData.shownAll]; rfl⟩
  | d :: ds, h => by
    have h1 := h d (List.mem_cons_self ..)
    obtain ⟨a, b, c, e⟩ := shw_all ds fun x hx => h x (List.mem_cons_of_mem _ hx)
    refine ⟨by simp only [PyData.showableAll, h1.s, a, Bool.and_self], ?_, fun t ht => ?_, ?_⟩
    · simp only [PyData.depthAll]
      exact Nat.max_le.mpr ⟨h1.d, b⟩
    · simp only [PyData.shownAll, List.mem_cons] at ht
      rcases ht with rfl | ht
      · exact h1.z
      · exact c t ht
    · simp only [PyData.shownAll, List.length_cons, e]
theorem shw_tup {b k n : Nat} {ds : List PyData} (h : ∀ d ∈ ds, Shw b k d) (hl : ds.length ≤ n) : Shw (n * (b + 2) + 3) (k + 1) (.tuple ds) := by
  obtain ⟨a, dd, c, e⟩ := shw_all ds h
  refine ⟨by simp only [PyData.showable, a], ?_, by simp only [PyData.depth]; omega⟩
  simp only [PyData.shown]
  have h1 := tupleText_le (PyData.shownAll ds)
  have h2 := piled_le _ c
  have h3 : (PyData.shownAll ds).length * (b + 2) ≤ n * (b + 2) := Nat.mul_le_mul_right _ (by omega)
  omega
theorem shw_lst {b k n : Nat} {ds : List PyData} (h : ∀ d ∈ ds, Shw b k d) (hl : ds.length ≤ n) : Shw (n * (b + 2) + 3) (k + 1) (.list ds) := by
  obtain ⟨a, dd, c, e⟩ := shw_all ds h
  refine ⟨by simp only [PyData.showable, a], ?_, by simp only [PyData.depth]; omega⟩
  simp only [PyData.shown]
  have h1 := listText_le (PyData.shownAll ds)
  have h2 := piled_le _ c
  have h3 : (PyData.shownAll ds).length * (b + 2) ≤ n * (b + 2) := Nat.mul_le_mul_right _ (by omega)
  omega
theorem shw_map {α : Type} {b k n : Nat} {f : α → PyData} {l : List α} (h : ∀ x ∈ l, Shw b k (f x)) (hl : l.length ≤ n) : Shw (n * (b + 2) + 3) (k + 1) (.tuple (l.map f)) := shw_tup (fun d hd => by
  obtain ⟨x, hx, rfl⟩ := List.mem_map.mp hd
  exact h x hx) (by rw [List.length_map]; exact hl)
theorem shw_bl (b : Bool) : Shw 5 0 (.bool b) := by cases b <;> exact ⟨rfl, by decide, Nat.le_refl _⟩
theorem shw_nm {x : Str} (h : Nm x) : Shw 82 0 (.str x) := by
  refine ⟨rfl, ?_, Nat.le_refl _⟩
  simp only [PyData.shown]
  have := StrLaws.reprText_len x fun c hc => Nat.lt_of_le_of_lt (h.az c hc).2 (by decide)
  have := h.hi
  omega
theorem shw_nms {xs : List Str} (h : ∀ x ∈ xs, Nm x) (hl : xs.length ≤ 6) : Shw 507 1 (nmsD xs) := shw_map (n := 6) (fun x hx => shw_nm (h x hx)) hl
theorem shw_say {c : Nat} {s : Say} (ok : SayOk 6 8 c 40 s) : Shw 300000 5 s.d := by
  have hp : Shw 507 1 (nmsD s.picks) := shw_nms ok.pn ok.pl
  have ho : Shw 8187 3 (.tuple (s.owns.map ownD)) := shw_map (b := 1021) (k := 2) (n := 8) (fun o m => by
    have og := ok.own m
    refine shw_tup (b := 507) (k := 1) (n := 2) (ds := [.str o.1, nmsD o.2]) (fun d hd => ?_) (Nat.le_refl _)
    rcases List.mem_cons.mp hd with rfl | hd
    · exact (shw_nm (ok.on o m).1).up (by decide) (by decide)
    · cases List.mem_singleton.mp hd
      exact shw_nms (fun x hx => ok.pn x ((ok.on o m).2.2.2 x hx)) (Nat.le_trans og.le ok.pl)) ok.ol
  have hn : ∀ x ∈ s.names, Nm x := fun x hx => by
    rcases List.mem_append.mp hx with m | m
    · exact ok.pn x m
    · obtain ⟨o, mo, rfl⟩ := List.mem_map.mp m
      exact (ok.on o mo).1
  have hc : Shw 97083 3 (.tuple (s.cls.map clD)) := shw_map (b := 2425) (k := 2) (n := 40) (fun cl m => by
    have ck := ok.ck cl m
    have lc : cl.length ≤ 14 := Nat.le_trans (cl_len ck) ok.nlen
    refine shw_map (b := 171) (k := 1) (n := 14) (fun l ml => ?_) lc
    refine shw_tup (b := 82) (k := 0) (n := 2) (ds := [.str l.1, .bool l.2]) (fun d hd => ?_) (Nat.le_refl _)
    rcases List.mem_cons.mp hd with rfl | hd
    · exact shw_nm (hn _ (ck.mem l ml))
    · cases List.mem_singleton.mp hd
      exact (shw_bl _).up (by decide) (by decide)) ok.cl
  exact (shw_tup (b := 97083) (k := 3) (n := 3) (ds := [nmsD s.picks, .tuple (s.owns.map ownD), .tuple (s.cls.map clD)]) (fun d hd => by
    rcases List.mem_cons.mp hd with rfl | hd
    · exact hp.up (by decide) (by decide)
    rcases List.mem_cons.mp hd with rfl | hd
    · exact ho.up (by decide) (by decide)
    · cases List.mem_singleton.mp hd
      exact hc) (Nat.le_refl _)).up (by decide) (by decide)
end S1

set_option Elab.async false
set_option linter.all false
set_option maxRecDepth 100000
set_option maxHeartbeats 4000000
/-! a call of a def by keywords alone -/
namespace S1
open PySem PySem.W PySem.Spec PyProof.Rows L2
/-- how a call by keywords alone binds: g puts their values in the parameters' order -/
structure KB0 (K : PySem.W.Frag) (fd : FuncData) (ps ks : List Str) (g : List Value → List Value) (gV : List V → List V) : Prop where
  to : ∀ (s : Shared) (ws : List Value), K.In s.heap → ws.length = ks.length → BindsTo s fd ⟨[], ks.zip ws⟩ (ps.zip (g ws))
  rel : ∀ {zs : List V} {ws : List Value}, Vals zs ws → Vals (gV zs) (g ws)
def tCallK0 (sp : Sp) (gV : List V → List V) (n : Nat) (E : XK) (tk : TA) : TE := fun σ H Q => tk σ H fun zs H2 => zs.length = n ∧ sp (gV zs) H2 Q E
section
variable {X : Cx} {CX : CXT} {k : Nat} {f : Addr} {fd : FuncData} {ps ks : List Str} {sp : Sp} {E : XK} {x : Str} {p pos : Pos} {kws : List Keyword} {tk : TA} {g : List Value → List Value} {gV : List V → List V}
theorem run_fnk0 {pins : List (Addr × Obj)} {σ : L2.St} {H : Hp} {s : Shared} {Q : VK} {ws : List Value} {zs : List V} (F : FnOk X.prog X.w X.K X.mg X.base CX k f fd ps sp) (hr : Room k X.A) (hb : KB0 X.K fd ps ks g gV) (hx : Passes CX X E)
    (I : Inv X pins σ H s) (rz : Vals zs ws) (hn : zs.length = ks.length) (h : sp (gV zs) H Q E) : wpAny (model X.prog X.w) X.A (call (.ref f) [] (ks.zip ws)) (EP X pins σ Q) X.xe s := by
  have r2 := hb.rel rz
  have hl : ws.length = ks.length := by rw [← rz.length]; exact hn
  refine wpAny_call (codeAny_mono (F.run X.A X.stack s H ⟨[], ks.zip ws⟩ (g ws) (gV zs) Q E hr I.env0 (hb.to s ws I.kIn hl) r2 h) fun r s' hq => ?_)
  cases r with
  | error e => exact hx pins σ H s e s' I hq
  | ok fl =>
    cases fl with
    | ret u => exact I.after hq
    | next => exact False.elim hq
    | brk => exact False.elim hq
    | cont => exact False.elim hq
/-- f(k = v, ..) -/
theorem pe_callK0 (F : FnOk X.prog X.w X.K X.mg X.base CX k f fd ps sp) (hr : Room k X.A) (hg : Gl X x) (hm : X.mg x = some (.ref f)) (hk : PySem.W.keepIn X.K (.ref f) = true) (hb : KB0 X.K fd ps ks g gV) (hx : Passes CX X E)
    (hkw : PK X kws tk) (hall : (backToKw pos (keywordEach kws X.env)).all (·.1.isSome) = true := by rfl) (hks : (backToKw pos (keywordEach kws X.env)).filterMap (·.1) = ks := by rfl)
    (hdb : (x == ("__debug__" : Str)) = false := by decide)
    (hpl : ((backTo pos (starEach [] X.env)).any (·.1) || (backToKw pos (keywordEach kws X.env)).any (·.1.isNone)) = false := by rfl) :
    PE X (.Call (.Name x p) [] kws pos) (tCallK0 sp gV ks.length E tk) := by
  refine ⟨fun pins s σ H Q I h => ?_⟩
  refine wpAny_Call_Name_kw (ld_glob I hg hm ?_ hdb)
  refine PySem.W.callWith_KW0 (h₀ := X.base) I.ok.mod.kin hk hall (thn (hkw.run pos pins s σ H _ I h) fun ws s2 ⟨zs, H2, I2, rz, hn, q2⟩ => ⟨I2.kIn, ?_⟩) hpl
  rw [hks]
  exact run_fnk0 F hr hb hx I2 rz hn q2
end
section
variable {K : PySem.W.Frag}
theorem vals_rev {zs : List V} {ws : List Value} (h : Vals zs ws) : Vals zs.reverse ws.reverse := by
  induction h with
  | nil => exact .nil
  | cons a b ih =>
    rw [List.reverse_cons, List.reverse_cons]
    exact Vals.append ih (.cons a .nil)
/-- the keywords in the parameters' order -/
theorem Fun.kb1 {x qual a : Str} {st : Stmt} {f : Addr} {fd : FuncData} (F : Fun K x qual st f fd)
    (h : ∀ (kV doc pm : Value) (an : Option Addr) (cdv ct u : Value), bindArgs (PySem.W.fnOf x qual (defArgs st) (defBody st) (defScope st) .none kV doc pm an cdv ct) ⟨[], [(a, u)]⟩ = pure [(a, u)]) : KB0 K fd [a] [a] id id := by
  obtain ⟨oc, od, kV, doc, pm, an, cdv, ct, osl, rfl, lk, hcd⟩ := F.ex
  refine ⟨fun s ws X l => ?_, fun r => r⟩
  match ws, l with
  | [u], _ => exact .of_eq (h kV doc pm an cdv ct u)
/-- three keywords, the last first -/
theorem Fun.kb3 {x qual a b c : Str} {st : Stmt} {f : Addr} {fd : FuncData} (F : Fun K x qual st f fd)
    (h : ∀ (kV doc pm : Value) (an : Option Addr) (cdv ct u v z : Value), bindArgs (PySem.W.fnOf x qual (defArgs st) (defBody st) (defScope st) .none kV doc pm an cdv ct) ⟨[], [(c, u), (b, v), (a, z)]⟩ = pure [(a, z), (b, v), (c, u)]) : KB0 K fd [a, b, c] [c, b, a] List.reverse List.reverse := by
  obtain ⟨oc, od, kV, doc, pm, an, cdv, ct, osl, rfl, lk, hcd⟩ := F.ex
  refine ⟨fun s ws X l => ?_, fun r => ?_⟩
  · match ws, l with
    | [u, v, z], _ => exact .of_eq (h kV doc pm an cdv ct u v z)
  · exact vals_rev r
end
end S1

set_option Elab.async false
set_option linter.all false
set_option maxRecDepth 100000
set_option maxHeartbeats 4000000
/-! what is told, and what is due, are alike; it may be shown -/
namespace S1
open PySem PySem.W PySem.Spec PyProof.Rows L2
theorem rise_unique {α : Type} {r : α → α → Prop} (irr : ∀ x, ¬ r x x) (tr : ∀ {x y z}, r x y → r y z → r x z) : ∀ {xs ys : List α}, xs.Pairwise r → ys.Pairwise r → (∀ x, x ∈ xs ↔ x ∈ ys) → xs = ys
  | [], [], _, _, _ => rfl
  | [], y :: ys, _, _, h => absurd ((h y).mpr List.mem_cons_self) (by simp)
  | x :: xs, [], _, _, h => absurd ((h x).mp List.mem_cons_self) (by simp)
  | x :: xs, y :: ys, h1, h2, h => by
    obtain ⟨a1, a2⟩ := List.pairwise_cons.mp h1
    obtain ⟨b1, b2⟩ := List.pairwise_cons.mp h2
    have e : x = y := by
      rcases List.mem_cons.mp ((h x).mp List.mem_cons_self) with z | z
      · exact z
      · rcases List.mem_cons.mp ((h y).mpr List.mem_cons_self) with w | w
        · exact w.symm
        · exact absurd (tr (b1 x z) (a1 y w)) (irr y)
    subst e
    congr 1
    refine rise_unique irr tr a2 b2 fun z => ⟨fun hz => ?_, fun hz => ?_⟩
    · rcases List.mem_cons.mp ((h z).mp (List.mem_cons_of_mem _ hz)) with w | w
      · subst w
        exact absurd (a1 z hz) (irr z)
      · exact w
    · rcases List.mem_cons.mp ((h z).mpr (List.mem_cons_of_mem _ hz)) with w | w
      · subst w
        exact absurd (b1 z hz) (irr z)
      · exact w
theorem RchOk.uniq {s : Say} {ws : List Str} {l0 : Ltr} {L M : List Ltr} (h1 : RchOk s ws l0 L) (h2 : RchOk s ws l0 M) : L = M :=
  rise_unique (r := ltLt) (fun x z => by unfold ltLt at z; rw [dataLt_irrefl] at z; cases z) (fun {x y z} a b => dataLt_trans a b) h1.up h2.up fun m => (h1.mem m).trans (h2.mem m).symm
theorem IdleAll.uniq {s : Say} {L M : List Pr} (h1 : IdleAll s L) (h2 : IdleAll s M) : L = M :=
  rise_unique (r := prLt) (fun x z => by unfold prLt at z; rw [dataLt_irrefl] at z; cases z) (fun {x y z} a b => dataLt_trans a b) h1.up h2.up fun m => (h1.mem m).trans (h2.mem m).symm
theorem Reach.univ {s : Say} (ok : SayOk 6 8 120 40 s) {ws : List Str} {l0 m : Ltr} (h : Reach s ws l0 m) : m ∈ univ s := by
  cases h with
  | start h => exact bes_univ ok h
  | step _ h => exact bes_univ ok h
theorem rpr_of {b k : Nat} {d : PyData} (h : Shw b k d) (hb : b ≤ 16000000) (hk : k ≤ 50) : Rpr d := ⟨h.s, Nat.le_trans h.d hk, Nat.le_trans h.z (Nat.le_trans hb (by decide))⟩
theorem ltLt_nd {L : List Ltr} (h : L.Pairwise ltLt) : L.Nodup := h.imp fun {a b} z e => by
  unfold ltLt at z
  rw [e, dataLt_irrefl] at z
  cases z
theorem RchOk.len {s : Say} (ok : SayOk 6 8 120 40 s) {ws : List Str} {l0 : Ltr} {L : List Ltr} (h : RchOk s ws l0 L) : L.length ≤ 28 := by
  have z := nodup_le (m := S1.univ s) (ltLt_nd h.up) fun m hm => ((h.mem m).mp hm).univ ok
  have y := univ_len s.names
  have x := ok.nlen
  unfold S1.univ at z
  omega
theorem RchOk.nm {s : Say} (ok : SayOk 6 8 120 40 s) {ws : List Str} {l0 : Ltr} {L : List Ltr} (h : RchOk s ws l0 L) {m : Ltr} (hm : m ∈ L) : Nm m.1 := by
  have z := ((h.mem m).mp hm).univ ok
  unfold S1.univ at z
  obtain ⟨n, hn, hz⟩ := List.mem_flatMap.mp z
  have e : m.1 = n := by
    rcases List.mem_cons.mp hz with rfl | hz
    · rfl
    · cases List.mem_singleton.mp hz
      rfl
  rw [e]
  exact ok.nm n hn
theorem RchOk.rpr {s : Say} (ok : SayOk 6 8 120 40 s) {ws : List Str} {l0 : Ltr} {L : List Ltr} (h : RchOk s ws l0 L) : Rpr (clD L) := by
  refine rpr_of (shw_map (b := 171) (k := 1) (n := 28) (f := ltD) (fun l ml => ?_) (h.len ok)) (by decide) (by decide)
  refine shw_tup (b := 82) (k := 0) (n := 2) (ds := [.str l.1, .bool l.2]) (fun d hd => ?_) (Nat.le_refl _)
  rcases List.mem_cons.mp hd with rfl | hd
  · exact shw_nm (h.nm ok ml)
  · cases List.mem_singleton.mp hd
    exact (shw_bl _).up (by decide) (by decide)
theorem rpr_bl (b : Bool) : Rpr (.bool b) := rpr_of (shw_bl b) (by decide) (by decide)
theorem prLt_nd {L : List Pr} (h : L.Pairwise prLt) : L.Nodup := h.imp fun {a b} z e => by
  unfold prLt at z
  rw [e, dataLt_irrefl] at z
  cases z
theorem vw_sub {s : Say} {x n : Str} (h : n ∈ vw s x) : n ∈ s.owns.map Prod.fst := by
  unfold vw at h
  obtain ⟨o, ho, rfl⟩ := List.mem_map.mp h
  exact List.mem_map_of_mem (List.mem_filter.mp ho).1
theorem pairs_len : ∀ (ps ns : List Str), (ps.flatMap fun x => ns.map fun n => ((n, x) : Pr)).length = ps.length * ns.length
  | [], ns => by simp
  | p :: ps, ns => by
    rw [List.flatMap_cons, List.length_append, pairs_len ps ns, List.length_map, List.length_cons, Nat.succ_mul]
    omega
theorem IdleAll.len {s : Say} (ok : SayOk 6 8 120 40 s) {L : List Pr} (h : IdleAll s L) : L.length ≤ 48 := by
  have z := nodup_le (m := s.picks.flatMap fun x => (s.owns.map Prod.fst).map fun n => (n, x)) (prLt_nd h.up) fun q hq => by
    obtain ⟨a, b, _⟩ := (h.mem q).mp hq
    exact List.mem_flatMap.mpr ⟨q.2, a, List.mem_map.mpr ⟨q.1, vw_sub b, rfl⟩⟩
  rw [pairs_len, List.length_map] at z
  have h1 := ok.pl
  have h2 := ok.ol
  have : s.picks.length * s.owns.length ≤ 6 * 8 := Nat.mul_le_mul h1 h2
  omega
theorem IdleAll.rpr {s : Say} (ok : SayOk 6 8 120 40 s) {L : List Pr} (h : IdleAll s L) : Rpr (.list (L.map prD)) := by
  refine rpr_of (shw_lst (b := 171) (k := 1) (n := 48) (fun d hd => ?_) (by rw [List.length_map]; exact h.len ok)) (by decide) (by decide)
  obtain ⟨q, hq, rfl⟩ := List.mem_map.mp hd
  obtain ⟨a, b, _⟩ := (h.mem q).mp hq
  refine shw_tup (b := 82) (k := 0) (n := 2) (ds := [.str q.1, .str q.2]) (fun d hd => ?_) (Nat.le_refl _)
  rcases List.mem_cons.mp hd with rfl | hd
  · obtain ⟨o, ho, e⟩ := List.mem_map.mp (vw_sub b)
    rw [← e]
    exact shw_nm (ok.on o ho).1
  · cases List.mem_singleton.mp hd
    exact shw_nm (ok.pn _ a)
end S1

set_option Elab.async false
set_option linter.all false
set_option maxRecDepth 100000
set_option maxHeartbeats 4000000
/-! chains of letters: what is reached from either end, and what hangs -/
namespace S3
open PySem PySem.W PySem.Spec PyProof.Rows L2 S1
/-- the letter that stands ahead of the i-th one, and the i-th one -/
def ahd (x : Str) (L : List Ltr) (w : List Nat) : Nat → Ltr
  | 0 => (x, true)
  | i + 1 => if i ∈ w then L.getD i (x, true) else neg (L.getD i (x, true))
def nxt (x : Str) (L : List Ltr) (i : Nat) : Ltr := L.getD i (x, false)
theorem neg_ne (l : Ltr) : neg l ≠ l := fun z => by
  have h := congrArg Prod.snd z
  obtain ⟨n, t⟩ := l
  revert h
  cases t <;> exact fun h => nomatch h
theorem neg_neg (l : Ltr) : neg (neg l) = l := by
  unfold neg
  rw [Bool.not_not]
structure Chn (s : Say) (x : Str) (L : List Ltr) (w : List Nat) : Prop where
  xp : x ∈ s.picks
  nd : (L.map Prod.fst).Nodup
  on : ∀ l ∈ L, l.1 ∈ s.owns.map Prod.fst
  ch : ∀ i, i ≤ L.length → ∃ cl ∈ s.cls, ahd x L w i ∈ cl ∧ nxt x L i ∈ cl
  cl : ∀ cl ∈ s.cls, (∃ i, i ≤ L.length ∧ ∀ m ∈ cl, m = ahd x L w i ∨ m = nxt x L i) ∨ (∃ y ∈ s.picks, y ≠ x ∧ ∃ o : Ltr, ∀ m ∈ cl, m.1 = y ∨ m = o)
/-- reached from the letter True, from the letter False -/
def RF (ws : List Str) (L : List Ltr) (w : List Nat) (m : Ltr) : Prop := ∃ i, L[i]? = some m ∧ (∀ j l, j ≤ i → L[j]? = some l → l.1 ∈ ws) ∧ ∀ j, j < i → j ∉ w
def RB (x : Str) (ws : List Str) (L : List Ltr) (w : List Nat) (m : Ltr) : Prop := ∃ i, i < L.length ∧ m = ahd x L w (i + 1) ∧ (∀ j l, i ≤ j → L[j]? = some l → l.1 ∈ ws) ∧ ∀ j, i < j → j < L.length → j ∉ w
section
variable {s : Say} {x : Str} {L : List Ltr} {w : List Nat}
theorem vw_own {y : Str} (h : y ∈ vw s x) : y ∈ s.owns.map Prod.fst := vw_sub h
theorem own_pick {a b c d : Nat} (ok : SayOk a b c d s) {y : Str} (h : y ∈ s.owns.map Prod.fst) : y ∉ s.picks := by
  obtain ⟨o, ho, rfl⟩ := List.mem_map.mp h
  exact (ok.on o ho).2.1
theorem at_uniq {i j : Nat} {l m : Ltr} (nd : (L.map Prod.fst).Nodup) (hi : L[i]? = some l) (hj : L[j]? = some m) (e : l.1 = m.1) : i = j := by
  have h1 : (L.map Prod.fst)[i]? = some l.1 := by rw [List.getElem?_map, hi]; rfl
  have h2 : (L.map Prod.fst)[j]? = some m.1 := by rw [List.getElem?_map, hj]; rfl
  rw [e] at h1
  have li : i < (L.map Prod.fst).length := (List.getElem?_eq_some_iff.mp h1).1
  exact (List.getElem?_inj li nd).mp (h1.trans h2.symm)
theorem nxt_at {i : Nat} {l : Ltr} (h : L[i]? = some l) : nxt x L i = l := by
  unfold nxt
  rw [List.getD_eq_getElem?_getD, h]
  rfl
theorem nxt_end : nxt x L L.length = (x, false) := by
  unfold nxt
  rw [List.getD_eq_getElem?_getD, List.getElem?_eq_none (Nat.le_refl _)]
  rfl
theorem ahd_at {i : Nat} {l : Ltr} (h : L[i]? = some l) : ahd x L w (i + 1) = if i ∈ w then l else neg l := by
  show (if i ∈ w then L.getD i (x, true) else neg (L.getD i (x, true))) = _
  rw [List.getD_eq_getElem?_getD, h]
  rfl
theorem ahd_fst {i : Nat} {l : Ltr} (h : L[i]? = some l) : (ahd x L w (i + 1)).1 = l.1 := by
  rw [ahd_at h]
  split <;> rfl
/-- two letters beside one another, the second one of a viewer, the first one not of another pick -/
theorem Chn.beside (C : Chn s x L w) {a b c d : Nat} (ok : SayOk a b c d s) {l m : Ltr} (h : m ∈ bes s (vw s x) l) (hl : l.1 = x ∨ l.1 ∉ s.picks) : ∃ i, i ≤ L.length ∧ ((l = ahd x L w i ∧ m = nxt x L i) ∨ (l = nxt x L i ∧ m = ahd x L w i)) := by
  obtain ⟨cl, hcl, h1, h2, ne, hw⟩ := bes_mem h
  rcases C.cl cl hcl with ⟨i, hi, z⟩ | ⟨y, hy, yx, o, z⟩
  · refine ⟨i, hi, ?_⟩
    rcases z l h1 with e1 | e1 <;> rcases z m h2 with e2 | e2
    · exact absurd (e2.trans e1.symm) ne
    · exact .inl ⟨e1, e2⟩
    · exact .inr ⟨e1, e2⟩
    · exact absurd (e2.trans e1.symm) ne
  · rcases z m h2 with e2 | e2
    · exact absurd hy (own_pick ok (by rw [← e2]; exact vw_own hw))
    · rcases z l h1 with e1 | e1
      · rcases hl with hl | hl
        · exact absurd (e1.symm.trans hl) yx
        · exact absurd (by rw [e1]; exact hy) hl
      · exact absurd (e2.trans e1.symm) ne
theorem Chn.near (C : Chn s x L w) {i : Nat} (hi : i ≤ L.length) (ne : ahd x L w i ≠ nxt x L i) : (∀ m, m = nxt x L i → m.1 ∈ vw s x → m ∈ bes s (vw s x) (ahd x L w i)) ∧ (∀ m, m = ahd x L w i → m.1 ∈ vw s x → m ∈ bes s (vw s x) (nxt x L i)) := by
  obtain ⟨cl, hcl, h1, h2⟩ := C.ch i hi
  exact ⟨fun m e hm => bes_of hcl h1 (e ▸ h2) (e ▸ ne.symm) hm, fun m e hm => bes_of hcl h2 (e ▸ h1) (e ▸ ne) hm⟩
theorem Chn.x_vw (C : Chn s x L w) {a b c d : Nat} (ok : SayOk a b c d s) {y : Str} (h : y ∈ vw s x) : y ≠ x := fun z => own_pick ok (vw_own h) (z ▸ C.xp)
theorem Chn.x_L (C : Chn s x L w) {a b c d : Nat} (ok : SayOk a b c d s) {i : Nat} {l : Ltr} (h : L[i]? = some l) : l.1 ≠ x := fun z => own_pick ok (C.on l (List.mem_of_getElem? h)) (z ▸ C.xp)
theorem ahd_ne (C : Chn s x L w) {a b c d : Nat} (ok : SayOk a b c d s) {i : Nat} (hi : i ≤ L.length) : ahd x L w i ≠ nxt x L i := by
  intro z
  have z1 := congrArg Prod.fst z
  cases i with
  | zero =>
    cases h : L[0]? with
    | none =>
      have l0 : L.length = 0 := by
        have := List.getElem?_eq_none_iff.mp h
        omega
      have e := nxt_end (x := x) (L := L)
      rw [l0] at e
      rw [e] at z
      exact absurd (congrArg Prod.snd z) (by show ¬ true = false; decide)
    | some l =>
      rw [nxt_at h] at z1
      exact C.x_L ok h z1.symm
  | succ i =>
    obtain ⟨l, hl⟩ : ∃ l, L[i]? = some l := ⟨L[i]'(by omega), List.getElem?_eq_getElem (by omega)⟩
    rw [ahd_fst hl] at z1
    by_cases he : i + 1 = L.length
    · rw [he, nxt_end] at z1
      exact C.x_L ok hl z1
    · obtain ⟨m, hm⟩ : ∃ m, L[i + 1]? = some m := ⟨L[i + 1]'(by omega), List.getElem?_eq_getElem (by omega)⟩
      rw [nxt_at hm] at z1
      have := at_uniq C.nd hl hm z1
      omega
theorem Chn.reachF (C : Chn s x L w) {a b c d : Nat} (ok : SayOk a b c d s) (m : Ltr) : Reach s (vw s x) (x, true) m ↔ RF (vw s x) L w m := by
  constructor
  · intro r
    induction r with
    | @start m h =>
      obtain ⟨i, hi, z⟩ := C.beside ok h (.inl rfl)
      have hw := (bes_mem h).choose_spec.2.2.2.2
      rcases z with ⟨e1, e2⟩ | ⟨e1, e2⟩
      · cases i with
        | zero =>
          cases hm : L[0]? with
          | none =>
            have l0 : L.length = 0 := by
              have := List.getElem?_eq_none_iff.mp hm
              omega
            have e := nxt_end (x := x) (L := L)
            rw [l0] at e
            rw [e] at e2
            exact absurd (by rw [e2]) (C.x_vw ok hw)
          | some l =>
            rw [nxt_at hm] at e2
            subst e2
            refine ⟨0, hm, fun j l' hj h' => ?_, fun j hj => by omega⟩
            have j0 : j = 0 := by omega
            subst j0
            rw [hm] at h'
            cases h'
            exact hw
        | succ i =>
          obtain ⟨l, hl⟩ : ∃ l, L[i]? = some l := ⟨L[i]'(by omega), List.getElem?_eq_getElem (by omega)⟩
          have := congrArg Prod.fst e1
          rw [ahd_fst hl] at this
          exact absurd this.symm (C.x_L ok hl)
      · by_cases he : i = L.length
        · rw [he, nxt_end] at e1
          exact absurd (congrArg Prod.snd e1) (by show ¬ true = false; decide)
        · obtain ⟨l, hl⟩ : ∃ l, L[i]? = some l := ⟨L[i]'(by omega), List.getElem?_eq_getElem (by omega)⟩
          rw [nxt_at hl] at e1
          exact absurd (congrArg Prod.fst e1).symm (C.x_L ok hl)
    | @step l m r h ih =>
      obtain ⟨k, hk, hws, hnw⟩ := ih
      have hw := (bes_mem h).choose_spec.2.2.2.2
      have lo : (neg l).1 ∉ s.picks := own_pick ok (C.on l (List.mem_of_getElem? hk))
      obtain ⟨i, hi, z⟩ := C.beside ok h (.inr lo)
      rcases z with ⟨e1, e2⟩ | ⟨e1, e2⟩
      · cases i with
        | zero => exact absurd (show l.1 = x from congrArg Prod.fst e1) (C.x_L ok hk)
        | succ i =>
          obtain ⟨l', hl'⟩ : ∃ l, L[i]? = some l := ⟨L[i]'(by omega), List.getElem?_eq_getElem (by omega)⟩
          have f := congrArg Prod.fst e1
          rw [ahd_fst hl'] at f
          have ik := at_uniq C.nd hk hl' f
          subst ik
          rw [hk] at hl'
          cases hl'
          rw [ahd_at hk] at e1
          have nw : k ∉ w := fun z => by
            rw [if_pos z] at e1
            exact neg_ne l e1
          cases hm : L[k + 1]? with
          | none =>
            have l0 : L.length = k + 1 := by
              have := List.getElem?_eq_none_iff.mp hm
              omega
            rw [← l0, nxt_end] at e2
            exact absurd (by rw [e2]) (C.x_vw ok hw)
          | some l2 =>
            rw [nxt_at hm] at e2
            subst e2
            refine ⟨k + 1, hm, fun j l' hj h' => ?_, fun j hj => ?_⟩
            · by_cases hjk : j ≤ k
              · exact hws j l' hjk h'
              · have : j = k + 1 := by omega
                subst this
                rw [hm] at h'
                cases h'
                exact hw
            · by_cases hjk : j < k
              · exact hnw j hjk
              · have : j = k := by omega
                exact this ▸ nw
      · by_cases he : i = L.length
        · rw [he, nxt_end] at e1
          exact absurd (show l.1 = x from congrArg Prod.fst e1) (C.x_L ok hk)
        · obtain ⟨l', hl'⟩ : ∃ l, L[i]? = some l := ⟨L[i]'(by omega), List.getElem?_eq_getElem (by omega)⟩
          rw [nxt_at hl'] at e1
          have ik := at_uniq C.nd hk hl' (by have z := congrArg Prod.fst e1; exact z)
          subst ik
          rw [hk] at hl'
          cases hl'
          exact absurd e1 (neg_ne l)
  · rintro ⟨i, hi, hws, hnw⟩
    induction i generalizing m with
    | zero =>
      have n := (C.near (i := 0) (Nat.zero_le _) (ahd_ne C ok (Nat.zero_le _))).1 m (nxt_at hi).symm (hws 0 m (Nat.le_refl _) hi)
      exact .start n
    | succ i ih =>
      have li : i + 1 < L.length := (List.getElem?_eq_some_iff.mp hi).1
      obtain ⟨l, hl⟩ : ∃ l, L[i]? = some l := ⟨L[i]'(by omega), List.getElem?_eq_getElem (by omega)⟩
      have r := ih l hl (fun j l' hj h' => hws j l' (by omega) h') (fun j hj => hnw j (by omega))
      have n := (C.near (i := i + 1) (by omega) (ahd_ne C ok (by omega))).1 m (nxt_at hi).symm (hws (i + 1) m (Nat.le_refl _) hi)
      rw [ahd_at hl, if_neg (hnw i (by omega))] at n
      exact .step r n
theorem Chn.reachB (C : Chn s x L w) {a b c d : Nat} (ok : SayOk a b c d s) (m : Ltr) : Reach s (vw s x) (x, false) m ↔ RB x (vw s x) L w m := by
  have back : ∀ {i : Nat} {m : Ltr}, i ≤ L.length → m = ahd x L w i → m.1 ∈ vw s x → (∀ j l, i ≤ j → L[j]? = some l → l.1 ∈ vw s x) → (∀ j, i ≤ j → j < L.length → j ∉ w) → RB x (vw s x) L w m := fun {i m} hi e hw h1 h2 => by
    cases i with
    | zero => exact absurd (by rw [e]; rfl) (C.x_vw ok hw)
    | succ i =>
      obtain ⟨l, hl⟩ : ∃ l, L[i]? = some l := ⟨L[i]'(by omega), List.getElem?_eq_getElem (by omega)⟩
      refine ⟨i, by omega, e, fun j l' hj h' => ?_, fun j hj hl => h2 j hj hl⟩
      by_cases ij : i + 1 ≤ j
      · exact h1 j l' ij h'
      · have : j = i := by omega
        subst this
        rw [hl] at h'
        cases h'
        rw [e, ahd_fst hl] at hw
        exact hw
  constructor
  · intro r
    induction r with
    | @start m h =>
      obtain ⟨i, hi, z⟩ := C.beside ok h (.inl rfl)
      have hw := (bes_mem h).choose_spec.2.2.2.2
      rcases z with ⟨e1, e2⟩ | ⟨e1, e2⟩
      · cases i with
        | zero => exact absurd (congrArg Prod.snd e1) (by show ¬ false = true; decide)
        | succ i =>
          obtain ⟨l, hl⟩ : ∃ l, L[i]? = some l := ⟨L[i]'(by omega), List.getElem?_eq_getElem (by omega)⟩
          have := congrArg Prod.fst e1
          rw [ahd_fst hl] at this
          exact absurd this.symm (C.x_L ok hl)
      · by_cases he : i = L.length
        · refine back hi e2 hw (fun j l hj hl => ?_) (fun j hj hl => by omega)
          have := (List.getElem?_eq_some_iff.mp hl).1
          omega
        · obtain ⟨l, hl⟩ : ∃ l, L[i]? = some l := ⟨L[i]'(by omega), List.getElem?_eq_getElem (by omega)⟩
          rw [nxt_at hl] at e1
          exact absurd (congrArg Prod.fst e1).symm (C.x_L ok hl)
    | @step l m r h ih =>
      obtain ⟨k, lk, el, hws, hnw⟩ := ih
      have hw := (bes_mem h).choose_spec.2.2.2.2
      obtain ⟨q, hk⟩ : ∃ l, L[k]? = some l := ⟨L[k]'(by omega), List.getElem?_eq_getElem (by omega)⟩
      have fl : l.1 = q.1 := by rw [el, ahd_fst hk]
      have lo : (neg l).1 ∉ s.picks := by
        show l.1 ∉ s.picks
        rw [fl]
        exact own_pick ok (C.on q (List.mem_of_getElem? hk))
      obtain ⟨i, hi, z⟩ := C.beside ok h (.inr lo)
      rcases z with ⟨e1, e2⟩ | ⟨e1, e2⟩
      · cases i with
        | zero =>
          refine absurd (congrArg Prod.fst e1) ?_
          show ¬ l.1 = x
          rw [fl]
          exact C.x_L ok hk
        | succ i =>
          obtain ⟨l', hl'⟩ : ∃ l, L[i]? = some l := ⟨L[i]'(by omega), List.getElem?_eq_getElem (by omega)⟩
          have f := congrArg Prod.fst e1
          rw [ahd_fst hl'] at f
          have ik := at_uniq C.nd hk hl' (fl.symm.trans f)
          subst ik
          rw [← el] at e1
          exact absurd e1 (neg_ne l)
      · by_cases he : i = L.length
        · rw [he, nxt_end] at e1
          refine absurd (congrArg Prod.fst e1) ?_
          show ¬ l.1 = x
          rw [fl]
          exact C.x_L ok hk
        · obtain ⟨l', hl'⟩ : ∃ l, L[i]? = some l := ⟨L[i]'(by omega), List.getElem?_eq_getElem (by omega)⟩
          rw [nxt_at hl'] at e1
          have ik := at_uniq C.nd hk hl' (fl.symm.trans (by have z := congrArg Prod.fst e1; exact z))
          subst ik
          rw [hk] at hl'
          cases hl'
          have nw : k ∉ w := fun z => by
            rw [ahd_at hk, if_pos z] at el
            rw [el] at e1
            exact neg_ne q e1
          refine back hi e2 hw hws (fun j hj hl => ?_)
          by_cases jk : j = k
          · exact jk ▸ nw
          · exact hnw j (by omega) hl
  · rintro ⟨i, hi, e, hws, hnw⟩
    obtain ⟨c0, hc0⟩ : ∃ c0, c0 = L.length - 1 - i := ⟨_, rfl⟩
    induction c0 generalizing i m with
    | zero =>
      have ie : i + 1 = L.length := by omega
      obtain ⟨l, hl⟩ : ∃ l, L[i]? = some l := ⟨L[i]'(by omega), List.getElem?_eq_getElem (by omega)⟩
      have n := (C.near (i := i + 1) (by omega) (ahd_ne C ok (by omega))).2 m e (by rw [e, ahd_fst hl]; exact hws i l (Nat.le_refl _) hl)
      rw [ie, nxt_end] at n
      exact .start n
    | succ c0 ih =>
      obtain ⟨l, hl⟩ : ∃ l, L[i]? = some l := ⟨L[i]'(by omega), List.getElem?_eq_getElem (by omega)⟩
      obtain ⟨l2, hl2⟩ : ∃ l, L[i + 1]? = some l := ⟨L[i + 1]'(by omega), List.getElem?_eq_getElem (by omega)⟩
      have r := ih (ahd x L w (i + 2)) (i + 1) (by omega) rfl (fun j l' hj h' => hws j l' (by omega) h') (fun j hj hl => hnw j (by omega) hl) (by omega)
      have n := (C.near (i := i + 1) (by omega) (ahd_ne C ok (by omega))).2 m e (by rw [e, ahd_fst hl]; exact hws i l (Nat.le_refl _) hl)
      rw [nxt_at hl2] at n
      rw [ahd_at hl2, if_neg (hnw (i + 1) (by omega) (by omega))] at r
      refine .step r ?_
      rw [neg_neg]
      exact n
/-- nothing breaks the chain -/
def whl (ws : List Str) (L : List Ltr) (w : List Nat) : Prop := ∀ i l, L[i]? = some l → l.1 ∈ ws ∧ i ∉ w
theorem Chn.hang (C : Chn s x L w) {a b c d : Nat} (ok : SayOk a b c d s) (n : Str) : hangR s x n ↔ whl (vw s x) L w ∧ n ∈ L.map Prod.fst := by
  have key : ∀ t, (RF (vw s x) L w (n, t) ∧ RB x (vw s x) L w (n, !t)) ↔ (whl (vw s x) L w ∧ (n, t) ∈ L) := fun t => by
    constructor
    · rintro ⟨⟨i, hi, h1, h2⟩, ⟨k, hk, e, h3, h4⟩⟩
      obtain ⟨q, hq⟩ : ∃ l, L[k]? = some l := ⟨L[k]'(by omega), List.getElem?_eq_getElem (by omega)⟩
      have f := congrArg Prod.fst e
      rw [ahd_fst hq] at f
      have ik := at_uniq C.nd hi hq f
      subst ik
      rw [hi] at hq
      cases hq
      have nw : i ∉ w := fun z => by
        rw [ahd_at hi, if_pos z] at e
        exact absurd (show (!t) = t from congrArg Prod.snd e) (by cases t <;> decide)
      refine ⟨fun j l hl => ?_, List.mem_of_getElem? hi⟩
      have lj := (List.getElem?_eq_some_iff.mp hl).1
      rcases Nat.lt_trichotomy j i with z | z | z
      · exact ⟨h1 j l (by omega) hl, h2 j z⟩
      · subst z
        exact ⟨h1 j l (by omega) hl, nw⟩
      · exact ⟨h3 j l (by omega) hl, h4 j z lj⟩
    · rintro ⟨wh, hm⟩
      obtain ⟨i, hi⟩ := List.getElem?_of_mem hm
      have li := (List.getElem?_eq_some_iff.mp hi).1
      refine ⟨⟨i, hi, fun j l _ hl => (wh j l hl).1, fun j hj => ?_⟩, ⟨i, li, ?_, fun j l _ hl => (wh j l hl).1, fun j _ hj => ?_⟩⟩
      · exact (wh j _ (List.getElem?_eq_getElem (show j < L.length by omega))).2
      · rw [ahd_at hi, if_neg (wh i _ hi).2]
        rfl
      · exact (wh j _ (List.getElem?_eq_getElem hj)).2
  unfold hangR
  rw [C.reachF ok, C.reachB ok, C.reachF ok, C.reachB ok]
  have k1 := key false
  have k2 := key true
  simp only [Bool.not_false, Bool.not_true] at k1 k2
  rw [k1, k2]
  constructor
  · rintro (⟨h, m⟩ | ⟨h, m⟩)
    · exact ⟨h, List.mem_map.mpr ⟨_, m, rfl⟩⟩
    · exact ⟨h, List.mem_map.mpr ⟨_, m, rfl⟩⟩
  · rintro ⟨h, m⟩
    obtain ⟨⟨y, t⟩, hq, rfl⟩ := List.mem_map.mp m
    cases t with
    | false => exact .inl ⟨h, hq⟩
    | true => exact .inr ⟨h, hq⟩
end
end S3

set_option Elab.async false
set_option linter.all false
set_option maxRecDepth 100000
set_option maxHeartbeats 4000000
/-! the clauses of a chain -/
namespace S3
open PySem PySem.W PySem.Spec PyProof.Rows L2 S1
def iV (i : Nat) : V := .int (i : Int)
theorem flat_iV (w : List Nat) : (w.map iV).all flatV = true := by
  rw [List.all_map, List.all_eq_true]
  exact fun _ _ => rfl
theorem inV_iV {i : Nat} {w : List Nat} : inV (.int (i : Int)) (w.map iV) = decide (i ∈ w) := by
  unfold inV
  rw [List.any_map]
  by_cases h : i ∈ w
  · rw [decide_eq_true h, List.any_eq_true]
    exact ⟨i, h, by simp [eqV, iV]⟩
  · rw [decide_eq_false h, List.any_eq_false]
    intro y hy
    simp only [Function.comp, eqV, iV]
    intro z
    have z2 : (y : Int) = (i : Int) := by simpa using z
    have z3 : y = i := by omega
    exact h (z3 ▸ hy)
/-- a clause of just two letters -/
def CP (cl : List Ltr) (a b : Ltr) : Prop := (cl.Pairwise fun p q => tlt p.1 q.1) ∧ ∀ m, m ∈ cl ↔ m = a ∨ m = b
/-- clauses that stand in a list -/
structure CLs (H : Hp) (l : Addr) (T : List TRow) (cls : List (List Ltr)) : Prop where
  e : H l = some (.lst (T.map TRow.v))
  d : T.map Prod.snd = cls.map clD
  D : ∀ q ∈ T, Dat H q.v q.2
theorem CLs.same {H H' : Hp} {l : Addr} {T : List TRow} {M : List (List Ltr)} (h : CLs H l T M) (S : Same H H') : CLs H' l T M := ⟨S _ _ h.e, h.d, fun q hq => (h.D q hq).same S⟩
theorem CLs.len {H : Hp} {l : Addr} {T : List TRow} {M : List (List Ltr)} (h : CLs H l T M) : T.length = M.length := by
  have z := congrArg List.length h.d
  rwa [List.length_map, List.length_map] at z
theorem CLs.key {H : Hp} {l : Addr} {T : List TRow} {M : List (List Ltr)} (h : CLs H l T M) {q : TRow} (hq : q ∈ T) : keyable q.2 = true := by
  have m : q.2 ∈ M.map clD := h.d ▸ List.mem_map_of_mem hq
  obtain ⟨o, _, e⟩ := List.mem_map.mp m
  rw [← e]
  exact keyable_cl o
theorem CLs.put {H : Hp} {l t : Addr} {T : List TRow} {M : List (List Ltr)} {cl : List Ltr} (h : CLs H l T M) (Dt : Dat H (.ref t) (clD cl)) : CLs (upd H l (.lst (T.map TRow.v ++ [.ref t]))) l (T ++ [(t, clD cl)]) (M ++ [cl]) := by
  refine ⟨by rw [upd_same, List.map_append]; rfl, by rw [List.map_append, List.map_append, h.d]; rfl, fun q hq => ?_⟩
  rcases List.mem_append.mp hq with z | z
  · exact dat_upd h.e (h.key z) (h.D q z)
  · cases List.mem_singleton.mp z
    exact dat_upd h.e (keyable_cl cl) Dt
theorem _root_.S1.RL.len {H : Hp} {l : Addr} {T : List TRow} {M : List Ltr} (h : RL H l T M) : T.length = M.length := by
  have z := congrArg List.length h.d
  rwa [List.length_map, List.length_map] at z
theorem _root_.S1.RL.at_ {H : Hp} {l : Addr} {T : List TRow} {M : List Ltr} (h : RL H l T M) {i : Nat} {v : V} (hv : (T.map TRow.v)[i]? = some v) : ∃ (t : Addr) (m : Ltr), v = .ref t ∧ M[i]? = some m ∧ T[i]? = some (t, ltD m) ∧ Dat H (.ref t) (ltD m) ∧ H t = some (.tup [.str m.1, .bl m.2]) := by
  rw [List.getElem?_map] at hv
  obtain ⟨⟨t, d⟩, hq, rfl⟩ := Option.map_eq_some_iff.mp hv
  have z : (T.map Prod.snd)[i]? = some d := by rw [List.getElem?_map, hq]; rfl
  rw [h.d] at z
  obtain ⟨m, hm, e⟩ := get_map z
  have e2 : d = ltD m := e
  subst e2
  have D := h.D _ (List.mem_of_getElem? hq)
  obtain ⟨b, eb, g⟩ := ltr_row (x := .ref t) D
  cases eb
  exact ⟨t, m, rfl, hm, hq, D, g⟩
/-- two letters of unlike names, sorted -/
theorem two_sorted {a b : Ltr} {t1 t2 : Addr} {T' : List TRow} (ne : a.1 ≠ b.1) (pm : T'.Perm [(t1, ltD a), (t2, ltD b)]) (up : (([(t1, ltD a), (t2, ltD b)] : List TRow).map Prod.snd).Nodup → T'.Pairwise fun p q => dataLt p.2 q.2 = true) :
    ∃ cl, T'.map Prod.snd = cl.map ltD ∧ CP cl a b := by
  obtain ⟨cl, p, e, u⟩ := letters_back (cl := [a, b]) pm rfl (by simp [ne]) up
  refine ⟨cl, e, u, fun m => ?_⟩
  rw [p.mem_iff]
  simp
theorem two_sorty {a b : Ltr} {t1 t2 : Addr} : Sorty [(t1, ltD a), (t2, ltD b)] := sorty_of (f := ltD) (l := [a, b]) rfl alike_lt (fun x => ⟨_, rfl⟩) (fun x => by have := depth_lt x; omega)
def spClauses : Sp := fun vs H Q _ => ∃ (x : Str) (lL lW : Addr) (T : List TRow) (L : List Ltr) (w : List Nat), vs = [.str x, .ref lL, .ref lW] ∧ RL H lL T L ∧ H lW = some (.lst (w.map iV)) ∧ 0 < L.length ∧ L.length ≤ 8 ∧ (L.map Prod.fst).Nodup ∧ x ∉ L.map Prod.fst ∧
  ∀ (l : Addr) (T' : List TRow) (cls : List (List Ltr)) (H' : Hp), Same H H' → H l = none → CLs H' l T' cls → cls.length = L.length + 1 → (∀ i, i ≤ L.length → ∃ cl, cls[i]? = some cl ∧ CP cl (ahd x L w i) (nxt x L i)) → Q (.ref l) H'
abbrev nCs : List Str := ["pick", "letters", "wrong", "found", "ahead", "at", "letter"]
section
variable {P : Program} {w : World} {K : PySem.W.Frag} {mg : Str → Option Value} {base : Heap}
theorem scCs : FnScope nCs ["pick", "letters", "wrong"] (defScope sLClauses) := ⟨rfl, rfl, rfl, by decide +kernel, rfl, by decide +kernel, by decide +kernel⟩
theorem ok_clauses {f : Addr} {fd : FuncData} (F : Fun K "_law_clauses" "_law_clauses" sLClauses f fd) (B : Blt mg) (en : mg "enumerate" = none) : FnOk P w K mg base CX0 1 f fd ["pick", "letters", "wrong"] spClauses := by
  refine F.ok scCs (fun vs H Q E h => ?_) (fun cdv A outer s H vs Q E hr h => ?_)
  · obtain ⟨x, lL, lW, T, L, wr, rfl, _⟩ := h
    rfl
  · obtain ⟨x, lL, lW, T, L, wr, rfl, RLL, eW, l0, l8, nd, xL, q⟩ := h
    have hu : (A.deeper (envOfC "_law_clauses" (defScope sLClauses) s.heap.objs.size f cdv)).units + 64 < cLine := hr.units
    refine ⟨_, pss_cons (ps_par (i := 3) (j := 4) rfl scCs.nd rfl rfl (by decide) rfl rfl (pa_cons (pe_lst pa_nil) (pa_cons (pe_tup (pa_cons (pv 0) (pa_cons pe_bl pa_nil))) pa_nil)) (by with_unfolding_all rfl))
      (pss_cons (ps_for PassesOwn.never rfl (pi_enum (by rfl) en (pa_cons (pv 1) pa_nil)) (pg_tup rfl (pgs_cons (pg_name (i := 5) scCs.nd rfl (.inl rfl)) (pgs_cons (pg_name (i := 6) scCs.nd rfl (.inl rfl)) pgs_nil)))
        (pss_cons (ps_expr (pe_bm PySem.F.plainAttrs_list PySem.F.slot_list_append PySem.F.type_list_append mt_append (pv 3) (pa_cons (pe_tupleOf rfl B.tuple (pe_callB (cr_sortL (by exact hu)) (by rfl) B.sorted (by decide +kernel) (pa_cons (pe_lst (pa_cons (pv 4) (pa_cons (pv 6) pa_nil))) pa_nil))) pa_nil)))
        (pss_one (ps_set (i := 4) scCs.nd rfl (.inl rfl) (pe_ifExp (pt_cmpR op_in_seq (pv 5) (pv 2) (by with_unfolding_all rfl)) (pv 6) (pe_tup (pa_cons (pe_ix ix_tup (pv 6) pe_int (fun _ _ => rfl)) (pa_cons (pe_not (pe_ix ix_tup (pv 6) pe_int (fun _ _ => rfl))) pa_nil))))))))
      (pss_one (ps_ret (pe_op op_cat (pv 3) (pe_lst (pa_cons (pe_tupleOf rfl B.tuple (pe_callB (cr_sortL (by exact hu)) (by rfl) B.sorted (by decide +kernel) (pa_cons (pe_lst (pa_cons (pv 4) (pa_cons (pe_tup (pa_cons (pv 0) (pa_cons pe_bl pa_nil))) pa_nil))) pa_nil))) pa_nil)))))), ?_⟩
    have s2 : 2 ≤ sizeLine := by decide
    refine ⟨(by show 0 ≤ sizeLine; decide), fun fl hfl => ⟨_, rfl, s2, fun t0 ht0 => ⟨_, _, rfl, ?_⟩⟩⟩
    have hl0 := hfl
    have S1 := (same_new (o := .lst ([] : List V)) hfl).trans (same_new (o := .tup [V.str x, .bl true]) ht0)
    have eL := RLL.e
    have lT := RLL.len
    have e0 : upd (upd H fl (.lst ([] : List V))) t0 (.tup [V.str x, .bl true]) fl = some (.lst ([] : List V)) := by
      rw [upd_ne (ne_of_none upd_same ht0)]
      exact upd_same
    have d0 : Dat (upd (upd H fl (.lst ([] : List V))) t0 (.tup [V.str x, .bl true])) (.ref t0) (ltD (ahd x L wr 0)) := .tup upd_same (.cons (.str _) (.cons (.bl _) .nil))
    generalize upd (upd H fl (.lst ([] : List V))) t0 (.tup [V.str x, .bl true]) = H1 at S1 e0 d0 ⊢
    refine ⟨_, rfl, lL, T.map TRow.v, rfl, SqL.of (S1 _ _ eL), ?_⟩
    refine for_enum (K := K) (a := lL) (xs := T.map TRow.v) (fun i σ G => ∃ (ah : V) (T' : List TRow) (cls : List (List Ltr)) (o5 o6 : Option V), σ = [some (.str x), some (.ref lL), some (.ref lW), some (.ref fl), some ah, o5, o6] ∧ Same H G ∧ CLs G fl T' cls ∧ cls.length = i ∧
      (∀ j, j < i → ∃ cl, cls[j]? = some cl ∧ CP cl (ahd x L wr j) (nxt x L j)) ∧ Dat G ah (ltD (ahd x L wr i))) ⟨_, [], [], _, _, rfl, S1, ⟨e0, rfl, fun q hq => absurd hq (by simp)⟩, rfl, fun j hj => absurd hj (by omega), d0⟩ (fun i σ G _ ⟨_, _, _, _, _, _, S, _⟩ => SqL.of (S _ _ eL)) ?_ ?_
    · rintro i y σ G T0 hy hT0 ⟨ah, T', cls, o5, o6, rfl, S, cs, lc, hcs, Da⟩
      have il : i < L.length := by
        have := (List.getElem?_eq_some_iff.mp hy).1
        rw [List.length_map, lT] at this
        exact this
      have SA := same_new (o := .tup [.int (i : Nat), y]) hT0
      refine ⟨T0, _, rfl, SqT.of upd_same, rfl, _, _, rfl, _, _, rfl, rfl, ?_⟩
      generalize upd G T0 (.tup [.int (i : Nat), y]) = G1 at SA ⊢
      have S01 := S.trans SA
      obtain ⟨t, m, rfl, hm, hq, Dm, gm⟩ := (RLL.same S01).at_ hy
      have Da1 := Da.same SA
      obtain ⟨ta, rfl, ga⟩ := ltr_row Da1
      have ne : (ahd x L wr i).1 ≠ m.1 := by
        cases i with
        | zero =>
          intro z
          exact xL (List.mem_map.mpr ⟨m, List.mem_of_getElem? hm, z.symm⟩)
        | succ i =>
          obtain ⟨l, hl⟩ : ∃ l, L[i]? = some l := ⟨L[i]'(by omega), List.getElem?_eq_getElem (by omega)⟩
          rw [ahd_fst hl]
          intro z
          have := at_uniq nd hl hm z
          omega
      refine ⟨_, rfl, .inl ⟨rfl, _, SqL.of (cs.same SA).e⟩, _, rfl, _, rfl, s2, fun tl htl => ?_⟩
      refine ⟨tl, [(ta, ltD (ahd x L wr i)), (t, ltD m)], rfl, SqL.of upd_same, fun q hq => ?_, two_sorty, fun T2 b9 pm _ up hb9 => .inl ⟨b9, _, rfl, SqL.of upd_same, fun tt htt => ?_⟩⟩
      · rcases List.mem_cons.mp hq with rfl | hq
        · exact dat_new htl Da1
        · cases List.mem_singleton.mp hq
          exact dat_new htl Dm
      have S2 := (same_new (o := .lst [V.ref ta, .ref t]) htl).trans ((same_new (o := .lst (T2.map TRow.v)) hb9).trans (same_new (o := .tup (T2.map TRow.v)) htt))
      obtain ⟨cl, ecl, cp⟩ := two_sorted ne pm up
      have Dcl : Dat (upd (upd (upd G1 tl (.lst [V.ref ta, .ref t])) b9 (.lst (T2.map TRow.v))) tt (.tup (T2.map TRow.v))) (.ref tt) (clD cl) := by
        refine .tup upd_same ?_
        show DatAll _ _ (cl.map ltD)
        rw [← ecl]
        refine dats_rows fun q hq => ?_
        have z := pm.mem_iff.mp hq
        rcases List.mem_cons.mp z with rfl | z
        · exact Da1.same S2
        · cases List.mem_singleton.mp z
          exact Dm.same S2
      have cs2 := (cs.same SA).same S2
      have Dm2 := Dm.same S2
      have gm2 := S2 _ _ gm
      have S02 := S01.trans S2
      generalize upd (upd (upd G1 tl (.lst [V.ref ta, .ref t])) b9 (.lst (T2.map TRow.v))) tt (.tup (T2.map TRow.v)) = G2 at Dcl cs2 Dm2 gm2 S02 ⊢
      have lT' := cs2.len
      refine ⟨fl, _, _, rfl, rfl, cs2.e, by rw [List.length_map]; exact small1000 (by omega), ?_⟩
      have cs3 := cs2.put Dcl
      have Dm3 := dat_upd (o := .lst (T'.map TRow.v ++ [.ref tt])) cs2.e (keyable_lt m) Dm2
      have S03 := same_upd (o := .lst (T'.map TRow.v ++ [.ref tt])) S02 hl0
      have gm3 : upd G2 fl (.lst (T'.map TRow.v ++ [.ref tt])) t = some (.tup [.str m.1, .bl m.2]) := by
        rw [upd_ne fun z => by
          have := cs2.e
          rw [← z, gm2] at this
          cases this]
        exact gm2
      generalize upd G2 fl (.lst (T'.map TRow.v ++ [.ref tt])) = G3 at cs3 Dm3 S03 gm3 ⊢
      have hcs3 : ∀ j, j < i + 1 → ∃ c, (cls ++ [cl])[j]? = some c ∧ CP c (ahd x L wr j) (nxt x L j) := fun j hj => by
        by_cases hji : j < i
        · obtain ⟨c, h1, h2⟩ := hcs j hji
          refine ⟨c, ?_, h2⟩
          rw [List.getElem?_append_left (by omega)]
          exact h1
        · have : j = i := by omega
          subst this
          refine ⟨cl, ?_, by rw [nxt_at hm]; exact cp⟩
          rw [List.getElem?_append_right (by omega), lc]
          simp
      have lc3 : (cls ++ [cl]).length = i + 1 := by rw [List.length_append, lc]; rfl
      refine ⟨_, rfl, _, rfl, lW, _, rfl, .inl (SqL.of (S03 _ _ eW)), rfl, flat_iV wr, _, rfl, ?_⟩
      show if inV (V.int (i : Int)) (wr.map iV) = true then _ else _
      rw [inV_iV]
      by_cases hw : i ∈ wr
      · rw [if_pos (decide_eq_true hw)]
        exact ⟨_, rfl, _, _, _, _, _, rfl, S03, cs3, lc3, hcs3, by rw [ahd_at hm, if_pos hw]; exact Dm3⟩
      · rw [if_neg (by rw [decide_eq_false hw]; decide)]
        refine ⟨_, rfl, t, _, 0, _, rfl, rfl, SqT.of gm3, rfl, _, rfl, t, _, 1, _, rfl, rfl, SqT.of gm3, rfl, m.2, rfl, s2, fun tn htn => ?_⟩
        have S4 := same_new (o := .tup [V.str m.1, .bl (!m.2)]) htn
        exact ⟨_, _, _, _, _, rfl, S03.trans S4, cs3.same S4, lc3, hcs3, by rw [ahd_at hm, if_neg hw]; exact .tup upd_same (.cons (.str _) (.cons (.bl _) .nil))⟩
    · rintro σ G ⟨ah, T', cls, o5, o6, rfl, S, cs, lc, hcs, Da⟩
      rw [List.length_map, lT] at lc hcs Da
      obtain ⟨ta, rfl, ga⟩ := ltr_row Da
      have ne : (ahd x L wr L.length).1 ≠ (x, false).1 := by
        obtain ⟨i, ei⟩ : ∃ i, L.length = i + 1 := ⟨L.length - 1, by omega⟩
        obtain ⟨l, hl⟩ : ∃ l, L[i]? = some l := ⟨L[i]'(by omega), List.getElem?_eq_getElem (by omega)⟩
        rw [ei, ahd_fst hl]
        exact fun z => xL (List.mem_map.mpr ⟨l, List.mem_of_getElem? hl, z⟩)
      refine ⟨_, rfl, _, rfl, _, rfl, s2, fun te hte => ⟨s2, fun tl htl => ?_⟩⟩
      have Se := same_new (o := .tup [V.str x, .bl false]) hte
      have De : Dat (upd G te (.tup [V.str x, .bl false])) (.ref te) (ltD (x, false)) := .tup upd_same (.cons (.str _) (.cons (.bl _) .nil))
      have Da1 := Da.same Se
      generalize upd G te (.tup [V.str x, .bl false]) = G1 at Se De Da1 htl ⊢
      refine ⟨tl, [(ta, ltD (ahd x L wr L.length)), (te, ltD (x, false))], rfl, SqL.of upd_same, fun q hq => ?_, two_sorty, fun T2 b9 pm _ up hb9 => .inl ⟨b9, _, rfl, SqL.of upd_same, fun tt htt => ?_⟩⟩
      · rcases List.mem_cons.mp hq with rfl | hq
        · exact dat_new htl Da1
        · cases List.mem_singleton.mp hq
          exact dat_new htl De
      have S2 := (same_new (o := .lst [V.ref ta, .ref te]) htl).trans ((same_new (o := .lst (T2.map TRow.v)) hb9).trans (same_new (o := .tup (T2.map TRow.v)) htt))
      obtain ⟨cl, ecl, cp⟩ := two_sorted ne pm up
      have Dcl : Dat (upd (upd (upd G1 tl (.lst [V.ref ta, .ref te])) b9 (.lst (T2.map TRow.v))) tt (.tup (T2.map TRow.v))) (.ref tt) (clD cl) := by
        refine .tup upd_same ?_
        show DatAll _ _ (cl.map ltD)
        rw [← ecl]
        refine dats_rows fun q hq => ?_
        have z := pm.mem_iff.mp hq
        rcases List.mem_cons.mp z with rfl | z
        · exact Da1.same S2
        · cases List.mem_singleton.mp z
          exact De.same S2
      have cs2 := (cs.same Se).same S2
      have S02 := (S.trans Se).trans S2
      generalize upd (upd (upd G1 tl (.lst [V.ref ta, .ref te])) b9 (.lst (T2.map TRow.v))) tt (.tup (T2.map TRow.v)) = G2 at Dcl cs2 S02 ⊢
      have lT' := cs2.len
      refine ⟨(by show 1 ≤ sizeLine; decide), fun l1 hl1 => ?_⟩
      have S3 := same_new (o := .lst [V.ref tt]) hl1
      refine ⟨fl, l1, _, _, rfl, rfl, S3 _ _ cs2.e, upd_same, ?_, fun l2 hl2 => ?_⟩
      · rw [List.length_map]
        exact Nat.le_of_lt (small1000 (show T'.length + 1 ≤ 1000 by omega))
      have S4 := S3.trans (same_new (o := .lst (T'.map TRow.v ++ [V.ref tt])) hl2)
      refine q l2 (T' ++ [(tt, clD cl)]) (cls ++ [cl]) _ (S02.trans S4) ((S02.trans S3).free hl2) ⟨by rw [upd_same, List.map_append]; rfl, by rw [List.map_append, List.map_append, cs2.d]; rfl, fun q hq => ?_⟩ (by rw [List.length_append, lc]; rfl) (fun i hi => ?_)
      · rcases List.mem_append.mp hq with z | z
        · exact (cs2.D q z).same S4
        · cases List.mem_singleton.mp z
          exact Dcl.same S4
      · by_cases hil : i < L.length
        · obtain ⟨c, h1, h2⟩ := hcs i hil
          refine ⟨c, ?_, h2⟩
          rw [List.getElem?_append_left (by omega)]
          exact h1
        · have : i = L.length := by omega
          subst this
          refine ⟨cl, ?_, by rw [nxt_end]; exact cp⟩
          rw [List.getElem?_append_right (by omega), lc]
          simp
end
end S3

set_option Elab.async false
set_option linter.all false
set_option maxRecDepth 100000
set_option maxHeartbeats 4000000
/-! what is reached from either end of a chain, as the law counts it -/
namespace S3
open PySem PySem.W PySem.Spec PyProof.Rows L2 S1
/-- what is told of a lot: unlike letters, those that a property tells, whatever be the viewers that go with the blind -/
structure Lot (bl : List Str) (L : List Ltr) (R : List Str → Ltr → Prop) (M : List Ltr) : Prop where
  nd : M.Nodup
  len : M.length ≤ L.length
  mem : ∀ ws, (∀ l ∈ L, l.1 ∈ ws ↔ l.1 ∉ bl) → ∀ m, m ∈ M ↔ R ws m
theorem nodup_fst {L : List Ltr} (nd : (L.map Prod.fst).Nodup) : L.Nodup := (List.pairwise_map.mp nd).imp fun h e => h (by rw [e])
theorem lotF {bl : List Str} {L : List Ltr} {w : List Nat} {k : Nat} (nd : (L.map Prod.fst).Nodup) (h1 : ∀ j l, j < k → L[j]? = some l → l.1 ∉ bl) (h2 : ∀ j, j + 1 < k → j ∉ w)
    (h3 : L.length ≤ k ∨ (∃ l, L[k]? = some l ∧ l.1 ∈ bl) ∨ ∃ j, k = j + 1 ∧ j ∈ w) : Lot bl L (fun ws => RF ws L w) (L.take k) := by
  refine ⟨(nodup_fst nd).sublist (List.take_sublist _ _), by rw [List.length_take]; omega, fun ws hws m => ⟨fun hm => ?_, ?_⟩⟩
  · obtain ⟨i, hi⟩ := List.getElem?_of_mem hm
    rw [List.getElem?_take] at hi
    split at hi
    · rename_i ik
      refine ⟨i, hi, fun j l hj hl => (hws l (List.mem_of_getElem? hl)).mpr (h1 j l (by omega) hl), fun j hj => h2 j (by omega)⟩
    · cases hi
  · rintro ⟨i, hi, a, b⟩
    have ik : i < k := by
      refine Nat.lt_of_not_le fun ki => ?_
      have li := (List.getElem?_eq_some_iff.mp hi).1
      rcases h3 with h | ⟨l, hl, hb⟩ | ⟨j, rfl, hj⟩
      · omega
      · exact (hws l (List.mem_of_getElem? hl)).mp (a k l ki hl) hb
      · exact b j (by omega) hj
    refine List.mem_of_getElem? (i := i) ?_
    rw [List.getElem?_take, if_pos ik]
    exact hi
/-- letters from the end on, c of them, each the contrary of one -/
def bck (x : Str) (L : List Ltr) (w : List Nat) (c : Nat) : List Ltr := (List.range c).map fun t => ahd x L w (L.length - t)
theorem bck_succ (x : Str) (L : List Ltr) (w : List Nat) (c : Nat) : bck x L w (c + 1) = bck x L w c ++ [ahd x L w (L.length - c)] := by
  unfold bck
  rw [List.range_succ, List.map_append]
  rfl
theorem lotB {x : Str} {bl : List Str} {L : List Ltr} {w : List Nat} {c : Nat} (nd : (L.map Prod.fst).Nodup) (hc : c ≤ L.length) (h1 : ∀ j l, L.length ≤ j + c → L[j]? = some l → l.1 ∉ bl) (h2 : ∀ j, j < L.length → L.length < j + c → j ∉ w)
    (h3 : L.length = c ∨ (∃ j l, L.length = j + 1 + c ∧ L[j]? = some l ∧ l.1 ∈ bl) ∨ ∃ j, L.length = j + c ∧ j < L.length ∧ j ∈ w) : Lot bl L (fun ws => RB x ws L w) (bck x L w c) := by
  have at_ : ∀ {i}, i < L.length → ∃ l, L[i]? = some l := fun {i} h => ⟨L[i], List.getElem?_eq_getElem h⟩
  refine ⟨?_, by unfold bck; rw [List.length_map, List.length_range]; exact hc, fun ws hws m => ⟨fun hm => ?_, ?_⟩⟩
  · unfold bck
    refine List.pairwise_map.mpr ((List.nodup_range (n := c)).imp_of_mem fun {a b} ha hb ne e => ne ?_)
    have ha := List.mem_range.mp ha
    have hb := List.mem_range.mp hb
    obtain ⟨p, hp⟩ := at_ (i := L.length - a - 1) (by omega)
    obtain ⟨q, hq⟩ := at_ (i := L.length - b - 1) (by omega)
    have ea : L.length - a = L.length - a - 1 + 1 := by omega
    have eb : L.length - b = L.length - b - 1 + 1 := by omega
    have f := congrArg Prod.fst e
    rw [ea, eb, ahd_fst hp, ahd_fst hq] at f
    have := at_uniq nd hp hq f
    omega
  · unfold bck at hm
    obtain ⟨t, ht, rfl⟩ := List.mem_map.mp hm
    have ht := List.mem_range.mp ht
    refine ⟨L.length - t - 1, by omega, by rw [show L.length - t - 1 + 1 = L.length - t by omega], fun j l hj hl => (hws l (List.mem_of_getElem? hl)).mpr (h1 j l (by omega) hl), fun j hj hl => h2 j hl (by omega)⟩
  · rintro ⟨i, hi, e, a, b⟩
    have ik : L.length ≤ i + c := by
      refine Nat.le_of_not_lt fun ki => ?_
      rcases h3 with h | ⟨j, l, ej, hl, hb⟩ | ⟨j, ej, hj, hw⟩
      · omega
      · exact (hws l (List.mem_of_getElem? hl)).mp (a j l (by omega) hl) hb
      · exact b j (by omega) hj hw
    unfold bck
    refine List.mem_map.mpr ⟨L.length - 1 - i, List.mem_range.mpr (by omega), ?_⟩
    rw [e]
    congr 1
    omega
def spFrom (R : List Ltr → List Nat → List Str → Ltr → Prop) : Sp := fun vs H Q _ => ∃ (lL lW lB : Addr) (T : List TRow) (L : List Ltr) (w : List Nat) (bl : List Str), vs = [.ref lL, .ref lW, .ref lB] ∧ RL H lL T L ∧ H lW = some (.lst (w.map iV)) ∧ H lB = some (.lst (bl.map V.str)) ∧ L.length ≤ 8 ∧ (L.map Prod.fst).Nodup ∧
  ∀ (l : Addr) (T' : List TRow) (M : List Ltr) (H' : Hp), Same H H' → H l = none → RL H' l T' M → Lot bl L (R L w) M → Q (.ref l) H'
def spFromT : Sp := spFrom fun L w ws => RF ws L w
def spFromF (x : Str) : Sp := spFrom fun L w ws => RB x ws L w
abbrev nFT : List Str := ["letters", "wrong", "blind", "found", "at", "letter"]
abbrev nFF : List Str := ["letters", "wrong", "blind", "found", "at", "name", "truth"]
theorem RL.put {H : Hp} {l t : Addr} {T : List TRow} {M : List Ltr} {m : Ltr} (h : RL H l T M) (Dt : Dat H (.ref t) (ltD m)) : RL (upd H l (.lst (T.map TRow.v ++ [.ref t]))) l (T ++ [(t, ltD m)]) (M ++ [m]) := by
  refine ⟨by rw [upd_same, List.map_append]; rfl, by rw [List.map_append, List.map_append, h.d]; rfl, fun q hq => ?_⟩
  rcases List.mem_append.mp hq with z | z
  · exact dat_upd h.e (key_lts h.d q z).1 (h.D q z)
  · cases List.mem_singleton.mp z
    exact dat_upd h.e (keyable_lt m) Dt
section
variable {P : Program} {w : World} {K : PySem.W.Frag} {mg : Str → Option Value} {base : Heap}
theorem scFT : FnScope nFT ["letters", "wrong", "blind"] (defScope sLFromT) := ⟨rfl, rfl, rfl, by decide +kernel, rfl, by decide +kernel, by decide +kernel⟩
theorem scFF : FnScope nFF ["letters", "wrong", "blind"] (defScope sLFromF) := ⟨rfl, rfl, rfl, by decide +kernel, rfl, by decide +kernel, by decide +kernel⟩
theorem ok_fromT {f : Addr} {fd : FuncData} (F : Fun K "_law_from_true" "_law_from_true" sLFromT f fd) (B : Blt mg) (en : mg "enumerate" = none) : FnOk P w K mg base CX0 1 f fd ["letters", "wrong", "blind"] spFromT := by
  refine F.ok scFT (fun vs H Q E h => ?_) (fun cdv A outer s H vs Q E hr h => ?_)
  · obtain ⟨lL, lW, lB, T, L, wr, bl, rfl, _⟩ := h
    rfl
  · obtain ⟨lL, lW, lB, T, L, wr, bl, rfl, RLL, eW, eB, l8, nd, q⟩ := h
    refine ⟨_, pss_cons (ps_set (i := 3) scFT.nd rfl (.inl rfl) (pe_lst pa_nil))
      (pss_cons (ps_for PassesOwn.never rfl (pi_enum (by rfl) en (pa_cons (pv 0) pa_nil)) (pg_tup rfl (pgs_cons (pg_name (i := 4) scFT.nd rfl (.inl rfl)) (pgs_cons (pg_name (i := 5) scFT.nd rfl (.inl rfl)) pgs_nil)))
        (pss_cons (ps_if (pt_cmpR op_in_seq (pe_ix ix_tup (pv 5) pe_int (fun _ _ => rfl)) (pv 2) (by with_unfolding_all rfl)) (pss_one (ps_ret (pv 3))) pss_nil)
        (pss_cons (ps_expr (pe_bm PySem.F.plainAttrs_list PySem.F.slot_list_append PySem.F.type_list_append mt_append (pv 3) (pa_cons (pv 5) pa_nil)))
        (pss_one (ps_if (pt_cmpR op_in_seq (pv 4) (pv 1) (by with_unfolding_all rfl)) (pss_one (ps_ret (pv 3))) pss_nil)))))
      (pss_one (ps_ret (pv 3)))), ?_⟩
    refine ⟨(by show 0 ≤ sizeLine; decide), fun fl hfl => ?_⟩
    have S1 := same_new (o := .lst ([] : List V)) hfl
    have e0 : upd H fl (.lst ([] : List V)) fl = some (.lst ([] : List V)) := upd_same
    have lT := RLL.len
    generalize upd H fl (.lst ([] : List V)) = H1 at S1 e0 ⊢
    refine ⟨_, rfl, lL, T.map TRow.v, rfl, SqL.of (S1 _ _ RLL.e), ?_⟩
    refine for_enum (K := K) (a := lL) (xs := T.map TRow.v) (fun i σ G => ∃ (T' : List TRow) (o4 o5 : Option V), σ = [some (.ref lL), some (.ref lW), some (.ref lB), some (.ref fl), o4, o5] ∧ Same H G ∧ RL G fl T' (L.take i) ∧
      (∀ j l, j < i → L[j]? = some l → l.1 ∉ bl) ∧ ∀ j, j < i → j ∉ wr) ⟨[], _, _, rfl, S1, ⟨e0, rfl, fun q hq => absurd hq (by simp)⟩, fun j _ hj => absurd hj (by omega), fun j hj => absurd hj (by omega)⟩ (fun i σ G _ ⟨_, _, _, _, S, _⟩ => SqL.of (S _ _ RLL.e)) ?_ ?_
    · rintro i y σ G T0 hy hT0 ⟨T', o4, o5, rfl, S, cs, h1, h2⟩
      have il : i < L.length := by
        have := (List.getElem?_eq_some_iff.mp hy).1
        rw [List.length_map, lT] at this
        exact this
      have SA := same_new (o := .tup [.int (i : Nat), y]) hT0
      refine ⟨T0, _, rfl, SqT.of upd_same, rfl, _, _, rfl, _, _, rfl, rfl, ?_⟩
      generalize upd G T0 (.tup [.int (i : Nat), y]) = G1 at SA ⊢
      have S01 := S.trans SA
      obtain ⟨t, m, rfl, hm, hq, Dm, gm⟩ := (RLL.same S01).at_ hy
      have cs1 := cs.same SA
      refine ⟨_, rfl, t, _, 0, _, rfl, rfl, SqT.of gm, rfl, _, rfl, lB, _, rfl, .inl (SqL.of (S01 _ _ eB)), rfl, flat_strs _, _, rfl, ?_⟩
      show if inV (V.str m.1) (bl.map V.str) = true then _ else _
      rw [inV_str]
      by_cases hb : m.1 ∈ bl
      · rw [if_pos (decide_eq_true hb)]
        exact ⟨_, rfl, q fl T' _ _ S01 hfl cs1 (lotF nd h1 (fun j hj => h2 j (by omega)) (.inr (.inl ⟨m, hm, hb⟩)))⟩
      · rw [if_neg (by rw [decide_eq_false hb]; decide)]
        have lT' := cs1.len
        rw [List.length_take] at lT'
        refine ⟨_, rfl, .inl ⟨rfl, _, SqL.of cs1.e⟩, _, rfl, fl, _, _, rfl, rfl, cs1.e, by rw [List.length_map]; exact small1000 (by omega), ?_⟩
        have cs2 := RL.put cs1 Dm
        have S02 := same_upd (o := .lst (T'.map TRow.v ++ [.ref t])) S01 hfl
        rw [← take_next hm] at cs2
        generalize upd G1 fl (.lst (T'.map TRow.v ++ [.ref t])) = G2 at cs2 S02 ⊢
        have h1' : ∀ j l, j < i + 1 → L[j]? = some l → l.1 ∉ bl := fun j l hj hl => by
          by_cases hji : j < i
          · exact h1 j l hji hl
          · have : j = i := by omega
            subst this
            rw [hm] at hl
            cases hl
            exact hb
        refine ⟨_, rfl, _, rfl, lW, _, rfl, .inl (SqL.of (S02 _ _ eW)), rfl, flat_iV wr, _, rfl, ?_⟩
        show if inV (V.int (i : Int)) (wr.map iV) = true then _ else _
        rw [inV_iV]
        by_cases hw : i ∈ wr
        · rw [if_pos (decide_eq_true hw)]
          exact ⟨_, rfl, q fl _ _ _ S02 hfl cs2 (lotF nd h1' (fun j hj => h2 j (by omega)) (.inr (.inr ⟨i, rfl, hw⟩)))⟩
        · rw [if_neg (by rw [decide_eq_false hw]; decide)]
          refine ⟨_, _, _, rfl, S02, cs2, h1', fun j hj => ?_⟩
          by_cases hji : j < i
          · exact h2 j hji
          · have : j = i := by omega
            exact this ▸ hw
    · rintro σ G ⟨T', o4, o5, rfl, S, cs, h1, h2⟩
      rw [List.length_map, lT] at cs h1 h2
      exact ⟨_, rfl, q fl T' _ _ S hfl cs (lotF nd h1 (fun j hj => h2 j (by omega)) (.inl (Nat.le_refl _)))⟩
theorem ok_fromF (x : Str) {f : Addr} {fd : FuncData} (F : Fun K "_law_from_false" "_law_from_false" sLFromF f fd) (B : Blt mg) : FnOk P w K mg base CX0 1 f fd ["letters", "wrong", "blind"] (spFromF x) := by
  refine F.ok scFF (fun vs H Q E h => ?_) (fun cdv A outer s H vs Q E hr h => ?_)
  · obtain ⟨lL, lW, lB, T, L, wr, bl, rfl, _⟩ := h
    rfl
  · obtain ⟨lL, lW, lB, T, L, wr, bl, rfl, RLL, eW, eB, l8, nd, q⟩ := h
    refine ⟨_, pss_cons (ps_set (i := 3) scFF.nd rfl (.inl rfl) (pe_lst pa_nil))
      (pss_cons (ps_for PassesOwn.never rfl (pi_range3 (by rfl) B.range (pa_cons (pe_op op_sub (pe_callB call_len_seq (by rfl) B.len (by decide +kernel) (pa_cons (pv 0) pa_nil)) pe_int) (pa_cons (pe_un un_neg pe_int) (pa_cons (pe_un un_neg pe_int) pa_nil)))) (pg_name (i := 4) scFF.nd rfl (.inl rfl))
        (pss_cons (ps_asg (pe_ix ix_list (pv 0) (pv 4) (fun _ _ => rfl)) (pg_tup rfl (pgs_cons (pg_name (i := 5) scFF.nd rfl (.inl rfl)) (pgs_cons (pg_name (i := 6) scFF.nd rfl (.inl rfl)) pgs_nil))))
        (pss_cons (ps_if (pt_cmpR op_in_seq (pv 5) (pv 2) (by with_unfolding_all rfl)) (pss_one (ps_ret (pv 3))) pss_nil)
        (pss_cons (ps_if (pt_cmpR op_in_seq (pv 4) (pv 1) (by with_unfolding_all rfl)) (pss_one (ps_ret (pe_op op_cat (pv 3) (pe_lst (pa_cons (pe_tup (pa_cons (pv 5) (pa_cons (pv 6) pa_nil))) pa_nil))))) pss_nil)
        (pss_one (ps_expr (pe_bm PySem.F.plainAttrs_list PySem.F.slot_list_append PySem.F.type_list_append mt_append (pv 3) (pa_cons (pe_tup (pa_cons (pv 5) (pa_cons (pe_not (pv 6)) pa_nil))) pa_nil))))))))
      (pss_one (ps_ret (pv 3)))), ?_⟩
    have s2 : 2 ≤ sizeLine := by decide
    refine ⟨(by show 0 ≤ sizeLine; decide), fun fl hfl => ?_⟩
    have S1 := same_new (o := .lst ([] : List V)) hfl
    have e0 : upd H fl (.lst ([] : List V)) fl = some (.lst ([] : List V)) := upd_same
    have lT := RLL.len
    generalize upd H fl (.lst ([] : List V)) = H1 at S1 e0 ⊢
    refine ⟨_, rfl, _, _, rfl, .inl (SqL.of (S1 _ _ RLL.e)), _, _, rfl, rfl, _, rfl, _, rfl, _, _, _, _, rfl, RgC.neg (by rw [List.length_map]; omega) (by rw [List.length_map]; omega) (by decide) (by decide), ?_⟩
    have hn : (((T.map TRow.v).length : Int) - 1 - -1).toNat = L.length := by
      rw [List.length_map, lT]
      omega
    rw [hn]
    refine for_rangeC (n := L.length) (fun i σ G => ∃ (T' : List TRow) (o4 o5 o6 : Option V), σ = [some (.ref lL), some (.ref lW), some (.ref lB), some (.ref fl), o4, o5, o6] ∧ Same H G ∧ RL G fl T' (bck x L wr i) ∧
      (∀ j l, L.length ≤ j + i → L[j]? = some l → l.1 ∉ bl) ∧ ∀ j, j < L.length → L.length ≤ j + i → j ∉ wr) ⟨[], _, _, _, rfl, S1, ⟨e0, rfl, fun q hq => absurd hq (by simp)⟩, fun j l h hl => ?_, fun j h h2 => by omega⟩ ?_ ?_
    · have := (List.getElem?_eq_some_iff.mp hl).1
      omega
    · rintro i σ G hi ⟨T', o4, o5, o6, rfl, S, cs, h1, h2⟩
      obtain ⟨k, hk⟩ : ∃ k, L.length = k + 1 + i := ⟨L.length - 1 - i, by omega⟩
      have ek : ((T.map TRow.v).length : Int) - 1 + (i : Nat) * -1 = (k : Int) := by
        rw [List.length_map, lT]
        omega
      rw [ek]
      obtain ⟨y, hy⟩ : ∃ y, (T.map TRow.v)[k]? = some y := ⟨_, List.getElem?_eq_getElem (show k < (T.map TRow.v).length by rw [List.length_map]; omega)⟩
      obtain ⟨t, m, rfl, hm, hq, Dm, gm⟩ := (RLL.same S).at_ hy
      have lT' := cs.len
      have lb : (bck x L wr i).length = i := by unfold bck; rw [List.length_map, List.length_range]
      refine ⟨_, rfl, _, rfl, lL, _, (k : Int), _, rfl, rfl, SqL.of (S _ _ RLL.e), atI_nat hy, t, _, rfl, SqT.of gm, rfl, _, _, rfl, _, _, rfl, rfl, ?_⟩
      refine ⟨_, rfl, _, rfl, lB, _, rfl, .inl (SqL.of (S _ _ eB)), rfl, flat_strs _, _, rfl, ?_⟩
      show if inV (V.str m.1) (bl.map V.str) = true then _ else _
      rw [inV_str]
      by_cases hb : m.1 ∈ bl
      · rw [if_pos (decide_eq_true hb)]
        exact ⟨_, rfl, q fl T' _ _ S hfl cs (lotB nd (by omega) h1 (fun j hj h => h2 j hj (by omega)) (.inr (.inl ⟨k, m, hk, hm, hb⟩)))⟩
      · rw [if_neg (by rw [decide_eq_false hb]; decide)]
        have h1' : ∀ j l, L.length ≤ j + (i + 1) → L[j]? = some l → l.1 ∉ bl := fun j l hj hl => by
          by_cases hji : L.length ≤ j + i
          · exact h1 j l hji hl
          · have : j = k := by omega
            subst this
            rw [hm] at hl
            cases hl
            exact hb
        refine ⟨_, rfl, _, rfl, lW, _, rfl, .inl (SqL.of (S _ _ eW)), rfl, flat_iV wr, _, rfl, ?_⟩
        show if inV (V.int (k : Int)) (wr.map iV) = true then _ else _
        rw [inV_iV]
        have eh : L.length - i = k + 1 := by omega
        by_cases hw : k ∈ wr
        · rw [if_pos (decide_eq_true hw)]
          refine ⟨_, rfl, _, rfl, _, rfl, s2, fun tn htn => ⟨(by show 1 ≤ sizeLine; decide), fun l1 hl1 => ?_⟩⟩
          have SA := same_new (o := .tup [V.str m.1, .bl m.2]) htn
          have SB := same_new (o := .lst [V.ref tn]) hl1
          have Dn : Dat (upd G tn (.tup [V.str m.1, .bl m.2])) (.ref tn) (ltD m) := .tup upd_same (.cons (.str _) (.cons (.bl _) .nil))
          generalize upd G tn (.tup [V.str m.1, .bl m.2]) = G1 at SA SB Dn hl1 ⊢
          have cs2 := (cs.same SA).same SB
          have S02 := (S.trans SA).trans SB
          have Dn2 := Dn.same SB
          have el1 : upd G1 l1 (.lst [V.ref tn]) l1 = some (.lst [V.ref tn]) := upd_same
          generalize upd G1 l1 (.lst [V.ref tn]) = G2 at cs2 S02 Dn2 el1 ⊢
          refine ⟨fl, l1, _, _, rfl, rfl, cs2.e, el1, ?_, fun l2 hl2 => ?_⟩
          · rw [List.length_map]
            exact Nat.le_of_lt (small1000 (show T'.length + 1 ≤ 1000 by omega))
          have SC := same_new (o := .lst (T'.map TRow.v ++ [V.ref tn])) hl2
          have eM : bck x L wr (i + 1) = bck x L wr i ++ [m] := by rw [bck_succ, eh, ahd_at hm, if_pos hw]
          refine q l2 (T' ++ [(tn, ltD m)]) (bck x L wr (i + 1)) _ (S02.trans SC) (S02.free hl2) ⟨by rw [upd_same, List.map_append]; rfl, by rw [eM, List.map_append, List.map_append, cs2.d]; rfl, fun q hq => ?_⟩ (lotB nd (by omega) h1' (fun j hj h => h2 j hj (by omega)) (.inr (.inr ⟨k, by omega, by omega, hw⟩)))
          rcases List.mem_append.mp hq with z | z
          · exact (cs2.D q z).same SC
          · cases List.mem_singleton.mp z
            exact Dn2.same SC
        · rw [if_neg (by rw [decide_eq_false hw]; decide)]
          refine ⟨_, rfl, .inl ⟨rfl, _, SqL.of cs.e⟩, _, rfl, _, rfl, m.2, rfl, s2, fun tn htn => ?_⟩
          have SA := same_new (o := .tup [V.str m.1, .bl (!m.2)]) htn
          have Dn : Dat (upd G tn (.tup [V.str m.1, .bl (!m.2)])) (.ref tn) (ltD (neg m)) := .tup upd_same (.cons (.str _) (.cons (.bl _) .nil))
          generalize upd G tn (.tup [V.str m.1, .bl (!m.2)]) = G1 at SA Dn ⊢
          have cs1 := cs.same SA
          refine ⟨fl, _, _, rfl, rfl, cs1.e, by rw [List.length_map]; exact small1000 (by omega), ?_⟩
          have cs2 := RL.put cs1 Dn
          have eM : bck x L wr (i + 1) = bck x L wr i ++ [neg m] := by rw [bck_succ, eh, ahd_at hm, if_neg hw]
          rw [← eM] at cs2
          refine ⟨_, _, _, _, rfl, same_upd (S.trans SA) hfl, cs2, h1', fun j hj h => ?_⟩
          by_cases hji : L.length ≤ j + i
          · exact h2 j hj hji
          · have : j = k := by omega
            exact this ▸ hw
    · rintro σ G ⟨T', o4, o5, o6, rfl, S, cs, h1, h2⟩
      exact ⟨_, rfl, q fl T' _ _ S hfl cs (lotB nd (Nat.le_refl _) h1 (fun j hj h => h2 j hj (by omega)) (.inl rfl))⟩
end
end S3

set_option Elab.async false
set_option linter.all false
set_option maxRecDepth 100000
set_option maxHeartbeats 4000000
/-! what the law holds beside what is told: helps -/
namespace S3
open PySem PySem.W PySem.Spec PyProof.Rows L2 S1
section
variable {X : Cx}
def rEqP : R2 := fun x y H Q => ∃ d e, Dat H x d ∧ Dat H y e ∧ d.plain = true ∧ e.plain = true ∧ d.depth ≤ 8 ∧ Q (.bl (PyData.eqv d e)) H
theorem op_eqP (hu : X.A.units + 64 < cLine) : OpR X (compareOp .Eq) rEqP := by
  intro pins s σ H x y v u Q I rx ry h
  obtain ⟨d, e, D1, D2, p1, p2, dp, q⟩ := h
  obtain ⟨as, R1⟩ := reads_of_dat I.hok D1 rx
  obtain ⟨bs, R2⟩ := reads_of_dat I.hok D2 ry
  exact PySem.SeqAt.eq_plain R1 R2 p1 p2 (by have := Nat.min_le_left d.depth e.depth; omega) ⟨.bl _, H, I, rfl, q⟩
end
theorem merge_in (j : Key) : ∀ (more acc : List (Key × V)), (valV (mergeK acc more) j).isSome = ((valV acc j).isSome || more.any fun kv => decide (kv.1 = j))
  | [], acc => by simp [mergeK]
  | p :: more, acc => by
    show (valV (mergeK (putK acc p.1 p.2) more) j).isSome = _
    rw [merge_in j more, valV_put, List.any_cons]
    by_cases h : j = p.1
    · rw [if_pos h, decide_eq_true h.symm]
      simp
    · rw [if_neg h, decide_eq_false (fun z => h z.symm)]
      simp
theorem lets_in (n : Str) (L : List Ltr) : (valV (mergeK [] (L.map fun l => ((Sum.inr l.1 : Key), V.bl l.2))) (.inr n)).isSome = decide (n ∈ L.map Prod.fst) := by
  rw [merge_in, List.any_map]
  show (false || _) = _
  rw [Bool.false_or]
  by_cases h : n ∈ L.map Prod.fst
  · rw [decide_eq_true h, List.any_eq_true]
    obtain ⟨l, hl, rfl⟩ := List.mem_map.mp h
    exact ⟨l, hl, decide_eq_true rfl⟩
  · rw [decide_eq_false h, List.any_eq_false]
    intro l hl z
    have z2 := of_decide_eq_true z
    injection z2 with z2
    exact h (List.mem_map.mpr ⟨l, hl, z2⟩)
/-- nothing is wrong, none is blind -/
def wB (w : List Nat) (bl : List Str) : Bool := decide (w = []) && decide (bl = [])
/-- what an own and a pick have in the law's look -/
structure Seen (s : Say) (x : Str) (L : List Ltr) (w : List Nat) (bl : List Str) : Prop where
  c : Chn s x L w
  see : ∀ o ∈ s.owns, x ∈ o.2 ↔ o.1 ∉ bl
  bl : ∀ b ∈ bl, b ∈ L.map Prod.fst
  w : ∀ i ∈ w, i < L.length
  l0 : 0 < L.length
  l8 : L.length ≤ 8
section
variable {s : Say} {x : Str} {L : List Ltr} {w : List Nat} {bl : List Str} {a b c d : Nat}
theorem vw_iff {n : Str} : n ∈ vw s x ↔ ∃ o ∈ s.owns, o.1 = n ∧ x ∈ o.2 := by
  unfold vw
  rw [List.mem_map]
  constructor
  · rintro ⟨o, ho, rfl⟩
    obtain ⟨h1, h2⟩ := List.mem_filter.mp ho
    exact ⟨o, h1, rfl, of_decide_eq_true h2⟩
  · rintro ⟨o, ho, rfl, h⟩
    exact ⟨o, List.mem_filter.mpr ⟨ho, decide_eq_true h⟩, rfl⟩
theorem Seen.own (S : Seen s x L w bl) {o : Own} (ho : o ∈ s.owns) : o.1 ∈ vw s x ↔ x ∈ o.2 := by
  rw [vw_iff, S.see o ho]
  constructor
  · rintro ⟨o', ho', e, h⟩
    rw [← e]
    exact (S.see o' ho').mp h
  · intro h
    exact ⟨o, ho, rfl, (S.see o ho).mpr h⟩
theorem Seen.ws (S : Seen s x L w bl) : ∀ l ∈ L, l.1 ∈ vw s x ↔ l.1 ∉ bl := fun l hl => by
  obtain ⟨o, ho, e⟩ := List.mem_map.mp (S.c.on l hl)
  rw [← e, S.own ho, S.see o ho]
theorem Seen.whole (S : Seen s x L w bl) : whl (vw s x) L w ↔ wB w bl = true := by
  unfold wB
  rw [Bool.and_eq_true, decide_eq_true_eq, decide_eq_true_eq]
  constructor
  · intro h
    constructor
    · cases hw : w with
      | nil => rfl
      | cons i w' =>
        have hi : i ∈ w := by rw [hw]; exact List.mem_cons_self
        exact absurd hi (h i _ (List.getElem?_eq_getElem (S.w i hi))).2
    · cases hb : bl with
      | nil => rfl
      | cons n bl' =>
        have hn : n ∈ bl := by rw [hb]; exact List.mem_cons_self
        obtain ⟨l, hl, rfl⟩ := List.mem_map.mp (S.bl n hn)
        obtain ⟨i, hi⟩ := List.getElem?_of_mem hl
        exact absurd hn ((S.ws l hl).mp (h i l hi).1)
  · rintro ⟨rfl, rfl⟩ i l hl
    exact ⟨(S.ws l (List.mem_of_getElem? hl)).mpr (by simp), by simp⟩
theorem Seen.hang (S : Seen s x L w bl) (ok : SayOk a b c d s) (n : Str) : hangR s x n ↔ (wB w bl && decide (n ∈ L.map Prod.fst)) = true := by
  rw [S.c.hang ok, S.whole, Bool.and_eq_true, decide_eq_true_eq]
/-- whether the pick is idle for a viewer, as the law has it -/
def stl (x : Str) (L : List Ltr) (w : List Nat) (bl : List Str) (o : Own) : Bool := decide (x ∈ o.2) && !(wB w bl && decide (o.1 ∈ L.map Prod.fst))
theorem Seen.still (S : Seen s x L w bl) (ok : SayOk a b c d s) {o : Own} (ho : o ∈ s.owns) : stl x L w bl o = true ↔ (o.1 ∈ vw s x ∧ ¬ hangR s x o.1) := by
  unfold stl
  rw [Bool.and_eq_true, decide_eq_true_eq, S.own ho, S.hang ok, Bool.not_eq_true', Bool.not_eq_true]
theorem lotF_ok (S : Seen s x L w bl) (ok : SayOk a b c d s) {M M' : List Ltr} (h : Lot bl L (fun ws => RF ws L w) M) (pm : M'.Perm M) (up : M'.Pairwise ltLt) : RchOk s (vw s x) (x, true) M' :=
  ⟨up, fun m => by rw [pm.mem_iff, h.mem _ S.ws, S.c.reachF ok]⟩
theorem lotB_ok (S : Seen s x L w bl) (ok : SayOk a b c d s) {M M' : List Ltr} (h : Lot bl L (fun ws => RB x ws L w) M) (pm : M'.Perm M) (up : M'.Pairwise ltLt) : RchOk s (vw s x) (x, false) M' :=
  ⟨up, fun m => by rw [pm.mem_iff, h.mem _ S.ws, S.c.reachB ok]⟩
end
/-- letters, sorted -/
theorem lts_sorted {T T' : List TRow} {M : List Ltr} (pm : T'.Perm T) (e : T.map Prod.snd = M.map ltD) (nd : M.Nodup) (up : (T.map Prod.snd).Nodup → T'.Pairwise fun p q => dataLt p.2 q.2 = true) : ∃ M' : List Ltr, M'.Perm M ∧ T'.map Prod.snd = M'.map ltD ∧ M'.Pairwise ltLt := by
  obtain ⟨M', p2, e2⟩ := perm_back (f := ltD) ((pm.map Prod.snd).trans (.of_eq e)) M rfl
  refine ⟨M', p2, e2, ?_⟩
  have nT : (T.map Prod.snd).Nodup := by
    rw [e]
    exact List.pairwise_map.mpr (nd.imp fun {a b} ne z => ne (ltD_inj z))
  have u2 : (T'.map Prod.snd).Pairwise fun p q => dataLt p q = true := List.pairwise_map.mpr (up nT)
  rw [e2] at u2
  exact (List.pairwise_map (f := ltD) (R := fun p q => dataLt p q = true)).mp u2
theorem prLt_of {a b x : Str} (h : tlt a b) : prLt (a, x) (b, x) := by
  unfold prLt prD
  rw [dataLt_pair (by simp [alike]) (by simp [alike])]
  have ne : a ≠ b := fun z => tlt_irrefl a (by rw [← z] at h; exact h)
  have e : PyData.eqv (.str a) (.str b) = false := by
    simp only [PyData.eqv]
    exact beq_false_of_ne ne
  rw [e, if_neg (by decide), dataLt_str, decide_eq_true_eq]
  exact h
/-- the pairs of a pick among all that is idle -/
theorem idle_of {s : Say} {x : Str} {L : List Ltr} {w : List Nat} {bl : List Str} (S : Seen s x L w bl) (ok : SayOk 6 8 120 40 s) {N : List Pr} (h : IdleAll s N) : (N.filter fun q => decide (q.2 = x)) = ((s.owns.filter (stl x L w bl)).map Prod.fst).map fun n => (n, x) := by
  refine rise_unique (r := prLt) (fun x z => by unfold prLt at z; rw [dataLt_irrefl] at z; cases z) (fun {x y z} a b => dataLt_trans a b) (h.up.sublist List.filter_sublist) ?_ fun q => ?_
  · have z : ((s.owns.filter (stl x L w bl)).map Prod.fst).Pairwise tlt := List.pairwise_map.mpr (ok.ou.sublist List.filter_sublist)
    exact List.pairwise_map.mpr (z.imp fun h => prLt_of h)
  · rw [List.mem_filter, h.mem, decide_eq_true_eq, List.mem_map]
    constructor
    · rintro ⟨⟨_, h1, h2⟩, e⟩
      rw [e] at h1 h2
      obtain ⟨o, ho, eo, _⟩ := vw_iff.mp h1
      rw [← eo] at h1 h2
      exact ⟨q.1, List.mem_map.mpr ⟨o, List.mem_filter.mpr ⟨ho, (S.still ok ho).mpr ⟨h1, h2⟩⟩, eo⟩, by rw [← e]⟩
    · rintro ⟨n, hn, rfl⟩
      obtain ⟨o, ho, rfl⟩ := List.mem_map.mp hn
      obtain ⟨h1, h2⟩ := List.mem_filter.mp ho
      obtain ⟨h3, h4⟩ := (S.still ok h1).mp h2
      exact ⟨⟨S.c.xp, h3, h4⟩, rfl⟩
theorem shw_cl {M : List Ltr} (nm : ∀ m ∈ M, Nm m.1) (l : M.length ≤ 28) : Shw (28 * 173 + 3) 2 (clD M) := by
  refine shw_map (b := 171) (k := 1) (n := 28) (f := ltD) (fun l ml => ?_) l
  refine shw_tup (b := 82) (k := 0) (n := 2) (ds := [.str l.1, .bool l.2]) (fun d hd => ?_) (Nat.le_refl _)
  rcases List.mem_cons.mp hd with rfl | hd
  · exact shw_nm (nm l ml)
  · cases List.mem_singleton.mp hd
    exact (shw_bl _).up (by decide) (by decide)
theorem rpr_two {s : Say} (ok : SayOk 6 8 120 40 s) {ws : List Str} {l0 l1 : Ltr} {M N : List Ltr} (r1 : RchOk s ws l0 M) (r2 : RchOk s ws l1 N) : Rpr (.list [clD M, clD N]) := by
  refine rpr_of (shw_lst (b := 28 * 173 + 3) (k := 2) (n := 2) (fun d hd => ?_) (Nat.le_refl _)) (by decide) (by decide)
  rcases List.mem_cons.mp hd with rfl | hd
  · exact shw_cl (fun m hm => r1.nm ok hm) (r1.len ok)
  · cases List.mem_singleton.mp hd
    exact shw_cl (fun m hm => r2.nm ok hm) (r2.len ok)
theorem rpr_bls (a b : Bool) : Rpr (.list [.bool a, .bool b]) := by
  refine rpr_of (shw_lst (b := 5) (k := 0) (n := 2) (fun d hd => ?_) (Nat.le_refl _)) (by decide) (by decide)
  rcases List.mem_cons.mp hd with rfl | hd
  · exact shw_bl a
  · cases List.mem_singleton.mp hd
    exact shw_bl b
theorem rpr_prs {ns : List Str} {x : Str} (hn : ∀ n ∈ ns, Nm n) (hx : Nm x) (l : ns.length ≤ 8) : Rpr (.list ((ns.map fun n => (n, x)).map prD)) := by
  refine rpr_of (shw_lst (b := 171) (k := 1) (n := 8) (fun d hd => ?_) (by rw [List.length_map, List.length_map]; exact l)) (by decide) (by decide)
  obtain ⟨q, hq, rfl⟩ := List.mem_map.mp hd
  obtain ⟨n, hm, rfl⟩ := List.mem_map.mp hq
  refine shw_tup (b := 82) (k := 0) (n := 2) (ds := [.str n, .str x]) (fun d hd => ?_) (Nat.le_refl _)
  rcases List.mem_cons.mp hd with rfl | hd
  · exact shw_nm (hn n hm)
  · cases List.mem_singleton.mp hd
    exact shw_nm hx
end S3

set_option Elab.async false
set_option linter.all false
set_option maxRecDepth 100000
set_option maxHeartbeats 4000000
/-! what any data is told to be: the questions, as data -/
namespace S2
open PySem PySem.W PySem.Spec PyProof.Rows L2 S1
def tyN : PyData → String
  | .none => "NoneType"
  | .bool _ => "bool"
  | .int _ => "int"
  | .str _ => "str"
  | .list _ => "list"
  | .tuple _ => "tuple"
  | .dict _ => "dict"
theorem ty_dat {K : PySem.W.Frag} {H : Hp} {v : V} {d : PyData} (D : Dat H v d) : TyX K H v (.type (tyN d)) := by
  cases D with
  | non => exact .base .non
  | bl b => exact .base (.bl b)
  | int i => exact .base (.int i)
  | str x => exact .base (.str x)
  | lst e _ => exact .base (.lst e)
  | tup e _ => exact .base (.tup e)
  | dct e _ => exact .base (.dK e)
def isTup : PyData → Bool
  | .tuple _ => true
  | _ => false
def isStr : PyData → Bool
  | .str _ => true
  | _ => false
def isTr : PyData → Bool
  | .bool _ => true
  | _ => false
theorem kit_tup : ∀ d : PyData, kitB (tyN d) "tuple" = some (isTup d)
  | .none => show kitB "NoneType" "tuple" = some false by decide +kernel
  | .bool _ => show kitB "bool" "tuple" = some false by decide +kernel
  | .int _ => show kitB "int" "tuple" = some false by decide +kernel
  | .str _ => show kitB "str" "tuple" = some false by decide +kernel
  | .list _ => show kitB "list" "tuple" = some false by decide +kernel
  | .tuple _ => show kitB "tuple" "tuple" = some true by decide +kernel
  | .dict _ => show kitB "dict" "tuple" = some false by decide +kernel
theorem kit_str : ∀ d : PyData, kitB (tyN d) "str" = some (isStr d)
  | .none => show kitB "NoneType" "str" = some false by decide +kernel
  | .bool _ => show kitB "bool" "str" = some false by decide +kernel
  | .int _ => show kitB "int" "str" = some false by decide +kernel
  | .str _ => show kitB "str" "str" = some true by decide +kernel
  | .list _ => show kitB "list" "str" = some false by decide +kernel
  | .tuple _ => show kitB "tuple" "str" = some false by decide +kernel
  | .dict _ => show kitB "dict" "str" = some false by decide +kernel
theorem kit_bool : ∀ d : PyData, kitB (tyN d) "bool" = some (isTr d)
  | .none => show kitB "NoneType" "bool" = some false by decide +kernel
  | .bool _ => show kitB "bool" "bool" = some true by decide +kernel
  | .int _ => show kitB "int" "bool" = some false by decide +kernel
  | .str _ => show kitB "str" "bool" = some false by decide +kernel
  | .list _ => show kitB "list" "bool" = some false by decide +kernel
  | .tuple _ => show kitB "tuple" "bool" = some false by decide +kernel
  | .dict _ => show kitB "dict" "bool" = some false by decide +kernel
def parts : PyData → List PyData
  | .tuple ds => ds
  | _ => []
def strOf : PyData → Str
  | .str x => x
  | _ => ""
def fstS (d : PyData) : Str := strOf ((parts d).headD .none)
mutual
/-- rows of at most a thousand parts -/
def lim : PyData → Bool
  | .list ds => decide (ds.length ≤ 1000) && lims ds
  | .tuple ds => decide (ds.length ≤ 1000) && lims ds
  | .str x => decide (x.length ≤ 1000)
  | _ => true
def lims : List PyData → Bool
  | [] => true
  | d :: ds => lim d && lims ds
end
theorem lims_mem : ∀ {ds : List PyData}, lims ds = true → ∀ d ∈ ds, lim d = true
  | [], _, d, h => nomatch h
  | x :: ds, t, d, h => by
    rw [lims, Bool.and_eq_true] at t
    rcases List.mem_cons.mp h with rfl | h
    · exact t.1
    · exact lims_mem t.2 d h
theorem lim_tup {ds : List PyData} (h : lim (.tuple ds) = true) : ds.length ≤ 1000 ∧ ∀ d ∈ ds, lim d = true := by
  rw [lim, Bool.and_eq_true, decide_eq_true_eq] at h
  exact ⟨h.1, lims_mem h.2⟩
/-- each below the next -/
def riseB : List PyData → Bool
  | x :: y :: r => dataLt x y && riseB (y :: r)
  | _ => true
def isNm : PyData → Bool
  | .str x => nmB x
  | _ => false
def isLt : PyData → Bool
  | .tuple [a, b] => isNm a && isTr b
  | _ => false
def isCl (d : PyData) : Bool := isTup d && ((parts d).all isLt && riseB ((parts d).map fun x => .str (fstS x)))
def isNames (m : Nat) (d : PyData) : Bool := isTup d && (decide ((parts d).length ≤ m) && ((parts d).all isNm && riseB (parts d)))
def isSightB (ps : List Str) (d : PyData) : Bool := isNames ps.length d && (parts d).all fun x => decide (strOf x ∈ ps)
def isOwnB (ps : List Str) : PyData → Bool
  | .tuple [a, b] => isNm a && (!decide (strOf a ∈ ps) && isSightB ps b)
  | _ => false
def sndLen : PyData → Nat
  | .tuple [_, b] => (parts b).length
  | _ => 0
def areOwnsB (ps : List Str) (d : PyData) : Bool :=
  isTup d && (decide ((parts d).length ≤ 8) && ((parts d).all (isOwnB ps) && (riseB ((parts d).map fun x => .str (fstS x)) && decide (((parts d).map fun x => 2 ^ sndLen x).sum ≤ 120))))
def isClO (ns : List Str) (d : PyData) : Bool := isCl d && (parts d).all fun x => decide (fstS x ∈ ns)
def areClsB (ns : List Str) (d : PyData) : Bool := isTup d && (decide ((parts d).length ≤ 40) && ((parts d).all (isClO ns) && riseB (parts d)))
def strsOf (d : PyData) : List Str := (parts d).map strOf
def namesD (p o : PyData) : List Str := strsOf p ++ (parts o).map fstS
def sayB : PyData → Bool
  | .tuple [p, o, c] => isNames 6 p && (areOwnsB (strsOf p) o && areClsB (namesD p o) c)
  | _ => false
def truthsB (n : Nat) (d : PyData) : Bool := isTup d && (decide ((parts d).length = n) && (parts d).all isTr)
section
variable {X : Cx}
/-- is True, is False -/
def rIsAny : R2 := fun x y H Q => ∃ (d : PyData) (b : Bool), Dat H x d ∧ y = .bl b ∧ Q (.bl (decide (x = .bl b))) H
theorem op_isAny : OpR X (compareOp .Is) rIsAny := by
  intro pins s σ H x y v u Q I rx ry h
  obtain ⟨d, b, D, rfl, q⟩ := h
  cases (show u = Value.bool b from ry)
  cases D with
  | non =>
    cases (show v = Value.none from rx)
    exact wpAny_is_other rfl (fun z => nomatch z) ⟨.bl false, H, I, rfl, q⟩
  | bl a =>
    cases (show v = Value.bool a from rx)
    by_cases e : a = b
    · subst e
      exact wpAny_is_self rfl ⟨.bl true, H, I, rfl, by simpa using q⟩
    · exact wpAny_is_other rfl (fun z => e (Value.bool.inj z)) ⟨.bl false, H, I, rfl, by simpa [e] using q⟩
  | int i =>
    obtain ⟨t, rfl⟩ := rx
    exact wpAny_is_other rfl (fun z => nomatch z) ⟨.bl false, H, I, rfl, q⟩
  | str i =>
    obtain ⟨t, rfl⟩ := rx
    exact wpAny_is_other rfl (fun z => nomatch z) ⟨.bl false, H, I, rfl, q⟩
  | @lst a _ _ _ _ =>
    cases (show v = Value.ref a from rx)
    exact wpAny_is_other rfl (fun z => nomatch z) ⟨.bl false, H, I, rfl, q⟩
  | @tup a _ _ _ _ =>
    cases (show v = Value.ref a from rx)
    exact wpAny_is_other rfl (fun z => nomatch z) ⟨.bl false, H, I, rfl, q⟩
  | @dct a _ _ _ _ =>
    cases (show v = Value.ref a from rx)
    exact wpAny_is_other rfl (fun z => nomatch z) ⟨.bl false, H, I, rfl, q⟩
end
end S2

set_option Elab.async false
set_option linter.all false
set_option maxRecDepth 100000
set_option maxHeartbeats 2000000
/-! the small questions of the program, of any data -/
namespace S2
open PySem PySem.W PySem.Spec PyProof.Rows L2 S1
theorem dats_get {H : Hp} : ∀ {xs : List V} {ds : List PyData}, DatAll H xs ds → ∀ (k : Nat) (d : PyData), ds[k]? = some d → ∃ x, xs[k]? = some x ∧ Dat H x d
  | _, _, .nil, _, _, h => by simp at h
  | _, _, .cons (v := v) h t, 0, d, e => by
    cases (show some _ = some d from e)
    exact ⟨v, rfl, h⟩
  | _, _, .cons h t, k + 1, d, e => dats_get t k d e
theorem dats_get' {H : Hp} : ∀ {xs : List V} {ds : List PyData}, DatAll H xs ds → ∀ (k : Nat) (x : V), xs[k]? = some x → ∃ d, ds[k]? = some d ∧ Dat H x d
  | _, _, .nil, _, _, h => by simp at h
  | _, _, .cons (d := d) h t, 0, x, e => by
    cases (show some _ = some x from e)
    exact ⟨d, rfl, h⟩
  | _, _, .cons h t, k + 1, x, e => dats_get' t k x e
theorem dat_tup {H : Hp} {v : V} {ds : List PyData} (D : Dat H v (.tuple ds)) : ∃ a xs, v = .ref a ∧ H a = some (.tup xs) ∧ DatAll H xs ds := by
  cases D with
  | tup e h => exact ⟨_, _, rfl, e, h⟩
theorem dat_str {H : Hp} {v : V} {x : Str} (D : Dat H v (.str x)) : v = .str x := by
  cases D
  rfl
theorem tup_of {d : PyData} (h : isTup d = true) : ∃ ds, d = .tuple ds := by
  cases d with
  | tuple ds => exact ⟨ds, rfl⟩
  | _ => cases h
theorem str_of {d : PyData} (h : isStr d = true) : ∃ x, d = .str x := by
  cases d with
  | str x => exact ⟨x, rfl⟩
  | _ => cases h
theorem nm_of' {d : PyData} (h : isNm d = true) : ∃ x, d = .str x ∧ nmB x = true := by
  cases d with
  | str x => exact ⟨x, rfl, h⟩
  | _ => cases h
theorem same_tup {K : PySem.W.Frag} {H H' : Hp} {a : Addr} {xs : List V} (S : Same H H') (h : SqT K H a xs) : SqT K H' a xs := by
  rcases h with h | h
  · refine .inl ?_
    rcases h with h | ⟨o, h⟩
    · exact .inl (S _ _ h)
    · exact .inr ⟨o, S _ _ h⟩
  · exact .inr h
theorem same_sq {K : PySem.W.Frag} {H H' : Hp} {a : Addr} {xs : List V} (S : Same H H') (h : SqL K H a xs ∨ SqT K H a xs) : SqL K H' a xs ∨ SqT K H' a xs := h.elim (fun h => .inl (S.seq h)) fun h => .inr (same_tup S h)
theorem ix_any {K : PySem.W.Frag} {H : Hp} {a : Addr} {xs : List V} {i : Int} {v : V} {Q : VK} (h : SqL K H a xs ∨ SqT K H a xs) (e : atI xs i = some v) (q : Q v H) : rIx K (.ref a) (.int i) H Q :=
  h.elim (fun h => .inl ⟨a, xs, i, v, rfl, rfl, h, e, q⟩) fun h => .inr (.inl ⟨a, xs, i, v, rfl, rfl, h, e, q⟩)
section
variable {X : Cx}
def rLtD : R2 := fun x y H Q => ∃ d e, Dat H x d ∧ Dat H y e ∧ alike d e = true ∧ d ≠ .none ∧ d.depth ≤ 8 ∧ Q (.bl (dataLt d e)) H
theorem op_ltD (hu : X.A.units + 64 < cLine) : OpR X (compareOp .Lt) rLtD := by
  intro pins s σ H x y v u Q I rx ry h
  obtain ⟨d, e, D1, D2, al, ne, dp, q⟩ := h
  obtain ⟨as, R1⟩ := reads_of_dat I.hok D1 rx
  obtain ⟨bs, R2⟩ := reads_of_dat I.hok D2 ry
  exact rcLt_alike d e X.A s v u as bs R1 R2 al ne (by have := Nat.min_le_left d.depth e.depth; omega) X.prog X.w X.xe _ ⟨.bl (dataLt d e), H, I, rfl, q⟩
end
section
variable {K : PySem.W.Frag} {g : TG} {te : TE} {vs : List Nat} {σ : L2.St} {H : Hp} {D : Addr} {Qd : Hp → Prop}
/-- [f(x) for x in a tuple], what it gives known one by one -/
theorem lc_mapT {a : Addr} {xs ys : List V} (sq : SqT K H a xs) (hD : H D = none) (ly : ys.length = xs.length) (len : xs.length ≤ 1000)
    (step : ∀ (i : Nat) (x y : V) (H4 : Hp) (Qe : VK), xs[i]? = some x → ys[i]? = some y → Same H H4 → (∀ H5, Same H4 H5 → Qe y H5) → g x (wipe σ vs) H4 fun σ2 H2 => wipe σ2 vs = wipe σ vs ∧ te σ2 H2 Qe)
    (gm : ∀ x σ1 H1 (A B : L2.St → Hp → Prop), (∀ σ2 H2, A σ2 H2 → B σ2 H2) → g x σ1 H1 A → g x σ1 H1 B)
    (hd : ∀ H5, H5 D = some (.lst ys) → Same H H5 → Qd H5) :
    ∃ W : Nat → Nat → Hp → Prop, (∃ m, W 0 m (upd H D (.lst []))) ∧ ∀ i m H, W i m H →
      ((Itt K a).stop i H ∧ Qd H) ∨ ((Itt K a).go i H ∧ ∃ Nx : Hp → Prop, (∀ H', Nx H' → ∃ m', m' < m ∧ W (i + 1) m' H') ∧ ∀ x H', (Itt K a).yld i H x H' → g x (wipe σ vs) H' fun σ2 H2 => wipe σ2 vs = wipe σ vs ∧ tYes σ2 H2 fun b H3 =>
        if b = true then te σ2 H3 fun y H4 => ∃ acc, H4 D = some (.lst acc) ∧ acc.length < sizeLine ∧ Nx (upd H4 D (.lst (acc ++ [y]))) else Nx H3) := by
  refine lc_tup (K := K) (a := a) (xs := xs) (fun j H4 => H4 D = some (.lst (ys.take j)) ∧ Same H H4) ⟨by rw [upd_same, List.take_zero], same_new hD⟩ (fun i H4 _ h => same_tup h.2 sq) (fun i x H4 hx h => ?_) (fun H5 h => hd H5 (by rw [h.1, ← ly, List.take_length]) h.2)
  have il : i < xs.length := (List.getElem?_eq_some_iff.mp hx).1
  obtain ⟨y, hy⟩ : ∃ y, ys[i]? = some y := ⟨_, List.getElem?_eq_getElem (by omega)⟩
  refine gm x _ _ _ _ (fun σ2 H2 z => ⟨z.1, yes_of z.2⟩) (step i x y H4 _ hx hy h.2 fun H5 S5 => ?_)
  have e5 := S5 _ _ h.1
  exact ⟨_, e5, by rw [List.length_take]; exact small1000 (by omega), by rw [upd_same, take_next hy], same_upd (h.2.trans S5) hD⟩
/-- [p(x) for x in a tuple of data] -/
theorem lc_allD {a : Addr} {xs : List V} {ds : List PyData} {p : PyData → Bool} (e : H a = some (.tup xs)) (Da : DatAll H xs ds) (hD : H D = none) (len : ds.length ≤ 1000)
    (step : ∀ (i : Nat) (x : V) (d : PyData) (H4 : Hp) (Qe : VK), ds[i]? = some d → Same H H4 → Dat H4 x d → (∀ H5, Same H4 H5 → Qe (.bl (p d)) H5) → g x (wipe σ vs) H4 fun σ2 H2 => wipe σ2 vs = wipe σ vs ∧ te σ2 H2 Qe)
    (gm : ∀ x σ1 H1 (A B : L2.St → Hp → Prop), (∀ σ2 H2, A σ2 H2 → B σ2 H2) → g x σ1 H1 A → g x σ1 H1 B)
    (hd : ∀ H5, H5 D = some (.lst ((ds.map p).map V.bl)) → Same H H5 → Qd H5) :
    ∃ W : Nat → Nat → Hp → Prop, (∃ m, W 0 m (upd H D (.lst []))) ∧ ∀ i m H, W i m H →
      ((Itt K a).stop i H ∧ Qd H) ∨ ((Itt K a).go i H ∧ ∃ Nx : Hp → Prop, (∀ H', Nx H' → ∃ m', m' < m ∧ W (i + 1) m' H') ∧ ∀ x H', (Itt K a).yld i H x H' → g x (wipe σ vs) H' fun σ2 H2 => wipe σ2 vs = wipe σ vs ∧ tYes σ2 H2 fun b H3 =>
        if b = true then te σ2 H3 fun y H4 => ∃ acc, H4 D = some (.lst acc) ∧ acc.length < sizeLine ∧ Nx (upd H4 D (.lst (acc ++ [y]))) else Nx H3) := by
  have lx : xs.length = ds.length := Da.len
  refine lc_mapT (K := K) (ys := (ds.map p).map V.bl) (SqT.of e) hD (by rw [List.length_map, List.length_map, lx]) (by omega) (fun i x y H4 Qe hx hy S4 k => ?_) gm hd
  obtain ⟨d, hd', Dx⟩ := dats_get' Da i x hx
  have ey : y = V.bl (p d) := by
    rw [List.getElem?_map, List.getElem?_map, hd'] at hy
    exact (Option.some.inj hy).symm
  rw [ey] at k
  exact step i x d H4 Qe hd' S4 (Dx.same S4) k
/-- [f(x) for x in a tuple of data], f giving values without an address -/
theorem lc_mapD {a : Addr} {xs : List V} {ds : List PyData} {f : PyData → V} (e : H a = some (.tup xs)) (Da : DatAll H xs ds) (hD : H D = none) (len : ds.length ≤ 1000)
    (step : ∀ (i : Nat) (x : V) (d : PyData) (H4 : Hp) (Qe : VK), ds[i]? = some d → Same H H4 → Dat H4 x d → (∀ H5, Same H4 H5 → Qe (f d) H5) → g x (wipe σ vs) H4 fun σ2 H2 => wipe σ2 vs = wipe σ vs ∧ te σ2 H2 Qe)
    (gm : ∀ x σ1 H1 (A B : L2.St → Hp → Prop), (∀ σ2 H2, A σ2 H2 → B σ2 H2) → g x σ1 H1 A → g x σ1 H1 B)
    (hd : ∀ H5, H5 D = some (.lst (ds.map f)) → Same H H5 → Qd H5) :
    ∃ W : Nat → Nat → Hp → Prop, (∃ m, W 0 m (upd H D (.lst []))) ∧ ∀ i m H, W i m H →
      ((Itt K a).stop i H ∧ Qd H) ∨ ((Itt K a).go i H ∧ ∃ Nx : Hp → Prop, (∀ H', Nx H' → ∃ m', m' < m ∧ W (i + 1) m' H') ∧ ∀ x H', (Itt K a).yld i H x H' → g x (wipe σ vs) H' fun σ2 H2 => wipe σ2 vs = wipe σ vs ∧ tYes σ2 H2 fun b H3 =>
        if b = true then te σ2 H3 fun y H4 => ∃ acc, H4 D = some (.lst acc) ∧ acc.length < sizeLine ∧ Nx (upd H4 D (.lst (acc ++ [y]))) else Nx H3) := by
  have lx : xs.length = ds.length := Da.len
  refine lc_mapT (K := K) (ys := ds.map f) (SqT.of e) hD (by rw [List.length_map, lx]) (by omega) (fun i x y H4 Qe hx hy S4 k => ?_) gm hd
  obtain ⟨d, hd', Dx⟩ := dats_get' Da i x hx
  have ey : y = f d := by
    rw [List.getElem?_map, hd'] at hy
    exact (Option.some.inj hy).symm
  rw [ey] at k
  exact step i x d H4 Qe hd' S4 (Dx.same S4) k
end
theorem gName_mono {i : Nat} : ∀ (x : V) (σ1 : L2.St) (H1 : Hp) (A B : L2.St → Hp → Prop), (∀ σ2 H2, A σ2 H2 → B σ2 H2) → gName i x σ1 H1 A → gName i x σ1 H1 B := fun x σ1 H1 A B h z => h _ _ z
theorem all_id {α : Type} (p : α → Bool) (l : List α) : (l.map p).all id = l.all p := by
  rw [List.all_map]
  rfl
/-- a question about any data -/
def spJ (p : PyData → Bool) : Sp := fun vs H Q _ => ∃ (v : V) (d : PyData), vs = [v] ∧ Dat H v d ∧ lim d = true ∧ ∀ H', Same H H' → Q (.bl (p d)) H'
def spTupN : Sp := fun vs H Q _ => ∃ (v : V) (d : PyData) (n : Nat), vs = [v, .int (n : Nat)] ∧ Dat H v d ∧ lim d = true ∧ ∀ H', Same H H' → Q (.bl (isTup d && decide ((parts d).length ≤ n))) H'
def pairB (d : PyData) : Bool := isTup d && decide ((parts d).length = 2)
/-- all that may be compared with one another -/
def Likes (ds : List PyData) : Prop := (∀ x ∈ ds, x ≠ .none ∧ x.depth ≤ 8) ∧ ∀ x ∈ ds, ∀ y ∈ ds, alike x y = true
def spRise (K : PySem.W.Frag) : Sp := fun vs H Q _ => ∃ (a : Addr) (xs : List V) (ds : List PyData), vs = [.ref a] ∧ (SqL K H a xs ∨ SqT K H a xs) ∧ DatAll H xs ds ∧ Likes ds ∧ ds.length ≤ 1000 ∧ ∀ H', Same H H' → Q (.bl (riseB ds)) H'
def ltAt (ds : List PyData) (k : Nat) : Bool := dataLt (ds.getD k .none) (ds.getD (k + 1) .none)
theorem rise_range : ∀ ds : List PyData, ((List.range (ds.length - 1)).map (ltAt ds)).all id = riseB ds
  | [] => rfl
  | [_] => rfl
  | x :: y :: r => by
    have h := rise_range (y :: r)
    have e : (List.range ((x :: y :: r).length - 1)).map (ltAt (x :: y :: r)) = dataLt x y :: (List.range ((y :: r).length - 1)).map (ltAt (y :: r)) := by
      show (List.range (r.length + 1)).map _ = _ :: (List.range r.length).map _
      rw [List.range_succ_eq_map, List.map_cons, List.map_map]
      rfl
    rw [e, List.all_cons, h]
    rfl
section
variable {P : Program} {w : World} {K : PySem.W.Frag} {mg : Str → Option Value} {base : Heap}
theorem scIsTruth : FnScope ["value"] ["value"] (defScope sIsTruth) := ⟨rfl, rfl, rfl, by decide +kernel, rfl, by decide +kernel, by decide +kernel⟩
theorem scIsTuple : FnScope ["value", "most"] ["value", "most"] (defScope sIsTuple) := ⟨rfl, rfl, rfl, by decide +kernel, rfl, by decide +kernel, by decide +kernel⟩
theorem scIsPair : FnScope ["value"] ["value"] (defScope sIsPair) := ⟨rfl, rfl, rfl, by decide +kernel, rfl, by decide +kernel, by decide +kernel⟩
theorem scIsRising : FnScope ["parts", "k"] ["parts"] (defScope sIsRising) := ⟨rfl, rfl, rfl, by decide +kernel, rfl, by decide +kernel, by decide +kernel⟩
theorem ok_isTruth {f : Addr} {fd : FuncData} (F : Fun K "is_truth" "is_truth" sIsTruth f fd) : FnOk P w K mg base CX0 1 f fd ["value"] (spJ isTr) := by
  refine F.ok scIsTruth (fun vs H Q E h => ?_) (fun cdv A outer s H vs Q E hr h => ?_)
  · obtain ⟨v, d, rfl, _⟩ := h
    rfl
  · obtain ⟨v, d, rfl, D, li, q⟩ := h
    refine ⟨_, pss_one (ps_ret (pe_or (pe_cmpR op_isAny (pv 0) pe_bl (nomark _)) (pe_one (pe_cmpR op_isAny (pv 0) pe_bl (nomark _))))), ?_⟩
    refine ⟨_, rfl, d, true, D, rfl, _, rfl, ?_⟩
    have q' := q H (Same.refl _)
    cases D with
    | bl b =>
      cases b with
      | true => exact q'
      | false => exact ⟨_, rfl, _, false, .bl false, rfl, q'⟩
    | non => exact ⟨_, rfl, _, false, .non, rfl, q'⟩
    | int i => exact ⟨_, rfl, _, false, .int i, rfl, q'⟩
    | str i => exact ⟨_, rfl, _, false, .str i, rfl, q'⟩
    | lst e h => exact ⟨_, rfl, _, false, .lst e h, rfl, q'⟩
    | tup e h => exact ⟨_, rfl, _, false, .tup e h, rfl, q'⟩
    | dct e h => exact ⟨_, rfl, _, false, .dct e h, rfl, q'⟩
theorem ok_isTuple {f : Addr} {fd : FuncData} (F : Fun K "is_tuple" "is_tuple" sIsTuple f fd) (B : Blt mg) : FnOk P w K mg base CX0 1 f fd ["value", "most"] spTupN := by
  refine F.ok scIsTuple (fun vs H Q E h => ?_) (fun cdv A outer s H vs Q E hr h => ?_)
  · obtain ⟨v, d, n, rfl, _⟩ := h
    rfl
  · obtain ⟨v, d, n, rfl, D, li, q⟩ := h
    refine ⟨_, pss_one (ps_ret (pe_and (pe_callB call_isi (by rfl) B.isi (by decide +kernel) (pa_cons (pv 0) (pa_cons (pe_bltn (v := V.ty "tuple") (by rfl) B.tuple (by decide +kernel) rfl) pa_nil)))
      (pe_one (pe_cmpR op_le (pe_callB call_len_seq (by rfl) B.len (by decide +kernel) (pa_cons (pv 0) pa_nil)) (pv 1) (nomark _))))), ?_⟩
    refine ⟨_, rfl, _, _, _, _, isTup d, rfl, .ty _, ty_dat D, kit_ty (kit_tup d), isTup d, rfl, ?_⟩
    have q' := q H (Same.refl _)
    cases h : isTup d with
    | false =>
      rw [h] at q'
      show if false = true then _ else _
      rw [if_neg (by decide)]
      exact q'
    | true =>
      rw [h] at q'
      show if true = true then _ else _
      rw [if_pos rfl]
      obtain ⟨ds, rfl⟩ := tup_of h
      obtain ⟨a, xs, rfl, e, Da⟩ := dat_tup D
      refine ⟨_, rfl, _, _, rfl, .inr (SqT.of e), _, rfl, _, _, rfl, rfl, ?_⟩
      rw [Da.len]
      have en : decide (((ds.length : Nat) : Int) ≤ ((n : Nat) : Int)) = decide (ds.length ≤ n) := by simp
      show Q (.bl (decide (((ds.length : Nat) : Int) ≤ ((n : Nat) : Int)))) H
      rw [en]
      exact q'
theorem ok_isPair {f : Addr} {fd : FuncData} (F : Fun K "is_pair" "is_pair" sIsPair f fd) (B : Blt mg) : FnOk P w K mg base CX0 1 f fd ["value"] (spJ pairB) := by
  refine F.ok scIsPair (fun vs H Q E h => ?_) (fun cdv A outer s H vs Q E hr h => ?_)
  · obtain ⟨v, d, rfl, _⟩ := h
    rfl
  · obtain ⟨v, d, rfl, D, li, q⟩ := h
    refine ⟨_, pss_one (ps_ret (pe_and (pe_callB call_isi (by rfl) B.isi (by decide +kernel) (pa_cons (pv 0) (pa_cons (pe_bltn (v := V.ty "tuple") (by rfl) B.tuple (by decide +kernel) rfl) pa_nil)))
      (pe_one (pe_cmpR op_eq (pe_callB call_len_seq (by rfl) B.len (by decide +kernel) (pa_cons (pv 0) pa_nil)) pe_int (nomark _))))), ?_⟩
    refine ⟨_, rfl, _, _, _, _, isTup d, rfl, .ty _, ty_dat D, kit_ty (kit_tup d), isTup d, rfl, ?_⟩
    have q' := q H (Same.refl _)
    cases h : isTup d with
    | false =>
      rw [pairB, h] at q'
      show if false = true then _ else _
      rw [if_neg (by decide)]
      exact q'
    | true =>
      rw [pairB, h] at q'
      show if true = true then _ else _
      rw [if_pos rfl]
      obtain ⟨ds, rfl⟩ := tup_of h
      obtain ⟨a, xs, rfl, e, Da⟩ := dat_tup D
      refine ⟨_, rfl, _, _, rfl, .inr (SqT.of e), rfl, ?_⟩
      rw [Da.len]
      have en : decide (V.int ((ds.length : Nat) : Int) = V.int 2) = decide (ds.length = 2) := by
        by_cases z : ds.length = 2
        · rw [z]; rfl
        · rw [decide_eq_false z, decide_eq_false (fun y => z (by injection y with y; omega))]
      show Q (.bl (decide (V.int ((ds.length : Nat) : Int) = V.int 2))) H
      rw [en]
      exact q'
theorem ok_isRising {f : Addr} {fd : FuncData} (F : Fun K "is_rising" "is_rising" sIsRising f fd) (B : Blt mg) : FnOk P w K mg base CX0 1 f fd ["parts"] (spRise K) := by
  refine F.ok scIsRising (fun vs H Q E h => ?_) (fun cdv A outer s H vs Q E hr h => ?_)
  · obtain ⟨a, xs, ds, rfl, _⟩ := h
    rfl
  · obtain ⟨a, xs, ds, rfl, sq, D, L, len, q⟩ := h
    have hu : (A.deeper (envOfC "is_rising" (defScope sIsRising) s.heap.objs.size f cdv)).units + 64 < cLine := hr.units
    refine ⟨_, pss_one (ps_ret (pe_callB (cr_all rfl) (by rfl) B.all (by decide +kernel) (pa_cons (pe_lc (own := [("k", 1)]) (g := gName 1) (tt := tYes) (te := tOp rLtD (tOp (rIx K) (tVar 0) (tVar 1)) (tOp (rIx K) (tVar 0) (tOp (rI0 fun i j => V.int (i + j)) (tVar 1) (tC (V.int 1))))) rfl scIsRising.nd (pi_range1 rfl B.range (pa_cons (pe_op op_sub (pe_callB call_len_seq (by rfl) B.len (by decide +kernel) (pa_cons (pv 0) pa_nil)) pe_int) pa_nil))
      (blkOk_by (N := ["parts", "k"]) (sc := defScope sIsRising) (by decide +kernel)) (fun _ _ _ _ _ => pg_name (i := 1) scIsRising.nd rfl (Or.inl rfl)) (fun _ _ _ _ _ => pts_nil)
      (fun _ _ _ _ _ => by exact pe_cmpR (op_ltD (by exact hu)) (pe_ix ix_seq (pv 0) (pv 1) (fun _ _ => rfl)) (pe_ix ix_seq (pv 0) (pe_op op_add (pv 1) pe_int) (fun _ _ => rfl)) (nomark _))) pa_nil))), ?_⟩
    have lx : xs.length = ds.length := D.len
    refine ⟨_, rfl, _, _, rfl, sq, _, _, rfl, rfl, _, rfl, by omega, by omega, fun D0 hD0 => ?_⟩
    refine lc_range (lo := 0) (n := ((xs.length : Int) - 1).toNat) (fun j H4 => H4 D0 = some (.lst (((List.range j).map (ltAt ds)).map V.bl)) ∧ Same H H4) ⟨upd_same, same_new hD0⟩ ?_ ?_
    · rintro j H4 hj ⟨eD, S⟩
      have j1 : j + 1 < ds.length := by omega
      obtain ⟨x, hx, Dx⟩ := dats_get D j _ (List.getElem?_eq_getElem (show j < ds.length by omega))
      obtain ⟨y, hy, Dy⟩ := dats_get D (j + 1) _ (List.getElem?_eq_getElem j1)
      have m1 := List.getElem_mem (show j < ds.length by omega)
      have m2 := List.getElem_mem j1
      have at1 : atI xs (0 + (j : Int)) = some x := by rw [Int.zero_add]; exact atI_nat hx
      have at2 : atI xs (0 + (j : Int) + 1) = some y := by
        have e : (0 : Int) + (j : Int) + 1 = ((j + 1 : Nat) : Int) := by omega
        rw [e]
        exact atI_nat hy
      refine ⟨rfl, yes_of ?_⟩
      refine ⟨_, rfl, _, rfl, ix_any (same_sq S sq) at1 ⟨_, rfl, _, rfl, _, _, rfl, rfl, ix_any (same_sq S sq) at2 ?_⟩⟩
      refine ⟨_, _, Dx.same S, Dy.same S, L.2 _ m1 _ m2, (L.1 _ m1).1, (L.1 _ m1).2, _, eD, by rw [List.length_map, List.length_map, List.length_range]; exact small1000 (by omega), ?_, same_upd S hD0⟩
      rw [upd_same, List.range_succ, List.map_append, List.map_append]
      have e1 : ltAt ds j = dataLt ds[j] ds[j + 1] := by
        unfold ltAt
        rw [List.getD_eq_getElem?_getD, List.getD_eq_getElem?_getD, List.getElem?_eq_getElem (show j < ds.length by omega), List.getElem?_eq_getElem j1]
        rfl
      rw [List.map_singleton, e1]
      rfl
    · rintro H4 ⟨eD, S⟩
      have en : ((xs.length : Int) - 1).toNat = ds.length - 1 := by omega
      rw [en] at eD
      refine ⟨D0, _, rfl, SqL.of eD, ?_⟩
      rw [rise_range]
      exact q H4 S
end
end S2

set_option Elab.async false
set_option linter.all false
set_option maxRecDepth 100000
set_option maxHeartbeats 2000000
/-! names, letters, clauses, rows: any data asked -/
namespace S2
open PySem PySem.W PySem.Spec PyProof.Rows L2 S1
/-- the numbers at the head of the program -/
structure Cst (mg : Str → Option Value) : Prop where
  small : ∃ t, mg "SMALL" = some (.str "abcdefghijklmnopqrstuvwxyz" t)
  signs : ∃ t, mg "MOST_SIGNS" = some (.int 8 t)
  picks : ∃ t, mg "MOST_PICKS" = some (.int 6 t)
  owns : ∃ t, mg "MOST_OWNS" = some (.int 8 t)
  clauses : ∃ t, mg "MOST_CLAUSES" = some (.int 40 t)
  copies : ∃ t, mg "MOST_COPIES" = some (.int 120 t)
def azB (c : Nat) : Bool := decide (97 ≤ c ∧ c ≤ 122)
theorem abc_iff (c : Nat) : decide (c ∈ ("abcdefghijklmnopqrstuvwxyz" : Str).cps.toList) = azB c := by
  have z : ∀ k, k < 123 → decide (k ∈ ("abcdefghijklmnopqrstuvwxyz" : Str).cps.toList) = azB k := by decide +kernel
  by_cases h : c < 123
  · exact z c h
  · have hm : c ∉ ("abcdefghijklmnopqrstuvwxyz" : Str).cps.toList := fun m => by
      have y : ∀ k ∈ ("abcdefghijklmnopqrstuvwxyz" : Str).cps.toList, k < 123 := by decide +kernel
      exact h (y c m)
    rw [decide_eq_false hm, azB, decide_eq_false (by omega)]
theorem nmB_eq (x : Str) : nmB x = (decide (1 ≤ x.length) && decide (x.length ≤ 8) && (x.cps.toList.map azB).all id) := by
  rw [all_id]
  rfl
section
variable {K : PySem.W.Frag} {g : TG} {te : TE} {vs : List Nat} {σ : L2.St} {H : Hp} {D : Addr} {Qd : Hp → Prop}
theorem lc_boolS {x : Str} {p : Nat → Bool} (hD : H D = none) (len : x.cps.size ≤ 1000)
    (step : ∀ (c : Nat) (H4 : Hp) (Qe : VK), c ∈ x.cps.toList → Same H H4 → (∀ H5, Same H4 H5 → Qe (.bl (p c)) H5) → g (.str ⟨#[c]⟩) (wipe σ vs) H4 fun σ2 H2 => wipe σ2 vs = wipe σ vs ∧ te σ2 H2 Qe)
    (gm : ∀ x σ1 H1 (A B : L2.St → Hp → Prop), (∀ σ2 H2, A σ2 H2 → B σ2 H2) → g x σ1 H1 A → g x σ1 H1 B)
    (hd : ∀ H5, H5 D = some (.lst ((x.cps.toList.map p).map V.bl)) → Same H H5 → Qd H5) :
    ∃ W : Nat → Nat → Hp → Prop, (∃ m, W 0 m (upd H D (.lst []))) ∧ ∀ i m H, W i m H →
      ((Its x).stop i H ∧ Qd H) ∨ ((Its x).go i H ∧ ∃ Nx : Hp → Prop, (∀ H', Nx H' → ∃ m', m' < m ∧ W (i + 1) m' H') ∧ ∀ y H', (Its x).yld i H y H' → g y (wipe σ vs) H' fun σ2 H2 => wipe σ2 vs = wipe σ vs ∧ tYes σ2 H2 fun b H3 =>
        if b = true then te σ2 H3 fun y H4 => ∃ acc, H4 D = some (.lst acc) ∧ acc.length < sizeLine ∧ Nx (upd H4 D (.lst (acc ++ [y]))) else Nx H3) := by
  refine ⟨fun i m H4 => m = x.cps.size - i ∧ i ≤ x.cps.size ∧ H4 D = some (.lst (((x.cps.toList.take i).map p).map V.bl)) ∧ Same H H4, ⟨_, rfl, Nat.zero_le _, upd_same, same_new hD⟩, ?_⟩
  rintro i m H4 ⟨rfl, hi, e4, S4⟩
  by_cases il : i < x.cps.size
  · refine .inr ⟨il, fun H5 => i + 1 ≤ x.cps.size ∧ H5 D = some (.lst (((x.cps.toList.take (i + 1)).map p).map V.bl)) ∧ Same H H5, fun H5 z => ⟨x.cps.size - (i + 1), by omega, rfl, z.1, z.2⟩, ?_⟩
    rintro y H' ⟨rfl, c, hc, rfl⟩
    have hc' : x.cps.toList[i]? = some c := by rw [Array.getElem?_toList]; exact hc
    have mc : c ∈ x.cps.toList := List.mem_of_getElem? hc'
    refine gm _ _ _ _ _ (fun σ2 H2 z => ⟨z.1, yes_of z.2⟩) (step c _ _ mc S4 fun H5 S5 => ?_)
    have e5 := S5 _ _ e4
    refine ⟨_, e5, ?_, il, ?_, same_upd (S4.trans S5) hD⟩
    · rw [List.length_map, List.length_map, List.length_take, Array.length_toList]
      exact small1000 (by omega)
    · rw [upd_same, take_next hc', List.map_append, List.map_append]
      rfl
  · have e : i = x.cps.size := by omega
    subst e
    rw [← Array.length_toList, List.take_length] at e4
    exact .inl ⟨Nat.le_refl _, hd H4 e4 S4⟩
end
theorem ite_yes {c A B : Prop} [Decidable c] (h : c) (k : A) : if c then A else B := by rw [if_pos h]; exact k
theorem let_eq (d : PyData) : isLt d = (pairB d && (isNm ((parts d).getD 0 .none) && isTr ((parts d).getD 1 .none))) := by
  cases d with
  | tuple ds =>
    match ds with
    | [] => rfl
    | [a] => rfl
    | [a, b] => rfl
    | a :: b :: c :: r =>
      have h : decide ((parts (.tuple (a :: b :: c :: r))).length = 2) = false := decide_eq_false (fun z => by simp [parts] at z)
      rw [pairB, h, Bool.and_false]
      rfl
  | _ => rfl
theorem pair_of {d : PyData} (h : pairB d = true) : ∃ a b, d = .tuple [a, b] := by
  unfold pairB at h
  rw [Bool.and_eq_true, decide_eq_true_eq] at h
  obtain ⟨ds, rfl⟩ := tup_of h.1
  match ds, h.2 with
  | [a, b], _ => exact ⟨a, b, rfl⟩
theorem dats_two {H : Hp} {xs : List V} {d e : PyData} (D : DatAll H xs [d, e]) : ∃ x y, xs = [x, y] ∧ Dat H x d ∧ Dat H y e := by
  cases D with
  | cons h1 D =>
    cases D with
    | cons h2 D =>
      cases D
      exact ⟨_, _, rfl, h1, h2⟩
theorem lim_two {d e : PyData} (h : lim (.tuple [d, e]) = true) : lim d = true ∧ lim e = true := by
  obtain ⟨_, h⟩ := lim_tup h
  exact ⟨h d List.mem_cons_self, h e (List.mem_cons_of_mem _ List.mem_cons_self)⟩
section
variable {P : Program} {w : World} {K : PySem.W.Frag} {mg : Str → Option Value} {base : Heap}
theorem scIsName : FnScope ["value", "sign"] ["value"] (defScope sIsName) := ⟨rfl, rfl, rfl, by decide +kernel, rfl, by decide +kernel, by decide +kernel⟩
theorem scIsLetter : FnScope ["value"] ["value"] (defScope sIsLetter) := ⟨rfl, rfl, rfl, by decide +kernel, rfl, by decide +kernel, by decide +kernel⟩
theorem scIsAnyClause : FnScope ["value", "part", "letter"] ["value"] (defScope sIsAnyClause) := ⟨rfl, rfl, rfl, by decide +kernel, rfl, by decide +kernel, by decide +kernel⟩
theorem scAreNames : FnScope ["value", "most", "part"] ["value", "most"] (defScope sAreNames) := ⟨rfl, rfl, rfl, by decide +kernel, rfl, by decide +kernel, by decide +kernel⟩
theorem ok_isName {f : Addr} {fd : FuncData} (F : Fun K "is_name" "is_name" sIsName f fd) (B : Blt mg) (C : Cst mg) : FnOk P w K mg base CX0 1 f fd ["value"] (spJ isNm) := by
  obtain ⟨t1, c1⟩ := C.small
  obtain ⟨t2, c2⟩ := C.signs
  refine F.ok scIsName (fun vs H Q E h => ?_) (fun cdv A outer s H vs Q E hr h => ?_)
  · obtain ⟨v, d, rfl, _⟩ := h
    rfl
  · obtain ⟨v, d, rfl, D, li, q⟩ := h
    refine ⟨_, pss_cons (ps_if (PW.pt (pw_or (pt_not (pt_val (pe_callB call_isi (by rfl) B.isi (by decide +kernel) (pa_cons (pv 0) (pa_cons (pe_bltn (v := V.ty "str") (by rfl) B.str (by decide +kernel) rfl) pa_nil)))))
        (pw_or1 (pt_not (pt_chain op_le op_le pe_int (pe_callB call_len_str (by rfl) B.len (by decide +kernel) (pa_cons (pv 0) pa_nil)) (pe_glob (v := V.int 8) rfl c2 ⟨_, rfl⟩)))))) (pss_one (ps_ret pe_bl)) pss_nil)
      (pss_one (ps_ret (pe_callB (cr_all rfl) (by rfl) B.all (by decide +kernel) (pa_cons (pe_lc (own := [("sign", 1)]) (g := gName 1) (tt := tYes) rfl scIsName.nd (pi_str (pv 0))
        (blkOk_by (N := ["value", "sign"]) (sc := defScope sIsName) (by decide +kernel)) (fun _ _ _ _ _ => pg_name (i := 1) scIsName.nd rfl (Or.inl rfl)) (fun _ _ _ _ _ => pts_nil)
        (fun _ _ _ _ _ => pe_cmpR op_in_sign (pv 1) (pe_glob (v := V.str "abcdefghijklmnopqrstuvwxyz") rfl c1 ⟨_, rfl⟩) (by with_unfolding_all rfl))) pa_nil)))), ?_⟩
    refine ⟨_, rfl, _, _, _, _, isStr d, rfl, .ty _, ty_dat D, kit_ty (kit_str d), isStr d, rfl, ?_⟩
    cases h : isStr d with
    | false =>
      show if (!false) = true then _ else _
      rw [if_pos (by decide)]
      show if true = true then _ else _
      rw [if_pos rfl]
      have e : isNm d = false := by cases d <;> first | rfl | cases h
      rw [e] at q
      exact q H (Same.refl _)
    | true =>
      obtain ⟨x, rfl⟩ := str_of h
      cases dat_str D
      have len1 : x.length ≤ 1000 := by rw [lim, decide_eq_true_eq] at li; exact li
      have len : x.length ≤ sizeLine := Nat.le_of_lt (small1000 len1)
      have e := nmB_eq x
      show if (!true) = true then _ else _
      rw [if_neg (by decide)]
      refine ⟨_, rfl, x, rfl, len, _, _, rfl, rfl, _, rfl, ?_⟩
      have fin0 : nmB x = false → Q (.bl false) H := fun z => by
        have q' := q H (Same.refl _)
        rw [show isNm (.str x) = nmB x from rfl, z] at q'
        exact q'
      refine ite2 (fun h1 => ?_) (fun h1 => ?_)
      · refine ⟨_, _, rfl, rfl, _, rfl, ?_⟩
        have l1 : (1 : Int) ≤ (x.length : Int) := of_decide_eq_true h1
        cases h2 : decide ((x.length : Int) ≤ 8) with
        | false =>
          show if (!false) = true then _ else _
          rw [if_pos (by decide)]
          have l8 : ¬ (x.length : Int) ≤ 8 := of_decide_eq_false h2
          exact fin0 (by rw [e, decide_eq_false (show ¬ x.length ≤ 8 by omega), Bool.and_false, Bool.false_and])
        | true =>
          show if (!true) = true then _ else _
          rw [if_neg (by decide)]
          have l8 : (x.length : Int) ≤ 8 := of_decide_eq_true h2
          have e' : isNm (.str x) = (x.cps.toList.map azB).all id := by
            show nmB x = _
            rw [e, decide_eq_true (show 1 ≤ x.length by omega), decide_eq_true (show x.length ≤ 8 by omega), Bool.true_and, Bool.true_and]
          refine ⟨_, rfl, x, rfl, fun D0 hD => ?_⟩
          refine lc_boolS (p := azB) hD (by show x.length ≤ 1000; omega) (fun c H4 Qe mc S4 k => ?_) gName_mono (fun H5 e5 S5 => ?_)
          · refine ⟨rfl, _, rfl, c, _, rfl, rfl, ?_⟩
            show Qe (.bl (decide _)) H4
            rw [abc_iff]
            exact k H4 (Same.refl _)
          · refine ⟨D0, _, rfl, SqL.of e5, ?_⟩
            rw [← e']
            exact q H5 S5
      · have l1 : ¬ (1 : Int) ≤ (x.length : Int) := fun z => h1 (decide_eq_true z)
        refine ⟨_, rfl, ?_⟩
        show if (!false) = true then _ else _
        rw [if_pos (by decide)]
        exact fin0 (by rw [e, decide_eq_false (show ¬ 1 ≤ x.length by omega), Bool.false_and, Bool.false_and])
theorem ok_isLetter {f fP fN fT : Addr} {fd fdP fdN fdT : FuncData} (F : Fun K "is_letter" "is_letter" sIsLetter f fd) (Pr : Has K mg "is_pair" sIsPair ["value"] fP fdP) (Nn : Has K mg "is_name" sIsName ["value"] fN fdN) (Tr : Has K mg "is_truth" sIsTruth ["value"] fT fdT)
    (B : Blt mg) (C : Cst mg) : FnOk P w K mg base CX0 2 f fd ["value"] (spJ isLt) := by
  have GP : FnOk P w K mg base CX0 1 fP fdP ["value"] (spJ pairB) := ok_isPair Pr.F B
  have GN : FnOk P w K mg base CX0 1 fN fdN ["value"] (spJ isNm) := ok_isName Nn.F B C
  have GT : FnOk P w K mg base CX0 1 fT fdT ["value"] (spJ isTr) := ok_isTruth Tr.F
  refine F.ok scIsLetter (fun vs H Q E h => ?_) (fun cdv A outer s H vs Q E hr h => ?_)
  · obtain ⟨v, d, rfl, _⟩ := h
    rfl
  · obtain ⟨v, d, rfl, D, li, q⟩ := h
    refine ⟨_, pss_one (ps_ret (pe_and (pe_call GP hr rfl Pr.g Pr.F.kp Pr.b .nil pass0 (pa_cons (pv 0) pa_nil)) (pe_and (pe_call GN hr rfl Nn.g Nn.F.kp Nn.b .nil pass0 (pa_cons (pe_ix ix_tup (pv 0) pe_int (fun _ _ => rfl)) pa_nil))
      (pe_one (pe_call GT hr rfl Tr.g Tr.F.kp Tr.b .nil pass0 (pa_cons (pe_ix ix_tup (pv 0) pe_int (fun _ _ => rfl)) pa_nil)))))), ?_⟩
    have e := let_eq d
    refine ⟨_, rfl, v, d, rfl, D, li, fun H1 S1 => ⟨pairB d, rfl, ?_⟩⟩
    cases h : pairB d with
    | false =>
      rw [h, Bool.false_and] at e
      rw [e] at q
      show if false = true then _ else _
      rw [if_neg (by decide)]
      exact q H1 S1
    | true =>
      obtain ⟨a, b, rfl⟩ := pair_of h
      obtain ⟨t, xs, rfl, et, Da⟩ := dat_tup D
      obtain ⟨x, y, rfl, D1, D2⟩ := dats_two Da
      obtain ⟨l1, l2⟩ := lim_two li
      show if true = true then _ else _
      rw [if_pos rfl]
      refine ⟨_, rfl, t, _, 0, _, rfl, rfl, SqT.of (S1 _ _ et), rfl, x, a, rfl, D1.same S1, l1, fun H2 S2 => ⟨isNm a, rfl, ?_⟩⟩
      have e2 : isLt (.tuple [a, b]) = (isNm a && isTr b) := rfl
      rw [e2] at q
      have S12 := S1.trans S2
      cases h2 : isNm a with
      | false =>
        rw [h2] at q
        show if false = true then _ else _
        rw [if_neg (by decide)]
        exact q H2 S12
      | true =>
        rw [h2] at q
        show if true = true then _ else _
        rw [if_pos rfl]
        exact ⟨_, rfl, t, _, 1, _, rfl, rfl, SqT.of (S12 _ _ et), rfl, y, b, rfl, D2.same S12, l2, fun H3 S3 => q H3 (S12.trans S3)⟩
theorem likes_strs {α : Type} (f : α → Str) (l : List α) : Likes (l.map fun x => PyData.str (f x)) := by
  refine ⟨fun d hd => ?_, fun d hd e he => ?_⟩
  · obtain ⟨x, _, rfl⟩ := List.mem_map.mp hd
    exact ⟨(fun z => nomatch z), Nat.zero_le _⟩
  · obtain ⟨x, _, rfl⟩ := List.mem_map.mp hd
    obtain ⟨y, _, rfl⟩ := List.mem_map.mp he
    simp [alike]
theorem likes_nms {ds : List PyData} (h : ds.all isNm = true) : Likes ds := by
  rw [List.all_eq_true] at h
  refine ⟨fun d hd => ?_, fun d hd e he => ?_⟩
  · obtain ⟨x, rfl, _⟩ := nm_of' (h d hd)
    exact ⟨(fun z => nomatch z), Nat.zero_le _⟩
  · obtain ⟨x, rfl, _⟩ := nm_of' (h d hd)
    obtain ⟨y, rfl, _⟩ := nm_of' (h e he)
    simp [alike]
theorem lt_of {d : PyData} (h : isLt d = true) : ∃ x b, d = .tuple [.str x, .bool b] ∧ nmB x = true := by
  rw [let_eq, Bool.and_eq_true, Bool.and_eq_true] at h
  obtain ⟨a, b, rfl⟩ := pair_of h.1
  obtain ⟨x, ex, hx⟩ := nm_of' h.2.1
  have h3 : isTr b = true := h.2.2
  cases b with
  | bool c =>
    have ex' : a = .str x := ex
    subst ex'
    exact ⟨x, c, rfl, hx⟩
  | _ => cases h3
theorem dats_strs' {H : Hp} {α : Type} (f : α → Str) : ∀ l : List α, DatAll H (l.map fun x => V.str (f x)) (l.map fun x => PyData.str (f x))
  | [] => .nil
  | x :: l => .cons (.str _) (dats_strs' f l)
theorem ok_isAnyClause {f fL fR : Addr} {fd fdL fdR : FuncData} (F : Fun K "is_any_clause" "is_any_clause" sIsAnyClause f fd) (Le : Has K mg "is_letter" sIsLetter ["value"] fL fdL) (GL : FnOk P w K mg base CX0 2 fL fdL ["value"] (spJ isLt))
    (Ri : Has K mg "is_rising" sIsRising ["parts"] fR fdR) (B : Blt mg) : FnOk P w K mg base CX0 3 f fd ["value"] (spJ isCl) := by
  have GR : FnOk P w K mg base CX0 1 fR fdR ["parts"] (spRise K) := ok_isRising Ri.F B
  refine F.ok scIsAnyClause (fun vs H Q E h => ?_) (fun cdv A outer s H vs Q E hr h => ?_)
  · obtain ⟨v, d, rfl, _⟩ := h
    rfl
  · obtain ⟨v, d, rfl, D, li, q⟩ := h
    have hr1 := hr.mono (show 1 ≤ 2 by decide)
    refine ⟨_, pss_cons (ps_if (PW.pt (pw_or (pt_not (pt_val (pe_callB call_isi (by rfl) B.isi (by decide +kernel) (pa_cons (pv 0) (pa_cons (pe_bltn (v := V.ty "tuple") (by rfl) B.tuple (by decide +kernel) rfl) pa_nil)))))
        (pw_or1 (pt_not (pt_val (pe_callB (cr_all rfl) (by rfl) B.all (by decide +kernel) (pa_cons (pe_lc (own := [("part", 1)]) (g := gName 1) (tt := tYes) rfl scIsAnyClause.nd (pi_tup (pv 0))
          (blkOk_by (N := ["value", "part", "letter"]) (sc := defScope sIsAnyClause) (by decide +kernel)) (fun _ _ _ _ _ => pg_name (i := 1) scIsAnyClause.nd rfl (Or.inl rfl)) (fun _ _ _ _ _ => pts_nil)
          (fun _ _ _ _ _ => pe_call GL (by exact hr) (by rfl) Le.g Le.F.kp Le.b .nil pass0 (pa_cons (pv 1) pa_nil))) pa_nil))))))) (pss_one (ps_ret pe_bl)) pss_nil)
      (pss_one (ps_ret (pe_call GR hr1 rfl Ri.g Ri.F.kp Ri.b .nil pass0 (pa_cons (pe_lc (own := [("letter", 2)]) (g := gName 2) (tt := tYes) (te := tOp (rIxT K) (tVar 2) (tC (V.int 0))) rfl scIsAnyClause.nd (pi_tup (pv 0))
          (blkOk_by (N := ["value", "part", "letter"]) (sc := defScope sIsAnyClause) (by decide +kernel)) (fun _ _ _ _ _ => pg_name (i := 2) scIsAnyClause.nd rfl (Or.inl rfl)) (fun _ _ _ _ _ => pts_nil)
          (fun _ _ _ _ _ => by exact pe_ix ix_tup (pv 2) pe_int (fun _ _ => rfl))) pa_nil)))), ?_⟩
    refine ⟨_, rfl, _, _, _, _, isTup d, rfl, .ty _, ty_dat D, kit_ty (kit_tup d), isTup d, rfl, ?_⟩
    cases h : isTup d with
    | false =>
      rw [isCl, h, Bool.false_and] at q
      show if (!false) = true then _ else _
      rw [if_pos (by decide)]
      show if true = true then _ else _
      rw [if_pos rfl]
      exact q H (Same.refl _)
    | true =>
      rw [isCl, h, Bool.true_and] at q
      obtain ⟨ds, rfl⟩ := tup_of h
      obtain ⟨a, xs, rfl, e, Da⟩ := dat_tup D
      obtain ⟨len, lm⟩ := lim_tup li
      show if (!true) = true then _ else _
      rw [if_neg (by decide)]
      refine ⟨_, rfl, a, rfl, ⟨_, SqT.of e⟩, fun D0 hD0 => lc_allD (K := K) (p := isLt) e Da hD0 len (fun i x d H4 Qe hd S4 Dx k => ?_) gName_mono (fun H5 e5 S5 => ?_)⟩
      · exact ⟨rfl, _, rfl, x, d, rfl, Dx, lm d (List.mem_of_getElem? hd), k⟩
      · refine ⟨D0, _, rfl, SqL.of e5, _, rfl, ?_⟩
        rw [all_id]
        have q1 : ∀ H', Same H H' → Q (.bl (ds.all isLt && riseB (ds.map fun x => .str (fstS x)))) H' := q
        cases h2 : ds.all isLt with
        | false =>
          rw [h2] at q1
          show if (!false) = true then _ else _
          rw [if_pos (by decide)]
          exact q1 H5 S5
        | true =>
          rw [h2] at q1
          show if (!true) = true then _ else _
          rw [if_neg (by decide)]
          refine ⟨_, rfl, a, rfl, ⟨_, SqT.of (S5 _ _ e)⟩, fun D1 hD1 => lc_mapD (K := K) (f := fun x => V.str (fstS x)) (S5 _ _ e) (DatAll.same S5 Da) hD1 len (fun i x d H4 Qe hd S4 Dx k => ?_) gName_mono (fun H6 e6 S6 => ?_)⟩
          · obtain ⟨z, b, rfl, _⟩ := lt_of (List.all_eq_true.mp h2 d (List.mem_of_getElem? hd))
            obtain ⟨t, ys, rfl, et, Dt⟩ := dat_tup Dx
            obtain ⟨u1, u2, rfl, D1', D2'⟩ := dats_two Dt
            cases dat_str D1'
            exact ⟨rfl, _, rfl, t, _, 0, _, rfl, rfl, SqT.of et, rfl, k H4 (Same.refl _)⟩
          · exact ⟨D1, _, _, rfl, .inl (SqL.of e6), dats_strs' fstS ds, likes_strs fstS ds, by rw [List.length_map]; exact len, fun H' S => q1 H' ((S5.trans S6).trans S)⟩
def spNames : Sp := fun vs H Q _ => ∃ (v : V) (d : PyData) (n : Nat), vs = [v, .int (n : Nat)] ∧ Dat H v d ∧ lim d = true ∧ ∀ H', Same H H' → Q (.bl (isNames n d)) H'
theorem ok_areNames {f fU fN fR : Addr} {fd fdU fdN fdR : FuncData} (F : Fun K "are_names" "are_names" sAreNames f fd) (Tu : Has K mg "is_tuple" sIsTuple ["value", "most"] fU fdU) (Nn : Has K mg "is_name" sIsName ["value"] fN fdN)
    (Ri : Has K mg "is_rising" sIsRising ["parts"] fR fdR) (B : Blt mg) (C : Cst mg) : FnOk P w K mg base CX0 2 f fd ["value", "most"] spNames := by
  have GU : FnOk P w K mg base CX0 1 fU fdU ["value", "most"] spTupN := ok_isTuple Tu.F B
  have GN : FnOk P w K mg base CX0 1 fN fdN ["value"] (spJ isNm) := ok_isName Nn.F B C
  have GR : FnOk P w K mg base CX0 1 fR fdR ["parts"] (spRise K) := ok_isRising Ri.F B
  refine F.ok scAreNames (fun vs H Q E h => ?_) (fun cdv A outer s H vs Q E hr h => ?_)
  · obtain ⟨v, d, n, rfl, _⟩ := h
    rfl
  · obtain ⟨v, d, n, rfl, D, li, q⟩ := h
    refine ⟨_, pss_cons (ps_if (PW.pt (pw_or (pt_not (pt_val (pe_call GU hr rfl Tu.g Tu.F.kp Tu.b .nil pass0 (pa_cons (pv 0) (pa_cons (pv 1) pa_nil)))))
        (pw_or1 (pt_not (pt_val (pe_callB (cr_all rfl) (by rfl) B.all (by decide +kernel) (pa_cons (pe_lc (own := [("part", 2)]) (g := gName 2) (tt := tYes) rfl scAreNames.nd (pi_tup (pv 0))
          (blkOk_by (N := ["value", "most", "part"]) (sc := defScope sAreNames) (by decide +kernel)) (fun _ _ _ _ _ => pg_name (i := 2) scAreNames.nd rfl (Or.inl rfl)) (fun _ _ _ _ _ => pts_nil)
          (fun _ _ _ _ _ => pe_call GN (by exact hr) (by rfl) Nn.g Nn.F.kp Nn.b .nil pass0 (pa_cons (pv 2) pa_nil))) pa_nil))))))) (pss_one (ps_ret pe_bl)) pss_nil)
      (pss_one (ps_ret (pe_call GR hr rfl Ri.g Ri.F.kp Ri.b .nil pass0 (pa_cons (pv 0) pa_nil)))), ?_⟩
    refine ⟨_, rfl, _, rfl, v, d, n, rfl, D, li, fun H1 S1 => ⟨_, rfl, ?_⟩⟩
    have eN : isNames n d = ((isTup d && decide ((parts d).length ≤ n)) && ((parts d).all isNm && riseB (parts d))) := by rw [isNames, Bool.and_assoc]
    rw [eN] at q
    cases h : (isTup d && decide ((parts d).length ≤ n)) with
    | false =>
      rw [h, Bool.false_and] at q
      show if (!false) = true then _ else _
      rw [if_pos (by decide)]
      show if true = true then _ else _
      rw [if_pos rfl]
      exact q H1 S1
    | true =>
      rw [h, Bool.true_and] at q
      rw [Bool.and_eq_true] at h
      obtain ⟨ds, rfl⟩ := tup_of h.1
      obtain ⟨a, xs, rfl, e, Da⟩ := dat_tup D
      obtain ⟨len, lm⟩ := lim_tup li
      show if (!true) = true then _ else _
      rw [if_neg (by decide)]
      refine ⟨_, rfl, a, rfl, ⟨_, SqT.of (S1 _ _ e)⟩, fun D0 hD0 => lc_allD (K := K) (p := isNm) (S1 _ _ e) (DatAll.same S1 Da) hD0 len (fun i x d H4 Qe hd S4 Dx k => ?_) gName_mono (fun H5 e5 S5 => ?_)⟩
      · exact ⟨rfl, _, rfl, x, d, rfl, Dx, lm d (List.mem_of_getElem? hd), k⟩
      · refine ⟨D0, _, rfl, SqL.of e5, _, rfl, ?_⟩
        rw [all_id]
        have S15 := S1.trans S5
        have q1 : ∀ H', Same H H' → Q (.bl (ds.all isNm && riseB ds)) H' := q
        cases h2 : ds.all isNm with
        | false =>
          rw [h2] at q1
          show if (!false) = true then _ else _
          rw [if_pos (by decide)]
          exact q1 H5 S15
        | true =>
          rw [h2] at q1
          show if (!true) = true then _ else _
          rw [if_neg (by decide)]
          exact ⟨_, rfl, a, _, ds, rfl, .inr (SqT.of (S15 _ _ e)), DatAll.same S15 Da, likes_nms h2, len, fun H' S => q1 H' (S15.trans S)⟩
end
end S2

set_option Elab.async false
set_option linter.all false
set_option maxRecDepth 100000
set_option maxHeartbeats 4000000
/-! rows of letters of viewers, judged whatever they be -/
namespace S2
open PySem PySem.W PySem.Spec PyProof.Rows L2 S1
def alB (ws : List Str) (d : PyData) : Bool := isTup d && ((parts d).all (fun x => isLt x && decide (fstS x ∈ ws)) && riseB (parts d))
/-- a letter among data -/
def lt_at (d : PyData) : Ltr := (fstS d, match (parts d).getD 1 .none with | .bool b => b | _ => false)
def ltrs (d : PyData) : List Ltr := (parts d).map lt_at
theorem isLt_is {d : PyData} (h : isLt d = true) : d = ltD (lt_at d) ∧ nmB (lt_at d).1 = true := by
  obtain ⟨x, b, rfl, h2⟩ := lt_of h
  exact ⟨rfl, h2⟩
theorem alB_is {ws : List Str} {d : PyData} (h : alB ws d = true) : d = clD (ltrs d) ∧ (∀ l ∈ ltrs d, l.1 ∈ ws) ∧ riseB ((ltrs d).map ltD) = true := by
  unfold alB at h
  rw [Bool.and_eq_true, Bool.and_eq_true, List.all_eq_true] at h
  obtain ⟨h1, h2, h3⟩ := h
  obtain ⟨ds, rfl⟩ := tup_of h1
  have e : ds = (ltrs (.tuple ds)).map ltD := by
    show ds = (ds.map lt_at).map ltD
    rw [List.map_map]
    conv => lhs; rw [← List.map_id ds]
    refine List.map_congr_left fun x hx => ?_
    have z := h2 x hx
    rw [Bool.and_eq_true] at z
    exact (isLt_is z.1).1
  refine ⟨congrArg PyData.tuple e, fun l hl => ?_, by rw [← e]; exact h3⟩
  obtain ⟨x, hx, rfl⟩ := List.mem_map.mp (show l ∈ ds.map lt_at from hl)
  have z := h2 x hx
  rw [Bool.and_eq_true] at z
  exact of_decide_eq_true z.2
def spAL : Sp := fun vs H Q _ => ∃ (v : V) (lv : Addr) (d : PyData) (ws : List Str), vs = [v, .ref lv] ∧ Dat H v d ∧ lim d = true ∧ H lv = some (.lst (ws.map V.str)) ∧ ∀ H', Same H H' → Q (.bl (alB ws d)) H'
section
variable {P : Program} {w : World} {K : PySem.W.Frag} {mg : Str → Option Value} {base : Heap}
theorem scAL : FnScope ["value", "viewers", "part"] ["value", "viewers"] (defScope sAreLetters) := ⟨rfl, rfl, rfl, by decide +kernel, rfl, by decide +kernel, by decide +kernel⟩
theorem ok_areLetters {f fL fR : Addr} {fd fdL fdR : FuncData} (F : Fun K "are_letters_of" "are_letters_of" sAreLetters f fd) (Le : Has K mg "is_letter" sIsLetter ["value"] fL fdL) (GL : FnOk P w K mg base CX0 2 fL fdL ["value"] (spJ isLt)) (Ri : Has K mg "is_rising" sIsRising ["parts"] fR fdR) (B : Blt mg) :
    FnOk P w K mg base CX0 3 f fd ["value", "viewers"] spAL := by
  have GR : FnOk P w K mg base CX0 1 fR fdR ["parts"] (S2.spRise K) := S2.ok_isRising Ri.F B
  refine F.ok scAL (fun vs H Q E h => ?_) (fun cdv A outer s H vs Q E hr h => ?_)
  · obtain ⟨v, lv, d, ws, rfl, _⟩ := h
    rfl
  · obtain ⟨v, lv, d, ws, rfl, D, li, ev, q⟩ := h
    have hr1 := hr.mono (show 1 ≤ 2 by decide)
    refine ⟨_, pss_cons (ps_if (PW.pt (pw_or (pt_not (pt_val (pe_callB call_isi (by rfl) B.isi (by decide +kernel) (pa_cons (pv 0) (pa_cons (pe_bltn (v := V.ty "tuple") (by rfl) B.tuple (by decide +kernel) rfl) pa_nil)))))
        (pw_or1 (pt_not (pt_val (pe_callB (cr_all rfl) (by rfl) B.all (by decide +kernel) (pa_cons (pe_lc (own := [("part", 2)]) (g := gName 2) (tt := tYes) (te := tAndV (tCall (spJ isLt) [] E0 (tCons (tVar 2) tNil)) (tOp (rIn K false) (tOp (rIxT K) (tVar 2) (tC (V.int 0))) (tVar 1))) rfl scAL.nd (pi_tup (pv 0))
          (blkOk_by (N := ["value", "viewers", "part"]) (sc := defScope sAreLetters) (by decide +kernel)) (fun _ _ _ _ _ => pg_name (i := 2) scAL.nd rfl (Or.inl rfl)) (fun _ _ _ _ _ => pts_nil)
          (fun _ _ _ _ _ => by
            refine pe_and ?_ ?_
            · exact pe_call GL (by exact hr) (by rfl) Le.g Le.F.kp Le.b .nil pass0 (pa_cons (pv 2) pa_nil)
            · refine pe_one ?_
              exact pe_cmpR op_in_seq (pe_ix ix_tup (pv 2) pe_int (fun _ _ => rfl)) (pv 1) (by with_unfolding_all rfl))) pa_nil))))))) (pss_one (ps_ret pe_bl)) pss_nil)
      (pss_one (ps_ret (pe_call GR hr1 rfl Ri.g Ri.F.kp Ri.b .nil pass0 (pa_cons (pv 0) pa_nil)))), ?_⟩
    unfold alB at q
    refine ⟨_, rfl, _, _, _, _, isTup d, rfl, .ty _, ty_dat D, kit_ty (kit_tup d), _, rfl, ?_⟩
    cases ht : isTup d with
    | false =>
      rw [ht] at q
      show if (!false) = true then _ else _
      rw [if_pos (by decide)]
      show if true = true then _ else _
      rw [if_pos rfl]
      exact q H (Same.refl _)
    | true =>
      rw [ht, Bool.true_and] at q
      obtain ⟨ds, rfl⟩ := tup_of ht
      obtain ⟨a, xs, rfl, e, Da⟩ := dat_tup D
      obtain ⟨len, lm⟩ := lim_tup li
      show if (!true) = true then _ else _
      rw [if_neg (by decide)]
      refine ⟨_, rfl, a, rfl, ⟨_, SqT.of e⟩, fun D0 hD0 => lc_allD (K := K) (p := fun x => isLt x && decide (fstS x ∈ ws)) e Da hD0 len (fun i x d H4 Qe hd S4 Dx k => ?_) gName_mono (fun H5 e5 S5 => ?_)⟩
      · refine ⟨rfl, _, rfl, x, d, rfl, Dx, lm d (List.mem_of_getElem? hd), fun H6 S6 => ⟨isLt d, rfl, ?_⟩⟩
        cases hl : isLt d with
        | false =>
          rw [hl] at k
          show if false = true then _ else _
          rw [if_neg (by decide)]
          exact k H6 S6
        | true =>
          rw [hl, Bool.true_and] at k
          obtain ⟨e1, _⟩ := isLt_is hl
          rw [e1] at Dx
          obtain ⟨b, rfl, eb⟩ := ltr_row Dx
          show if true = true then _ else _
          rw [if_pos rfl]
          refine ⟨_, rfl, b, _, 0, _, rfl, rfl, SqT.of (S6 _ _ eb), rfl, _, rfl, lv, _, rfl, .inl (SqL.of (S6 _ _ (S4 _ _ ev))), rfl, flat_strs _, ?_⟩
          show Qe (.bl (inV (V.str (lt_at d).1) (ws.map V.str))) H6
          rw [inV_str]
          exact k H6 S6
      · refine ⟨D0, _, rfl, SqL.of e5, _, rfl, ?_⟩
        rw [all_id]
        have q1 : ∀ H', Same H H' → Q (.bl (ds.all (fun x => isLt x && decide (fstS x ∈ ws)) && riseB ds)) H' := q
        cases h2 : ds.all (fun x => isLt x && decide (fstS x ∈ ws)) with
        | false =>
          rw [h2] at q1
          show if (!false) = true then _ else _
          rw [if_pos (by decide)]
          exact q1 H5 S5
        | true =>
          rw [h2] at q1
          show if (!true) = true then _ else _
          rw [if_neg (by decide)]
          have al : ∀ x ∈ ds, x = ltD (lt_at x) := fun x hx => by
            have z := List.all_eq_true.mp h2 x hx
            rw [Bool.and_eq_true] at z
            exact (isLt_is z.1).1
          refine ⟨_, rfl, a, _, ds, rfl, .inr (SqT.of (S5 _ _ e)), DatAll.same S5 Da, ⟨fun x hx => ?_, fun x hx y hy => ?_⟩, len, fun H' S => q1 H' (S5.trans S)⟩
          · rw [al x hx]
            exact ⟨(fun z => nomatch z), by have := depth_lt (lt_at x); omega⟩
          · rw [al x hx, al y hy]
            exact alike_lt _ _
end
end S2

set_option Elab.async false
set_option linter.all false
set_option maxRecDepth 100000
set_option maxHeartbeats 4000000
/-! closed rows of letters -/
namespace S2
open PySem PySem.W PySem.Spec PyProof.Rows L2 S1
/-- all that letters bring along -/
def askL (s : Say) (ws : List Str) (l0 : Ltr) (L : List Ltr) : List Ltr := bes s ws l0 ++ L.flatMap fun l => bes s ws (neg l)
def closB (s : Say) (ws : List Str) (l0 : Ltr) (L : List Ltr) : Bool := (askL s ws l0 L).all fun m => decide (m ∈ L)
def spClosed : Sp := fun vs H Q _ => ∃ (v u : V) (lv r : Addr) (s : Say) (ws : List Str) (l0 : Ltr) (L : List Ltr), vs = [v, .ref lv, .ref r, u] ∧ DatS H v s ∧ SayOk 6 8 120 40 s ∧ H lv = some (.lst (ws.map V.str)) ∧ Dat H (.ref r) (ltD l0) ∧ Dat H u (clD L) ∧ L.length ≤ 1000 ∧ ∀ H', Same H H' → Q (.bl (closB s ws l0 L)) H'
theorem bes_le {s : Say} (ok : SayOk 6 8 120 40 s) (ws : List Str) (l : Ltr) : (bes s ws l).length ≤ 560 := by
  have z := bes_len ws l 14 s.cls fun cl hcl => Nat.le_trans (cl_len (ok.ck cl hcl)) ok.nlen
  have y := ok.cl
  unfold bes
  omega
theorem ask_snoc (s : Say) (ws : List Str) (l0 : Ltr) (L : List Ltr) (l : Ltr) : askL s ws l0 (L ++ [l]) = askL s ws l0 L ++ bes s ws (neg l) := by
  unfold askL
  rw [List.flatMap_append, List.append_assoc]
  simp
theorem ask_len {s : Say} (ok : SayOk 6 8 120 40 s) (ws : List Str) (l0 : Ltr) : ∀ L : List Ltr, (askL s ws l0 L).length ≤ 560 * (L.length + 1) := fun L => by
  have z : ∀ M : List Ltr, (M.flatMap fun l => bes s ws (neg l)).length ≤ 560 * M.length := fun M => by
    induction M with
    | nil => exact Nat.zero_le _
    | cons l M ih =>
      have := bes_le ok ws (neg l)
      rw [List.flatMap_cons, List.length_append, List.length_cons, Nat.mul_succ]
      omega
  have h0 := bes_le ok ws l0
  have h1 := z L
  unfold askL
  rw [List.length_append, Nat.mul_succ]
  omega
section
variable {P : Program} {w : World} {K : PySem.W.Frag} {mg : Str → Option Value} {base : Heap}
abbrev nCl : List Str := ["saying", "viewers", "pick_letter", "letters", "asked", "name", "truth", "letter"]
theorem scIC : FnScope nCl ["saying", "viewers", "pick_letter", "letters"] (defScope sIsClosed) := ⟨rfl, rfl, rfl, by decide +kernel, rfl, by decide +kernel, by decide +kernel⟩
theorem ok_isClosed {f fB : Addr} {fd fdB : FuncData} (F : Fun K "is_closed" "is_closed" sIsClosed f fd) (Bs : Has K mg "letters_beside" sBeside ["saying", "viewers", "letter"] fB fdB) (B : Blt mg) : FnOk P w K mg base CX0 2 f fd ["saying", "viewers", "pick_letter", "letters"] spClosed := by
  have GB : FnOk P w K mg base CX0 1 fB fdB ["saying", "viewers", "letter"] spBeside := ok_beside Bs.F
  refine F.ok scIC (fun vs H Q E h => ?_) (fun cdv A outer s H vs Q E hr h => ?_)
  · obtain ⟨v, u, lv, r, sy, ws, l0, L, rfl, _⟩ := h
    rfl
  · obtain ⟨v, u, lv, r, sy, ws, l0, L, rfl, D, ok, ev, Dr, Du, lL, q⟩ := h
    have hu : (A.deeper (envOfC "is_closed" (defScope sIsClosed) s.heap.objs.size f cdv)).units + 64 < cLine := hr.units
    have hu2 : (A.deeper (envOfC "is_closed" (defScope sIsClosed) s.heap.objs.size f cdv)).units + 16 < cLine := by omega
    refine ⟨_, pss_cons (ps_set (i := 4) scIC.nd rfl (.inl rfl) (pe_call GB hr rfl Bs.g Bs.F.kp Bs.b .nil pass0 (pa_cons (pv 0) (pa_cons (pv 1) (pa_cons (pv 2) pa_nil)))))
      (pss_cons (ps_for PassesOwn.never rfl (pi_tup (pv 3)) (pg_tup rfl (pgs_cons (pg_name (i := 5) scIC.nd rfl (.inl rfl)) (pgs_cons (pg_name (i := 6) scIC.nd rfl (.inl rfl)) pgs_nil)))
        (pss_one (ps_expr (pe_bm PySem.F.plainAttrs_list PySem.F.slot_list_extend PySem.F.type_list_extend mt_extend (pv 4) (pa_cons (pe_call GB hr rfl Bs.g Bs.F.kp Bs.b .nil pass0 (pa_cons (pv 0) (pa_cons (pv 1) (pa_cons (pe_tup (pa_cons (pv 5) (pa_cons (pe_not (pv 6)) pa_nil))) pa_nil)))) pa_nil)))))
      (pss_one (ps_ret (pe_callB (cr_all rfl) (by rfl) B.all (by decide +kernel) (pa_cons (pe_lc (own := [("letter", 7)]) (g := gName 7) (tt := tYes) (te := tOp (rInT K false) (tVar 7) (tVar 3)) rfl scIC.nd (pi_list (pv 4))
          (blkOk_by (N := nCl) (sc := defScope sIsClosed) (by decide +kernel)) (fun _ _ _ _ _ => pg_name (i := 7) scIC.nd rfl (Or.inl rfl)) (fun _ _ _ _ _ => pts_nil)
          (fun _ _ _ _ _ => by exact pe_cmpR (op_inT (by exact hu2)) (pv 7) (pv 3) (by with_unfolding_all rfl))) pa_nil))))), ?_⟩
    have s2 : 2 ≤ sizeLine := by decide
    obtain ⟨a, TL, rfl, ea, dL, KL⟩ := cl_rows Du
    have lTL : TL.length = L.length := by
      have z := congrArg List.length dL
      rw [List.length_map, List.length_map] at z
      exact z
    refine ⟨_, rfl, _, rfl, _, rfl, v, lv, r, sy, ws, l0, rfl, D, ok, ev, Dr, fun l T H1 S1 hl el eT DT => ?_⟩
    have hl0 := hl
    have nvl : lv ≠ l := ne_of_none ev hl
    have nal : a ≠ l := ne_of_none ea hl
    refine ⟨_, rfl, a, rfl, ⟨_, SqT.of (S1 _ _ ea)⟩, ?_⟩
    refine for_tup (K := K) (a := a) (xs := TL.map TRow.v) (fun j σ H4 => ∃ (o5 o6 : Option V) (T4 : List TRow), σ = [some v, some (.ref lv), some (.ref r), some (.ref a), some (.ref l), o5, o6, none] ∧ H4 l = some (.lst (T4.map TRow.v)) ∧ T4.map Prod.snd = (askL sy ws l0 (L.take j)).map ltD ∧ (∀ q' ∈ T4, Dat H4 q'.v q'.2) ∧ Same H H4)
      ⟨_, _, T, rfl, el, by rw [eT]; show _ = (bes sy ws l0 ++ []).map ltD; rw [List.append_nil], DT, S1⟩ (fun j σ H4 _ ⟨_, _, _, _, _, _, _, S4⟩ => SqT.of (S4 _ _ ea)) ?_ ?_
    · rintro j x σ H4 hx ⟨o5, o6, T4, rfl, e4, d4, D4, S4⟩
      rw [List.getElem?_map] at hx
      obtain ⟨pr, hp, rfl⟩ := Option.map_eq_some_iff.mp hx
      have e1 : ∃ m, L[j]? = some m ∧ pr.2 = ltD m := by
        have z : (TL.map Prod.snd)[j]? = some pr.2 := by rw [List.getElem?_map, hp]; rfl
        rw [dL] at z
        obtain ⟨m, hm, e⟩ := get_map z
        exact ⟨m, hm, e⟩
      obtain ⟨m, hm, e1⟩ := e1
      have jl : j < L.length := (List.getElem?_eq_some_iff.mp hm).1
      have Dp := (KL pr (List.mem_of_getElem? hp)).1
      rw [e1] at Dp
      obtain ⟨b, eb, gb⟩ := ltr_row Dp
      rw [eb]
      refine ⟨b, _, rfl, SqT.of (S4 _ _ gb), rfl, _, _, rfl, _, _, rfl, rfl, ?_⟩
      refine ⟨_, rfl, .inl ⟨rfl, _, SqL.of e4⟩, _, rfl, _, rfl, _, rfl, _, rfl, m.2, rfl, s2, fun t ht => ?_⟩
      have S5 := same_new (o := .tup [V.str m.1, .bl (!m.2)]) ht
      refine ⟨v, lv, t, sy, ws, neg m, rfl, (D.same S4).same S5, ok, S5 _ _ (S4 _ _ ev), .tup upd_same (.cons (.str _) (.cons (.bl _) .nil)), fun l2 T2 H6 S6 hl2 el2 eT2 DT2 => ?_⟩
      have S56 := S5.trans S6
      have e6 := S56 _ _ e4
      have len4 := ask_len ok ws l0 (L.take j)
      have lenb := bes_le ok ws (neg m)
      rw [List.length_take] at len4
      have lT4 : T4.length = (askL sy ws l0 (L.take j)).length := by
        have z := congrArg List.length d4
        rw [List.length_map, List.length_map] at z
        exact z
      have lT2 : T2.length = (bes sy ws (neg m)).length := by
        have z := congrArg List.length eT2
        rw [List.length_map, List.length_map] at z
        exact z
      have kq : ∀ q' ∈ T4 ++ T2, keyable q'.2 = true := fun q' hq' => by
        rcases List.mem_append.mp hq' with h | h
        · have m2 : q'.2 ∈ (askL sy ws l0 (L.take j)).map ltD := d4 ▸ List.mem_map_of_mem h
          obtain ⟨z, _, hz⟩ := List.mem_map.mp m2
          rw [← hz]
          exact keyable_lt z
        · have m2 : q'.2 ∈ (bes sy ws (neg m)).map ltD := eT2 ▸ List.mem_map_of_mem h
          obtain ⟨z, _, hz⟩ := List.mem_map.mp m2
          rw [← hz]
          exact keyable_lt z
      refine ⟨l, l2, _, _, rfl, rfl, e6, el2, ?_, ?_⟩
      · rw [List.length_map, List.length_map]
        have : 560 * (min j L.length + 1) ≤ 560 * 1001 := Nat.mul_le_mul (Nat.le_refl _) (by omega)
        exact Nat.le_trans (show T4.length + T2.length ≤ 1000000 by omega) (by decide)
      · refine ⟨_, _, T4 ++ T2, rfl, by rw [upd_same, List.map_append], by rw [List.map_append, d4, eT2, take_next hm, ask_snoc, List.map_append], fun q' hq' => ?_, same_upd (S4.trans S56) hl0⟩
        refine dat_upd e6 (kq q' hq') ?_
        rcases List.mem_append.mp hq' with h | h
        · exact (D4 q' h).same S56
        · exact DT2 q' h
    · rintro σ H4 ⟨o5, o6, T4, rfl, e4, d4, D4, S4⟩
      rw [List.length_map, lTL, List.take_length] at d4
      have lT4 : T4.length = (askL sy ws l0 L).length := by
        have z := congrArg List.length d4
        rw [List.length_map, List.length_map] at z
        exact z
      have len4 := ask_len ok ws l0 L
      have big : T4.length ≤ 1000000 := by
        have : 560 * (L.length + 1) ≤ 560 * 1001 := Nat.mul_le_mul (Nat.le_refl _) (by omega)
        omega
      refine ⟨_, rfl, l, rfl, ⟨_, SqL.of e4⟩, fun D0 hD0 => ?_⟩
      refine lc_list (K := K) (a := l) (xs := T4.map TRow.v) (fun j H6 => H6 D0 = some (.lst ((((askL sy ws l0 L).take j).map fun m => decide (m ∈ L)).map V.bl)) ∧ Same H4 H6) ⟨upd_same, same_new hD0⟩ (fun j H6 _ h => SqL.of (h.2 _ _ e4)) ?_ ?_
      · rintro j x H6 hx ⟨e6, S6⟩
        rw [List.getElem?_map] at hx
        obtain ⟨pr, hp, rfl⟩ := Option.map_eq_some_iff.mp hx
        obtain ⟨m, hm, e1⟩ : ∃ m, (askL sy ws l0 L)[j]? = some m ∧ pr.2 = ltD m := by
          have z : (T4.map Prod.snd)[j]? = some pr.2 := by rw [List.getElem?_map, hp]; rfl
          rw [d4] at z
          exact get_map z
        have jl : j < T4.length := (List.getElem?_eq_some_iff.mp hp).1
        have Dp := (D4 pr (List.mem_of_getElem? hp)).same S6
        rw [e1] at Dp
        have S46 := S4.trans S6
        refine ⟨rfl, yes_of ⟨_, rfl, _, rfl, pr.1, a, ltD m, TL, rfl, rfl, .inr (SqT.of (S46 _ _ ea)), fun p hp => ⟨(KL p hp).1.same S46, (KL p hp).2⟩, Dp, keyable_lt m, by have := depth_lt m; omega, ?_⟩⟩
        refine ⟨_, e6, ?_, ?_, same_upd S6 hD0⟩
        · rw [List.length_map, List.length_map, List.length_take]
          exact Nat.lt_of_le_of_lt (show _ ≤ 1000000 by omega) (by decide)
        · rw [upd_same, take_next hm, List.map_append, List.map_append]
          show some (HO.lst (_ ++ [V.bl (inT (ltD m) TL)])) = _
          rw [inT_lt dL]
          rfl
      · rintro H6 ⟨e6, S6⟩
        rw [List.length_map, lT4, List.take_length] at e6
        refine ⟨D0, _, rfl, SqL.of e6, ?_⟩
        show Q (.bl (((askL sy ws l0 L).map fun m => decide (m ∈ L)).all id)) H6
        rw [all_id]
        exact q H6 (S4.trans S6)
end
end S2

set_option Elab.async false
set_option linter.all false
set_option maxRecDepth 100000
set_option maxHeartbeats 4000000
/-! idle_holds, idle_paper -/
namespace S2
open PySem PySem.W PySem.Spec PyProof.Rows L2 S1
def halvesB (ws : List Str) (d : PyData) : Bool := pairB d && (parts d).all (alB ws)
def lot1 (d : PyData) : List Ltr := ltrs ((parts d).getD 0 .none)
def lot2 (d : PyData) : List Ltr := ltrs ((parts d).getD 1 .none)
def holdsB (s : Say) (n x : Str) (d : PyData) : Bool :=
  decide (n ∈ vw s x) && (halvesB (vw s x) d && (!hangB (lot1 d) (lot2 d) n && (closB s (vw s x) (x, true) (lot1 d) && closB s (vw s x) (x, false) (lot2 d))))
theorem halves_is {ws : List Str} {d : PyData} (h : halvesB ws d = true) : ∃ a b, d = .tuple [a, b] ∧ alB ws a = true ∧ alB ws b = true := by
  unfold halvesB at h
  rw [Bool.and_eq_true] at h
  obtain ⟨a, b, rfl⟩ := pair_of h.1
  have z := List.all_eq_true.mp h.2
  exact ⟨a, b, rfl, z a List.mem_cons_self, z b (List.mem_cons_of_mem _ List.mem_cons_self)⟩
def spHolds : Sp := fun vs H Q _ => ∃ (v u : V) (s : Say) (o : Own) (x : Str) (d : PyData), vs = [v, .str o.1, .str x, u] ∧ DatS H v s ∧ SayOk 6 8 120 40 s ∧ o ∈ s.owns ∧ x ∈ s.picks ∧ Dat H u d ∧ lim d = true ∧ ∀ H', Same H H' → Q (.bl (holdsB s o.1 x d)) H'
def spPaperOf : Sp := fun vs H Q _ => ∃ (v : V) (s : Say) (o : Own) (x : Str), vs = [v, .str o.1, .str x] ∧ DatS H v s ∧ SayOk 6 8 120 40 s ∧ o ∈ s.owns ∧ x ∈ s.picks ∧
  ((o.1 ∉ vw s x ∨ hangR s x o.1) → ∀ H', Same H H' → Q .non H') ∧ (o.1 ∈ vw s x → ¬ hangR s x o.1 → ∀ (a : Addr) (M N : List Ltr) (H' : Hp), Same H H' → Pap H' a s x M N → Q (.ref a) H')
section
variable {P : Program} {w : World} {K : PySem.W.Frag} {mg : Str → Option Value} {base : Heap}
abbrev nIH : List Str := ["saying", "name", "pick", "value", "viewers", "half", "truth"]
theorem scIH : FnScope nIH ["saying", "name", "pick", "value"] (defScope sIdleHolds) := ⟨rfl, rfl, rfl, by decide +kernel, rfl, by decide +kernel, by decide +kernel⟩
theorem scIP : FnScope ["saying", "name", "pick", "paper"] ["saying", "name", "pick"] (defScope sIdlePaper) := ⟨rfl, rfl, rfl, by decide +kernel, rfl, by decide +kernel, by decide +kernel⟩
theorem ok_idlePaper {f fP fV fH : Addr} {fd fdP fdV fdH : FuncData} (F : Fun K "idle_paper" "idle_paper" sIdlePaper f fd) (e : Env1 K mg) (Wn : Wnt K mg) (W2 : Wnt2 K mg) (Pa : Has K mg "paper_of" sPaperOf ["saying", "pick"] fP fdP) (GP : FnOk P w K mg base CX0 3 fP fdP ["saying", "pick"] spPaper)
    (Vw : Has K mg "viewers_of" sViewersOf ["saying", "pick"] fV fdV) (Hb : Has K mg "hangs_by" sHangsBy ["paper", "name"] fH fdH) (an : mg "any" = none) : FnOk P w K mg base CX0 8 f fd ["saying", "name", "pick"] spPaperOf := by
  obtain ⟨fS, fdS, Ws, GS⟩ := g_wantSaying (P := P) (w := w) (base := base) e Wn
  obtain ⟨fO, fdO, Wo, GO⟩ := g_wantOwn (P := P) (w := w) (base := base) e W2
  obtain ⟨fK, fdK, Wk, GK⟩ := g_wantPick (P := P) (w := w) (base := base) e W2
  have GV : FnOk P w K mg base CX0 1 fV fdV ["saying", "pick"] spViewers := ok_viewersOf Vw.F
  have GH : FnOk P w K mg base CX0 1 fH fdH ["paper", "name"] spHangsBy := ok_hangsBy Hb.F an
  refine F.ok scIP (fun vs H Q E h => ?_) (fun cdv A outer s H vs Q E hr h => ?_)
  · obtain ⟨v, sy, o, x, rfl, _⟩ := h
    rfl
  · obtain ⟨v, sy, o, x, rfl, D, ok, ho, hx, q1, q2⟩ := h
    refine ⟨_, pss_cons (ps_expr (pe_call GS hr rfl Ws.g Ws.F.kp Ws.b .nil pass0 (pa_cons (pv 0) pa_nil)))
      (pss_cons (ps_expr (pe_call GO (hr.mono (by decide)) rfl Wo.g Wo.F.kp Wo.b .nil pass0 (pa_cons (pv 0) (pa_cons (pv 1) pa_nil))))
      (pss_cons (ps_expr (pe_call GK (hr.mono (by decide)) rfl Wk.g Wk.F.kp Wk.b .nil pass0 (pa_cons (pv 0) (pa_cons (pv 2) pa_nil))))
      (pss_cons (ps_set (i := 3) scIP.nd rfl (.inl rfl) (pe_call GP (hr.mono (by decide)) rfl Pa.g Pa.F.kp Pa.b .nil pass0 (pa_cons (pv 0) (pa_cons (pv 2) pa_nil))))
      (pss_cons (ps_if (PW.pt (pw_or (pt_cmpR op_notIn_seq (pv 1) (pe_call GV (hr.mono (by decide)) rfl Vw.g Vw.F.kp Vw.b .nil pass0 (pa_cons (pv 0) (pa_cons (pv 2) pa_nil))) (by with_unfolding_all rfl))
          (pw_or1 (pt_val (pe_call GH (hr.mono (by decide)) rfl Hb.g Hb.F.kp Hb.b .nil pass0 (pa_cons (pv 3) (pa_cons (pv 1) pa_nil))))))) (pss_one (ps_ret pe_non)) pss_nil)
      (pss_one (ps_ret (pv 3))))))), ?_⟩
    refine ⟨_, rfl, v, sy, rfl, D, ok, fun H1 S1 => ⟨_, rfl, _, rfl, v, sy, o, rfl, D.same S1, ok, ho, fun H2 S2 => ⟨_, rfl, _, rfl, v, sy, x, rfl, D.same (S1.trans S2), ok, hx, fun H3 S3 => ?_⟩⟩⟩
    have S03 := S1.trans (S2.trans S3)
    refine ⟨_, rfl, _, rfl, v, sy, x, rfl, D.same S03, ok, fun a M N H4 S4 pap => ?_⟩
    have S04 := S03.trans S4
    refine ⟨_, rfl, _, rfl, _, rfl, v, sy, x, rfl, D.same S04, ok, fun lv H5 S5 hlv ev => ?_⟩
    have S05 := S04.trans S5
    refine ⟨lv, _, rfl, .inl (SqL.of ev), rfl, flat_strs _, _, rfl, ?_⟩
    show if (!inV (V.str o.1) ((vw sy x).map V.str)) = true then _ else _
    rw [inV_str]
    obtain ⟨u1, u2, ea, p1, p2, r1, r2⟩ := pap
    by_cases hv : o.1 ∈ vw sy x
    · rw [decide_eq_true hv, if_neg (by decide)]
      refine ⟨_, rfl, _, rfl, a, o.1, M, N, u1, u2, rfl, S5 _ _ ea, p1.same S5, p2.same S5, fun H6 S6 => ⟨_, rfl, ?_⟩⟩
      have S56 := S5.trans S6
      have hi := hangB_iff (n := o.1) r1 r2
      cases hh : hangB M N o.1 with
      | true =>
        show if true = true then _ else _
        rw [if_pos rfl]
        exact q1 (.inr (hi.mp hh)) H6 (S05.trans S6)
      | false =>
        show if false = true then _ else _
        rw [if_neg (by decide)]
        exact ⟨_, rfl, q2 hv (fun z => by rw [hi.mpr z] at hh; cases hh) a M N H6 (S05.trans S6) ⟨u1, u2, S56 _ _ ea, p1.same S56, p2.same S56, r1, r2⟩⟩
    · rw [decide_eq_false hv, if_pos (by decide)]
      show if true = true then _ else _
      rw [if_pos rfl]
      exact q1 (.inl hv) H5 S05
end
end S2

set_option Elab.async false
set_option linter.all false
set_option maxRecDepth 100000
set_option maxHeartbeats 4000000
/-! idle_holds -/
namespace S2
open PySem PySem.W PySem.Spec PyProof.Rows L2 S1 RZ
theorem walk_zipT {K : PySem.W.Frag} {a b : Addr} {xs ys : List V} {n : Nat} (h1 : xs.length = n) (h2 : ys.length = n) : Walk (ItzT K a b) n (fun H => SqT K H a xs ∧ SqT K H b ys) (YPair (fun i => xs[i]?) (fun i => ys[i]?)) := by
  refine ⟨fun i H hi q => ⟨xs, ys, _, _, q.1, q.2, List.getElem?_eq_getElem (by omega), List.getElem?_eq_getElem (by omega)⟩, fun H q => ⟨xs, ys, q.1, q.2, .inl (by omega)⟩, fun i H x H' hi q y => ?_⟩
  obtain ⟨T, x, y, rfl, hT, rfl, f1, f2⟩ := y
  exact ⟨T, x, y, rfl, hT, rfl, f1 xs q.1, f2 ys q.2⟩
theorem lim_cl {L : List Ltr} (h : lim (clD L) = true) : L.length ≤ 1000 := by
  have z := (lim_tup h).1
  rwa [List.length_map] at z
section
variable {P : Program} {w : World} {K : PySem.W.Frag} {mg : Str → Option Value} {base : Heap}
theorem ok_idleHolds {f fV fP fA fH fC : Addr} {fd fdV fdP fdA fdH fdC : FuncData} (F : Fun K "idle_holds" "idle_holds" sIdleHolds f fd) (e : Env1 K mg) (Wn : Wnt K mg) (W2 : Wnt2 K mg) (Vw : Has K mg "viewers_of" sViewersOf ["saying", "pick"] fV fdV) (Pr : Has K mg "is_pair" sIsPair ["value"] fP fdP)
    (Al : Has K mg "are_letters_of" sAreLetters ["value", "viewers"] fA fdA) (GA : FnOk P w K mg base CX0 3 fA fdA ["value", "viewers"] spAL) (Hb : Has K mg "hangs_by" sHangsBy ["paper", "name"] fH fdH) (Cl : Has K mg "is_closed" sIsClosed ["saying", "viewers", "pick_letter", "letters"] fC fdC)
    (GC : FnOk P w K mg base CX0 2 fC fdC ["saying", "viewers", "pick_letter", "letters"] spClosed) (an : mg "any" = none) : FnOk P w K mg base CX0 8 f fd ["saying", "name", "pick", "value"] spHolds := by
  obtain ⟨fS, fdS, Ws, GS⟩ := g_wantSaying (P := P) (w := w) (base := base) e Wn
  obtain ⟨fO, fdO, Wo, GO⟩ := g_wantOwn (P := P) (w := w) (base := base) e W2
  obtain ⟨fK, fdK, Wk, GK⟩ := g_wantPick (P := P) (w := w) (base := base) e W2
  have GV : FnOk P w K mg base CX0 1 fV fdV ["saying", "pick"] spViewers := ok_viewersOf Vw.F
  have GP : FnOk P w K mg base CX0 1 fP fdP ["value"] (spJ pairB) := S2.ok_isPair Pr.F e.B
  have GH : FnOk P w K mg base CX0 1 fH fdH ["paper", "name"] spHangsBy := ok_hangsBy Hb.F an
  refine F.ok scIH (fun vs H Q E h => ?_) (fun cdv A outer s H vs Q E hr h => ?_)
  · obtain ⟨v, u, sy, o, x, d, rfl, _⟩ := h
    rfl
  · obtain ⟨v, u, sy, o, x, d, rfl, D, ok, ho, hx, Du, li, q⟩ := h
    have hr1 := hr.mono (show 1 ≤ 7 by decide)
    have hr2 := hr.mono (show 2 ≤ 7 by decide)
    have hr3 := hr.mono (show 3 ≤ 7 by decide)
    refine ⟨_, pss_cons (ps_expr (pe_call GS hr rfl Ws.g Ws.F.kp Ws.b .nil pass0 (pa_cons (pv 0) pa_nil)))
      (pss_cons (ps_expr (pe_call GO hr2 rfl Wo.g Wo.F.kp Wo.b .nil pass0 (pa_cons (pv 0) (pa_cons (pv 1) pa_nil))))
      (pss_cons (ps_expr (pe_call GK hr2 rfl Wk.g Wk.F.kp Wk.b .nil pass0 (pa_cons (pv 0) (pa_cons (pv 2) pa_nil))))
      (pss_cons (ps_set (i := 4) scIH.nd rfl (.inr rfl) (pe_call GV hr1 rfl Vw.g Vw.F.kp Vw.b .nil pass0 (pa_cons (pv 0) (pa_cons (pv 2) pa_nil))))
      (pss_cons (ps_if (PW.pt (pw_or (pt_cmpR op_notIn_seq (pv 1) (pv 4) (by with_unfolding_all rfl)) (pw_or (pt_not (pt_val (pe_call GP hr1 rfl Pr.g Pr.F.kp Pr.b .nil pass0 (pa_cons (pv 3) pa_nil))))
          (pw_or1 (pt_not (pt_val (pe_callB (cr_all rfl) (by rfl) e.B.all (by decide +kernel) (pa_cons (pe_lc (own := [("half", 5)]) (g := gName 5) (tt := tYes) (te := tCall spAL [] E0 (tCons (tVar 5) (tCons (tVar 4) tNil))) rfl scIH.nd (pi_tup (pv 3))
            (blkOk_by (N := nIH) (sc := defScope sIdleHolds) (by decide +kernel)) (fun _ _ _ _ _ => pg_name (i := 5) scIH.nd rfl (Or.inl rfl)) (fun _ _ _ _ _ => pts_nil)
            (fun _ _ _ _ _ => by exact pe_call GA (by exact hr3) (by rfl) Al.g Al.F.kp Al.b .nil pass0 (pa_cons (pv 5) (pa_cons (pv 4) pa_nil)))) pa_nil)))))))) (pss_one (ps_ret pe_bl)) pss_nil)
      (pss_cons (ps_if (pt_val (pe_call GH hr1 rfl Hb.g Hb.F.kp Hb.b .nil pass0 (pa_cons (pv 3) (pa_cons (pv 1) pa_nil)))) (pss_one (ps_ret pe_bl)) pss_nil)
      (pss_one (ps_ret (pe_callB (cr_all rfl) (by rfl) e.B.all (by decide +kernel) (pa_cons (pe_lc (own := [("truth", 6), ("half", 5)]) (g := gTup K 2 (gCons (gName 6) (gCons (gName 5) gNil))) (tt := tYes) (te := tCall spClosed [] E0 (tCons (tVar 0) (tCons (tVar 4) (tCons (tTup (tCons (tVar 2) (tCons (tVar 6) tNil))) (tCons (tVar 5) tNil))))) rfl scIH.nd
            (pi_zipA rfl e.B.zip (pa_cons (pe_tup (pa_cons pe_bl (pa_cons pe_bl pa_nil))) (pa_cons (pv 3) pa_nil))) (blkOk_by (N := nIH) (sc := defScope sIdleHolds) (by decide +kernel))
            (fun _ _ _ _ _ => by exact pg_tup rfl (pgs_cons (pg_name (i := 6) scIH.nd rfl (.inl rfl)) (pgs_cons (pg_name (i := 5) scIH.nd rfl (.inl rfl)) pgs_nil))) (fun _ _ _ _ _ => pts_nil)
            (fun _ _ _ _ _ => by exact pe_call GC (by exact hr2) (by rfl) Cl.g Cl.F.kp Cl.b .nil pass0 (pa_cons (pv 0) (pa_cons (pv 4) (pa_cons (pe_tup (pa_cons (pv 2) (pa_cons (pv 6) pa_nil))) (pa_cons (pv 5) pa_nil)))))) pa_nil))))))))), ?_⟩
    refine ⟨_, rfl, v, sy, rfl, D, ok, fun H1 S1 => ⟨_, rfl, _, rfl, v, sy, o, rfl, D.same S1, ok, ho, fun H2 S2 => ⟨_, rfl, _, rfl, v, sy, x, rfl, D.same (S1.trans S2), ok, hx, fun H3 S3 => ?_⟩⟩⟩
    have S03 := S1.trans (S2.trans S3)
    refine ⟨_, rfl, _, rfl, v, sy, x, rfl, D.same S03, ok, fun lv H4 S4 hlv ev => ?_⟩
    have S04 := S03.trans S4
    refine ⟨_, rfl, _, rfl, lv, _, rfl, .inl (SqL.of ev), rfl, flat_strs _, _, rfl, ?_⟩
    show if (!inV (V.str o.1) ((vw sy x).map V.str)) = true then _ else _
    rw [inV_str]
    unfold holdsB at q
    by_cases hv : o.1 ∈ vw sy x
    · rw [decide_eq_true hv, if_neg (by decide)]
      rw [decide_eq_true hv, Bool.true_and] at q
      refine ⟨_, rfl, u, d, rfl, Du.same S04, li, fun H5 S5 => ⟨_, rfl, ?_⟩⟩
      have S05 := S04.trans S5
      unfold halvesB at q
      cases hp : pairB d with
      | false =>
        rw [hp] at q
        show if (!false) = true then _ else _
        rw [if_pos (by decide)]
        show if true = true then _ else _
        rw [if_pos rfl]
        exact q H5 S05
      | true =>
        rw [hp, Bool.true_and] at q
        obtain ⟨d1, d2, rfl⟩ := pair_of hp
        obtain ⟨a, us, rfl, ea, Da⟩ := dat_tup (Du.same S05)
        obtain ⟨_, lm⟩ := lim_tup li
        have ev5 := S5 _ _ ev
        show if (!true) = true then _ else _
        rw [if_neg (by decide)]
        refine ⟨_, rfl, a, rfl, ⟨_, SqT.of ea⟩, fun D0 hD0 => lc_allD (K := K) (p := alB (vw sy x)) ea Da hD0 (by simp) (fun i y d H6 Qe hd S6 Dy k => ?_) gName_mono (fun H6 e6 S6 => ?_)⟩
        · exact ⟨rfl, _, rfl, _, rfl, y, lv, d, vw sy x, rfl, Dy, lm d (List.mem_of_getElem? hd), S6 _ _ ev5, k⟩
        · refine ⟨D0, _, rfl, SqL.of e6, _, rfl, ?_⟩
          rw [all_id]
          have S06 := S05.trans S6
          cases hA : [d1, d2].all (alB (vw sy x)) with
          | false =>
            have hA' : (parts (.tuple [d1, d2])).all (alB (vw sy x)) = false := hA
            rw [hA'] at q
            show if (!false) = true then _ else _
            rw [if_pos (by decide)]
            exact q H6 S06
          | true =>
            have hA' : (parts (.tuple [d1, d2])).all (alB (vw sy x)) = true := hA
            rw [hA', Bool.true_and] at q
            show if (!true) = true then _ else _
            rw [if_neg (by decide)]
            have z := List.all_eq_true.mp hA
            have a1 := alB_is (z d1 List.mem_cons_self)
            have a2 := alB_is (z d2 (List.mem_cons_of_mem _ List.mem_cons_self))
            have l1 : (ltrs d1).length ≤ 1000 := lim_cl (by rw [← a1.1]; exact lm d1 List.mem_cons_self)
            have l2 : (ltrs d2).length ≤ 1000 := lim_cl (by rw [← a2.1]; exact lm d2 (List.mem_cons_of_mem _ List.mem_cons_self))
            obtain ⟨y1, y2, rfl, E1, E2⟩ : ∃ y1 y2, us = [y1, y2] ∧ Dat H5 y1 (clD (ltrs d1)) ∧ Dat H5 y2 (clD (ltrs d2)) := by
              cases Da with
              | cons h1 h =>
                cases h with
                | cons h2 h =>
                  cases h
                  exact ⟨_, _, rfl, by rw [← a1.1]; exact h1, by rw [← a2.1]; exact h2⟩
            have q2 : ∀ H', Same H H' → Q (.bl (!hangB (ltrs d1) (ltrs d2) o.1 && (closB sy (vw sy x) (x, true) (ltrs d1) && closB sy (vw sy x) (x, false) (ltrs d2)))) H' := q
            refine ⟨_, rfl, _, rfl, a, o.1, ltrs d1, ltrs d2, y1, y2, rfl, S6 _ _ ea, E1.same S6, E2.same S6, fun H7 S7 => ⟨_, rfl, ?_⟩⟩
            have S07 := S06.trans S7
            have S67 := S6.trans S7
            cases hh : hangB (ltrs d1) (ltrs d2) o.1 with
            | true =>
              rw [hh] at q2
              show if true = true then _ else _
              rw [if_pos rfl]
              exact q2 H7 S07
            | false =>
              rw [hh] at q2
              show if false = true then _ else _
              rw [if_neg (by decide)]
              refine ⟨(by show 2 ≤ sizeLine; decide), fun tt htt => ?_⟩
              have S8 := same_new (o := .tup [V.bl true, .bl false]) htt
              have S68 := S67.trans S8
              refine ⟨_, rfl, tt, a, _, _, rfl, .inr ⟨SqT.of upd_same, SqT.of (S68 _ _ ea), fun D1 hD1 => ?_⟩⟩
              have S08 := S07.trans S8
              have et : upd H7 tt (.tup [V.bl true, .bl false]) tt = some (.tup [V.bl true, .bl false]) := upd_same
              have ea8 := S68 _ _ ea
              have ev8 := S68 _ _ ev5
              have E18 := E1.same S68
              have E28 := E2.same S68
              generalize upd H7 tt (.tup [V.bl true, .bl false]) = H8 at S08 et ea8 ev8 E18 E28 hD1 ⊢
              refine lc_it (walk_zipT (K := K) (a := tt) (b := a) (xs := [V.bl true, .bl false]) (ys := [y1, y2]) (n := 2) rfl rfl) (fun i H9 => H9 D1 = some (.lst (([closB sy (vw sy x) (x, true) (ltrs d1), closB sy (vw sy x) (x, false) (ltrs d2)].take i).map V.bl)) ∧ Same H8 H9) ⟨upd_same, same_new hD1⟩ (fun i H9 _ h => ⟨SqT.of (h.2 _ _ et), SqT.of (h.2 _ _ ea8)⟩) ?_ ?_
              · rintro i y H9 HA hi ⟨e9, S9⟩ ⟨T0, b0, y0, rfl, hT0, rfl, f1, f2⟩
                obtain ⟨b, L, rfl, Dl, lL, hc⟩ : ∃ b L, b0 = V.bl b ∧ Dat H8 y0 (clD L) ∧ L.length ≤ 1000 ∧ [closB sy (vw sy x) (x, true) (ltrs d1), closB sy (vw sy x) (x, false) (ltrs d2)][i]? = some (closB sy (vw sy x) (x, b) L) := by
                  match i, hi, f1, f2 with
                  | 0, _, f1, f2 =>
                    cases (show some _ = some _ from f1)
                    cases (show some _ = some _ from f2)
                    exact ⟨true, ltrs d1, rfl, E18, l1, rfl⟩
                  | 1, _, f1, f2 =>
                    cases (show some _ = some _ from f1)
                    cases (show some _ = some _ from f2)
                    exact ⟨false, ltrs d2, rfl, E28, l2, rfl⟩
                have SA := same_new (o := .tup [V.bl b, y0]) hT0
                refine ⟨T0, _, rfl, SqT.of upd_same, rfl, _, _, rfl, _, _, rfl, rfl, rfl, yes_of ?_⟩
                refine ⟨_, rfl, _, rfl, _, rfl, _, rfl, (by show 2 ≤ sizeLine; decide), fun t ht => ⟨_, rfl, ?_⟩⟩
                have SB := S9.trans (SA.trans (same_new (o := .tup [V.str x, .bl b]) ht))
                refine ⟨v, y0, lv, t, sy, vw sy x, (x, b), L, rfl, D.same (S08.trans SB), ok, SB _ _ ev8, .tup upd_same (.cons (.str _) (.cons (.bl _) .nil)), Dl.same SB, lL, fun HC SC => ?_⟩
                have SD := (SA.trans (same_new (o := .tup [V.str x, .bl b]) ht)).trans SC
                have eC := SD _ _ e9
                refine ⟨_, eC, ?_, ?_, same_upd (S9.trans SD) hD1⟩
                · rw [List.length_map, List.length_take]
                  exact Nat.lt_of_le_of_lt (show _ ≤ 2 by simp; omega) (by decide)
                · rw [upd_same, take_next hc, List.map_append]
                  rfl
              · rintro H9 ⟨e9, S9⟩
                refine ⟨D1, _, rfl, SqL.of e9, ?_⟩
                have eq : (([closB sy (vw sy x) (x, true) (ltrs d1), closB sy (vw sy x) (x, false) (ltrs d2)].take 2).all id) = (closB sy (vw sy x) (x, true) (ltrs d1) && closB sy (vw sy x) (x, false) (ltrs d2)) := by
                  show (_ && (_ && true)) = _
                  rw [Bool.and_true]
                  rfl
                show Q (.bl (([closB sy (vw sy x) (x, true) (ltrs d1), closB sy (vw sy x) (x, false) (ltrs d2)].take 2).all id)) H9
                rw [eq]
                exact q2 H9 (S08.trans S9)
    · rw [decide_eq_false hv, if_pos (by decide)]
      rw [decide_eq_false hv] at q
      show if true = true then _ else _
      rw [if_pos rfl]
      exact q H4 S04
end
end S2

set_option Elab.async false
set_option linter.all false
set_option maxRecDepth 100000
set_option maxHeartbeats 4000000
/-! rows of letters: the same as sorted without doubles; what the judges ask, apart -/
namespace S2
open PySem PySem.W PySem.Spec PyProof.Rows L2 S1
theorem eqvAll_lt : ∀ L M : List Ltr, PyData.eqvAll (L.map ltD) (M.map ltD) = decide (L = M)
  | [], [] => rfl
  | [], m :: M => by simp [PyData.eqvAll]
  | l :: L, [] => by simp [PyData.eqvAll]
  | l :: L, m :: M => by
    rw [List.map_cons, List.map_cons, PyData.eqvAll, eqv_lt, eqvAll_lt L M]
    by_cases h : l = m
    · by_cases h2 : L = M
      · simp [h, h2]
      · simp [h2]
    · simp [h]
theorem rise_iff : ∀ L : List Ltr, riseB (L.map ltD) = true ↔ L.Pairwise ltLt
  | [] => ⟨fun _ => .nil, fun _ => rfl⟩
  | [l] => ⟨fun _ => List.pairwise_singleton _ _, fun _ => rfl⟩
  | l :: m :: L => by
    have ih := rise_iff (m :: L)
    show (dataLt (ltD l) (ltD m) && riseB ((m :: L).map ltD)) = true ↔ _
    rw [Bool.and_eq_true, ih]
    constructor
    · rintro ⟨h1, h2⟩
      refine List.pairwise_cons.mpr ⟨fun y hy => ?_, h2⟩
      rcases List.mem_cons.mp hy with rfl | hy
      · exact h1
      · exact dataLt_trans h1 ((List.pairwise_cons.mp h2).1 y hy)
    · intro h
      obtain ⟨h1, h2⟩ := List.pairwise_cons.mp h
      exact ⟨h1 m List.mem_cons_self, h2⟩
/-- a row that is the same as its parts, sorted, without doubles -/
theorem rise_sorted {L M : List Ltr} (up : M.Pairwise ltLt) (mem : ∀ l, l ∈ M ↔ l ∈ L) : decide (L = M) = riseB (L.map ltD) := by
  rw [Bool.eq_iff_iff, decide_eq_true_eq, rise_iff]
  constructor
  · intro h
    rw [h]
    exact up
  · intro h
    exact rise_unique (r := ltLt) (fun x z => by unfold ltLt at z; rw [dataLt_irrefl] at z; cases z) (fun {x y z} a b => dataLt_trans a b) h up fun l => (mem l).symm
/-- a letter whose name is among some -/
def lwB (ws : List Str) (e : PyData) : Bool := isLt e && decide (fstS e ∈ ws)
def gLot (s : Say) (x : Str) (d : PyData) (t : Bool) : Bool := alB (vw s x) d && closB s (vw s x) (x, t) (ltrs d)
theorem holds_eq (s : Say) (n x : Str) (d1 d2 : PyData) : holdsB s n x (.tuple [d1, d2]) = (decide (n ∈ vw s x) && (gLot s x d1 true && (gLot s x d2 false && !hangB (ltrs d1) (ltrs d2) n))) := by
  unfold holdsB halvesB gLot
  show (decide (n ∈ vw s x) && ((true && (alB (vw s x) d1 && (alB (vw s x) d2 && true))) && (!hangB (ltrs d1) (ltrs d2) n && (closB s (vw s x) (x, true) (ltrs d1) && closB s (vw s x) (x, false) (ltrs d2))))) = _
  generalize decide (n ∈ vw s x) = a0
  generalize alB (vw s x) d1 = a1
  generalize alB (vw s x) d2 = a2
  generalize hangB (ltrs d1) (ltrs d2) n = a3
  generalize closB s (vw s x) (x, true) (ltrs d1) = a4
  generalize closB s (vw s x) (x, false) (ltrs d2) = a5
  revert a0 a1 a2 a3 a4 a5
  decide
theorem holds_pair {s : Say} {n x : Str} {d : PyData} (h : pairB d = false) : holdsB s n x d = false := by
  unfold holdsB halvesB
  rw [h]
  simp
theorem alB_lw {ws : List Str} {ds : List PyData} : alB ws (.tuple ds) = (ds.all (lwB ws) && riseB ds) := rfl
/-- names that are well formed -/
theorem lw_str {ws : List Str} (h : ∀ x ∈ ws, nmB x = true) (x : Str) (b : Bool) : lwB ws (.tuple [.str x, .bool b]) = decide (x ∈ ws) := by
  show ((nmB x && true) && decide (x ∈ ws)) = decide (x ∈ ws)
  by_cases hx : x ∈ ws
  · rw [decide_eq_true hx, h x hx]
    rfl
  · rw [decide_eq_false hx]
    simp
theorem nmB_of {x : Str} (h : Nm x) : nmB x = true := by
  unfold nmB
  rw [decide_eq_true h.lo, decide_eq_true h.hi, Bool.true_and, Bool.true_and, List.all_eq_true]
  exact fun c hc => decide_eq_true (h.az c hc)
theorem vw_nm {s : Say} (ok : SayOk 6 8 120 40 s) (x : Str) : ∀ y ∈ vw s x, nmB y = true := fun y hy => by
  unfold vw at hy
  obtain ⟨o, ho, rfl⟩ := List.mem_map.mp hy
  exact nmB_of (ok.on o (List.mem_filter.mp ho).1).1
/-- (name, truth) in a row of letters, a tuple -/
structure RU (H : Hp) (l : Addr) (T : List TRow) (M : List Ltr) : Prop where
  e : H l = some (.tup (T.map TRow.v))
  d : T.map Prod.snd = M.map ltD
  D : ∀ q ∈ T, Dat H q.v q.2
theorem RU.same {H H' : Hp} {l : Addr} {T : List TRow} {M : List Ltr} (h : RU H l T M) (S : Same H H') : RU H' l T M := ⟨S _ _ h.e, h.d, fun q hq => (h.D q hq).same S⟩
theorem sv_inU {K : PySem.W.Frag} {H : Hp} {l : Addr} {T : List TRow} {M : List Ltr} {σ : L2.St} {n : Str} {i j : Nat} (h : RU H l T M) (b : Bool) (e1 : σ[j]? = some (some (V.str n))) (ei : σ[i]? = some (some (V.ref l))) : SEv (tOp (rInT K false) (tTup (tCons (tVar j) (tCons (tC (V.bl b)) tNil))) (tVar i)) σ H (.bl (decide ((n, b) ∈ M))) := fun H1 S Q q => by
  refine ⟨_, e1, (by show 2 ≤ sizeLine; decide), fun t ht => ⟨_, ei, ?_⟩⟩
  have S2 := same_new (o := .tup [V.str n, .bl b]) ht
  have h2 := (h.same S).same S2
  refine ⟨t, l, ltD (n, b), T, rfl, rfl, .inr (SqT.of h2.e), fun p hp => ⟨h2.D p hp, key_lts h2.d p hp⟩, .tup upd_same (.cons (.str n) (.cons (.bl b) .nil)), keyable_lt _, by have := depth_lt (n, b); omega, ?_⟩
  show Q (.bl (inT (ltD (n, b)) T)) _
  rw [inT_lt h2.d]
  exact q _ S2
theorem sv_not {t : TE} {σ : L2.St} {H : Hp} {a : Bool} (h : SEv t σ H (.bl a)) : SEv (tNotV t) σ H (.bl (!a)) := fun H1 e Q q => h H1 e _ fun H2 e2 => ⟨a, rfl, q H2 e2⟩
end S2

set_option Elab.async false
set_option linter.all false
set_option maxRecDepth 100000
set_option maxHeartbeats 4000000
/-! papers of what is reached -/
namespace S3
open PySem PySem.W PySem.Spec PyProof.Rows L2 S1
theorem ltrs_cl (L : List Ltr) : S2.ltrs (clD L) = L := by
  show (L.map ltD).map S2.lt_at = L
  rw [List.map_map]
  conv => rhs; rw [← List.map_id L]
  rfl
theorem g_lot {s : Say} {x : Str} {t : Bool} {L : List Ltr} (ok : SayOk 6 8 120 40 s) (r : RchOk s (vw s x) (x, t) L) : S2.gLot s x (clD L) t = true := by
  unfold S2.gLot
  rw [ltrs_cl, Bool.and_eq_true]
  constructor
  · show S2.alB (vw s x) (.tuple (L.map ltD)) = true
    rw [S2.alB_lw, Bool.and_eq_true, List.all_eq_true]
    refine ⟨fun d hd => ?_, (S2.rise_iff L).mpr r.up⟩
    obtain ⟨m, hm, rfl⟩ := List.mem_map.mp hd
    show S2.lwB (vw s x) (.tuple [.str m.1, .bool m.2]) = true
    rw [S2.lw_str (S2.vw_nm ok x)]
    exact decide_eq_true (reach_ws ((r.mem m).mp hm))
  · unfold S2.closB
    rw [List.all_eq_true]
    intro m hm
    refine decide_eq_true ((r.mem m).mpr ?_)
    rcases List.mem_append.mp hm with h | h
    · exact .start h
    · obtain ⟨l, hl, h⟩ := List.mem_flatMap.mp h
      exact .step ((r.mem l).mp hl) h
theorem holds_rch {s : Say} {n x : Str} {M N : List Ltr} (ok : SayOk 6 8 120 40 s) (r1 : RchOk s (vw s x) (x, true) M) (r2 : RchOk s (vw s x) (x, false) N) {b : Bool} (hb : b = true ↔ (n ∈ vw s x ∧ ¬ hangR s x n)) : S2.holdsB s n x (.tuple [clD M, clD N]) = b := by
  rw [S2.holds_eq, g_lot ok r1, g_lot ok r2, ltrs_cl, ltrs_cl, Bool.true_and, Bool.true_and, Bool.eq_iff_iff, hb, Bool.and_eq_true, decide_eq_true_eq, ← hangB_iff r1 r2]
  constructor
  · rintro ⟨h1, h2⟩
    exact ⟨h1, fun z => by rw [z] at h2; exact absurd h2 (by decide)⟩
  · rintro ⟨h1, h2⟩
    exact ⟨h1, by cases h : hangB M N n with
      | false => rfl
      | true => exact absurd h h2⟩
theorem lims_of {ds : List PyData} (h : ∀ d ∈ ds, S2.lim d = true) : S2.lims ds = true := by
  induction ds with
  | nil => rfl
  | cons d ds ih =>
    rw [S2.lims, h d List.mem_cons_self, ih fun e he => h e (List.mem_cons_of_mem _ he)]
    rfl
theorem lim_of {ds : List PyData} (h : ∀ d ∈ ds, S2.lim d = true) (l : ds.length ≤ 1000) : S2.lim (.tuple ds) = true := by
  rw [S2.lim, lims_of h, decide_eq_true l]
  rfl
theorem lim_rch {s : Say} {ws : List Str} {l0 : Ltr} {L : List Ltr} (ok : SayOk 6 8 120 40 s) (r : RchOk s ws l0 L) : S2.lim (clD L) = true := by
  refine lim_of (fun d hd => ?_) (by rw [List.length_map]; have := r.len ok; omega)
  obtain ⟨m, hm, rfl⟩ := List.mem_map.mp hd
  have n := (r.nm ok hm).hi
  refine lim_of (fun d hd => ?_) (by show 2 ≤ 1000; decide)
  rcases List.mem_cons.mp hd with rfl | hd
  · rw [S2.lim, decide_eq_true (by omega)]
  · cases List.mem_singleton.mp hd
    simp [S2.lim]
theorem lim_two {s : Say} {ws vs : List Str} {l0 l1 : Ltr} {L M : List Ltr} (ok : SayOk 6 8 120 40 s) (r : RchOk s ws l0 L) (r2 : RchOk s vs l1 M) : S2.lim (.tuple [clD L, clD M]) = true := by
  refine lim_of (fun d hd => ?_) (by show 2 ≤ 1000; decide)
  rcases List.mem_cons.mp hd with rfl | hd
  · exact lim_rch ok r
  · cases List.mem_singleton.mp hd
    exact lim_rch ok r2
theorem gen_q {t : TE} {σ : L2.St} {H : Hp} {Q : VK} (I : V → Hp → Prop) (h : ∀ Q' : VK, (∀ v H', I v H' → Q' v H') → t σ H Q') (k : ∀ v H', I v H' → Q v H') : t σ H Q := h Q k
theorem gen_seq {a b : TS} {D : Ends} {σ : L2.St} {H : Hp} (I : L2.St → Hp → Prop) (h1 : ∀ D' : Ends, (∀ σ' H', I σ' H' → D'.nx σ' H') → a D' σ H) (h2 : ∀ σ' H', I σ' H' → b D σ' H') : tSeq a b D σ H := h1 { D with nx := b D } h2
theorem gen_nx {t : TS} {D : Ends} {σ : L2.St} {H : Hp} (I : L2.St → Hp → Prop) (h1 : ∀ D' : Ends, (∀ σ' H', I σ' H' → D'.nx σ' H') → t D' σ H) (h2 : ∀ σ' H', I σ' H' → D.nx σ' H') : t D σ H := h1 D h2
end S3

set_option Elab.async false
set_option linter.all false
set_option maxRecDepth 100000
set_option maxHeartbeats 4000000
/-! zip of a tuple and a list -/
namespace L2
open PySem PySem.Spec PyProof.Rows
def ItzM (K : PySem.W.Frag) (a b : Addr) : It :=
  ⟨fun i H => ∃ (xs ys : List V) (x y : V), SqT K H a xs ∧ SqL K H b ys ∧ xs[i]? = some x ∧ ys[i]? = some y,
    fun i H v H' => ∃ T x y, v = .ref T ∧ H T = none ∧ H' = upd H T (.tup [x, y]) ∧ (∀ xs, SqT K H a xs → xs[i]? = some x) ∧ ∀ ys, SqL K H b ys → ys[i]? = some y,
    fun i H => ∃ xs ys : List V, SqT K H a xs ∧ SqL K H b ys ∧ xs.length = i ∧ ys.length = i⟩
theorem sep_of {z TI TO i1 i2 a b : Addr} (D : ZipApart z TI TO i1 i2 a b) : ZipSep2 z TI TO i1 i2 [i1, a] [i2, b] where
  TIz := D.TIz
  TOz := D.TOz
  TITO := D.TITO
  TIi1 := D.TIi1
  mem1 := by simp
  zf1 := by simp [D.i1z.symm, D.l1z.symm]
  Tf1 := by simp [D.TOi1, D.l1TO.symm]
  TIi2 := D.TIi2
  mem2 := by simp
  zf2 := by simp [D.i2z.symm, D.l2z.symm]
  Tf2 := by simp [D.TOi2, D.l2TO.symm]
  sep1_2 := by simp [D.i12, D.l2i1.symm]
  sep2_1 := by simp [D.i12.symm, D.l1i2.symm]
theorem turn_zipM {P : Program} {w : World} {K : PySem.W.Frag} {elts : List Expr} {kk : Nat} {tpos : Pos} {a b z TI TO i1 i2 : Addr} (D : ZipApart z TI TO i1 i2 a b) :
    Turn P w K (.Tuple elts kk tpos) (ItzM K a b) [z, TI, TO, i1, i2] z (fun i h => IsZip h z TI TO .none ∧ IsPair h TI (.ref i1) (.ref i2) ∧ (∃ x y, IsPair h TO x y) ∧ h.IsTupleIter i1 a i ∧ h.IsListIter i2 b i) where
  mem := by simp
  obj := fun i h st c hc => by
    obtain ⟨hz, hTI, ⟨x, y, hTO⟩, ⟨o1, e1, _, d1⟩, ⟨o2, e2, _, d2⟩⟩ := st
    have e' : c = z ∨ c = TI ∨ c = TO ∨ c = i1 ∨ c = i2 := by simpa using hc
    rcases e' with q | q | q | q | q
    · rw [q]; exact ⟨_, hz, fun v q => nomatch q⟩
    · rw [q]; exact ⟨_, hTI, fun v q => nomatch q⟩
    · rw [q]; exact ⟨_, hTO, fun v q => nomatch q⟩
    · rw [q]; exact ⟨o1, e1, fun v q => by rw [d1] at q; cases q⟩
    · rw [q]; exact ⟨o2, e2, fun v q => by rw [d2] at q; cases q⟩
  keep := fun i h h' st k => by
    obtain ⟨hz, hTI, ⟨x, y, hTO⟩, h1, h2⟩ := st
    exact ⟨k z (by simp) _ hz, k TI (by simp) _ hTI, ⟨x, y, k TO (by simp) _ hTO⟩, h1.at fun o q => k i1 (by simp) o q, h2.at fun o q => k i2 (by simp) o q⟩
  item := by
    intro X hP hw hK hc i pins s σ H E I hf st hg
    subst hP hw hK
    obtain ⟨hz, hTI, ⟨x0, y0, hTO⟩, h1, h2⟩ := st
    obtain ⟨xs, ys, x, y, hqx, hqy, hx, hy⟩ := hg
    obtain ⟨its, rv, p, _⟩ := I.tuple hqx
    obtain ⟨its2, rv2, p2, _⟩ := I.list hqy
    obtain ⟨u, hu, ru⟩ := rv.get hx
    obtain ⟨u2, hu2, ru2⟩ := rv2.get hy
    have hzl : z < s.heap.objs.size := Heap.lt_size hz
    have l1 : i < its.toArray.size := by
      have := (List.getElem?_eq_some_iff.mp hu).1
      simpa using this
    have l2 : i < its2.toArray.size := by
      have := (List.getElem?_eq_some_iff.mp hu2).1
      simpa using this
    have hh : X.A.in1.handled = none := I.ok.hd hc
    refine wpAny_pyNext_zipD2_item (sep_of D) (Draws.tuple hh i1 a D.l1i1 its.toArray) (Draws.list hh i2 b D.l2i2 its2.toArray) hz hTI hTO ⟨h1, p⟩ ⟨h2, p2.isList⟩ l1 l2 fun u' u2' h' tk pu pu2 z' TO' h1' h2' hT hsz hk => ?_
    have eu : u' = u := by
      have pu' : its.toArray[i]? = some u' := pu
      rw [List.getElem?_toArray, hu] at pu'
      exact (Option.some.inj pu').symm
    have eu2 : u2' = u2 := by
      have pu' : its2.toArray[i]? = some u2' := pu2
      rw [List.getElem?_toArray, hu2] at pu'
      exact (Option.some.inj pu').symm
    subst eu
    subst eu2
    refine ⟨_, rfl, wpAny_letOwnedTupleGo_zip (s := { s with heap := h', toks := tk }) z' fun h'' z'' sb => ?_⟩
    have hT2 : h''.get? s.heap.objs.size = some { cls := .type "tuple", data := .seq #[u', u2'] } := (sb.2 _ (Nat.ne_of_gt hzl)).trans hT
    have new : ObjOk X.prog X.w (upd H s.heap.objs.size (.tup [x, y])) h'' s.heap.objs.size (.tup [x, y]) :=
      ⟨by show 2 ≤ sizeLine; decide, [u', u2'], .cons ru (.cons ru2 .nil), ⟨_, hT2, rfl, _, rfl⟩⟩
    have I1 : Inv X pins σ (upd H s.heap.objs.size (.tup [x, y])) { s with heap := h'', toks := tk } :=
      I.turnedNew (t' := tk) (ch := [z, TI, TO, i1, i2]) (fun c o hb q => (sb.2 c (fun q' => hb (by simp [q']))).trans (hk c o (fun q' => hb (by simp [q'])) (fun q' => hb (by simp [q'])) (fun q' => hb (by simp [q'])) (fun q' => hb (by simp [q'])) q)) hf (Nat.le_refl _) new
    refine ⟨.ref s.heap.objs.size, _, I1, rfl, ⟨_, x, y, rfl, I.hok.fresh (Nat.le_refl _), rfl, fun l hl => by rw [I.tuple_inj hl hqx]; exact hx, fun l hl => by rw [I.list_inj hl hqy]; exact hy⟩, ⟨z'', ?_, ⟨u', u2', ?_⟩, ?_, ?_⟩, fun c hcm => ?_⟩
    · exact (sb.2 _ D.TIz).trans (hk _ _ D.TIz D.TITO D.TIi1 D.TIi2 hTI)
    · exact (sb.2 _ D.TOz).trans TO'
    · exact h1'.1.at fun o q => (sb.2 _ D.i1z).trans q
    · exact h2'.1.at fun o q => (sb.2 _ D.i2z).trans q
    · have hlt : c < s.heap.objs.size := by
        have e' : c = z ∨ c = TI ∨ c = TO ∨ c = i1 ∨ c = i2 := by simpa using hcm
        rcases e' with q | q | q | q | q
        · rw [q]; exact hzl
        · rw [q]; exact Heap.lt_size hTI
        · rw [q]; exact Heap.lt_size hTO
        · rw [q]; obtain ⟨_, e1, _⟩ := h1; exact Heap.lt_size e1
        · rw [q]; obtain ⟨_, e2, _⟩ := h2; exact Heap.lt_size e2
      rw [upd_ne (Nat.ne_of_lt hlt)]
      exact (hf c hcm).1
  done := by
    intro X hP hw hK hc i pins s σ H E I hf st hg
    subst hP hw hK
    obtain ⟨hz, hTI, ⟨x0, y0, hTO⟩, h1, h2⟩ := st
    obtain ⟨xs, ys, hqx, hqy, e1, e2⟩ := hg
    obtain ⟨its, rv, p, _⟩ := I.tuple hqx
    obtain ⟨its2, rv2, p2, _⟩ := I.list hqy
    have l1 := rv.length
    have l2 := rv2.length
    have hh : X.A.in1.handled = none := I.ok.hd hc
    exact wpAny_pyNext_zipD2_end (sep_of D) (Draws.tuple hh i1 a D.l1i1 its.toArray) (Draws.list hh i2 b D.l2i2 its2.toArray) hz hTI hTO ⟨h1, p⟩ ⟨h2, p2.isList⟩ (by simp; omega) (by simp; omega) (.inl (by simp; omega)) fun h' tk hk => ⟨rfl, I.turnedL (t' := tk) (ch := [z, TI, TO, i1, i2]) (fun c o hb q =>
      hk c o (fun q' => hb (by simp [q'])) (fun q' => hb (by simp [q'])) (fun q' => hb (by simp [q'])) (fun q' => hb (by simp [q'])) q) hf⟩
  self := fun A i s Q E st h => wpAny_pyIter_zip st.1 h
def iZipM (K : PySem.W.Frag) (ta : TA) : TI := fun σ H R => ta σ H fun vs H1 => ∃ a b xs ys, vs = [.ref a, .ref b] ∧ SqT K H1 a xs ∧ SqL K H1 b ys ∧ R (ItzM K a b) H1
theorem pi_zipM {X : Cx} {e e2 : Expr} {ta : TA} {p pos tpos : Pos} {elts : List Expr} {kk : Nat} (hg : Gl X "zip") (hm : X.mg "zip" = none) (ha : PA X [e, e2] ta)
    (hs : starEach [e, e2] X.env = (false, eval e X.env) :: starEach [e2] X.env := by rfl) (hpl : (backTo pos (starEach [e2] X.env)).any (·.1) = false := by rfl) :
    PI X (.Tuple elts kk tpos) (.Call (.Name "zip" p) [e, e2] [] pos) (iZipM X.K ta) := by
  refine ⟨fun pins s σ H R I h => ?_⟩
  refine Call_ (ld_blt I hg hm PyProof.Rows.boot_zip (PyProof.Rows.callWith_type1 (thn (ha.run pos pins s σ H _ I h) fun us s1 ⟨vs, H1, I1, r1, q1⟩ => ?_) hs hpl))
  obtain ⟨a, b, xs, ys, ex, hqx, hqy, q⟩ := q1
  subst ex
  cases r1 with
  | cons r rr =>
    cases rr with
    | cons r' rr =>
      cases rr
      cases r
      cases r'
      obtain ⟨its, rv, p1, _⟩ := I1.tuple hqx
      obtain ⟨its2, rv2, p2, _⟩ := I1.list hqy
      have la : a < s1.heap.objs.size := p1.lt
      have lb : b < s1.heap.objs.size := p2.lt
      refine zip_begins2 (begins_tuple a its.toArray) (begins_list b its2.toArray) p1 p2.isList fun h' hz hTI hTO h1 h2 hsz hk => wpAny_pyIter_zip hz ?_
      have I2 : Inv X pins σ H1 { s1 with heap := h' } := I1.kept (t' := s1.toks) hk
      refine ⟨s1.heap.objs.size + 4, [s1.heap.objs.size + 4, s1.heap.objs.size + 2, s1.heap.objs.size + 3, s1.heap.objs.size, s1.heap.objs.size + 1], _, _, H1, rfl, I2, turn_zipM (PySem.W.ktu_apart s1.heap.objs.size a b la lb), ⟨hz, hTI, ⟨_, _, hTO⟩, ⟨_, h1, rfl, rfl⟩, ⟨_, h2, rfl, rfl⟩⟩, fun c hcm => ?_, q⟩
      have e' : c = s1.heap.objs.size + 4 ∨ c = s1.heap.objs.size + 2 ∨ c = s1.heap.objs.size + 3 ∨ c = s1.heap.objs.size ∨ c = s1.heap.objs.size + 1 := by simpa using hcm
      have hle : s1.heap.objs.size ≤ c := by
        rcases e' with z | z | z | z | z
        · rw [z]; exact Nat.le_add_right _ _
        · rw [z]; exact Nat.le_add_right _ _
        · rw [z]; exact Nat.le_add_right _ _
        · rw [z]; exact Nat.le_refl _
        · rw [z]; exact Nat.le_add_right _ _
      exact I1.fpOk hle (I1.hok.fresh hle)
theorem walk_zipM {K : PySem.W.Frag} {a b : Addr} {xs ys : List V} {n : Nat} (h1 : xs.length = n) (h2 : ys.length = n) : Walk (ItzM K a b) n (fun H => SqT K H a xs ∧ SqL K H b ys) (YPair (fun i => xs[i]?) (fun i => ys[i]?)) := by
  refine ⟨fun i H hi q => ⟨xs, ys, _, _, q.1, q.2, List.getElem?_eq_getElem (by omega), List.getElem?_eq_getElem (by omega)⟩, fun H q => ⟨xs, ys, q.1, q.2, h1, h2⟩, fun i H x H' hi q y => ?_⟩
  obtain ⟨T, x, y, rfl, hT, rfl, f1, f2⟩ := y
  exact ⟨T, x, y, rfl, hT, rfl, f1 xs q.1, f2 ys q.2⟩
end L2

set_option Elab.async false
set_option linter.all false
set_option maxRecDepth 100000
set_option maxHeartbeats 4000000
/-! sights made less, made more: the sayings that come of it -/
namespace S1
open PySem PySem.W PySem.Spec PyProof.Rows L2
def sgh (ps : List Str) (x : Str) (t : Bool) (o : List Str) : List Str := ps.filter fun y => (decide (y ∈ o) && !decide (y = x)) || (decide (y = x) && t)
def seenF (ps : List Str) (n x : Str) (t : Bool) (o : Own) : List Str := if o.1 = n then sgh ps x t o.2 else o.2
def withF (s : Say) (f : Own → List Str) : Say := ⟨s.picks, s.owns.map fun o => (o.1, f o), s.cls⟩
def seen (s : Say) (n x : Str) (t : Bool) : Say := withF s (seenF s.picks n x t)
theorem tlt_trans {x y z : Str} (a : tlt x y) (b : tlt y z) : tlt x z := List.lt_trans a b
theorem tlt_uniq {xs ys : List Str} (h1 : xs.Pairwise tlt) (h2 : ys.Pairwise tlt) (h : ∀ x, x ∈ xs ↔ x ∈ ys) : xs = ys := rise_unique (r := tlt) tlt_irrefl (fun a b => tlt_trans a b) h1 h2 h
theorem sgh_up {ps o : List Str} {x : Str} {t : Bool} (h : ps.Pairwise tlt) : (sgh ps x t o).Pairwise tlt := h.sublist List.filter_sublist
theorem sgh_mem {ps o : List Str} {x y : Str} {t : Bool} : y ∈ sgh ps x t o ↔ y ∈ ps ∧ ((y ∈ o ∧ y ≠ x) ∨ (y = x ∧ t = true)) := by
  unfold sgh
  rw [List.mem_filter]
  simp
theorem less_eq {ps : List Str} {n x : Str} {o : Own} (hp : ps.Pairwise tlt) (ho : OwnOk ps o) : (o.2.filter fun y => decide (o.1 ≠ n) || decide (y ≠ x)) = seenF ps n x false o := by
  unfold seenF
  by_cases h : o.1 = n
  · rw [if_pos h]
    refine tlt_uniq (ho.up.sublist List.filter_sublist) (sgh_up hp) fun y => ?_
    rw [sgh_mem, List.mem_filter]
    have := ho.sub y
    simp [h]
    exact fun a _ => this a
  · rw [if_neg h]
    simp [h]
theorem more_same {ps : List Str} {n x : Str} {o : Own} (hp : ps.Pairwise tlt) (ho : OwnOk ps o) (h : ¬ (o.1 = n ∧ x ∉ o.2)) : seenF ps n x true o = o.2 := by
  unfold seenF
  by_cases hn : o.1 = n
  · rw [if_pos hn]
    have hx : x ∈ o.2 := Classical.byContradiction fun z => h ⟨hn, z⟩
    refine tlt_uniq (sgh_up hp) ho.up fun y => ?_
    rw [sgh_mem]
    constructor
    · rintro ⟨_, ⟨a, _⟩ | ⟨rfl, _⟩⟩
      · exact a
      · exact hx
    · intro a
      refine ⟨ho.sub y a, ?_⟩
      by_cases e : y = x
      · exact .inr ⟨e, rfl⟩
      · exact .inl ⟨a, e⟩
  · rw [if_neg hn]
theorem more_new {ps ys : List Str} {n x : Str} {o : Own} (hp : ps.Pairwise tlt) (ho : OwnOk ps o) (h : o.1 = n ∧ x ∉ o.2) (hx : x ∈ ps) (pm : ys.Perm (o.2 ++ [x])) (up : (o.2 ++ [x]).Nodup → ys.Pairwise tlt) : seenF ps n x true o = ys := by
  unfold seenF
  rw [if_pos h.1]
  have nd : (o.2 ++ [x]).Nodup := List.nodup_append.mpr ⟨nodup_tlt ho.up, by simp, fun a ha b hb e => h.2 (by rw [← List.mem_singleton.mp hb, ← e]; exact ha)⟩
  refine tlt_uniq (sgh_up hp) (up nd) fun y => ?_
  rw [sgh_mem, pm.mem_iff, List.mem_append, List.mem_singleton]
  constructor
  · rintro ⟨_, ⟨a, _⟩ | ⟨a, _⟩⟩
    · exact .inl a
    · exact .inr a
  · rintro (a | rfl)
    · exact ⟨ho.sub y a, .inl ⟨a, fun e => h.2 (e ▸ a)⟩⟩
    · exact ⟨hx, .inr ⟨rfl, rfl⟩⟩
theorem sgh_len {ps o : List Str} {x : Str} (hp : ps.Pairwise tlt) : (sgh ps x false o).length ≤ o.length ∧ (x ∈ o → (sgh ps x false o).length < o.length) ∧ (sgh ps x true o).length ≤ o.length + 1 := by
  refine ⟨nodup_le (nodup_tlt (sgh_up hp)) fun y hy => ?_, fun hx => ?_, ?_⟩
  · obtain ⟨_, ⟨a, _⟩ | ⟨_, b⟩⟩ := sgh_mem.mp hy
    · exact a
    · cases b
  · have z := nodup_le (l := x :: sgh ps x false o) (m := o) (List.nodup_cons.mpr ⟨fun hy => ?_, nodup_tlt (sgh_up hp)⟩) fun y hy => ?_
    · exact z
    · obtain ⟨_, ⟨_, b⟩ | ⟨_, b⟩⟩ := sgh_mem.mp hy
      · exact b rfl
      · cases b
    · rcases List.mem_cons.mp hy with rfl | hy
      · exact hx
      · obtain ⟨_, ⟨a, _⟩ | ⟨_, b⟩⟩ := sgh_mem.mp hy
        · exact a
        · cases b
  · have z := nodup_le (m := x :: o) (nodup_tlt (sgh_up (x := x) (t := true) (o := o) hp)) fun y hy => ?_
    · exact z
    · obtain ⟨_, ⟨a, _⟩ | ⟨a, _⟩⟩ := sgh_mem.mp hy
      · exact List.mem_cons_of_mem _ a
      · exact a ▸ List.mem_cons_self
theorem copies_le {f : Own → List Str} : ∀ os : List Own, (∀ o ∈ os, (f o).length ≤ o.2.length) → copies (os.map fun o => (o.1, f o)) ≤ copies os
  | [], _ => Nat.le_refl _
  | o :: os, h => by
    have h1 : 2 ^ (f o).length ≤ 2 ^ o.2.length := Nat.pow_le_pow_right (by decide) (h o List.mem_cons_self)
    have h2 := copies_le (f := f) os fun o ho => h o (List.mem_cons_of_mem _ ho)
    unfold copies at h2 ⊢
    simp only [List.map_cons, List.sum_cons]
    omega
theorem copies_le2 {f : Own → List Str} : ∀ os : List Own, (∀ o ∈ os, (f o).length ≤ o.2.length + 1) → copies (os.map fun o => (o.1, f o)) ≤ 2 * copies os
  | [], _ => Nat.zero_le _
  | o :: os, h => by
    have h1 : 2 ^ (f o).length ≤ 2 ^ (o.2.length + 1) := Nat.pow_le_pow_right (by decide) (h o List.mem_cons_self)
    have h2 := copies_le2 (f := f) os fun o ho => h o (List.mem_cons_of_mem _ ho)
    have h3 : 2 ^ (o.2.length + 1) = 2 * 2 ^ o.2.length := by rw [Nat.pow_succ]; omega
    unfold copies at h2 ⊢
    simp only [List.map_cons, List.sum_cons]
    omega
/-- how much is seen -/
def seeN (s : Say) : Nat := (s.owns.map fun o => o.2.length).sum
theorem see_le {f : Own → List Str} : ∀ os : List Own, (∀ o ∈ os, (f o).length ≤ o.2.length) → ((os.map fun o => (o.1, f o)).map fun o => o.2.length).sum ≤ (os.map fun o => o.2.length).sum
  | [], _ => Nat.le_refl _
  | o :: os, h => by
    have h1 := h o List.mem_cons_self
    have h2 := see_le (f := f) os fun o ho => h o (List.mem_cons_of_mem _ ho)
    simp only [List.map_cons, List.sum_cons]
    omega
theorem see_lt {f : Own → List Str} : ∀ os : List Own, (∀ o ∈ os, (f o).length ≤ o.2.length) → (∃ o ∈ os, (f o).length < o.2.length) → ((os.map fun o => (o.1, f o)).map fun o => o.2.length).sum < (os.map fun o => o.2.length).sum
  | [], _, ⟨o, ho, _⟩ => by simp at ho
  | o :: os, h, ⟨u, hu, lt⟩ => by
    have h1 := h o List.mem_cons_self
    have h3 := see_le (f := f) os fun o ho => h o (List.mem_cons_of_mem _ ho)
    simp only [List.map_cons, List.sum_cons]
    rcases List.mem_cons.mp hu with rfl | hu
    · omega
    · have h2 := see_lt (f := f) os (fun o ho => h o (List.mem_cons_of_mem _ ho)) ⟨u, hu, lt⟩
      omega
theorem seenF_len {s : Say} {a b c d : Nat} (ok : SayOk a b c d s) (n x : Str) (o : Own) : (seenF s.picks n x false o).length ≤ o.2.length ∧ (seenF s.picks n x true o).length ≤ o.2.length + 1 := by
  obtain ⟨h1, _, h3⟩ := sgh_len (o := o.2) (x := x) ok.pu
  unfold seenF
  by_cases h : o.1 = n
  · rw [if_pos h, if_pos h]
    exact ⟨h1, h3⟩
  · rw [if_neg h, if_neg h]
    exact ⟨Nat.le_refl _, Nat.le_succ _⟩
theorem withF_names (s : Say) (f : Own → List Str) : (withF s f).names = s.names := by
  show s.picks ++ (s.owns.map fun o => (o.1, f o)).map Prod.fst = s.picks ++ s.owns.map Prod.fst
  rw [List.map_map]
  rfl
theorem withF_ok {s : Say} {a b c c' d : Nat} (ok : SayOk a b c d s) (f : Own → List Str) (h : ∀ o ∈ s.owns, (f o).Pairwise tlt ∧ ∀ x ∈ f o, x ∈ s.picks) (hc : copies (withF s f).owns ≤ c') : SayOk a b c' d (withF s f) where
  pu := ok.pu
  pn := ok.pn
  pl := ok.pl
  ou := List.pairwise_map.mpr ok.ou
  on := fun o ho => by
    obtain ⟨u, hu, rfl⟩ := List.mem_map.mp ho
    obtain ⟨h1, h2, _, _⟩ := ok.on u hu
    exact ⟨h1, h2, (h u hu).1, (h u hu).2⟩
  ol := by
    show (s.owns.map _).length ≤ b
    rw [List.length_map]
    exact ok.ol
  oc := hc
  cu := ok.cu
  ck := fun cl hcl => by
    rw [withF_names]
    exact ok.ck cl hcl
  cl := ok.cl
theorem seenF_good {s : Say} {a b c d : Nat} (ok : SayOk a b c d s) (n x : Str) (t : Bool) : ∀ o ∈ s.owns, (seenF s.picks n x t o).Pairwise tlt ∧ ∀ y ∈ seenF s.picks n x t o, y ∈ s.picks := fun o ho => by
  unfold seenF
  by_cases h : o.1 = n
  · rw [if_pos h]
    exact ⟨sgh_up ok.pu, fun y hy => (sgh_mem.mp hy).1⟩
  · rw [if_neg h]
    exact ⟨(ok.on o ho).2.2.1, (ok.on o ho).2.2.2⟩
theorem less_ok {s : Say} {a b c d : Nat} (ok : SayOk a b c d s) (n x : Str) : SayOk a b c d (seen s n x false) :=
  withF_ok ok _ (seenF_good ok n x false) (Nat.le_trans (copies_le s.owns fun o _ => (seenF_len ok n x o).1) ok.oc)
theorem more_ok {s : Say} {a b d : Nat} (ok : SayOk a b 120 d s) (n x : Str) : SayOk a b 1024 d (seen s n x true) :=
  withF_ok ok _ (seenF_good ok n x true) (by
    have h1 := copies_le2 s.owns fun o _ => (seenF_len ok n x o).2
    have h2 := ok.oc
    show copies (s.owns.map _) ≤ 1024
    omega)
theorem less_lt {s : Say} {a b c d : Nat} (ok : SayOk a b c d s) {n x : Str} (h : n ∈ vw s x) : seeN (seen s n x false) < seeN s := by
  unfold vw at h
  obtain ⟨o, ho, rfl⟩ := List.mem_map.mp h
  obtain ⟨hm, hx⟩ := List.mem_filter.mp ho
  refine see_lt s.owns (fun o _ => (seenF_len ok _ x o).1) ⟨o, hm, ?_⟩
  unfold seenF
  rw [if_pos rfl]
  exact (sgh_len ok.pu).2.1 (of_decide_eq_true hx)
/-- fewer copies are good enough -/
theorem SayOk.fit {s : Say} {a b c c' d : Nat} (ok : SayOk a b c d s) (h : copies s.owns ≤ c') : SayOk a b c' d s := { ok with oc := h }
end S1

set_option Elab.async false
set_option linter.all false
set_option maxRecDepth 100000
set_option maxHeartbeats 4000000
/-! with_sights -/
namespace S1
open PySem PySem.W PySem.Spec PyProof.Rows L2
def spWithSights : Sp := fun vs H Q _ => ∃ (v : V) (l : Addr) (s : Say) (f : Own → List Str) (T : List TRow), vs = [v, .ref l] ∧ Dat H v s.d ∧ s.owns.length ≤ 8 ∧ H l = some (.lst (T.map TRow.v)) ∧ T.map Prod.snd = s.owns.map (fun o => nmsD (f o)) ∧ (∀ q ∈ T, Dat H q.v q.2) ∧
  ∀ (v' : V) (H' : Hp), Same H H' → Dat H' v' (withF s f).d → Q v' H'
/-- a saying, laid out -/
theorem say_at {H : Hp} {v : V} {s : Say} (D : Dat H v s.d) : ∃ (a b : Addr) (p c : V) (us : List V), v = .ref a ∧ H a = some (.tup [p, .ref b, c]) ∧ Dat H p (nmsD s.picks) ∧ Dat H (.ref b) (.tuple (s.owns.map ownD)) ∧ H b = some (.tup us) ∧ DatAll H us (s.owns.map ownD) ∧ Dat H c (.tuple (s.cls.map clD)) := by
  obtain ⟨a, xs, rfl, e, h⟩ := dat_tup D
  cases h with
  | cons h1 h =>
    cases h with
    | cons h2 h =>
      cases h with
      | cons h3 h =>
        cases h
        obtain ⟨b, us, rfl, eb, hb⟩ := dat_tup h2
        exact ⟨a, b, _, _, us, rfl, e, h1, h2, eb, hb, h3⟩
theorem say_mk {H : Hp} {a : Addr} {p o c : V} {s : Say} (e : H a = some (.tup [p, o, c])) (D1 : Dat H p (nmsD s.picks)) (D2 : Dat H o (.tuple (s.owns.map ownD))) (D3 : Dat H c (.tuple (s.cls.map clD))) : Dat H (.ref a) s.d := .tup e (.cons D1 (.cons D2 (.cons D3 .nil)))
section
variable {P : Program} {w : World} {K : PySem.W.Frag} {mg : Str → Option Value} {base : Heap}
abbrev nWs : List Str := ["saying", "sights", "owns", "own", "sight"]
theorem scWs : FnScope nWs ["saying", "sights"] (defScope sWithSights) := ⟨rfl, rfl, rfl, by decide +kernel, rfl, by decide +kernel, by decide +kernel⟩
theorem ok_withSights {f : Addr} {fd : FuncData} (F : Fun K "with_sights" "with_sights" sWithSights f fd) (B : Blt mg) : FnOk P w K mg base CX0 1 f fd ["saying", "sights"] spWithSights := by
  refine F.ok scWs (fun vs H Q E h => ?_) (fun cdv A outer s H vs Q E hr h => ?_)
  · obtain ⟨v, l, sy, g, T, rfl, _⟩ := h
    rfl
  · obtain ⟨v, l, sy, g, T, rfl, D, lo, el, eT, DT, q⟩ := h
    refine ⟨_, pss_cons (ps_setLc (i := 2) (own := [("own", 3), ("sight", 4)]) (g := gTup K 2 (gCons (gName 3) (gCons (gName 4) gNil))) (tt := tYes) (te := tTup (tCons (tOp (rIxT K) (tVar 3) (tC (V.int 0))) (tCons (tVar 4) tNil))) rfl scWs.nd rfl rfl (by with_unfolding_all rfl)
        (pi_zipM rfl B.zip (pa_cons (pe_ix ix_tup (pv 0) pe_int (fun _ _ => rfl)) (pa_cons (pv 1) pa_nil))) (blkOk_by (N := nWs) (sc := defScope sWithSights) (by decide +kernel))
        (fun _ _ _ _ _ => by exact pg_tup rfl (pgs_cons (pg_name (i := 3) scWs.nd rfl (.inl rfl)) (pgs_cons (pg_name (i := 4) scWs.nd rfl (.inl rfl)) pgs_nil))) (fun _ _ _ _ _ => pts_nil)
        (fun _ _ _ _ _ => by exact pe_tup (pa_cons (pe_ix ix_tup (pv 3) pe_int (fun _ _ => rfl)) (pa_cons (pv 4) pa_nil))))
      (pss_one (ps_ret (pe_tup (pa_cons (pe_ix ix_tup (pv 0) pe_int (fun _ _ => rfl)) (pa_cons (pe_tupleOf rfl B.tuple (pv 2)) (pa_cons (pe_ix ix_tup (pv 0) pe_int (fun _ _ => rfl)) pa_nil)))))), ?_⟩
    obtain ⟨a, b, p, c, us, rfl, ea, Dp, Do, eb, Db, Dc⟩ := say_at D
    have lu : us.length = sy.owns.length := by rw [Db.len, List.length_map]
    have lT : (T.map TRow.v).length = sy.owns.length := by
      have z := congrArg List.length eT
      rw [List.length_map, List.length_map] at z
      rw [List.length_map, z]
    refine ⟨_, rfl, a, _, 1, _, rfl, rfl, SqT.of ea, rfl, _, rfl, b, l, us, T.map TRow.v, rfl, SqT.of eb, SqL.of el, fun D0 hD0 => ?_⟩
    refine lc_it (walk_zipM (K := K) (a := b) (b := l) lu lT) (fun i H4 => ∃ T4 : List TRow, H4 D0 = some (.lst (T4.map TRow.v)) ∧ T4.map Prod.snd = (sy.owns.take i).map (fun o => ownD (o.1, g o)) ∧ (∀ q' ∈ T4, Dat H4 q'.v q'.2) ∧ Same H H4) ?_ ?_ ?_ ?_
    · exact ⟨[], upd_same, rfl, fun q' hq' => absurd hq' (by simp), same_new hD0⟩
    · rintro i H4 _ ⟨T4, e4, d4, D4, S4⟩
      exact ⟨SqT.of (S4 _ _ eb), SqL.of (S4 _ _ el)⟩
    · rintro i x H4 H5 hi ⟨T4, e4, d4, D4, S4⟩ ⟨T0, y, z, rfl, hT0, rfl, fy, fz⟩
      obtain ⟨o, t, t', ho, rfl, g1⟩ := own_names Db fy
      have fz : (T.map TRow.v)[i]? = some z := fz
      rw [List.getElem?_map] at fz
      obtain ⟨q1, hq1, rfl⟩ := Option.map_eq_some_iff.mp fz
      have e1 : q1.2 = nmsD (g o) := by
        have z1 : (T.map Prod.snd)[i]? = some q1.2 := by rw [List.getElem?_map, hq1]; rfl
        rw [eT, List.getElem?_map, ho] at z1
        exact (Option.some.inj z1).symm
      have S5 := same_new (o := .tup [.ref t, q1.v]) hT0
      refine ⟨T0, _, rfl, SqT.of upd_same, rfl, _, _, rfl, _, _, rfl, rfl, rfl, yes_of ?_⟩
      refine ⟨_, rfl, t, _, 0, _, rfl, rfl, SqT.of (S5 _ _ (S4 _ _ g1)), rfl, _, rfl, (by show 2 ≤ sizeLine; decide), fun t2 ht2 => ?_⟩
      have S6 := S5.trans (same_new (o := .tup [.str o.1, q1.v]) ht2)
      have e6 := S6 _ _ e4
      have l4 : T4.length = i := by
        have z1 := congrArg List.length d4
        rw [List.length_map, List.length_map, List.length_take] at z1
        omega
      refine ⟨_, e6, by rw [List.length_map]; exact small1000 (by omega), T4 ++ [(t2, ownD (o.1, g o))], by rw [upd_same, List.map_append]; rfl, by rw [List.map_append, d4, take_next ho, List.map_append]; rfl, fun q' hq' => ?_, same_upd (S4.trans S6) hD0⟩
      have kq : keyable q'.2 = true := by
        rcases List.mem_append.mp hq' with m | m
        · have m2 : q'.2 ∈ (sy.owns.take i).map (fun o => ownD (o.1, g o)) := d4 ▸ List.mem_map_of_mem m
          obtain ⟨u, _, hu⟩ := List.mem_map.mp m2
          rw [← hu]
          exact keyable_own _
        · cases List.mem_singleton.mp m
          exact keyable_own _
      refine dat_upd e6 kq ?_
      rcases List.mem_append.mp hq' with m | m
      · exact (D4 q' m).same S6
      · cases List.mem_singleton.mp m
        have D1 := ((DT q1 (List.mem_of_getElem? hq1)).same S4).same S6
        rw [e1] at D1
        exact .tup upd_same (.cons (.str o.1) (.cons D1 .nil))
    · rintro H4 ⟨T4, e4, d4, D4, S4⟩
      rw [List.take_length] at d4
      refine ⟨_, rfl, a, _, 0, _, rfl, rfl, SqT.of (S4 _ _ ea), rfl, _, rfl, .inl ⟨D0, _, rfl, SqL.of e4, fun tt htt => ?_⟩⟩
      have S5 := same_new (o := .tup (T4.map TRow.v)) htt
      have S45 := S4.trans S5
      refine ⟨_, rfl, a, _, 2, _, rfl, rfl, SqT.of (S45 _ _ ea), rfl, (by show 3 ≤ sizeLine; decide), fun t3 ht3 => ?_⟩
      have S6 := same_new (o := .tup [p, .ref tt, c]) ht3
      have S := S45.trans S6
      refine q _ _ S (say_mk upd_same (Dp.same S) ?_ (Dc.same S))
      refine .tup (S6 _ _ upd_same) ?_
      have e : (withF sy g).owns.map ownD = T4.map Prod.snd := by
        rw [d4]
        show (sy.owns.map fun o => (o.1, g o)).map ownD = _
        rw [List.map_map]
        rfl
      rw [e]
      exact dats_rows fun r hr => ((D4 r hr).same S5).same S6
end
end S1

set_option Elab.async false
set_option linter.all false
set_option maxRecDepth 100000
set_option maxHeartbeats 4000000
/-! less seen, more seen -/
namespace S1
open PySem PySem.W PySem.Spec PyProof.Rows L2
section
variable {X : Cx}
def rSortWT (K : PySem.W.Frag) : List V → Hp → VK → Prop := fun vs H Q => ∃ (l : Addr) (xs : List Str), vs = [V.ref l] ∧ SqT K H l (xs.map V.str) ∧
  ∀ (ys : List Str) (b : Addr), ys.Perm xs → (xs.Nodup → ys.Pairwise tlt) → H b = none → Q (.ref b) (upd H b (.lst (ys.map V.str)))
theorem cr_sortWT (hu : X.A.units + 64 < cLine) : CallR X (.builtin "sorted") (rSortWT X.K) := by
  intro pins s σ H vs us Q I r h
  obtain ⟨l, xs, rfl, hl, q⟩ := h
  rw [Vals.ref1 r]
  obtain ⟨its, rv, pl, hz⟩ := I.tuple hl
  have e0 := each_strs rv
  have hzl : its.length ≤ sizeLine := by
    rw [List.length_map] at hz
    rw [e0.length]
    exact hz
  obtain ⟨o, ho, hc, n, hdd⟩ := pl
  refine Calls.call_function_entry PyProof.Rows.kind_sorted PyProof.Rows.plain_sorted PyProof.Rows.entry_sorted (PyProof.Rows.args_sorted1 _) ?_
  unfold Builtin.«sorted»
  refine wpAny_bind (m := checkCount "sorted" 1 1 _) (wpAny_pure ?_)
  refine wpAny_bind (wpAny_collect_seq l (.inr rfl) ho hc hdd (fun h' hk => ?_) (by rw [List.size_toArray]; exact hzl))
  have I1 : Inv X pins σ H { s with heap := h' } := I.kept (t' := s.toks) hk
  refine wpAny_bind (wpAny_newList ?_ (by exact hzl))
  have hoL : (h'.push (seqObj "list" its.toArray 0)).get? h'.objs.size = some (seqObj "list" its.toArray 0) := Heap.get?_push_size _ rfl
  show wpAny _ _ _ _ _ { s with heap := h'.push (seqObj "list" its.toArray 0) }
  have old : ∀ {b : Addr} {u : Obj}, h'.get? b = some u → (h'.push (seqObj "list" its.toArray 0)).get? b = some u := fun e => Heap.get?_push_of_some _ e
  have rd := each_reads (h := sortingHeap (h'.push (seqObj "list" its.toArray 0)) h'.objs.size its) e0
  have al : AllAlike (xs.map PyData.str) := AllAlike.of fun b b' => by simp [alike]
  have un : ∀ d, d ∈ xs.map PyData.str → X.A.in1.in1.units + d.depth < cLine := fun d z => by
    obtain ⟨p, _, rfl⟩ := List.mem_map.mp z
    simp only [Around.in1_units, PyData.depth]
    omega
  have srt := SortsAt.data (prog := X.prog) (w := X.w) (A := X.A.in1.in1) (s := { s with heap := sortingHeap (h'.push (seqObj "list" its.toArray 0)) h'.objs.size its }) (each_map (R := fun v d => ∃ as, Reads _ v d as) PyData.str rd) al
    (Sortable.others fun b => ⟨fun z => (nomatch z), fun _ z => (nomatch z)⟩) un
  have out := strs_each (sortVals_data (R := RS) (enc := PyData.str) false e0 rd al)
  refine wpAny_bind (wpAny_holding (wpAny_call_entry PyProof.Rows.slot_list_sort ⟨_, hoL, rfl⟩ PyProof.Rows.entry_list_sort
    (list_sort_vals (s := { s with heap := h'.push (seqObj "list" its.toArray 0) }) hoL srt hzl ⟨_, rfl, ?_⟩) (PyProof.Rows.args_list_sort _)))
  obtain ⟨e', he'⟩ := PyProof.Rows.sortedHeap_at (vs := its) (out := (sortVals (dataKind (sortingHeap (h'.push (seqObj "list" its.toArray 0)) h'.objs.size its) (xs.map PyData.str)) false its its).toArray) hoL
  have pm : (sortW xs).Perm xs := List.mergeSort_perm _ _
  refine wpAny_pure ⟨_, rfl, .ref h'.objs.size, upd H h'.objs.size (.lst ((sortW xs).map V.str)), I1.laid (t' := s.toks) (fun b u e => ?_) (Nat.le_refl _)
    ⟨by rw [List.length_map, pm.length_eq]; rw [List.length_map] at hz; exact hz, _, e', out, he'⟩, rfl, q (sortW xs) _ pm sortW_up (I1.hok.fresh (Nat.le_refl _))⟩
  have hb : b < h'.objs.size := Heap.lt_size e
  rw [PyProof.Rows.sortedHeap_old (Nat.ne_of_lt hb) (by rw [size_push']; exact Nat.lt_succ_of_lt hb)]
  exact old e
end

theorem or_ne {i j k l : Nat} {σ : L2.St} {H : Hp} {Q : Bool → Hp → Prop} {a b c d : Str} (h1 : σ[i]? = some (some (.str a))) (h2 : σ[j]? = some (some (.str b))) (h3 : σ[k]? = some (some (.str c))) (h4 : σ[l]? = some (some (.str d)))
    (q : Q (decide (a ≠ b) || decide (c ≠ d)) H) : tOr (tTest (tOp rNe (tVar i) (tVar j))) (tTest (tOp rNe (tVar k) (tVar l))) σ H Q := by
  refine ⟨_, h1, _, h2, rfl, _, rfl, ?_⟩
  have e : ∀ x y : Str, (!decide (V.str x = V.str y)) = decide (x ≠ y) := fun x y => by
    by_cases z : x = y
    · rw [z]; simp
    · rw [decide_eq_true z, decide_eq_false (fun w => z (by injection w))]; rfl
  rw [e]
  by_cases z : a = b
  · rw [decide_eq_false (fun w => w z)] at q ⊢
    show if false = true then _ else _
    rw [if_neg (by decide)]
    refine ⟨_, h3, _, h4, rfl, _, rfl, ?_⟩
    rw [e]
    rwa [Bool.false_or] at q
  · rw [decide_eq_true z] at q ⊢
    show if true = true then _ else _
    rw [if_pos rfl]
    rwa [Bool.true_or] at q
/-- a row of sights made of the owns -/
theorem lc_own {K : PySem.W.Frag} {σ : L2.St} {H : Hp} {D b : Addr} {us : List V} {owns : List Own} {f : Own → List Str} {Qd : Hp → Prop} {i j : Nat} {ws : List Nat} {te : TE} (eb : H b = some (.tup us)) (Db : DatAll H us (owns.map ownD)) (hD : H D = none) (len : owns.length ≤ 8)
    (hw : ∀ (x y : V), wipe (((wipe σ ws).set i (some x)).set j (some y)) ws = wipe σ ws)
    (step : ∀ (n : Nat) (o : Own) (t' : Addr) (H4 : Hp) (Qe : VK), owns[n]? = some o → Same H H4 → H4 t' = some (.tup (o.2.map V.str)) → (∀ (t2 : Addr) (H5 : Hp), Same H4 H5 → Dat H5 (.ref t2) (nmsD (f o)) → Qe (.ref t2) H5) → te (((wipe σ ws).set i (some (.str o.1))).set j (some (.ref t'))) H4 Qe)
    (hd : ∀ (T : List TRow) (H5 : Hp), H5 D = some (.lst (T.map TRow.v)) → T.map Prod.snd = owns.map (fun o => nmsD (f o)) → (∀ q ∈ T, Dat H5 q.v q.2) → Same H H5 → Qd H5) :
    ∃ W : Nat → Nat → Hp → Prop, (∃ m, W 0 m (upd H D (.lst []))) ∧ ∀ n m H, W n m H →
      ((Itt K b).stop n H ∧ Qd H) ∨ ((Itt K b).go n H ∧ ∃ Nx : Hp → Prop, (∀ H', Nx H' → ∃ m', m' < m ∧ W (n + 1) m' H') ∧ ∀ x H', (Itt K b).yld n H x H' → gTup K 2 (gCons (gName i) (gCons (gName j) gNil)) x (wipe σ ws) H' fun σ2 H2 => wipe σ2 ws = wipe σ ws ∧ tYes σ2 H2 fun b H3 =>
        if b = true then te σ2 H3 fun y H4 => ∃ acc, H4 D = some (.lst acc) ∧ acc.length < sizeLine ∧ Nx (upd H4 D (.lst (acc ++ [y]))) else Nx H3) := by
  have lu : us.length = owns.length := by rw [Db.len, List.length_map]
  refine lc_tup (K := K) (a := b) (xs := us) (fun n H4 => ∃ T4 : List TRow, H4 D = some (.lst (T4.map TRow.v)) ∧ T4.map Prod.snd = (owns.take n).map (fun o => nmsD (f o)) ∧ (∀ q' ∈ T4, Dat H4 q'.v q'.2) ∧ Same H H4)
    ⟨[], upd_same, rfl, fun q' hq' => absurd hq' (by simp), same_new hD⟩ (fun n H4 _ ⟨_, _, _, _, S4⟩ => SqT.of (S4 _ _ eb)) ?_ ?_
  · rintro n x H4 hx ⟨T4, e4, d4, D4, S4⟩
    obtain ⟨d, hd2, Dx⟩ := dats_get' Db n x hx
    obtain ⟨o, ho, rfl⟩ := get_map hd2
    obtain ⟨t, rfl⟩ := tuple_ref (ds := [.str o.1, nmsD o.2]) Dx
    obtain ⟨t', g1, g2⟩ := own_row (q := (t, ownD o)) rfl Dx
    have il : n < owns.length := (List.getElem?_eq_some_iff.mp ho).1
    refine ⟨t, _, rfl, SqT.of (S4 _ _ g1), rfl, _, _, rfl, _, _, rfl, rfl, hw _ _, yes_of (step n o t' H4 _ ho S4 (S4 _ _ g2) fun t2 H5 S5 D5 => ?_)⟩
    have e6 := S5 _ _ e4
    have l4 : T4.length = n := by
      have z1 := congrArg List.length d4
      rw [List.length_map, List.length_map, List.length_take] at z1
      omega
    refine ⟨_, e6, by rw [List.length_map]; exact small1000 (by omega), T4 ++ [(t2, nmsD (f o))], by rw [upd_same, List.map_append]; rfl, by rw [List.map_append, d4, take_next ho, List.map_append]; rfl, fun q' hq' => ?_, same_upd (S4.trans S5) hD⟩
    have kq : keyable q'.2 = true := by
      rcases List.mem_append.mp hq' with m | m
      · have m2 : q'.2 ∈ (owns.take n).map (fun o => nmsD (f o)) := d4 ▸ List.mem_map_of_mem m
        obtain ⟨u, _, hu⟩ := List.mem_map.mp m2
        rw [← hu]
        exact keyable_nms _
      · cases List.mem_singleton.mp m
        exact keyable_nms _
    refine dat_upd e6 kq ?_
    rcases List.mem_append.mp hq' with m | m
    · exact (D4 q' m).same S5
    · cases List.mem_singleton.mp m
      exact D5
  · rintro H4 ⟨T4, e4, d4, D4, S4⟩
    rw [lu, List.take_length] at d4
    exact hd T4 H4 e4 d4 D4 S4
def spLess : Sp := fun vs H Q _ => ∃ (v : V) (s : Say) (n x : Str), vs = [v, .str n, .str x] ∧ Dat H v s.d ∧ SayOk 6 8 120 40 s ∧ ∀ (v' : V) (H' : Hp), Same H H' → Dat H' v' (seen s n x false).d → Q v' H'
def spMore : Sp := fun vs H Q _ => ∃ (v : V) (s : Say) (n x : Str), vs = [v, .str n, .str x] ∧ Dat H v s.d ∧ SayOk 6 8 120 40 s ∧ x ∈ s.picks ∧ ∀ (v' : V) (H' : Hp), Same H H' → Dat H' v' (seen s n x true).d → Q v' H'
theorem withF_eq {s : Say} {f g : Own → List Str} (h : ∀ o ∈ s.owns, f o = g o) : withF s f = withF s g := by
  unfold withF
  congr 1
  exact List.map_congr_left fun o ho => by rw [h o ho]
abbrev nLe : List Str := ["saying", "name", "pick", "own", "sight", "other"]
abbrev nMo : List Str := ["saying", "name", "pick", "own", "sight"]
def lcSc : Expr → Scope
  | .ListComp _ _ sc _ => sc
  | _ => defScope sLess
def retArg2 : List Stmt → Expr
  | [.Return (some (.Call _ [_, e] _ _)) _] => e
  | _ => .Constant .none 0 ⟨0, 0, 0, 0⟩
abbrev scLeO : Scope := lcSc (retArg2 (defBody sLess))
def envLe : Env := { scope := defScope sLess, locals := 0, globals := 0, cells := [], qual := "", func := none, code := .none, frame := .none, builtins := 0 }
abbrev scLeR : Scope := relabel scLeO envLe
section
variable {P : Program} {w : World} {K : PySem.W.Frag} {mg : Str → Option Value} {base : Heap}
theorem scLe : FnScope nLe ["saying", "name", "pick"] (defScope sLess) := ⟨rfl, rfl, rfl, by decide +kernel, rfl, by decide +kernel, by decide +kernel⟩
theorem scMo : FnScope nMo ["saying", "name", "pick"] (defScope sMore) := ⟨rfl, rfl, rfl, by decide +kernel, rfl, by decide +kernel, by decide +kernel⟩
theorem ok_less {f fW : Addr} {fd fdW : FuncData} (F : Fun K "less_seen" "less_seen" sLess f fd) (B : Blt mg) (Ws : Has K mg "with_sights" sWithSights ["saying", "sights"] fW fdW) : FnOk P w K mg base CX0 2 f fd ["saying", "name", "pick"] spLess := by
  have GW : FnOk P w K mg base CX0 1 fW fdW ["saying", "sights"] spWithSights := ok_withSights Ws.F B
  refine F.ok scLe (fun vs H Q E h => ?_) (fun cdv A outer s H vs Q E hr h => ?_)
  · obtain ⟨v, sy, n, x, rfl, _⟩ := h
    rfl
  · obtain ⟨v, sy, n, x, rfl, D, ok, q⟩ := h
    refine ⟨_, pss_one (ps_ret (pe_call GW hr rfl Ws.g Ws.F.kp Ws.b .nil pass0 (pa_cons (pv 0) (pa_cons (pe_lc (own := [("own", 3), ("sight", 4)]) (g := gTup K 2 (gCons (gName 3) (gCons (gName 4) gNil))) (tt := tYes)
        (te := tThen (tLc (iTup K (tVar 4)) (gName 5) (tOr (tTest (tOp rNe (tVar 3) (tVar 1))) (tTest (tOp rNe (tVar 5) (tVar 2)))) (tVar 5) [5]) (kTup K))
        rfl scLe.nd (pi_tup (pe_ix ix_tup (pv 0) pe_int (fun _ _ => rfl))) (blkOk_by (N := nLe) (sc := defScope sLess) (by decide +kernel))
        (fun _ _ _ _ _ => by exact pg_tup rfl (pgs_cons (pg_name (i := 3) scLe.nd rfl (.inr rfl)) (pgs_cons (pg_name (i := 4) scLe.nd rfl (.inl rfl)) pgs_nil))) (fun _ _ _ _ _ => pts_nil)
        (fun _ _ _ _ _ => by exact pe_tupleOf rfl B.tuple (pe_lc (own := [("other", 5)]) rfl scLe.nd (pi_tup (pv 4))
          (by show BlkOk nLe scLeR _ _; exact blkOk_by (by decide +kernel)) (fun _ _ _ _ _ => pg_name (i := 5) scLe.nd rfl (.inl rfl)) (fun _ _ _ _ _ => by exact pts_one (PW.pt (pw_or (pt_cmpR op_ne (pv 3) (pv 1) (nomark _)) (pw_or1 (pt_cmpR op_ne (pv 5) (pv 2) (nomark _))))))
          (fun _ _ _ _ _ => by exact pv 5)))) pa_nil)))), ?_⟩
    obtain ⟨a, b, p, c, us, rfl, ea, Dp, Do, eb, Db, Dc⟩ := say_at D
    have lo := ok.ol
    refine ⟨_, rfl, _, rfl, a, _, 1, _, rfl, rfl, SqT.of ea, rfl, b, rfl, ⟨_, SqT.of eb⟩, fun D0 hD0 => ?_⟩
    refine lc_own (K := K) (f := fun o => o.2.filter fun y => decide (o.1 ≠ n) || decide (y ≠ x)) eb Db hD0 lo (fun _ _ => rfl) (fun j o t' H4 Qe ho S4 e4 k => ?_) (fun T H5 e5 d5 D5 S5 => ?_)
    · have og := ok.own (List.mem_of_getElem? ho)
      have lp := ok.pl
      have le := og.le
      refine ⟨_, rfl, t', rfl, ⟨_, SqT.of e4⟩, fun D1 hD1 => ?_⟩
      refine lc_tup (K := K) (a := t') (xs := o.2.map V.str) (fun m H6 => H6 D1 = some (.lst (((o.2.take m).filter fun y => decide (o.1 ≠ n) || decide (y ≠ x)).map V.str)) ∧ Same H4 H6) ⟨upd_same, same_new hD1⟩ (fun m H6 _ h => SqT.of (h.2 _ _ e4)) ?_ ?_
      · rintro m y H6 hy ⟨e6, S6⟩
        rw [List.getElem?_map] at hy
        obtain ⟨z, hz, rfl⟩ := Option.map_eq_some_iff.mp hy
        refine ⟨rfl, or_ne (a := o.1) (b := n) (c := z) (d := x) rfl rfl rfl rfl ?_⟩
        have fl := List.length_filter_le (fun y => decide (o.1 ≠ n) || decide (y ≠ x)) (o.2.take m)
        rw [List.length_take] at fl
        refine ite2 (fun h => ?_) (fun h => ?_)
        · refine ⟨_, rfl, _, e6, by rw [List.length_map]; exact small1000 (by omega), ?_, same_upd S6 hD1⟩
          have eo : [z].filter (fun y => decide (o.1 ≠ n) || decide (y ≠ x)) = [z] := by rw [List.filter_cons, if_pos h]; rfl
          rw [upd_same, take_next hz, List.filter_append, eo, List.map_append]
          rfl
        · refine ⟨?_, S6⟩
          have eo : [z].filter (fun y => decide (o.1 ≠ n) || decide (y ≠ x)) = [] := by rw [List.filter_cons, if_neg h]; rfl
          rw [take_next hz, List.filter_append, eo, List.append_nil]
          exact e6
      · rintro H6 ⟨e6, S6⟩
        rw [List.length_map, List.take_length] at e6
        refine .inl ⟨D1, _, rfl, SqL.of e6, fun t2 ht2 => ?_⟩
        exact k t2 _ (S6.trans (same_new ht2)) (.tup upd_same (dats_strs _))
    · refine ⟨.ref a, D0, sy, _, T, rfl, D.same S5, lo, e5, d5, D5, fun v' H6 S6 D6 => q v' H6 (S5.trans S6) ?_⟩
      unfold seen
      rw [← withF_eq fun o ho => less_eq (n := n) (x := x) ok.pu (ok.own ho)]
      exact D6
theorem ok_more {f fW : Addr} {fd fdW : FuncData} (F : Fun K "more_seen" "more_seen" sMore f fd) (B : Blt mg) (Ws : Has K mg "with_sights" sWithSights ["saying", "sights"] fW fdW) : FnOk P w K mg base CX0 2 f fd ["saying", "name", "pick"] spMore := by
  have GW : FnOk P w K mg base CX0 1 fW fdW ["saying", "sights"] spWithSights := ok_withSights Ws.F B
  refine F.ok scMo (fun vs H Q E h => ?_) (fun cdv A outer s H vs Q E hr h => ?_)
  · obtain ⟨v, sy, n, x, rfl, _⟩ := h
    rfl
  · obtain ⟨v, sy, n, x, rfl, D, ok, hx, q⟩ := h
    have hu : (A.deeper (envOfC "more_seen" (defScope sMore) s.heap.objs.size f cdv)).units + 64 < cLine := hr.units
    refine ⟨_, pss_one (ps_ret (pe_call GW hr rfl Ws.g Ws.F.kp Ws.b .nil pass0 (pa_cons (pv 0) (pa_cons (pe_lc (own := [("own", 3), ("sight", 4)]) (g := gTup K 2 (gCons (gName 3) (gCons (gName 4) gNil))) (tt := tYes)
        (te := tIf (tAnd (tTest (tOp rEq (tVar 3) (tVar 1))) (tTest (tOp (rIn K true) (tVar 2) (tVar 4)))) (tThen (tCB (rSortWT K) (tCons (tOp (rCatA K) (tVar 4) (tTup (tCons (tVar 2) tNil))) tNil)) (kTup K)) (tVar 4))
        rfl scMo.nd (pi_tup (pe_ix ix_tup (pv 0) pe_int (fun _ _ => rfl))) (blkOk_by (N := nMo) (sc := defScope sMore) (by decide +kernel))
        (fun _ _ _ _ _ => by exact pg_tup rfl (pgs_cons (pg_name (i := 3) scMo.nd rfl (.inl rfl)) (pgs_cons (pg_name (i := 4) scMo.nd rfl (.inl rfl)) pgs_nil))) (fun _ _ _ _ _ => pts_nil)
        (fun _ _ _ _ _ => by
          refine pe_ifExp ?_ ?_ ?_
          · exact PW.pt (pw_and (pt_cmpR op_eq (pv 3) (pv 1) (nomark _)) (pw_and1 (pt_cmpR op_notIn_seq (pv 2) (pv 4) (by with_unfolding_all rfl))))
          · exact pe_tupleOf (by rfl) B.tuple (pe_callB (cr_sortWT (by exact hu)) (by rfl) B.sorted (by decide +kernel) (pa_cons (pe_op op_catA (pv 4) (pe_tup (pa_cons (pv 2) pa_nil))) pa_nil))
          · exact pv 4)) pa_nil)))), ?_⟩
    obtain ⟨a, b, p, c, us, rfl, ea, Dp, Do, eb, Db, Dc⟩ := say_at D
    have lo := ok.ol
    refine ⟨_, rfl, _, rfl, a, _, 1, _, rfl, rfl, SqT.of ea, rfl, b, rfl, ⟨_, SqT.of eb⟩, fun D0 hD0 => ?_⟩
    refine lc_own (K := K) (f := seenF sy.picks n x true) eb Db hD0 lo (fun _ _ => rfl) (fun j o t' H4 Qe ho S4 e4 k => ?_) (fun T H5 e5 d5 D5 S5 => ?_)
    · have og := ok.own (List.mem_of_getElem? ho)
      have lp := ok.pl
      have le := og.le
      have keep : ¬ (o.1 = n ∧ x ∉ o.2) → Qe (.ref t') H4 := fun h => k t' H4 (Same.refl _) (by rw [more_same ok.pu og h]; exact .tup e4 (dats_strs _))
      refine ⟨_, rfl, _, rfl, rfl, _, rfl, ?_⟩
      show if decide (V.str o.1 = V.str n) = true then _ else _
      by_cases h1 : o.1 = n
      · rw [if_pos (by rw [h1]; exact decide_eq_true rfl)]
        refine ⟨_, rfl, _, rfl, t', _, rfl, .inr (SqT.of e4), rfl, flat_strs _, _, rfl, ?_⟩
        show if (!inV (V.str x) (o.2.map V.str)) = true then _ else _
        rw [inV_str]
        by_cases h2 : x ∈ o.2
        · rw [decide_eq_true h2, if_neg (by decide)]
          exact ⟨_, rfl, keep fun z => z.2 h2⟩
        · rw [decide_eq_false h2, if_pos (by decide)]
          have main : ∀ (tc : Addr) (H5 : Hp), Same H4 H5 → H5 tc = some (.tup ((o.2 ++ [x]).map V.str)) → rSortWT K [.ref tc] H5 fun y H6 => kTup K y H6 Qe := fun tc H5 S5 e5 => by
            refine ⟨tc, o.2 ++ [x], rfl, SqT.of e5, fun ys l2 pm up hl2 => .inl ⟨l2, _, rfl, SqL.of upd_same, fun t2 ht2 => ?_⟩⟩
            have S6 := (S5.trans (same_new (o := .lst (ys.map V.str)) hl2)).trans (same_new (o := .tup (ys.map V.str)) ht2)
            exact k t2 _ S6 (by rw [more_new ok.pu og ⟨h1, h2⟩ hx pm up]; exact .tup upd_same (dats_strs _))
          refine ⟨_, rfl, _, rfl, (by show 1 ≤ sizeLine; decide), fun t1 ht1 => ?_⟩
          have S5 := same_new (o := .tup [V.str x]) ht1
          refine ⟨t', t1, _, _, rfl, rfl, SqT.of (S5 _ _ e4), SqT.of upd_same, ?_, fun h0 => ?_, fun _ h0 => (by cases h0), fun _ _ tc htc => ?_⟩
          · rw [List.length_map]
            exact Nat.le_of_lt (small1000 (by show o.2.length + 1 ≤ 1000; omega))
          · refine main t1 _ S5 ?_
            have z : o.2 = [] := List.map_eq_nil_iff.mp h0
            rw [upd_same, z]
            rfl
          · refine main tc _ (S5.trans (same_new htc)) ?_
            rw [upd_same, List.map_append]
            rfl
      · rw [if_neg (by intro z; exact h1 (by have := of_decide_eq_true z; injection this))]
        show if false = true then _ else _
        rw [if_neg (by decide)]
        exact ⟨_, rfl, keep fun z => h1 z.1⟩
    · exact ⟨.ref a, D0, sy, _, T, rfl, D.same S5, lo, e5, d5, D5, fun v' H6 S6 D6 => q v' H6 (S5.trans S6) D6⟩
end
end S1

set_option Elab.async false
set_option linter.all false
set_option maxRecDepth 100000
set_option maxHeartbeats 4000000
/-! an exception that is caught, and kept under another name -/
namespace L2
open PySem PySem.Spec PyProof.Rows
/-- at a: a caught exception of the class cls, its dict d -/
def exq (a : Addr) (cls : Value) (d : Option Addr) : HO := .ext fun h => ∃ (oe : Obj) (vs : Array Value), h.get? a = some oe ∧ Zc cls d oe ∧ oe.data = .fields vs
theorem exq_ok {P : Program} {w : World} {H : Hp} {h : Heap} {a : Addr} {cls : Value} {d : Option Addr} {oe : Obj} {vs : Array Value} (e : h.get? a = some oe) (z : Zc cls d oe) (dd : oe.data = .fields vs) : ObjOk P w H h a (exq a cls d) :=
  ⟨⟨oe, vs, e, z, dd⟩, ⟨oe, e⟩, fun h1 h2 ⟨oe, vs, a1, a2, a3⟩ k => ⟨oe, vs, k _ a1, a2, a3⟩⟩
theorem exq_at {P : Program} {w : World} {H : Hp} {h : Heap} {a : Addr} {cls : Value} {d : Option Addr} (hok : HOk P w H h) (e : H a = some (exq a cls d)) : ∃ (oe : Obj) (vs : Array Value), h.get? a = some oe ∧ Zc cls d oe ∧ oe.data = .fields vs := by
  have x : ObjOk P w H h a (.ext fun h => ∃ (oe : Obj) (vs : Array Value), h.get? a = some oe ∧ Zc cls d oe ∧ oe.data = .fields vs) := hok a _ e
  exact x.1
theorem Inv.track {X : Cx} {pins : List (Addr × Obj)} {σ : St} {H : Hp} {s : Shared} {a : Addr} {oe : Obj} {vs : Array Value} {cls : Value} {d : Option Addr} (I : Inv X pins σ H s) (ha : s.heap.get? a = some oe) (hz : Zc cls d oe) (hd : oe.data = .fields vs) (na : H a = none)
    (nL : a ≠ X.env.locals) (nP : ∀ p ∈ X.pn ++ pins, p.1 ≠ a) (n0 : X.s_0.heap.get? a = none) : Inv X pins σ (upd H a (exq a cls d)) s where
  ok := I.ok
  os := I.os
  bare := I.bare
  base := {
    keep := I.base.keep
    slot := I.base.slot
    free := fun b o e n hx => by
      rw [upd_ne (fun z => by rw [z, n0] at e; cases e)]
      exact I.base.free b o e n hx
    there := I.base.there
    tups := fun b xs e => by
      have q := I.base.tups b xs e
      rw [upd_ne (ne_of_none q na)]
      exact q
    frzs := fun b o u e => by
      have q := I.base.frzs b o u e
      rw [upd_ne (ne_of_none q na)]
      exact q
    tbls := fun b ps e => by
      obtain ⟨m, q⟩ := I.base.tbls b ps e
      exact ⟨m, by rw [upd_ne (ne_of_none q na)]; exact q⟩ }
  loc := I.loc
  cell := I.cell
  free := by rw [upd_ne nL.symm]; exact I.free
  freeC := fun x c e => by
    have ne : c ≠ a := fun z => by
      obtain ⟨v, o, h1, h2⟩ := I.cell x c e
      rw [z, ha] at h1
      cases h1
      rw [hd] at h2
      simp at h2
    rw [upd_ne ne]
    exact I.freeC x c e
  pin := fun p hp => by
    obtain ⟨a1, a2, a3⟩ := I.pin p hp
    exact ⟨a1, by rw [upd_ne (nP p hp)]; exact a2, a3⟩
  hok := I.hok.laidN (fun _ _ e => e) na (exq_ok ha hz hd)
  len := I.len
/-- what the clause 'except x as n' wishes, where the exception stays known behind the suite -/
def wAsT (K : PySem.W.Frag) (c : Value) (i : Nat) (ts : Addr → Value → Option Addr → TS) (Wout : WX) (D : Ends) : WX := fun cls d σ H =>
  ∃ b, PySem.W.exmOne K cls c = some b ∧ (b = true → ∀ a, H a = none → ts a cls d { nx := fun σ' H' => D.nx (σ'.set i none) (upd H' a (exq a cls d)), rt := fun v H' => D.rt v (upd H' a (exq a cls d)), bk := fun σ' H' => D.bk (σ'.set i none) (upd H' a (exq a cls d)), ct := fun σ' H' => D.ct (σ'.set i none) (upd H' a (exq a cls d)) } (σ.set i (some (.ref a))) H) ∧
    (b = false → Wout cls d σ H)
section
variable {X : Cx} {x n : Str} {c : Value} {i : Nat} {body suite : List Stmt} {b₀ : Stmt} {np pos pos' : Pos} {tb : WX → TS} {ts : Addr → Value → Option Addr → TS} {Wout : WX}
theorem ps_try_asT (hex : X.ex = []) (hs : X.stack = X.env :: X.outer) (hf : X.env.frame = some X.env.locals) (hN : X.N.Nodup) (hi : X.N[i]? = some n) (hln : X.env.kindOf n = some .local) (hc : Names X x c) (tk : Takes X Wout)
    (hb : ∀ (W : WX) (pn : List (Addr × Obj)) (xe : Value → Shared → Prop), Takes (X.tr pn xe) W → PassesOwn (model X.prog X.w) X.A X.env xe → PSs (X.tr pn xe) body (tb W))
    (hsu : ∀ (a : Addr) (oe : Obj) (cls : Value) (d : Option Addr) (pn : List (Addr × Obj)), Zc cls d oe → (∃ vs, oe.data = .fields vs) → PSs (X.suite a ((a, oe) :: pn)) (b₀ :: suite) (ts a cls d)) :
    PS X (.Try body [.ExceptHandler (some (.Name x np)) (some n) (b₀ :: suite) pos'] [] [] pos) (fun D σ H => tb (wAsT X.K c i ts Wout D) D σ H) := by
  refine ⟨fun pins s σ H D I h => ?_⟩
  have ok := I.ok
  have hfr : X.A.frames = some (X.env :: X.outer) := by rw [ok.frames, hs]
  have hloc : Loc X.env.scope n := .inl hln
  refine wpAny_Try_except ?_
  refine wpAny_mono ((hb (wAsT X.K c i ts Wout D) (X.pn ++ pins) (fun e s₁ => wpAny (model X.prog X.w) X.A (noteFrame e X.env) (fun _ s₂ => wpAny (model X.prog X.w) X.A (setFlight e none) (fun _ s₃ =>
    wpAny (model X.prog X.w) X.A (handleBy e X.env [.ExceptHandler (some (.Name x np)) (some n) (b₀ :: suite) pos']) (SP X pins D) X.xe s₃) X.xe s₂) X.xe s₁) (fun u s' xx => ?_) PassesOwn.looking).run [] s σ H D (I.toTry _) h) (fun f s1 hsp => ?_) (fun e s1 he => he)
  · -- the catch
    obtain ⟨a, B, sI, pins', σ', H', cls, d, rfl, J', nb, up, sky, na, os, ag, b, hb1, hyes, hno⟩ := xx
    have J : Inv X pins σ' H' sI := J'.ofTry ok
    have sky' : Sky B (X.env :: X.outer) a (Zc cls d) X.env.locals s'.heap := by rw [← hs]; exact sky
    show wpAny (model X.prog X.w) X.A (noteFrame (.ref a) X.env) _ _ _
    refine Sky.land Zc.steady hfr hf sky' fun h3 fl3 up3 => ?_
    have J3 : Inv X pins σ' H' { s' with heap := h3 } := J.landed nb fl3.1 (up.trans up3) os ag
    obtain ⟨oe3, vs3, he3, hz3, hd3⟩ := fl3.there
    have notFr : ∀ {h : Heap} {o : Obj} {vs : Array Value}, h.FunFrames B (X.env :: X.outer) → h.get? a = some o → o.data = .fields vs → a ∉ frs (X.env :: X.outer) := fun {h o vs} ff e dd hm => by
      obtain ⟨_, o', e', hnf⟩ := ff.mem hm
      rw [e] at e'; cases e'
      exact hnf _ dd
    have nfr := notFr fl3.2.2.1 he3 hd3
    have nL : a ≠ X.env.locals := fun z => nfr (List.mem_filterMap.mpr ⟨X.env, List.mem_cons_self, by rw [hf, z]⟩)
    have nF : a ∉ X.fs := fun hm => by
      obtain ⟨e, he, q⟩ := List.mem_filterMap.mp hm
      exact nfr (List.mem_filterMap.mpr ⟨e, List.mem_cons_of_mem _ he, q⟩)
    have hBa : B.get? a = none := fl3.2.1
    have nsI : ∀ o, sI.heap.get? a ≠ some o := fun o e => by
      have z := nb a o e (by rw [hs]; exact nfr)
      rw [hBa] at z
      cases z
    have nP : ∀ p ∈ X.pn ++ pins, p.1 ≠ a := fun p hp z => nsI p.2 (by rw [← z]; exact (J.pin p hp).1)
    have n0 : X.s_0.heap.get? a = none := by
      cases e : X.s_0.heap.get? a with
      | none => rfl
      | some o =>
        obtain ⟨o', e'⟩ := J.base.there a o e (by rw [hex]; simp)
        exact absurd e' (nsI o')
    have S3 := J3.suite he3 hd3 na nL nF
    refine wpAny_handleBy_cons (codeAny_handlers_test ?_) (by intro q; cases q)
    have LT : PySem.W.Looks (model X.prog X.w) h3 (typeOf (.ref a)) cls := fun A Q E s k q => wpAny_typeOf_ref (k _ _ he3) (by rw [hz3.1]; exact q)
    have LM := PySem.W.exm_one (M := model X.prog X.w) (J3.kIn) LT hb1
    have test : ∀ {Q : Value → Shared → Prop} {E : Value → Shared → Prop}, Q c { s' with heap := h3 } → wpAny (model X.prog X.w) (X.A.mark (some (.ref a))) (eval (.Name x np) X.env) Q E { s' with heap := h3 } := fun {Q E} q => by
      obtain ⟨hg, hdbg, hm | ⟨hm, hv, hnn⟩⟩ := hc
      · exact ld_glob (X := X.suite a ((a, oe3) :: (X.pn ++ pins))) S3 hg hm q hdbg
      · exact ld_blt (X := X.suite a ((a, oe3) :: (X.pn ++ pins))) S3 hg hm hv q hnn hdbg
    refine test (LM.here ?_)
    cases b with
    | true =>
      refine codeAny_handlers_suite_as ?_
      refine HandSPX.lands_againZ fl3 fun h4 fl4 up4 => ?_
      have J4 : Inv X pins σ' H' { s' with heap := h4 } := J.landed nb fl4.1 ((up.trans up3).trans up4) os ag
      obtain ⟨oe4, vs4, he4, hz4, hd4⟩ := fl4.there
      have S4 := J4.suite he4 hd4 na nL nF
      refine store_ok (X := X.suite a ((a, oe4) :: (X.pn ++ pins))) (v := .ref a) S4 hN hi hloc rfl (fun s5 S5 => ?_) (.inr hln)
      refine wpAny_mono ((hsu a oe4 cls d (X.pn ++ pins) hz4 ⟨_, hd4⟩).run [] s5 _ H' _ S5 (hyes rfl a na)) (fun f s6 hsp => ?_) (fun _ _ z => False.elim z)
      have end_ : ∀ {σ6 : St} {H6 : Hp} {Q : Shared → Prop}, Inv (X.suite a ((a, oe4) :: (X.pn ++ pins))) [] σ6 H6 s6 → (∀ s7, Inv X pins (σ6.set i none) (upd H6 a (exq a cls d)) s7 → Q s7) →
          wpAny (model X.prog X.w) X.A (do bindName X.env n .none; unbindBehindTheSuite X.env n pos') (fun _ s7 => Q s7) X.xe s6 := fun {σ6 H6 Q} S6 hq => by
        obtain ⟨p1, p2, _⟩ := S6.pin (a, oe4) (List.mem_append_left _ List.mem_cons_self)
        exact gone_ok ((S6.unsuite ok).track p1 hz4 hd4 p2 nL nP n0) hN hi hln hq
      cases f with
      | next =>
        obtain ⟨σ6, H6, S6, q6⟩ := hsp
        exact end_ S6 fun s7 J7 => ⟨_, _, J7, q6⟩
      | brk =>
        obtain ⟨σ6, H6, S6, q6⟩ := hsp
        exact end_ S6 fun s7 J7 => ⟨_, _, J7, q6⟩
      | cont =>
        obtain ⟨σ6, H6, S6, q6⟩ := hsp
        exact end_ S6 fun s7 J7 => ⟨_, _, J7, q6⟩
      | ret u =>
        obtain ⟨v6, σ6, H6, S6, r6, q6⟩ := hsp
        exact end_ S6 fun s7 J7 => ⟨_, _, _, J7, r6, q6⟩
    | false =>
      show wpAny _ X.A (handleBy (.ref a) X.env []) _ _ _
      refine wpAny_handleBy_nil ?_
      obtain ⟨k1, k2, k3, oe, vs, T, oT, ts', he, hz, hd, h1, hr⟩ := id fl3
      unfold PySem.passOn
      refine wpAny_bind (wpAny_field he hd h1 ?_)
      rw [if_neg (show ¬ ((Value.ref T == Value.none) = true) from by simp)]
      have fin : wpAny (model X.prog X.w) X.A (setFlight (.ref a) X.env.frame) (fun _ s4 => wpAny (model X.prog X.w) X.A (throw (.ref a) : Sem Flow) (SP X pins D) X.xe s4) X.xe { s' with heap := h3 } := by
        rw [hf]
        refine HandSPX.setFlight_upZ fl3 fun h4 hh4 up4 => wpAny_throw (tk _ _ ?_)
        exact ⟨a, B, sI, pins, σ', H', cls, d, rfl, J, nb, (up.trans up3).trans up4, .inr (.inr (by rw [hs]; exact hh4)), na, os, ag, hno rfl⟩
      first
        | exact wpAny_bind (wpAny_pure (wpAny_bind fin))
        | exact wpAny_bind fin
  · cases f with
    | next =>
      obtain ⟨σ', H', J', q⟩ := hsp
      exact wpAny_execs_nil ⟨σ', H', J'.ofTry ok, q⟩
    | brk =>
      obtain ⟨σ', H', J', q⟩ := hsp
      exact ⟨σ', H', J'.ofTry ok, q⟩
    | cont =>
      obtain ⟨σ', H', J', q⟩ := hsp
      exact ⟨σ', H', J'.ofTry ok, q⟩
    | ret u =>
      obtain ⟨v, σ', H', J', r, q⟩ := hsp
      exact ⟨v, σ', H', J'.ofTry ok, r, q⟩
end
end L2

set_option Elab.async false
set_option linter.all false
set_option maxRecDepth 100000
set_option maxHeartbeats 4000000
/-! raising an error of the program; its value, and isinstance, of one that is kept -/
namespace L2
open PySem PySem.Spec PyProof.Rows
def tMkX (H0 : Hp) (C : Addr) (te : TE) : St → Hp → XK → Prop := fun σ H Q => te σ H fun v H1 => ∀ (a d : Addr) (H2 : Hp), H1 a = none → H1 d = none → d ≠ a → Same H1 H2 → H2 a = none → H2 d = some (exd d [(("value" : Str), v)]) → H0 a = none ∧ Q (.ref C) (some d) H2
section
variable {X : Cx} {fI C : Addr} {k : Nat} {fd : FuncData} {x : Str} {e : Expr} {te : TE} {p pos kp : Pos}
theorem pmk_err (hx : X.ex = []) (T : ErrC X.K fI C) (tI : PySem.W.typeIn X.K (.ref fI) = some (.type "function")) (F1 : FnOk X.prog X.w X.K X.mg X.base CX0 k fI fd ["self", "value"] (spInit X.K)) (hr : Room (k + 1) X.A)
    (hb : ∀ (s : Shared) (a u : Value), BindsTo s fd ⟨[a, u], []⟩ ((["self", "value"] : List Str).zip [a, u])) (hg : Gl X x) (hm : X.mg x = some (.ref C)) (he : PE X e te)
    (hdb : (x == ("__debug__" : Str)) = false := by decide) (hs : starEach [e] X.env = (false, eval e X.env) :: starEach [] X.env := by rfl) : PMk X (.Call (.Name x p) [e] [] pos) (tMkX X.H_0 C te) := by
  intro pins s σ H Q I h
  obtain ⟨nm, q, N, bs, bm, sn, sub, ab, col, dd, k0, k1, k2, k3, k5, hC, hbm⟩ := T.o.cls
  refine wpAny_Call_Name_kw (ld_glob I hg hm ?_ hdb)
  refine PySem.W.callWith_K (h₀ := X.base) I.ok.mod.kin T.o.kC ?_ hs (by rfl)
  rw [hs]
  show wpAny _ _ (spliced ((false, eval e X.env) :: backTo pos (starEach [] X.env))) _ _ s
  refine Calls.spliced_cons (thn (he.run pins s σ H _ I h) fun u s1 ⟨v, H1, I1, r1, q1⟩ => ?_)
  refine Calls.spliced_nil ⟨I1.kIn, ?_⟩
  show wpAny _ _ (call (.ref C) [u]) _ _ _
  obtain ⟨hp, g, dr, tk, os⟩ := s1
  refine wpAny_call (codeAny_mono (PySem.HandSPX.call_own F.excBase_ValueError (fun Y => PySem.HandSPX.refsVE_contains Y bm hbm) (I1.kIn _ _ hC) (PySem.W.looks_findIn I1.kIn T.iC) (fun self => PySem.W.bind_fn I1.kIn self tI) (by show 1 ≤ sizeLine; rw [sizeLine_eq]; omega)
    (run_err (kw := []) (us := [u]) (args := ⟨[], []⟩) (Q := fun y H2 => ∃ (a d : Addr) (v : V), y = .ref a ∧ Err H2 a d C v ∧ X.H_0 a = none ∧ Q (.ref C) (some d) (delH H2 a)) T F1 hr I1 r1 (fun s => hb s _ u) fun a d H2 na nd ne er S => ?_)) fun r s' hq => ?_)
  · obtain ⟨z1, z2⟩ := q1 a d (delH H2 a) na nd ne (fun b u e => by rw [delH_ne (ne_of_none e na)]; exact S _ _ e) delH_same (by rw [delH_ne ne]; exact er.2)
    exact ⟨a, d, v, rfl, er, z1, z2⟩
  · obtain ⟨y, rfl, ep⟩ := hq
    obtain ⟨y', H3, I3, r3, a, d, v', rfl, ⟨e1, e2⟩, h0, q⟩ := ep
    cases r3
    obtain ⟨t1, ho⟩ := exo_at I3.hok e1
    obtain ⟨G, gs, ga, J⟩ := I3.untrack e1 (fr0_none h0) hx
    exact ⟨a, _, _, { s' with heap := G }, delH H3 a, .ref C, some d, rfl, J, gs, ga, ho, ⟨rfl, rfl⟩, rfl, rfl, delH_same, rfl, I3.bare, raises_own T.o.exC T.o.tyC, q⟩
end
/-- an error that is kept -/
def ErrQ (H : Hp) (a d C : Addr) (v : V) : Prop := H a = some (exq a (.ref C) (some d)) ∧ H d = some (exd d [(("value" : Str), v)])
theorem ErrQ.same {H H' : Hp} {a d C : Addr} {v : V} (h : ErrQ H a d C v) (S : Same H H') : ErrQ H' a d C v := ⟨S _ _ h.1, S _ _ h.2⟩
section
variable {X : Cx} {fI C : Addr} {k : Nat} {e : Expr} {te : TE} {pos : Pos}
theorem errq_inst {pins : List (Addr × Obj)} {σ : St} {H : Hp} {s : Shared} {a d : Addr} {v : V} (I : Inv X pins σ H s) (h : ErrQ H a d C v) :
    ∃ (oe od : Obj) (mA : Str → Option Value), PySem.W.InstAt s.heap a oe C (some od) ∧ (∀ f, RelO (([(("value" : Str), v)] : List (Str × V)).lookup f) (mA f)) ∧ ∀ name, PySem.W.lookIn name od = some (mA name) := by
  obtain ⟨e1, e2⟩ := h
  obtain ⟨oe, vs, ho, hz, hd⟩ := exq_at I.hok e1
  obtain ⟨mA, hns, hr⟩ := exd_at I.hok e2
  obtain ⟨od, hod, hl⟩ := lookIn_ns hns
  exact ⟨oe, od, mA, ⟨ho, hz.1, by unfold PySem.W.notCls; rw [hd] <;> rfl, by rw [hz.2]; exact hod⟩, hr, hl⟩
/-- e.value, e an error that is kept -/
def tQV (K : PySem.W.Frag) (fI : Addr) (te : TE) : TE := fun σ H Q => te σ H fun x H1 => ∃ (a d C : Addr) (v : V), x = .ref a ∧ ErrC K fI C ∧ ErrQ H1 a d C v ∧ Q v H1
theorem pe_qv (he : PE X e te) (hb : attributeBase e "value" X.env (eval e X.env) = eval e X.env := by rfl) : PE X (.Attribute e "value" pos) (tQV X.K fI te) := by
  refine ⟨fun pins s σ H Q I h => ?_⟩
  refine attr_of hb (thn (he.run pins s σ H _ I h) fun u s1 hh => ?_)
  obtain ⟨x, H1, I1, rx, a, d, C, v, rfl, T, eq, q⟩ := hh
  obtain rfl : u = Value.ref a := rx
  obtain ⟨oe, od, mA, J, hr, hl⟩ := errq_inst I1 eq
  obtain ⟨w, hu, ru⟩ := RelO.some_of (v := v) (o := mA "value") (by have z := hr "value"; rw [lookup_put, if_pos rfl] at z; exact z)
  exact HandSPX.exc_get I1.kIn J T.ga T.gg T.o.exC (PySem.W.findObj_own T.hd T.no rfl (by rw [hl, hu])) (handed_of ru) ⟨v, H1, I1.tok _, ru, q⟩
/-- isinstance(e, c), e an error that is kept -/
def rIsQ (K : PySem.W.Frag) (fI : Addr) : List V → Hp → VK → Prop := fun xs H Q => ∃ (a d C : Addr) (v c : V) (cv : Value) (b : Bool), xs = [.ref a, c] ∧ ErrC K fI C ∧ ErrQ H a d C v ∧ (∀ u, RelV c u → u = cv) ∧ PySem.W.kitOne K (.ref C) cv = some b ∧ Q (.bl b) H
theorem call_isQ (hn : PySem.W.specialIn X.K (.builtin "object.__class__") "__get__" = some (some (.builtin "getset_descriptor.__get__"))) (htk : PySem.W.takesIn X.K (.builtin "object.__class__") = some true) : CallR X (.builtin "isinstance") (rIsQ X.K fI) := by
  intro pins s σ H xs us Q I r h
  obtain ⟨a, d, C, v, c, cv, b, rfl, T, eq, hcv, e, q⟩ := h
  obtain ⟨u1, u2, rfl, r1, r2⟩ := vals2 r
  have ec := hcv _ r2
  subst ec
  cases (show u1 = Value.ref a from r1)
  obtain ⟨oe, od, mA, J, hr, hl⟩ := errq_inst I eq
  exact PySem.W.kia_one (PySem.W.kitx_exc (by obtain ⟨cd, hc, _⟩ := PySem.W.any_some T.hd; rw [hc]; rfl) T.ga T.gg T.o.exC T.cl hn htk T.mo) I.kIn J e (fun z => nomatch z) fun tk => ⟨.bl b, H, I.kept (t' := tk) fun _ _ z => z, rfl, q⟩
end
end L2
namespace S1
open PySem PySem.W PySem.Spec PyProof.Rows L2
def tCallK0S (sp : Sp) (gV : List V → List V) (n : Nat) (E : L2.St → XK) (tk : TA) : TE := fun σ H Q => tk σ H fun zs H2 => zs.length = n ∧ sp (gV zs) H2 Q (E σ)
section
variable {X : Cx} {CX : CXT} {k : Nat} {f : Addr} {fd : FuncData} {ps ks : List Str} {sp : Sp} {E : L2.St → XK} {x : Str} {p pos : Pos} {kws : List Keyword} {tk : TA} {g : List Value → List Value} {gV : List V → List V}
theorem run_fnk0S {pins : List (Addr × Obj)} {σ : L2.St} {H : Hp} {s : Shared} {Q : VK} {ws : List Value} {zs : List V} (F : FnOk X.prog X.w X.K X.mg X.base CX k f fd ps sp) (hr : Room k X.A) (hb : KB0 X.K fd ps ks g gV) (hx : PassesAt CX X σ (E σ))
    (I : Inv X pins σ H s) (rz : Vals zs ws) (hn : zs.length = ks.length) (h : sp (gV zs) H Q (E σ)) : wpAny (model X.prog X.w) X.A (call (.ref f) [] (ks.zip ws)) (EP X pins σ Q) X.xe s := by
  have r2 := hb.rel rz
  have hl : ws.length = ks.length := by rw [← rz.length]; exact hn
  refine wpAny_call (codeAny_mono (F.run X.A X.stack s H ⟨[], ks.zip ws⟩ (g ws) (gV zs) Q (E σ) hr I.env0 (hb.to s ws I.kIn hl) r2 h) fun r s' hq => ?_)
  cases r with
  | error e => exact hx pins H s e s' I hq
  | ok fl =>
    cases fl with
    | ret u => exact I.after hq
    | next => exact False.elim hq
    | brk => exact False.elim hq
    | cont => exact False.elim hq
/-- f(k = v, ..), f may raise, within a try -/
theorem pe_callK0S (F : FnOk X.prog X.w X.K X.mg X.base CX k f fd ps sp) (hr : Room k X.A) (hg : Gl X x) (hm : X.mg x = some (.ref f)) (hk : PySem.W.keepIn X.K (.ref f) = true) (hb : KB0 X.K fd ps ks g gV) (hx : ∀ σ, PassesAt CX X σ (E σ))
    (hkw : PK X kws tk) (hall : (backToKw pos (keywordEach kws X.env)).all (·.1.isSome) = true := by rfl) (hks : (backToKw pos (keywordEach kws X.env)).filterMap (·.1) = ks := by rfl)
    (hdb : (x == ("__debug__" : Str)) = false := by decide)
    (hpl : ((backTo pos (starEach [] X.env)).any (·.1) || (backToKw pos (keywordEach kws X.env)).any (·.1.isNone)) = false := by rfl) :
    PE X (.Call (.Name x p) [] kws pos) (tCallK0S sp gV ks.length E tk) := by
  refine ⟨fun pins s σ H Q I h => ?_⟩
  refine wpAny_Call_Name_kw (ld_glob I hg hm ?_ hdb)
  refine PySem.W.callWith_KW0 (h₀ := X.base) I.ok.mod.kin hk hall (thn (hkw.run pos pins s σ H _ I h) fun ws s2 ⟨zs, H2, I2, rz, hn, q2⟩ => ⟨I2.kIn, ?_⟩) hpl
  rw [hks]
  exact run_fnk0S F hr hb (hx σ) I2 rz hn q2
end
end S1

set_option Elab.async false
set_option linter.all false
set_option maxRecDepth 100000
set_option maxHeartbeats 4000000
/-! renewed -/
namespace S1
open PySem PySem.W PySem.Spec PyProof.Rows L2
/-- what renewed copies: texts and truths in tuples, so deep -/
def renOk : Nat → PyData → Prop
  | 0, d => (∃ x, d = .str x) ∨ ∃ b, d = .bool b
  | n + 1, d => (∃ x, d = .str x) ∨ (∃ b, d = .bool b) ∨ ∃ ds, d = .tuple ds ∧ ds.length ≤ 900 ∧ ∀ e ∈ ds, renOk n e
theorem ren_key : ∀ {n : Nat} {d : PyData}, renOk n d → keyable d = true
  | 0, _, h => by
    rcases h with ⟨x, rfl⟩ | ⟨b, rfl⟩ <;> rfl
  | n + 1, _, h => by
    rcases h with ⟨x, rfl⟩ | ⟨b, rfl⟩ | ⟨ds, rfl, _, h⟩
    · rfl
    · rfl
    · show keyables ds = true
      have z : ∀ l : List PyData, (∀ e ∈ l, renOk n e) → keyables l = true := fun l => by
        induction l with
        | nil => intro _; rfl
        | cons a l ih =>
          intro hl
          rw [keyables, ren_key (hl a List.mem_cons_self), ih fun e he => hl e (List.mem_cons_of_mem _ he)]
          rfl
      exact z ds h
theorem keyables_mem : ∀ {l : List PyData}, (∀ e ∈ l, keyable e = true) → keyables l = true
  | [], _ => rfl
  | a :: l, h => by
    rw [keyables, h a List.mem_cons_self, keyables_mem fun e he => h e (List.mem_cons_of_mem _ he)]
    rfl
theorem dats_snoc {H : Hp} {x : V} {d : PyData} (D : Dat H x d) : ∀ {xs : List V} {ds : List PyData}, DatAll H xs ds → DatAll H (xs ++ [x]) (ds ++ [d])
  | _, _, .nil => .cons D .nil
  | _, _, .cons a t => .cons a (dats_snoc D t)
def spRen : Nat → Sp
  | 0 => fun _ _ _ _ => False
  | n + 1 => fun vs H Q _ => ∃ (v : V) (d : PyData), vs = [v] ∧ Dat H v d ∧ renOk n d ∧ ∀ (v' : V) (H' : Hp), Same H H' → Dat H' v' d → Q v' H'
section
variable {P : Program} {w : World} {K : PySem.W.Frag} {mg : Str → Option Value} {base : Heap}
abbrev nRn : List Str := ["value", "part"]
theorem scRn : FnScope nRn ["value"] (defScope sRenewed) := ⟨rfl, rfl, rfl, by decide +kernel, rfl, by decide +kernel, by decide +kernel⟩
theorem ok_ren_of {j n : Nat} {f : Addr} {fd : FuncData} (R : Has K mg "renewed" sRenewed ["value"] f fd) (B : Blt mg) (G : FnOk P w K mg base CX0 j f fd ["value"] (spRen n)) : FnOk P w K mg base CX0 (j + 1) f fd ["value"] (spRen (n + 1)) := by
  refine R.F.ok scRn (fun vs H Q E h => ?_) (fun cdv A outer s H vs Q E hr h => ?_)
  · obtain ⟨v, d, rfl, _⟩ := h
    rfl
  · obtain ⟨v, d, rfl, D, ok, q⟩ := h
    refine ⟨_, pss_cons (ps_if (pt_val (pe_callB call_isi (by rfl) B.isi (by decide +kernel) (pa_cons (pv 0) (pa_cons (pe_bltn (v := V.ty "list") (by rfl) B.list (by decide +kernel) rfl) pa_nil)))) pss_never pss_nil)
      (pss_cons (ps_if (pt_val (pe_callB call_isi (by rfl) B.isi (by decide +kernel) (pa_cons (pv 0) (pa_cons (pe_bltn (v := V.ty "tuple") (by rfl) B.tuple (by decide +kernel) rfl) pa_nil))))
        (pss_one (ps_ret (pe_tupleOf rfl B.tuple (pe_lc (own := [("part", 1)]) (g := gName 1) (tt := tYes) (te := tCall (spRen n) [] E0 (tCons (tVar 1) tNil)) rfl scRn.nd (pi_tup (pv 0)) (blkOk_by (N := nRn) (sc := defScope sRenewed) (by decide +kernel))
          (fun _ _ _ _ _ => pg_name (i := 1) scRn.nd rfl (Or.inl rfl)) (fun _ _ _ _ _ => pts_nil) (fun _ _ _ _ _ => by exact pe_call G (by exact hr) (by rfl) R.g R.F.kp R.b .nil pass0 (pa_cons (pv 1) pa_nil)))))) pss_nil)
      (pss_one (ps_ret (pv 0)))), ?_⟩
    have alt : (∃ t : String, TyOf K H v (.type t) ∧ kitB t "list" = some false ∧ kitB t "tuple" = some false) ∨ (∃ (m : Nat) (ds : List PyData), n = m + 1 ∧ d = .tuple ds ∧ ds.length ≤ 900 ∧ ∀ e ∈ ds, renOk m e) := by
      have lf : ((∃ x, d = .str x) ∨ ∃ b, d = .bool b) → ∃ t : String, TyOf K H v (.type t) ∧ kitB t "list" = some false ∧ kitB t "tuple" = some false := by
        rintro (⟨x, rfl⟩ | ⟨b, rfl⟩)
        · cases D
          exact ⟨"str", .str x, by decide +kernel, by decide +kernel⟩
        · cases D
          exact ⟨"bool", .bl b, by decide +kernel, by decide +kernel⟩
      match n, ok with
      | 0, ok => exact .inl (lf ok)
      | m + 1, .inl h => exact .inl (lf (.inl h))
      | m + 1, .inr (.inl h) => exact .inl (lf (.inr h))
      | m + 1, .inr (.inr ⟨ds, h1, h2, h3⟩) => exact .inr ⟨m, ds, rfl, h1, h2, h3⟩
    rcases alt with ⟨t, ty, k1, k2⟩ | ⟨m, ds, rfl, rfl, hl, hd⟩
    · refine ⟨_, rfl, _, _, _, _, false, rfl, .ty _, .base ty, kit_ty k1, false, rfl, ?_⟩
      show if false = true then _ else _
      rw [if_neg (by decide)]
      refine ⟨_, rfl, _, _, _, _, false, rfl, .ty _, .base ty, kit_ty k2, false, rfl, ?_⟩
      show if false = true then _ else _
      rw [if_neg (by decide)]
      exact ⟨_, rfl, q _ _ (Same.refl _) D⟩
    · obtain ⟨a, us, rfl, ea, Da⟩ := dat_tup D
      have lu : us.length = ds.length := Da.len
      have kd : ∀ e ∈ ds, keyable e = true := fun e he => ren_key (hd e he)
      refine ⟨_, rfl, _, _, _, _, false, rfl, .ty _, .base (.tup ea), kit_ty (by decide +kernel), false, rfl, ?_⟩
      show if false = true then _ else _
      rw [if_neg (by decide)]
      refine ⟨_, rfl, _, _, _, _, true, rfl, .ty _, .base (.tup ea), kit_ty (by decide +kernel), true, rfl, ?_⟩
      show if true = true then _ else _
      rw [if_pos rfl]
      refine ⟨_, rfl, a, rfl, ⟨_, SqT.of ea⟩, fun D0 hD0 => ?_⟩
      refine lc_tup (K := K) (a := a) (xs := us) (fun j H4 => ∃ xs : List V, H4 D0 = some (.lst xs) ∧ xs.length = j ∧ DatAll H4 xs (ds.take j) ∧ Same H H4) ⟨[], upd_same, rfl, .nil, same_new hD0⟩ (fun j H4 _ ⟨_, _, _, _, S4⟩ => SqT.of (S4 _ _ ea)) ?_ ?_
      · rintro j x H4 hx ⟨xs, e4, lx, D4, S4⟩
        obtain ⟨e, he, Dx⟩ := dats_get' Da j x hx
        have jl : j < ds.length := (List.getElem?_eq_some_iff.mp he).1
        have me := List.mem_of_getElem? he
        refine ⟨rfl, yes_of ⟨_, rfl, x, e, rfl, Dx.same S4, hd e me, fun v' H5 S5 D5 => ?_⟩⟩
        have e5 := S5 _ _ e4
        refine ⟨xs, e5, small1000 (by omega), xs ++ [v'], upd_same, by rw [List.length_append, lx]; rfl, ?_, same_upd (S4.trans S5) hD0⟩
        rw [take_next he]
        refine dats_snoc (dat_upd e5 (kd e me) D5) (dats_del e5 (sd_at (Same.refl _)) (keyables_mem fun u hu => kd u (List.mem_of_mem_take hu)) (DatAll.same S5 D4))
      · rintro H4 ⟨xs, e4, lx, D4, S4⟩
        rw [lu, List.take_length] at D4
        refine .inl ⟨D0, xs, rfl, SqL.of e4, fun t ht => ?_⟩
        have St := same_new (o := .tup xs) ht
        exact q _ _ (S4.trans St) (.tup upd_same (DatAll.same St D4))
theorem ok_ren {f : Addr} {fd : FuncData} (R : Has K mg "renewed" sRenewed ["value"] f fd) (B : Blt mg) : ∀ n : Nat, FnOk P w K mg base CX0 (n + 1) f fd ["value"] (spRen (n + 1))
  | 0 => ok_ren_of (j := 0) (n := 0) R B ⟨fun _ _ _ _ h => h.elim, fun _ _ _ _ _ _ _ _ _ _ _ _ _ h => h.elim⟩
  | n + 1 => ok_ren_of R B (ok_ren R B n)
end
theorem ren_str {n : Nat} (x : Str) : renOk n (.str x) := by
  cases n
  · exact .inl ⟨x, rfl⟩
  · exact .inl ⟨x, rfl⟩
theorem ren_bl {n : Nat} (b : Bool) : renOk n (.bool b) := by
  cases n
  · exact .inr ⟨b, rfl⟩
  · exact .inr (.inl ⟨b, rfl⟩)
theorem ren_tup {n : Nat} {ds : List PyData} (h : ∀ e ∈ ds, renOk n e) (hl : ds.length ≤ 900) : renOk (n + 1) (.tuple ds) := .inr (.inr ⟨ds, rfl, hl, h⟩)
theorem ren_nms {n : Nat} {xs : List Str} (hl : xs.length ≤ 900) : renOk (n + 1) (nmsD xs) := ren_tup (fun e he => by obtain ⟨x, _, rfl⟩ := List.mem_map.mp he; exact ren_str x) (by rw [List.length_map]; exact hl)
theorem ren_say {c : Nat} {s : Say} (ok : SayOk 6 8 c 40 s) : renOk 4 s.d := by
  have lp := ok.pl
  have lo := ok.ol
  have lc := ok.cl
  refine ren_tup (fun e he => ?_) (by simp)
  rcases List.mem_cons.mp he with rfl | he
  · exact ren_nms (by omega)
  rcases List.mem_cons.mp he with rfl | he
  · refine ren_tup (fun e he => ?_) (by rw [List.length_map]; omega)
    obtain ⟨o, ho, rfl⟩ := List.mem_map.mp he
    have og := (ok.own ho).le
    refine ren_tup (fun e he => ?_) (by simp)
    rcases List.mem_cons.mp he with rfl | he
    · exact ren_str _
    · cases List.mem_singleton.mp he
      exact ren_nms (by omega)
  · cases List.mem_singleton.mp he
    refine ren_tup (fun e he => ?_) (by rw [List.length_map]; omega)
    obtain ⟨cl, hcl, rfl⟩ := List.mem_map.mp he
    have ll := cl_len (ok.ck cl hcl)
    have nl := ok.nlen
    refine ren_tup (fun e he => ?_) (by rw [List.length_map]; omega)
    obtain ⟨l, _, rfl⟩ := List.mem_map.mp he
    refine ren_tup (fun e he => ?_) (by simp)
    rcases List.mem_cons.mp he with rfl | he
    · exact ren_str _
    · cases List.mem_singleton.mp he
      exact ren_bl _
end S1

set_option Elab.async false
set_option linter.all false
set_option maxRecDepth 100000
set_option maxHeartbeats 4000000
/-! with_sight, without_sight -/
namespace S1
open PySem PySem.W PySem.Spec PyProof.Rows L2
/-- InvalidSaying and SightError, as the text leaves them -/
structure ErrS (K : PySem.W.Frag) (mg : Str → Option Value) (fI : Addr) (fdI : FuncData) (C S : Addr) : Prop where
  c : ErrC K fI C
  gC : mg "InvalidSaying" = some (.ref C)
  gS : mg "SightError" = some (.ref S)
  F : Fun K "__init__" "SightError.__init__" sInit fI fdI
  t : PySem.W.typeIn K (.ref fI) = some (.type "function")
  hn : PySem.W.specialIn K (.builtin "object.__class__") "__get__" = some (some (.builtin "getset_descriptor.__get__"))
  ht : PySem.W.takesIn K (.builtin "object.__class__") = some true
  iC : PySem.W.kitOne K (.ref C) (.ref C) = some true
  iS : PySem.W.exmOne K (.ref C) (.ref S) = some true
def spWithout : Sp := fun vs H Q _ => ∃ (v : V) (s : Say) (o : Own) (x : Str), vs = [v, .str o.1, .str x] ∧ Dat H v s.d ∧ SayOk 6 8 120 40 s ∧ o ∈ s.owns ∧ x ∈ s.picks ∧ ∀ (v' : V) (H' : Hp), Same H H' → Dat H' v' (seen s o.1 x false).d → Q v' H'
def spWith (C : Addr) : Sp := fun vs H Q E => ∃ (v : V) (s : Say) (o : Own) (x : Str), vs = [v, .str o.1, .str x] ∧ Dat H v s.d ∧ SayOk 6 8 120 40 s ∧ o ∈ s.owns ∧ x ∈ s.picks ∧
  (copies (seen s o.1 x true).owns ≤ 120 → ∀ (v' : V) (H' : Hp), Same H H' → Dat H' v' (seen s o.1 x true).d → Q v' H') ∧
  (¬ copies (seen s o.1 x true).owns ≤ 120 → ∀ (d : Addr) (v' : V) (H' : Hp), Same H H' → Dat H' v' (seen s o.1 x true).d → H' d = some (exd d [(("value" : Str), v')]) → E (.ref C) (some d) H')
section
variable {P : Program} {w : World} {K : PySem.W.Frag} {mg : Str → Option Value} {base : Heap}
theorem scI : FnScope ["self", "value"] ["self", "value"] (defScope sInit) := ⟨rfl, rfl, rfl, by decide +kernel, rfl, by decide +kernel, by decide +kernel⟩
theorem ok_init {fI : Addr} {fdI : FuncData} (F : Fun K "__init__" "SightError.__init__" sInit fI fdI) : FnOk P w K mg base CX0 1 fI fdI ["self", "value"] (spInit K) := by
  refine F.ok scI (fun vs H Q E h => ?_) (fun cdv A outer s H vs Q E hr h => ?_)
  · obtain ⟨a, C, v, rfl, _⟩ := h
    rfl
  · obtain ⟨a, C, v, rfl, T, no, ha, q⟩ := h
    exact ⟨_, pss_one (ps_ost (pv 0) (pv 1)), ⟨_, rfl, _, rfl, a, C, rfl, T, no, .inl ⟨ha, q⟩⟩⟩
theorem init_pos {fI : Addr} {fdI : FuncData} (F : Fun K "__init__" "SightError.__init__" sInit fI fdI) (s : Shared) (a u : Value) : BindsTo s fdI ⟨[a, u], []⟩ ((["self", "value"] : List Str).zip [a, u]) := by
  obtain ⟨oc, od, kV, doc, pm, an, cdv, ct, osl, rfl, lk, hcd⟩ := F.ex
  exact .of_eq rfl
theorem scWo : FnScope ["saying", "name", "pick"] ["saying", "name", "pick"] (defScope sWithout) := ⟨rfl, rfl, rfl, by decide +kernel, rfl, by decide +kernel, by decide +kernel⟩
theorem scWi : FnScope ["saying", "name", "pick", "greater"] ["saying", "name", "pick"] (defScope sWith) := ⟨rfl, rfl, rfl, by decide +kernel, rfl, by decide +kernel, by decide +kernel⟩
theorem ok_without {f fL : Addr} {fd fdL : FuncData} (F : Fun K "without_sight" "without_sight" sWithout f fd) (e : Env1 K mg) (Wn : Wnt K mg) (W2 : Wnt2 K mg) (Le : Has K mg "less_seen" sLess ["saying", "name", "pick"] fL fdL) (GL : FnOk P w K mg base CX0 2 fL fdL ["saying", "name", "pick"] spLess) :
    FnOk P w K mg base CX0 8 f fd ["saying", "name", "pick"] spWithout := by
  obtain ⟨fS, fdS, Ws, GS⟩ := g_wantSaying (P := P) (w := w) (base := base) e Wn
  obtain ⟨fO, fdO, Wo, GO⟩ := g_wantOwn (P := P) (w := w) (base := base) e W2
  obtain ⟨fK, fdK, Wk, GK⟩ := g_wantPick (P := P) (w := w) (base := base) e W2
  refine F.ok scWo (fun vs H Q E h => ?_) (fun cdv A outer s H vs Q E hr h => ?_)
  · obtain ⟨v, sy, o, x, rfl, _⟩ := h
    rfl
  · obtain ⟨v, sy, o, x, rfl, D, ok, ho, hx, q⟩ := h
    refine ⟨_, pss_cons (ps_expr (pe_call GS hr rfl Ws.g Ws.F.kp Ws.b .nil pass0 (pa_cons (pv 0) pa_nil)))
      (pss_cons (ps_expr (pe_call GO (hr.mono (by decide)) rfl Wo.g Wo.F.kp Wo.b .nil pass0 (pa_cons (pv 0) (pa_cons (pv 1) pa_nil))))
      (pss_cons (ps_expr (pe_call GK (hr.mono (by decide)) rfl Wk.g Wk.F.kp Wk.b .nil pass0 (pa_cons (pv 0) (pa_cons (pv 2) pa_nil))))
      (pss_one (ps_ret (pe_call GL (hr.mono (by decide)) rfl Le.g Le.F.kp Le.b .nil pass0 (pa_cons (pv 0) (pa_cons (pv 1) (pa_cons (pv 2) pa_nil)))))))), ?_⟩
    exact ⟨_, rfl, v, sy, rfl, datS_of D, ok, fun H1 S1 => ⟨_, rfl, _, rfl, v, sy, o, rfl, datS_of (D.same S1), ok, ho, fun H2 S2 => ⟨_, rfl, _, rfl, v, sy, x, rfl, datS_of (D.same (S1.trans S2)), ok, hx, fun H3 S3 =>
      ⟨_, rfl, _, rfl, _, rfl, v, sy, o.1, x, rfl, D.same (S1.trans (S2.trans S3)), ok, fun v' H4 S4 D4 => q v' H4 (S1.trans (S2.trans (S3.trans S4))) D4⟩⟩⟩⟩
theorem ok_with {f fM fR fI C S : Addr} {fd fdM fdR fdI : FuncData} (F : Fun K "with_sight" "with_sight" sWith f fd) (e : Env1 K mg) (Wn : Wnt K mg) (W2 : Wnt2 K mg) (Er : ErrS K mg fI fdI C S) (Mo : Has K mg "more_seen" sMore ["saying", "name", "pick"] fM fdM) (GM : FnOk P w K mg base CX0 2 fM fdM ["saying", "name", "pick"] spMore)
    (Re : Has K mg "renewed" sRenewed ["value"] fR fdR) : FnOk P w K mg base (L2.CX P w) 8 f fd ["saying", "name", "pick"] (spWith C) := by
  obtain ⟨fS, fdS, Ws, GS⟩ := g_wantSaying (P := P) (w := w) (base := base) e Wn
  obtain ⟨fO, fdO, Wo, GO⟩ := g_wantOwn (P := P) (w := w) (base := base) e W2
  obtain ⟨fK, fdK, Wk, GK⟩ := g_wantPick (P := P) (w := w) (base := base) e W2
  obtain ⟨fF, fdF, Ft, GF⟩ := g_fitsSaying (P := P) (w := w) (base := base) e
  have GR : FnOk P w K mg base CX0 5 fR fdR ["value"] (spRen 5) := ok_ren Re e.B 4
  have GI : FnOk P w K mg base CX0 1 fI fdI ["self", "value"] (spInit K) := ok_init Er.F
  refine F.okX scWi (fun vs H Q E h => ?_) (fun cdv A outer s H vs Q E hr h => ?_)
  · obtain ⟨v, sy, o, x, rfl, _⟩ := h
    rfl
  · obtain ⟨v, sy, o, x, rfl, D, ok, ho, hx, q1, q2⟩ := h
    refine ⟨_, pss_cons (ps_expr (pe_call GS hr rfl Ws.g Ws.F.kp Ws.b .nil pass0 (pa_cons (pv 0) pa_nil)))
      (pss_cons (ps_expr (pe_call GO (hr.mono (by decide)) rfl Wo.g Wo.F.kp Wo.b .nil pass0 (pa_cons (pv 0) (pa_cons (pv 1) pa_nil))))
      (pss_cons (ps_expr (pe_call GK (hr.mono (by decide)) rfl Wk.g Wk.F.kp Wk.b .nil pass0 (pa_cons (pv 0) (pa_cons (pv 2) pa_nil))))
      (pss_cons (ps_set (i := 3) scWi.nd rfl (.inl rfl) (pe_call GM (hr.mono (by decide)) rfl Mo.g Mo.F.kp Mo.b .nil pass0 (pa_cons (pv 0) (pa_cons (pv 1) (pa_cons (pv 2) pa_nil)))))
      (pss_cons (ps_if (pt_not (pt_val (pe_call GF (hr.mono (by decide)) rfl Ft.g Ft.F.kp Ft.b .nil pass0 (pa_cons (pv 3) pa_nil))))
          (pss_one (ps_raise rfl (takes_of rfl rfl rfl rfl) (pmk_err rfl Er.c Er.t GI (hr.mono (by decide)) (init_pos Er.F) rfl Er.gC (pe_call GR (hr.mono (by decide)) rfl Re.g Re.F.kp Re.b .nil pass0 (pa_cons (pv 3) pa_nil))))) pss_nil)
      (pss_one (ps_ret (pv 3))))))), ?_⟩
    refine ⟨_, rfl, v, sy, rfl, datS_of D, ok, fun H1 S1 => ⟨_, rfl, _, rfl, v, sy, o, rfl, datS_of (D.same S1), ok, ho, fun H2 S2 => ⟨_, rfl, _, rfl, v, sy, x, rfl, datS_of (D.same (S1.trans S2)), ok, hx, fun H3 S3 =>
      ⟨_, rfl, _, rfl, _, rfl, v, sy, o.1, x, rfl, D.same (S1.trans (S2.trans S3)), ok, hx, fun v' H4 S4 D4 => ?_⟩⟩⟩⟩
    have S04 := S1.trans (S2.trans (S3.trans S4))
    have mok := more_ok ok o.1 x
    refine ⟨_, rfl, v', _, rfl, datS_of D4, mok, fun H5 S5 => ⟨_, rfl, ?_⟩⟩
    by_cases hc : copies (seen sy o.1 x true).owns ≤ 120
    · rw [decide_eq_true hc]
      show if (!true) = true then _ else _
      rw [if_neg (by decide)]
      exact ⟨_, rfl, q1 hc v' H5 (S04.trans S5) (D4.same S5)⟩
    · rw [decide_eq_false hc]
      show if (!false) = true then _ else _
      rw [if_pos (by decide)]
      refine ⟨_, rfl, v', _, rfl, D4.same S5, ren_say mok, fun v2 H6 S6 D6 => ?_⟩
      intro a d H7 na nd ne S7 n7 ed
      exact ⟨(S04.trans (S5.trans S6)).free na, q2 hc d v2 H7 (S04.trans (S5.trans (S6.trans S7))) (D6.same S7) ed⟩
end
end S1

set_option Elab.async false
set_option linter.all false
set_option maxRecDepth 100000
set_option maxHeartbeats 4000000
/-! whether what is reached and hangs is told as the chain has it -/
namespace S3
open PySem PySem.W PySem.Spec PyProof.Rows L2 S1
def rDictP (K : PySem.W.Frag) : List V → Hp → VK → Prop := fun xs H Q => ∃ (a : Addr) (ps : List Addr) (kvs : List (Key × V)), xs = [.ref a] ∧ SqL K H a (ps.map V.ref) ∧ Paired (fun p kv => SqT K H p [kV kv.1, kv.2]) ps kvs ∧
    ∀ p, H p = none → Q (.ref p) (upd H p (.dK (mergeK [] kvs)))
theorem call_dictQ {X : Cx} (hcalm : X.calm = true) : CallR X (.type "dict") (rDictP X.K) := call_dictP hcalm
theorem say_at' {H : Hp} {v : V} {s : Say} (D : Dat H v s.d) : ∃ (a b : Addr) (p c : V) (us : List V), v = .ref a ∧ H a = some (.tup [p, .ref b, c]) ∧ Dat H p (nmsD s.picks) ∧ Dat H (.ref b) (.tuple (s.owns.map ownD)) ∧ H b = some (.tup us) ∧ DatAll H us (s.owns.map ownD) ∧ Dat H c (.tuple (s.cls.map clD)) := by
  obtain ⟨a, xs, rfl, e, h⟩ := dat_tup D
  cases h with
  | cons h1 h =>
    cases h with
    | cons h2 h =>
      cases h with
      | cons h3 h =>
        cases h
        obtain ⟨b, us, rfl, eb, hb⟩ := dat_tup h2
        exact ⟨a, b, _, _, us, rfl, e, h1, h2, eb, hb, h3⟩
theorem notT {A B : Prop} (h : B) : if (!true) = true then A else B := by
  rw [if_neg (by decide)]
  exact h
theorem sv_var {σ : L2.St} {H : Hp} {i : Nat} {v : V} (e : σ[i]? = some (some v)) : SEv (tVar i) σ H v := fun H1 S Q q => ⟨v, e, q H1 (Same.refl _)⟩
/-- whether a row of plain data is empty -/
theorem sv_nil {σ : L2.St} {H : Hp} {i : Nat} {l : Addr} {xs : List V} {ds : List PyData} (ei : σ[i]? = some (some (.ref l))) (e : H l = some (.lst xs)) (D : DatAll H xs ds) (pl : PyData.plainAll ds = true) (dp : PyData.depthAll ds ≤ 6) : SEv (tOp rEqP (tVar i) (tLst tNil)) σ H (.bl (decide (ds = []))) := fun H1 S Q q => by
  refine ⟨_, ei, Nat.zero_le _, fun t ht => ⟨.list ds, .list [], .lst ((S.trans (same_new ht)) _ _ e) (DatAll.same (S.trans (same_new ht)) D), .lst upd_same .nil, pl, rfl, ?_, ?_⟩⟩
  · simp only [PyData.depth]
    omega
  · have z : PyData.eqv (.list ds) (.list []) = decide (ds = []) := by cases ds <;> simp [PyData.eqv, PyData.eqvAll]
    rw [z]
    exact q _ (same_new ht)
theorem dats_iV {H : Hp} (w : List Nat) : _root_.L2.DatAll H (w.map iV) (w.map fun (i : Nat) => PyData.int (i : Int)) := by
  induction w with
  | nil => exact .nil
  | cons i w ih => exact .cons (.int _) ih
theorem lc_mapL {K : PySem.W.Frag} {σ : L2.St} {H : Hp} {D : Addr} {g : TG} {te : TE} {vs : List Nat} {Qd : Hp → Prop} {a : Addr} {xs ys : List V} (sq : H a = some (.lst xs)) (hD : H D = none) (ly : ys.length = xs.length) (len : xs.length ≤ 1000)
    (step : ∀ (i : Nat) (x y : V) (H4 : Hp) (Qe : VK), xs[i]? = some x → ys[i]? = some y → Same H H4 → (∀ H5, Same H4 H5 → Qe y H5) → g x (wipe σ vs) H4 fun σ2 H2 => wipe σ2 vs = wipe σ vs ∧ te σ2 H2 Qe)
    (gm : ∀ x σ1 H1 (A B : L2.St → Hp → Prop), (∀ σ2 H2, A σ2 H2 → B σ2 H2) → g x σ1 H1 A → g x σ1 H1 B)
    (hd : ∀ H5, H5 D = some (.lst ys) → Same H H5 → Qd H5) :
    ∃ W : Nat → Nat → Hp → Prop, (∃ m, W 0 m (upd H D (.lst []))) ∧ ∀ i m H, W i m H →
      ((Itl K a).stop i H ∧ Qd H) ∨ ((Itl K a).go i H ∧ ∃ Nx : Hp → Prop, (∀ H', Nx H' → ∃ m', m' < m ∧ W (i + 1) m' H') ∧ ∀ x H', (Itl K a).yld i H x H' → g x (wipe σ vs) H' fun σ2 H2 => wipe σ2 vs = wipe σ vs ∧ tYes σ2 H2 fun b H3 =>
        if b = true then te σ2 H3 fun y H4 => ∃ acc, H4 D = some (.lst acc) ∧ acc.length < sizeLine ∧ Nx (upd H4 D (.lst (acc ++ [y]))) else Nx H3) := by
  refine lc_list (K := K) (a := a) (xs := xs) (fun j H4 => H4 D = some (.lst (ys.take j)) ∧ Same H H4) ⟨by rw [upd_same, List.take_zero], same_new hD⟩ (fun i H4 _ h => SqL.of (h.2 _ _ sq)) (fun i x H4 hx h => ?_) (fun H5 h => hd H5 (by rw [h.1, ← ly, List.take_length]) h.2)
  have il : i < xs.length := (List.getElem?_eq_some_iff.mp hx).1
  obtain ⟨y, hy⟩ : ∃ y, ys[i]? = some y := ⟨_, List.getElem?_eq_getElem (by omega)⟩
  refine gm x _ _ _ _ (fun σ2 H2 z => ⟨z.1, yes_of z.2⟩) (step i x y H4 _ hx hy h.2 fun H5 S5 => ?_)
  have e5 := S5 _ _ h.1
  exact ⟨_, e5, by rw [List.length_take]; exact small1000 (by omega), by rw [upd_same, take_next hy], same_upd (h.2.trans S5) hD⟩
/-- whether a name is one of the letters' -/
theorem sv_inNames {K : PySem.W.Frag} {σ : L2.St} {H : Hp} {lL : Addr} {T : List TRow} {L : List Ltr} {n : Str} {i j k l : Nat} (h : RL H lL T L) (l8 : L.length ≤ 8) (ek : σ[k]? = some (some (.str n))) (el : σ[l]? = some (some (.ref lL)))
    (hw : ∀ (x y : V), wipe (((wipe σ [i, j]).set i (some x)).set j (some y)) [i, j] = wipe σ [i, j]) (hi : ∀ (x y : V), (((wipe σ [i, j]).set i (some x)).set j (some y))[i]? = some (some x)) :
    SEv (tOp (rIn K false) (tVar k) (tLc (iList K (tVar l)) (gTup K 2 (gCons (gName i) (gCons (gName j) gNil))) tYes (tVar i) [i, j])) σ H (.bl (decide (n ∈ L.map Prod.fst))) := fun H1 S Q q => by
  have h1 := h.same S
  have lT := h1.len
  refine ⟨_, ek, _, el, lL, rfl, ⟨_, SqL.of h1.e⟩, fun D hD => ?_⟩
  refine lc_mapL (K := K) (ys := (L.map Prod.fst).map V.str) h1.e hD (by rw [List.length_map, List.length_map, List.length_map, lT]) (by rw [List.length_map]; omega) (fun m x y H4 Qe hx hy S4 kk => ?_) gPair_mono fun H5 e5 S5 => ?_
  · obtain ⟨t, q', rfl, hm, _, _, gm⟩ := (h1.same S4).at_ hx
    have ey : y = V.str q'.1 := by
      rw [List.getElem?_map, List.getElem?_map, hm] at hy
      exact (Option.some.inj hy).symm
    rw [ey] at kk
    exact ⟨t, _, rfl, SqT.of gm, rfl, _, _, rfl, _, _, rfl, rfl, hw _ _, _, hi _ _, kk H4 (Same.refl _)⟩
  · refine ⟨D, _, rfl, .inl (SqL.of e5), rfl, flat_strs _, ?_⟩
    show Q (.bl (inV (V.str n) ((L.map Prod.fst).map V.str))) H5
    rw [inV_str]
    exact q H5 S5
theorem sv_inSight {K : PySem.W.Frag} {σ : L2.St} {H : Hp} {a : Addr} {ys : List Str} {x : Str} {i j : Nat} (ei : σ[i]? = some (some (.str x))) (ej : σ[j]? = some (some (.ref a))) (e : H a = some (.tup (ys.map V.str))) : SEv (tOp (rIn K false) (tVar i) (tVar j)) σ H (.bl (decide (x ∈ ys))) := fun H1 S Q q => by
  refine ⟨_, ei, _, ej, a, _, rfl, .inr (SqT.of (S _ _ e)), rfl, flat_strs _, ?_⟩
  show Q (.bl (inV (V.str x) (ys.map V.str))) H1
  rw [inV_str]
  exact q H1 (Same.refl _)
theorem paired_lts {K : PySem.W.Frag} {H : Hp} : ∀ {T : List TRow} {L : List Ltr}, T.map Prod.snd = L.map ltD → (∀ q ∈ T, Dat H q.v q.2) → Paired (fun p (kv : Key × V) => SqT K H p [kV kv.1, kv.2]) (T.map Prod.fst) (L.map fun l => ((Sum.inr l.1 : Key), V.bl l.2))
  | [], [], _, _ => .nil
  | [], _ :: _, e, _ => by simp at e
  | _ :: _, [], e, _ => by simp at e
  | r :: T, l :: L, e, D => by
    rw [List.map_cons, List.map_cons] at e
    injection e with e1 e2
    have d := D r List.mem_cons_self
    rw [e1] at d
    obtain ⟨b, eb, g⟩ := ltr_row (x := .ref r.1) d
    cases eb
    exact .cons (SqT.of g) (paired_lts e2 fun q hq => D q (List.mem_cons_of_mem _ hq))
theorem pr_row {H : Hp} {v : V} {q : Pr} (D : Dat H v (prD q)) : ∃ b, v = .ref b ∧ H b = some (.tup [.str q.1, .str q.2]) := by
  obtain ⟨b, xs, rfl, e, h⟩ := dat_tup (ds := [.str q.1, .str q.2]) D
  cases h with
  | cons h1 h =>
    cases h with
    | cons h2 h =>
      cases h
      cases h1
      cases h2
      exact ⟨b, rfl, e⟩
theorem own_at {H : Hp} {us : List V} {owns : List Own} (D : DatAll H us (owns.map ownD)) {i : Nat} {y : V} (hy : us[i]? = some y) : ∃ (o : Own) (t t' : Addr), owns[i]? = some o ∧ y = .ref t ∧ H t = some (.tup [.str o.1, .ref t']) ∧ H t' = some (.tup (o.2.map V.str)) := by
  obtain ⟨d, hd, Dd⟩ := dats_get' D i y hy
  obtain ⟨o, ho, rfl⟩ := get_map hd
  obtain ⟨t, xs, rfl, e, h⟩ := dat_tup (ds := [.str o.1, nmsD o.2]) Dd
  cases h with
  | cons h1 h =>
    cases h with
    | cons h2 h =>
      cases h
      cases h1
      obtain ⟨t', rfl, e'⟩ := nms_at h2
      exact ⟨o, t, t', ho, rfl, e, e'⟩
def spRight : Sp := fun vs H Q _ => ∃ (v : V) (s : Say) (x : Str) (lL lW lB : Addr) (T : List TRow) (L : List Ltr) (w : List Nat) (bl : List Str), vs = [v, .str x, .ref lL, .ref lW, .ref lB] ∧ Dat H v s.d ∧ SayOk 6 8 120 40 s ∧ Seen s x L w bl ∧ RL H lL T L ∧ H lW = some (.lst (w.map iV)) ∧ H lB = some (.lst (bl.map V.str)) ∧
  ∀ H', Same H H' → Q (.bl true) H'
abbrev nRt : List Str := ["saying", "pick", "letters", "wrong", "blind", "lots", "paper", "whole", "name", "sight", "due", "told", "still", "lot", "own", "truth", "pair"]
theorem kb4 {K : PySem.W.Frag} {x qual a b c d : Str} {st : Stmt} {f : Addr} {fd : FuncData} (F : Fun K x qual st f fd)
    (h : ∀ (kV doc pm : Value) (an : Option Addr) (cdv ct u v z y : Value), bindArgs (PySem.W.fnOf x qual (defArgs st) (defBody st) (defScope st) .none kV doc pm an cdv ct) ⟨[], [(d, u), (c, v), (b, z), (a, y)]⟩ = pure [(a, y), (b, z), (c, v), (d, u)]) : KB0 K fd [a, b, c, d] [d, c, b, a] List.reverse List.reverse := by
  obtain ⟨oc, od, kV, doc, pm, an, cdv, ct, osl, rfl, lk, hcd⟩ := F.ex
  refine ⟨fun s ws X l => ?_, fun r => ?_⟩
  · match ws, l with
    | [u, v, z, y], _ => exact .of_eq (h kV doc pm an cdv ct u v z y)
  · exact vals_rev r
section
variable {P : Program} {w : World} {K : PySem.W.Frag} {mg : Str → Option Value} {base : Heap}
theorem kb_reached {f : Addr} {fd : FuncData} (F : Fun K "reached" "reached" sReached f fd) : KB0 K fd ["saying", "pick", "truth"] ["truth", "pick", "saying"] List.reverse List.reverse := Fun.kb3 F fun _ _ _ _ _ _ _ _ _ => rfl
theorem kb_hangs {f : Addr} {fd : FuncData} (F : Fun K "hangs" "hangs" sHangs f fd) : KB0 K fd ["saying", "name", "pick"] ["pick", "name", "saying"] List.reverse List.reverse := Fun.kb3 F fun _ _ _ _ _ _ _ _ _ => rfl
theorem kb_idleHolds {f : Addr} {fd : FuncData} (F : Fun K "idle_holds" "idle_holds" sIdleHolds f fd) : KB0 K fd ["saying", "name", "pick", "value"] ["value", "pick", "name", "saying"] List.reverse List.reverse := S3.kb4 F fun _ _ _ _ _ _ _ _ _ _ => rfl
abbrev ttStill (K : PySem.W.Frag) : TT := tAnd (tTest (tOp (rIn K false) (tVar 1) (tVar 9))) (tNot (tAnd (tB (tVar 7)) (tB (tDIn (tVar 8) (tCB (rDictP K) (tCons (tVar 2) tNil))))))
theorem scRt : FnScope nRt ["saying", "pick", "letters", "wrong", "blind"] (defScope sLRight) := ⟨rfl, rfl, rfl, by decide +kernel, rfl, by decide +kernel, by decide +kernel⟩
theorem ok_right {f fT fF fR fH fI fP fA fS : Addr} {fd fdT fdF fdR fdH fdI fdP fdA fdS : FuncData} (F : Fun K "_law_right" "_law_right" sLRight f fd) (B : Blt mg)
    (Ft : Has K mg "_law_from_true" sLFromT ["letters", "wrong", "blind"] fT fdT) (Ff : Has K mg "_law_from_false" sLFromF ["letters", "wrong", "blind"] fF fdF) (en : mg "enumerate" = none) (Sm : Has K mg "_law_same" sLSame ["told", "due"] fS fdS) (GSm : FnOkG P w K mg base 1 fS fdS ["told", "due"] spLSame)
    (Re : Has K mg "reached" sReached ["saying", "pick", "truth"] fR fdR) (GRe : FnOk P w K mg base CX0 8 fR fdR ["saying", "pick", "truth"] spReached) (Ha : Has K mg "hangs" sHangs ["saying", "name", "pick"] fH fdH) (GHa : FnOk P w K mg base CX0 8 fH fdH ["saying", "name", "pick"] spHangs)
    (Id : Has K mg "idle" sIdle ["saying"] fI fdI) (GId : FnOk P w K mg base CX0 8 fI fdI ["saying"] spAllIdle) (Pa : Has K mg "idle_paper" sIdlePaper ["saying", "name", "pick"] fP fdP) (GPa : FnOk P w K mg base CX0 8 fP fdP ["saying", "name", "pick"] S2.spPaperOf)
    (Ho : Has K mg "idle_holds" sIdleHolds ["saying", "name", "pick", "value"] fA fdA) (GHo : FnOk P w K mg base CX0 8 fA fdA ["saying", "name", "pick", "value"] S2.spHolds) :
    FnOkG P w K mg base 9 f fd ["saying", "pick", "letters", "wrong", "blind"] S3.spRight := by
  refine F.okG scRt (fun vs H Q E h => ?_) (fun cdv A outer s H vs Q E hG0 hr h => ?_)
  · obtain ⟨v, sy, x, lL, lW, lB, T, L, wr, bl, rfl, _⟩ := h
    rfl
  · obtain ⟨v, sy, x, lL, lW, lB, T, L, wr, bl, rfl, D, ok, sn, RLL, eW, eB, q⟩ := h
    have GT : FnOk P w K mg base CX0 1 fT fdT ["letters", "wrong", "blind"] spFromT := ok_fromT Ft.F B en
    have GF : FnOk P w K mg base CX0 1 fF fdF ["letters", "wrong", "blind"] (spFromF x) := ok_fromF x Ff.F B
    have hG : (A.deeper (envOfC "_law_right" (defScope sLRight) s.heap.objs.size f cdv)).guards = some [] := hG0
    have hu : (A.deeper (envOfC "_law_right" (defScope sLRight) s.heap.objs.size f cdv)).units + 64 < cLine := hr.units
    have hu1 : (A.deeper (envOfC "_law_right" (defScope sLRight) s.heap.objs.size f cdv)).units + 1 < cLine := by omega
    have hr1 := hr.mono (show 1 ≤ 8 by decide)
    refine ⟨_, pss_cons (ps_set (i := 5) scRt.nd rfl (.inl rfl) (pe_lst (pa_cons (pe_call GT hr1 rfl Ft.g Ft.F.kp Ft.b .nil pass0 (pa_cons (pv 2) (pa_cons (pv 3) (pa_cons (pv 4) pa_nil))))
          (pa_cons (pe_call GF hr1 rfl Ff.g Ff.F.kp Ff.b .nil pass0 (pa_cons (pv 2) (pa_cons (pv 3) (pa_cons (pv 4) pa_nil)))) pa_nil))))
      (pss_cons (ps_asg (pe_tup
          (pa_cons (pe_tupleOf rfl B.tuple (pe_lc (own := [("lot", 13)]) (g := gName 13) (tt := tYes) (te := tThen (tCB (rSortL K) (tCons (tVar 13) tNil)) (kTup K)) rfl scRt.nd (pi_list (pv 5)) (blkOk_by (N := nRt) (sc := defScope sLRight) (by decide +kernel))
              (fun _ _ _ _ _ => pg_name (i := 13) scRt.nd rfl (Or.inl rfl)) (fun _ _ _ _ _ => pts_nil) (fun _ _ _ _ _ => by exact pe_tupleOf (by rfl) B.tuple (pe_callB (cr_sortL (by exact hu)) (by rfl) B.sorted (by decide +kernel) (pa_cons (pv 13) pa_nil)))))
          (pa_cons (pe_and (pe_cmpR (op_eqP (by exact hu)) (pv 3) (pe_lst pa_nil) (nomark _)) (pe_one (pe_cmpR (op_eqP (by exact hu)) (pv 4) (pe_lst pa_nil) (nomark _)))) pa_nil))) (pg_tup rfl (pgs_cons (pg_name (i := 6) scRt.nd rfl (.inl rfl)) (pgs_cons (pg_name (i := 7) scRt.nd rfl (.inr rfl)) pgs_nil))))
      (pss_cons (ps_if (pt_not (pt_val (pe_callG hG GSm hr1 rfl Sm.g Sm.F.kp Sm.b
          (pa_cons (pe_lst (pa_cons (pe_call GRe hr rfl Re.g Re.F.kp Re.b .nil pass0 (pa_cons (pv 0) (pa_cons (pv 1) (pa_cons pe_bl pa_nil)))) (pa_cons (pe_callK0 GRe hr rfl Re.g Re.F.kp (kb_reached Re.F) pass0 (pk_cons pe_bl (pk_cons (pv 1) (pk_cons (pv 0) pk_nil)))) pa_nil)))
          (pa_cons (pe_callTy call_list_of (by rfl) B.list (by decide +kernel) (pa_cons (pv 6) pa_nil)) pa_nil))))) (pss_one (ps_ret pe_bl)) pss_nil)
      (pss_cons (ps_for PassesOwn.never rfl (pi_tup (pe_ix ix_tup (pv 0) pe_int (fun _ _ => rfl))) (pg_tup rfl (pgs_cons (pg_name (i := 8) scRt.nd rfl (.inl rfl)) (pgs_cons (pg_name (i := 9) scRt.nd rfl (.inl rfl)) pgs_nil)))
        (pss_cons (ps_set (i := 10) scRt.nd rfl (.inl rfl) (pe_and (pv 7) (pe_one (pe_cmpR op_in_seq (pv 8) (pe_lc (own := [("own", 14), ("truth", 15)]) (g := gTup K 2 (gCons (gName 14) (gCons (gName 15) gNil))) (tt := tYes) (te := tVar 14) rfl scRt.nd (pi_list (pv 2)) (blkOk_by (N := nRt) (sc := defScope sLRight) (by decide +kernel))
            (fun _ _ _ _ _ => by exact pg_tup rfl (pgs_cons (pg_name (i := 14) scRt.nd rfl (.inl rfl)) (pgs_cons (pg_name (i := 15) scRt.nd rfl (.inl rfl)) pgs_nil))) (fun _ _ _ _ _ => pts_nil) (fun _ _ _ _ _ => by exact pv 14)) (by with_unfolding_all rfl)))))
        (pss_cons (ps_if (pt_not (pt_val (pe_callG hG GSm hr1 rfl Sm.g Sm.F.kp Sm.b
            (pa_cons (pe_lst (pa_cons (pe_call GHa hr rfl Ha.g Ha.F.kp Ha.b .nil pass0 (pa_cons (pv 0) (pa_cons (pv 8) (pa_cons (pv 1) pa_nil)))) (pa_cons (pe_callK0 GHa hr rfl Ha.g Ha.F.kp (kb_hangs Ha.F) pass0 (pk_cons (pv 1) (pk_cons (pv 8) (pk_cons (pv 0) pk_nil)))) pa_nil)))
            (pa_cons (pe_lst (pa_cons (pv 10) (pa_cons (pv 10) pa_nil))) pa_nil))))) (pss_one (ps_ret pe_bl)) pss_nil)
        (pss_cons (ps_par (i := 11) (j := 12) rfl scRt.nd rfl rfl (by decide) rfl rfl (pa_cons (pe_call GPa hr rfl Pa.g Pa.F.kp Pa.b .nil pass0 (pa_cons (pv 0) (pa_cons (pv 8) (pa_cons (pv 1) pa_nil))))
            (pa_cons (pe_and (pe_cmpR op_in_seq (pv 1) (pv 9) (by with_unfolding_all rfl)) (pe_one (pe_not (pv 10)))) pa_nil)) (by with_unfolding_all rfl))
        (pss_cons (ps_if (PW.pt (pw_or (pt_cmpR op_ne (pe_cmpR op_notN (pv 11) pe_non (nomark _)) (pv 12) (nomark _)) (pw_or1 (PW.pt (pw_and (pt_val (pv 12)) (pw_and1 (pt_cmpR op_isnot_bl (pe_call GHo hr rfl Ho.g Ho.F.kp Ho.b .nil pass0 (pa_cons (pv 0) (pa_cons (pv 8) (pa_cons (pv 1) (pa_cons (pv 11) pa_nil))))) pe_bl (nomark _)))))))) (pss_one (ps_ret pe_bl)) pss_nil)
        (pss_one (ps_if (pt_not (pt_val (pe_callG hG GSm hr1 rfl Sm.g Sm.F.kp Sm.b (pa_cons (pe_callK0 GHo hr rfl Ho.g Ho.F.kp (kb_idleHolds Ho.F) pass0 (pk_cons (pv 6) (pk_cons (pv 1) (pk_cons (pv 8) (pk_cons (pv 0) pk_nil))))) (pa_cons (pv 12) pa_nil))))) (pss_one (ps_ret pe_bl)) pss_nil)))))))
      (pss_cons (ps_setLc (i := 12) (own := [("name", 8), ("sight", 9)]) (g := gTup K 2 (gCons (gName 8) (gCons (gName 9) gNil))) (tt := ttStill K) (te := tVar 8) rfl scRt.nd rfl rfl (sw_true rfl rfl rfl (by decide +kernel))
          (pi_tup (pe_ix ix_tup (pv 0) pe_int (fun _ _ => rfl))) (blkOk_by (N := nRt) (sc := defScope sLRight) (by decide +kernel))
          (fun _ _ _ _ _ => by exact pg_tup rfl (pgs_cons (pg_name (i := 8) scRt.nd rfl (.inl rfl)) (pgs_cons (pg_name (i := 9) scRt.nd rfl (.inl rfl)) pgs_nil)))
          (fun _ _ _ _ _ => by exact pts_one (PW.pt (pw_and (pt_cmpR op_in_seq (pv 1) (pv 9) (by with_unfolding_all rfl)) (pw_and1 (pt_not (PW.pt (pw_and (pt_val (pv 7)) (pw_and1 (pt_cmp (pc_din (by exact hu1) (pv 8) (pe_callTy (call_dictQ rfl) (by rfl) B.dict (by decide +kernel) (pa_cons (pv 2) pa_nil))))))))))))
          (fun _ _ _ _ _ => by exact pv 8))
      (pss_one (ps_ret (pe_callG hG GSm hr1 rfl Sm.g Sm.F.kp Sm.b
          (pa_cons (pe_lc (own := [("pair", 16)]) (g := gName 16) (tt := tTest (tOp rEq (tOp (rIxT K) (tVar 16) (tC (V.int 1))) (tVar 1))) (te := tVar 16) rfl scRt.nd (pi_list (pe_call GId hr rfl Id.g Id.F.kp Id.b .nil pass0 (pa_cons (pv 0) pa_nil))) (blkOk_by (N := nRt) (sc := defScope sLRight) (by decide +kernel))
              (fun _ _ _ _ _ => pg_name (i := 16) scRt.nd rfl (Or.inl rfl)) (fun _ _ _ _ _ => by exact pts_one (pt_cmpR op_eq (pe_ix ix_tup (pv 16) pe_int (fun _ _ => rfl)) (pv 1) (nomark _))) (fun _ _ _ _ _ => by exact pv 16))
          (pa_cons (pe_lc (own := [("name", 8)]) (g := gName 8) (tt := tYes) (te := tTup (tCons (tVar 8) (tCons (tVar 1) tNil))) rfl scRt.nd (pi_list (pv 12)) (blkOk_by (N := nRt) (sc := defScope sLRight) (by decide +kernel))
              (fun _ _ _ _ _ => pg_name (i := 8) scRt.nd rfl (Or.inl rfl)) (fun _ _ _ _ _ => pts_nil) (fun _ _ _ _ _ => by exact pe_tup (pa_cons (pv 8) (pa_cons (pv 1) pa_nil)))) pa_nil))))))))), ?_⟩
    have s2 : 2 ≤ sizeLine := by decide
    refine ⟨_, rfl, _, rfl, _, rfl, lL, lW, lB, T, L, wr, bl, rfl, RLL, eW, eB, sn.l8, sn.c.nd, fun l1 T1 M H1 S1 hl1 r1 lt1 => ?_⟩
    refine ⟨_, rfl, _, rfl, _, rfl, lL, lW, lB, T, L, wr, bl, rfl, RLL.same S1, S1 _ _ eW, S1 _ _ eB, sn.l8, sn.c.nd, fun l2 T2 N H2 S2 hl2 r2 lt2 => ?_⟩
    refine ⟨s2, fun lo hlo => ?_⟩
    have S3 := same_new (o := .lst [V.ref l1, .ref l2]) hlo
    have S03 := S1.trans (S2.trans S3)
    have r1' := (r1.same S2).same S3
    have r2' := r2.same S3
    have eo : upd H2 lo (.lst [V.ref l1, .ref l2]) lo = some (.lst [V.ref l1, .ref l2]) := upd_same
    generalize upd H2 lo (.lst [V.ref l1, .ref l2]) = H3 at S3 S03 r1' r2' eo ⊢
    have RM : ∀ M', M'.Perm M → M'.Pairwise ltLt → RchOk sy (vw sy x) (x, true) M' := fun M' pm up => lotF_ok sn ok lt1 pm up
    have RN : ∀ M', M'.Perm N → M'.Pairwise ltLt → RchOk sy (vw sy x) (x, false) M' := fun M' pm up => lotB_ok sn ok lt2 pm up
    refine ⟨_, rfl, lo, rfl, ⟨_, SqL.of eo⟩, fun D0 hD0 => ?_⟩
    refine lc_list (K := K) (a := lo) (xs := [V.ref l1, .ref l2]) (fun j H4 => ∃ ls : List (Addr × List Ltr), ls.length = j ∧ H4 D0 = some (.lst (ls.map fun q => V.ref q.1)) ∧ (∀ k q, ls[k]? = some q → Dat H4 (.ref q.1) (clD q.2) ∧ RchOk sy (vw sy x) (x, decide (k = 0)) q.2) ∧ Same H3 H4)
      ⟨[], rfl, upd_same, fun k q hq => by simp at hq, same_new hD0⟩ (fun j H4 _ ⟨_, _, _, _, S4⟩ => SqL.of (S4 _ _ eo)) ?_ ?_
    · rintro j y H4 hy ⟨ls, ll, e4, g4, S4⟩
      obtain ⟨li, Ti, Mi, rfl, jl, ri, ni, Ri⟩ : ∃ li Ti Mi, y = .ref li ∧ j < 2 ∧ RL H4 li Ti Mi ∧ Mi.Nodup ∧ ∀ M', M'.Perm Mi → M'.Pairwise ltLt → RchOk sy (vw sy x) (x, decide (j = 0)) M' := by
        match j, hy with
        | 0, hy => exact ⟨l1, T1, M, (Option.some.inj hy).symm, by decide, r1'.same S4, lt1.nd, RM⟩
        | 1, hy => exact ⟨l2, T2, N, (Option.some.inj hy).symm, by decide, r2'.same S4, lt2.nd, RN⟩
        | j + 2, hy => exact absurd hy (by simp)
      refine ⟨rfl, yes_of ⟨_, rfl, li, Ti, rfl, SqL.of ri.e, ri.D, sorty_of ri.d alike_lt (fun o => ⟨_, rfl⟩) (fun o => by have := depth_lt o; omega), fun T' b9 pm _ up hb9 => .inl ⟨b9, _, rfl, SqL.of upd_same, fun tt htt => ?_⟩⟩⟩
      have S5 := (same_new (o := .lst (T'.map TRow.v)) hb9).trans (same_new (o := .tup (T'.map TRow.v)) htt)
      obtain ⟨M', pM, eM, uM⟩ := lts_sorted pm ri.d ni up
      have Dcl : Dat (upd (upd H4 b9 (.lst (T'.map TRow.v))) tt (.tup (T'.map TRow.v))) (.ref tt) (clD M') := by
        refine .tup upd_same ?_
        show DatAll _ _ (M'.map ltD)
        rw [← eM]
        exact dats_rows fun q hq => (ri.D q (pm.mem_iff.mp hq)).same S5
      generalize upd (upd H4 b9 (.lst (T'.map TRow.v))) tt (.tup (T'.map TRow.v)) = H5 at S5 Dcl ⊢
      have e5 := S5 _ _ e4
      refine ⟨_, e5, by rw [List.length_map, ll]; exact small1000 (by omega), ls ++ [(tt, M')], by rw [List.length_append, ll]; rfl, by rw [upd_same, List.map_append]; rfl, fun k q hq => ?_, same_upd (S4.trans S5) hD0⟩
      by_cases hk : k < ls.length
      · rw [List.getElem?_append_left hk] at hq
        obtain ⟨h1, h2⟩ := g4 k q hq
        exact ⟨dat_upd e5 (keyable_cl _) (h1.same S5), h2⟩
      · rw [List.getElem?_append_right (by omega)] at hq
        have k0 : k = ls.length := by
          have := (List.getElem?_eq_some_iff.mp hq).1
          simp at this
          omega
        subst k0
        rw [Nat.sub_self] at hq
        cases hq
        rw [ll]
        exact ⟨dat_upd e5 (keyable_cl _) Dcl, Ri M' pM uM⟩
    · rintro H4 ⟨ls, ll, e4, g4, S4⟩
      obtain ⟨a1, M1, a2, M2, rfl⟩ : ∃ a1 L1 a2 L2, ls = [(a1, L1), (a2, L2)] := by
        match ls, ll with
        | [(a1, L1), (a2, L2)], _ => exact ⟨a1, L1, a2, L2, rfl⟩
      obtain ⟨D1, R1⟩ : Dat H4 (.ref a1) (clD M1) ∧ RchOk sy (vw sy x) (x, true) M1 := g4 0 (a1, M1) rfl
      obtain ⟨D2, R2⟩ : Dat H4 (.ref a2) (clD M2) ∧ RchOk sy (vw sy x) (x, false) M2 := g4 1 (a2, M2) rfl
      clear g4 RM RN r1' r2' lt1 lt2 r1 r2
      have S04 := S03.trans S4
      refine .inl ⟨D0, _, rfl, SqL.of e4, fun tp htp => ?_⟩
      have S5 := same_new (o := .tup [V.ref a1, .ref a2]) htp
      have ep : upd H4 tp (.tup [V.ref a1, .ref a2]) tp = some (.tup [V.ref a1, .ref a2]) := upd_same
      have S05 := S04.trans S5
      have D1' := D1.same S5
      have D2' := D2.same S5
      refine gen_hp (F := fun H5 => Same H4 H5 ∧ H5 tp = some (.tup [V.ref a1, .ref a2]) ∧ Same H H5 ∧ Dat H5 (.ref a1) (clD M1) ∧ Dat H5 (.ref a2) (clD M2)) ⟨S5, ep, S05, D1', D2'⟩ (fun H5 ⟨S5, ep, S05, D1', D2'⟩ => ?_)
      have ew : SEv (tAndV (tOp rEqP (tVar 3) (tLst tNil)) (tOp rEqP (tVar 4) (tLst tNil))) (List.set (L2.start nRt [v, .str x, .ref lL, .ref lW, .ref lB]) 5 (some (.ref lo))) H5 (.bl (wB wr bl)) := by
        have z := sv_and (sv_nil (σ := List.set (L2.start nRt [v, .str x, .ref lL, .ref lW, .ref lB]) 5 (some (.ref lo))) (i := 3) (ds := wr.map fun (i : Nat) => PyData.int (i : Int)) rfl (S05 _ _ eW) (dats_iV wr) (plains_map (fun (i : Nat) => PyData.int (i : Int)) (fun _ => rfl) wr) (by have := depths_map (fun (i : Nat) => PyData.int (i : Int)) 0 (fun _ => Nat.le_refl _) wr; omega))
          (sv_nil (i := 4) (ds := bl.map PyData.str) rfl (S05 _ _ eB) (dats_strs bl) (plain_nms bl) (by have := depths_map PyData.str 0 (fun _ => Nat.le_refl _) bl; omega))
        have e : (decide ((wr.map fun (i : Nat) => PyData.int (i : Int)) = []) && decide (bl.map PyData.str = [])) = wB wr bl := by
          unfold wB
          cases wr <;> cases bl <;> rfl
        rw [e] at z
        exact z
      refine ew H5 (Same.refl _) _ fun H6 S6 => ?_
      refine ⟨s2, fun tz htz => ⟨tz, _, rfl, SqT.of upd_same, rfl, _, _, rfl, _, _, rfl, rfl, ?_⟩⟩
      have S7 := S6.trans (same_new (o := .tup [V.ref tp, .bl (wB wr bl)]) htz)
      have S07 := S05.trans S7
      have ep7 := S7 _ _ ep
      have D17 := D1'.same S7
      have D27 := D2'.same S7
      generalize upd H6 tz (.tup [V.ref tp, .bl (wB wr bl)]) = H7 at S7 S07 ep7 D17 D27 ⊢
      refine ⟨_, rfl, _, rfl, v, sy, x, true, rfl, datS_of (D.same S07), ok, sn.c.xp, fun u1 L1 H8 S8 E1 Q1 => ?_⟩
      cases Q1.uniq R1
      refine ⟨_, rfl, _, rfl, rfl, v, sy, x, false, rfl, datS_of (D.same (S07.trans S8)), ok, sn.c.xp, fun u2 L2 H9 S9 E2 Q2 => ?_⟩
      cases Q2.uniq R2
      refine ⟨s2, fun lr hlr => ?_⟩
      have S79 := S8.trans S9
      have SA := same_new (o := .lst [u1, u2]) hlr
      have ep9 := (S79.trans SA) _ _ ep7
      refine ⟨_, rfl, tp, _, rfl, .inr (SqT.of ep9), fun lq hlq => ?_⟩
      have SB := SA.trans (same_new (o := .lst [V.ref a1, .ref a2]) hlq)
      have S7B := S79.trans SB
      have el1 : upd (upd H9 lr (.lst [u1, u2])) lq (.lst [V.ref a1, .ref a2]) lr = some (.lst [u1, u2]) := (same_new (o := .lst [V.ref a1, .ref a2]) hlq) _ _ upd_same
      have el2 : upd (upd H9 lr (.lst [u1, u2])) lq (.lst [V.ref a1, .ref a2]) lq = some (.lst [V.ref a1, .ref a2]) := upd_same
      refine ⟨.ref lr, .ref lq, .list [clD M1, clD M2], rfl, .lst el1 (.cons ((E1.same S9).same SB) (.cons (E2.same SB) .nil)), .lst el2 (.cons (D17.same S7B) (.cons (D27.same S7B) .nil)), rpr_two ok R1 R2, true, rfl, notT ?_⟩
      refine gen_hp (F := fun HC => Same H7 HC) S7B (fun HC SC => ?_)
      have S0C := S07.trans SC
      have epC := SC _ _ ep7
      have DP : Dat HC (.ref tp) (.tuple [clD M1, clD M2]) := .tup epC (.cons (D17.same SC) (.cons (D27.same SC) .nil))
      clear E1 E2 el1 el2 SB S7B SA ep9 hlq hlr Q1 Q2 S8 S9 S79 SC epC D17 D27 ep7 hD0
      obtain ⟨b0, b1, p0, c0, us, e0, g0, _, _, gb, Du, _⟩ := _root_.S3.say_at' (D.same S0C)
      subst e0
      have okl := ok.ol
      have lus : us.length = sy.owns.length := by rw [Du.len, List.length_map]
      refine ⟨_, rfl, b0, _, 1, _, rfl, rfl, SqT.of g0, rfl, b1, rfl, ⟨_, SqT.of gb⟩, ?_⟩
      refine for_tup (K := K) (a := b1) (xs := us) (fun i σ G => ∃ o8 o9 o10 o11 o12 : Option V, σ = [some (.ref b0), some (.str x), some (.ref lL), some (.ref lW), some (.ref lB), some (.ref lo), some (.ref tp), some (.bl (wB wr bl)), o8, o9, o10, o11, o12, none, none, none, none] ∧ Same HC G)
        ⟨_, _, _, _, _, rfl, Same.refl _⟩ (fun i σ G _ ⟨_, _, _, _, _, _, S⟩ => SqT.of (S _ _ gb)) ?_ ?_
      · rintro i y σ G hy ⟨o8, o9, o10, o11, o12, rfl, S⟩
        have S0G := S0C.trans S
        obtain ⟨o, t, t', ho, rfl, g1, g2⟩ := own_at (DatAll.same S Du) hy
        have om := List.mem_of_getElem? ho
        have hg := sn.hang ok o.1
        have hst := sn.still ok om
        refine ⟨t, _, rfl, SqT.of g1, rfl, _, _, rfl, _, _, rfl, rfl, ?_⟩
        have ed := sv_and (sv_var (H := G) (σ := [some (.ref b0), some (.str x), some (.ref lL), some (.ref lW), some (.ref lB), some (.ref lo), some (.ref tp), some (.bl (wB wr bl)), some (.str o.1), some (.ref t'), o10, o11, o12, none, none, none, none]) (i := 7) rfl)
          (sv_inNames (K := K) (n := o.1) (i := 14) (j := 15) (k := 8) (l := 2) (RLL.same S0G) sn.l8 rfl rfl (fun _ _ => rfl) (fun _ _ => rfl))
        refine ed G (Same.refl _) _ fun G1 S1 => ?_
        have hdu : stl x L wr bl o = (decide (x ∈ o.2) && !(wB wr bl && decide (o.1 ∈ L.map Prod.fst))) := rfl
        generalize (wB wr bl && decide (o.1 ∈ L.map Prod.fst)) = du at hg hdu ⊢
        generalize stl x L wr bl o = st at hst hdu
        have S01 := S0G.trans S1
        refine ⟨_, rfl, _, rfl, _, rfl, .ref b0, sy, o, x, rfl, datS_of (D.same S01), ok, om, sn.c.xp, fun d1 G2 S2 h1 => ?_⟩
        have e1 : d1 = du := Bool.eq_iff_iff.mpr (h1.trans hg)
        subst e1
        refine ⟨_, rfl, _, rfl, _, rfl, rfl, .ref b0, sy, o, x, rfl, datS_of (D.same (S01.trans S2)), ok, om, sn.c.xp, fun d2 G3 S3 h2 => ?_⟩
        have e2 : d2 = d1 := Bool.eq_iff_iff.mpr (h2.trans hg)
        subst e2
        refine ⟨s2, fun lr hlr => ⟨_, rfl, _, rfl, s2, fun lq hlq => ?_⟩⟩
        have SA := same_new (o := .lst [V.bl d2, .bl d2]) hlr
        have SB := SA.trans (same_new (o := .lst [V.bl d2, .bl d2]) hlq)
        refine ⟨.ref lr, .ref lq, .list [.bool d2, .bool d2], rfl, .lst ((same_new (o := .lst [V.bl d2, .bl d2]) hlq) _ _ upd_same) (.cons (.bl _) (.cons (.bl _) .nil)), .lst upd_same (.cons (.bl _) (.cons (.bl _) .nil)), rpr_bls d2 d2, true, rfl, notT ?_⟩
        have S13 := S2.trans (S3.trans SB)
        refine gen_hp (F := fun G4 => Same G1 G4) S13 (fun G4 S14 => ?_)
        clear SB SA S13 S3 S2 hlq hlr h1 h2
        have S04 := S01.trans S14
        have g24 := (S1.trans S14) _ _ g2
        refine gen_q (t := tCall _root_.S2.spPaperOf [] E0 (tCons (tVar 0) (tCons (tVar 8) (tCons (tVar 1) tNil)))) (fun tv G' => Same G4 G' ∧ (((o.1 ∉ vw sy x ∨ hangR sy x o.1) ∧ tv = .non) ∨ (o.1 ∈ vw sy x ∧ ¬ hangR sy x o.1 ∧ ∃ (a : Addr) (M N : List Ltr), tv = .ref a ∧ Pap G' a sy x M N))) (fun Q' k => ?_) (fun tv G5 ⟨S5, ht⟩ => ?_)
        · exact ⟨_, rfl, _, rfl, _, rfl, .ref b0, sy, o, x, rfl, datS_of (D.same S04), ok, om, sn.c.xp, fun z H' S => k _ _ ⟨S, .inl ⟨z, rfl⟩⟩, fun z1 z2 a M N H' S pap => k _ _ ⟨S, .inr ⟨z1, z2, a, M, N, rfl, pap⟩⟩⟩
        have es := sv_and (sv_inSight (K := K) (x := x) (σ := [some (.ref b0), some (.str x), some (.ref lL), some (.ref lW), some (.ref lB), some (.ref lo), some (.ref tp), some (.bl (wB wr bl)), some (.str o.1), some (.ref t'), some (.bl d2), o11, o12, none, none, none, none]) (i := 1) (j := 9) rfl rfl (S5 _ _ g24)) (_root_.S2.sv_not (sv_var (i := 10) rfl))
        refine es G5 (Same.refl _) _ fun G6 S6 => ?_
        rw [← hdu]
        refine ⟨_, _, rfl, ?_⟩
        dsimp only []
        refine gen_seq (fun σ' G' => σ' = [some (.ref b0), some (.str x), some (.ref lL), some (.ref lW), some (.ref lB), some (.ref lo), some (.ref tp), some (.bl (wB wr bl)), some (.str o.1), some (.ref t'), some (.bl d2), some tv, some (.bl st), none, none, none, none] ∧ Same G6 G') (fun D' k => ?_) ?_
        · refine ⟨_, rfl, rfl, _, rfl, rfl, _, rfl, ?_⟩
          rcases ht with ⟨z, rfl⟩ | ⟨z1, z2, a, M, N, rfl, pap⟩
          · have e : st = false := by
              cases h : st with
              | false => rfl
              | true =>
                obtain ⟨y1, y2⟩ := hst.mp h
                rcases z with z | z
                · exact absurd y1 z
                · exact absurd z y2
            subst e
            show if false = true then _ else _
            rw [if_neg (by decide)]
            refine ⟨_, rfl, _, rfl, ?_⟩
            show if false = true then _ else _
            rw [if_neg (by decide)]
            show if false = true then _ else _
            rw [if_neg (by decide)]
            exact k _ _ ⟨rfl, Same.refl _⟩
          · have e : st = true := hst.mpr ⟨z1, z2⟩
            subst e
            show if false = true then _ else _
            rw [if_neg (by decide)]
            refine ⟨_, rfl, _, rfl, ?_⟩
            show if true = true then _ else _
            rw [if_pos rfl]
            obtain ⟨w1, w2, ea, p1, p2, q1, q2⟩ := pap
            have Da : Dat G6 (.ref a) (.tuple [clD M, clD N]) := (Dat.tup ea (.cons p1 (.cons p2 .nil))).same S6
            refine ⟨_, rfl, _, rfl, _, rfl, _, rfl, .ref b0, .ref a, sy, o, x, _, rfl, datS_of (D.same (S04.trans (S5.trans S6))), ok, om, sn.c.xp, Da, lim_two ok q1 q2, fun G7 S7 => ?_⟩
            rw [holds_rch ok q1 q2 hst]
            refine ⟨true, true, rfl, rfl, _, rfl, ?_⟩
            show if false = true then _ else _
            rw [if_neg (by decide)]
            exact k _ _ ⟨rfl, S7⟩
        · rintro σ' G7 ⟨rfl, S7⟩
          have S07 := S04.trans (S5.trans (S6.trans S7))
          have SC7 := ((S.trans S1).trans S14).trans (S5.trans (S6.trans S7))
          refine ⟨_, rfl, _, rfl, _, rfl, _, rfl, rfl, .ref b0, .ref tp, sy, o, x, _, rfl, datS_of (D.same S07), ok, om, sn.c.xp, DP.same SC7, lim_two ok R1 R2, fun G8 S8 => ?_⟩
          rw [holds_rch ok R1 R2 hst]
          refine ⟨_, rfl, .bl st, .bl st, .bool st, rfl, .bl _, .bl _, rpr_bl _, true, rfl, notT ?_⟩
          exact ⟨_, _, _, _, _, rfl, SC7.trans S8⟩
      · rintro σ G ⟨o8, o9, o10, o11, o12, rfl, S⟩
        have S0G := S0C.trans S
        refine ⟨_, rfl, b0, _, 1, _, rfl, rfl, SqT.of (S _ _ g0), rfl, b1, rfl, ⟨_, SqT.of (S _ _ gb)⟩, fun D1 hD1 => ?_⟩
        refine lc_tup (K := K) (a := b1) (xs := us) (fun j H4 => H4 D1 = some (.lst ((((sy.owns.take j).filter (stl x L wr bl)).map Prod.fst).map V.str)) ∧ Same G H4) ⟨upd_same, same_new hD1⟩ (fun j H4 _ h => SqT.of (h.2 _ _ (S _ _ gb))) ?_ ?_
        · rintro j y H4 hy ⟨e4, S4⟩
          have S0 := S.trans S4
          obtain ⟨o, t, t', ho, rfl, g1, g2⟩ := own_at (DatAll.same S0 Du) hy
          have jl : j < sy.owns.length := (List.getElem?_eq_some_iff.mp ho).1
          have lf : (((sy.owns.take j).filter (stl x L wr bl)).map Prod.fst).length ≤ 8 := by
            rw [List.length_map]
            have z := List.length_filter_le (stl x L wr bl) (sy.owns.take j)
            rw [List.length_take] at z
            omega
          refine ⟨t, _, rfl, SqT.of g1, rfl, _, _, rfl, _, _, rfl, rfl, rfl, ?_⟩
          have ft : ∀ H5, Same H4 H5 → stl x L wr bl o = true → ∃ acc, H5 D1 = some (.lst acc) ∧ acc.length < sizeLine ∧ (upd H5 D1 (.lst (acc ++ [V.str o.1]))) D1 = some (.lst ((((sy.owns.take (j + 1)).filter (stl x L wr bl)).map Prod.fst).map V.str)) ∧ Same G (upd H5 D1 (.lst (acc ++ [V.str o.1]))) := fun H5 S5 hs => by
            refine ⟨_, S5 _ _ e4, by rw [List.length_map]; exact small1000 (by omega), ?_, same_upd (S4.trans S5) hD1⟩
            rw [upd_same, take_next ho, List.filter_append]
            have eo : [o].filter (stl x L wr bl) = [o] := by simp [hs]
            rw [eo, List.map_append, List.map_append]
            rfl
          have ff : ∀ H5, Same H4 H5 → stl x L wr bl o = false → H5 D1 = some (.lst ((((sy.owns.take (j + 1)).filter (stl x L wr bl)).map Prod.fst).map V.str)) ∧ Same G H5 := fun H5 S5 hs => by
            refine ⟨?_, S4.trans S5⟩
            rw [take_next ho, List.filter_append]
            have eo : [o].filter (stl x L wr bl) = [] := by simp [hs]
            rw [eo, List.append_nil]
            exact S5 _ _ e4
          refine ⟨_, rfl, _, rfl, t', _, rfl, .inr (SqT.of g2), rfl, flat_strs _, _, rfl, ?_⟩
          show if inV (V.str x) (o.2.map V.str) = true then _ else _
          rw [inV_str]
          by_cases hx : x ∈ o.2
          · rw [if_pos (decide_eq_true hx)]
            refine ⟨_, rfl, _, rfl, ?_⟩
            have hs : stl x L wr bl o = !(wB wr bl && decide (o.1 ∈ L.map Prod.fst)) := by
              unfold stl
              rw [decide_eq_true hx, Bool.true_and]
            show if wB wr bl = true then _ else _
            by_cases hw : wB wr bl = true
            · rw [if_pos hw]
              have RL4 := RLL.same (S0C.trans (S.trans S4))
              refine ⟨_, rfl, _, rfl, lL, T.map Prod.fst, L.map fun l => ((Sum.inr l.1 : Key), V.bl l.2), rfl, SqL.of (by rw [RL4.e, List.map_map]; rfl), paired_lts RL4.d RL4.D, fun d hd => ⟨d, _, rfl, DGet.k (k := .inr o.1) upd_same, _, rfl, ?_⟩⟩
              rw [lets_in]
              have S5 := same_new (o := .dK (mergeK [] (L.map fun l => ((Sum.inr l.1 : Key), V.bl l.2)))) hd
              rw [hw, Bool.true_and] at hs
              show if (!decide (o.1 ∈ L.map Prod.fst)) = true then _ else _
              by_cases hb : (!decide (o.1 ∈ L.map Prod.fst)) = true
              · rw [if_pos hb]
                exact ⟨_, rfl, ft _ S5 (hs.trans hb)⟩
              · rw [if_neg hb]
                exact ff _ S5 (hs.trans (by cases h : (!decide (o.1 ∈ L.map Prod.fst)) with
                  | false => rfl
                  | true => exact absurd h hb))
            · rw [if_neg hw]
              have hw2 : wB wr bl = false := by cases h : wB wr bl with
                | false => rfl
                | true => exact absurd h hw
              rw [hw2, Bool.false_and] at hs
              show if (!false) = true then _ else _
              rw [if_pos (by decide)]
              exact ⟨_, rfl, ft H4 (Same.refl _) hs⟩
          · rw [if_neg (by rw [decide_eq_false hx]; decide)]
            show if false = true then _ else _
            rw [if_neg (by decide)]
            exact ff H4 (Same.refl _) (by unfold stl; rw [decide_eq_false hx]; rfl)
        · rintro H4 ⟨e4, S4⟩
          rw [lus, List.take_length] at e4
          have S04 := S0G.trans S4
          generalize hns : (sy.owns.filter (stl x L wr bl)).map Prod.fst = ns at e4
          have lns : ns.length ≤ 8 := by
            rw [← hns, List.length_map]
            exact Nat.le_trans (List.length_filter_le _ _) okl
          have nmn : ∀ n ∈ ns, Nm n := fun n hn => by
            rw [← hns] at hn
            obtain ⟨o, ho, rfl⟩ := List.mem_map.mp hn
            exact (ok.on o (List.mem_filter.mp ho).1).1
          refine ⟨_, rfl, .ref b0, sy, rfl, datS_of (D.same S04), ok, fun l T9 N9 H5 S5 hl el eN DN il => ?_⟩
          have e45 := S5 _ _ e4
          have idl := idle_of sn ok il
          rw [hns] at idl
          have lT9 : T9.length = N9.length := by
            have z := congrArg List.length eN
            rw [List.length_map, List.length_map] at z
            exact z
          have lN9 := il.len ok
          refine ⟨l, rfl, ⟨_, SqL.of el⟩, fun D2 hD2 => ?_⟩
          refine lc_list (K := K) (a := l) (xs := T9.map TRow.v) (fun j H6 => ∃ T' : List TRow, H6 D2 = some (.lst (T'.map TRow.v)) ∧ T'.map Prod.snd = ((N9.take j).filter fun q => decide (q.2 = x)).map prD ∧ (∀ q ∈ T', q ∈ T9) ∧ Same H5 H6)
            ⟨[], upd_same, rfl, fun q hq => absurd hq (by simp), same_new hD2⟩ (fun j H6 _ ⟨_, _, _, _, S6⟩ => SqL.of (S6 _ _ el)) ?_ ?_
          · rintro j y H6 hy ⟨T', e6, eT', mT', S6⟩
            rw [List.getElem?_map] at hy
            obtain ⟨r, hr, rfl⟩ := Option.map_eq_some_iff.mp hy
            obtain ⟨q0, hq0, er⟩ : ∃ q0, N9[j]? = some q0 ∧ r.2 = prD q0 := by
              have z : (T9.map Prod.snd)[j]? = some r.2 := by rw [List.getElem?_map, hr]; rfl
              rw [eN] at z
              exact get_map z
            have Dr := (DN r (List.mem_of_getElem? hr)).same S6
            rw [er] at Dr
            obtain ⟨b, eb, gr⟩ := pr_row (v := .ref r.1) Dr
            cases eb
            have lT' : T'.length ≤ 48 := by
              have z := congrArg List.length eT'
              rw [List.length_map, List.length_map] at z
              have z2 := List.length_filter_le (fun q : Pr => decide (q.2 = x)) (N9.take j)
              rw [List.length_take] at z2
              omega
            refine ⟨rfl, _, rfl, r.1, _, 1, _, rfl, rfl, SqT.of gr, rfl, _, rfl, rfl, _, rfl, ?_⟩
            show if decide (V.str q0.2 = V.str x) = true then _ else _
            by_cases hq : q0.2 = x
            · rw [if_pos (decide_eq_true (by rw [hq]))]
              refine ⟨_, rfl, _, e6, by rw [List.length_map]; exact small1000 (by omega), T' ++ [r], by rw [upd_same, List.map_append]; rfl, ?_, fun q hq => ?_, same_upd S6 hD2⟩
              · rw [List.map_append, eT', take_next hq0, List.filter_append]
                have eo : [q0].filter (fun q => decide (q.2 = x)) = [q0] := by simp [hq]
                rw [eo, List.map_append, List.map_cons, er]
                rfl
              · rcases List.mem_append.mp hq with z | z
                · exact mT' q z
                · cases List.mem_singleton.mp z
                  exact List.mem_of_getElem? hr
            · rw [if_neg (by rw [decide_eq_false (fun z => hq (by injection z))]; decide)]
              refine ⟨T', e6, ?_, mT', S6⟩
              rw [eT', take_next hq0, List.filter_append]
              have eo : [q0].filter (fun q => decide (q.2 = x)) = [] := by simp [hq]
              rw [eo, List.append_nil]
          · rintro H6 ⟨T', e6, eT', mT', S6⟩
            rw [List.length_map, lT9, List.take_length, idl] at eT'
            refine ⟨_, rfl, D1, rfl, ⟨_, SqL.of (S6 _ _ e45)⟩, fun D3 hD3 => ?_⟩
            refine lc_list (K := K) (a := D1) (xs := ns.map V.str) (fun j H8 => ∃ T2 : List TRow, H8 D3 = some (.lst (T2.map TRow.v)) ∧ T2.map Prod.snd = ((ns.take j).map fun n => (n, x)).map prD ∧ (∀ q ∈ T2, Dat H8 q.v q.2) ∧ Same H6 H8)
              ⟨[], upd_same, rfl, fun q hq => absurd hq (by simp), same_new hD3⟩ (fun j H8 _ ⟨_, _, _, _, S8⟩ => SqL.of (S8 _ _ (S6 _ _ e45))) ?_ ?_
            · rintro j y H8 hy ⟨T2, e8, eT2, DT2, S8⟩
              rw [List.getElem?_map] at hy
              obtain ⟨n, hn, rfl⟩ := Option.map_eq_some_iff.mp hy
              have jl : j < ns.length := (List.getElem?_eq_some_iff.mp hn).1
              have lT2 : T2.length = j := by
                have z := congrArg List.length eT2
                rw [List.length_map, List.length_map, List.length_map, List.length_take] at z
                omega
              refine ⟨rfl, yes_of ⟨_, rfl, _, rfl, s2, fun tn htn => ?_⟩⟩
              have SA := same_new (o := .tup [V.str n, .str x]) htn
              have eA := SA _ _ e8
              have Dn : Dat (upd H8 tn (.tup [V.str n, .str x])) (.ref tn) (prD (n, x)) := .tup upd_same (.cons (.str _) (.cons (.str _) .nil))
              refine ⟨_, eA, by rw [List.length_map]; exact small1000 (by omega), T2 ++ [(tn, prD (n, x))], by rw [upd_same, List.map_append]; rfl, by rw [List.map_append, eT2, take_next hn, List.map_append, List.map_append]; rfl, fun q hq => ?_, same_upd (S8.trans SA) hD3⟩
              rcases List.mem_append.mp hq with z | z
              · have k2 : keyable q.2 = true := by
                  have m : q.2 ∈ ((ns.take j).map fun n => (n, x)).map prD := eT2 ▸ List.mem_map_of_mem z
                  obtain ⟨p2, _, ep⟩ := List.mem_map.mp m
                  rw [← ep]
                  exact keyable_pr p2
                exact dat_upd eA k2 ((DT2 q z).same SA)
              · cases List.mem_singleton.mp z
                exact dat_upd eA (keyable_pr _) Dn
            · rintro H8 ⟨T2, e8, eT2, DT2, S8⟩
              rw [List.length_map, List.take_length] at eT2
              refine ⟨.ref D2, .ref D3, .list ((ns.map fun n => (n, x)).map prD), rfl, ?_, ?_, rpr_prs nmn (ok.pn x sn.c.xp) lns, q _ ((S04.trans S5).trans (S6.trans S8))⟩
              · rw [← eT']
                exact .lst (S8 _ _ e6) (dats_rows fun q hq => (DN q (mT' q hq)).same (S6.trans S8))
              · rw [← eT2]
                exact .lst e8 (dats_rows DT2)
end
end S3

set_option Elab.async false
set_option linter.all false
set_option maxRecDepth 100000
set_option maxHeartbeats 4000000
/-! with an own more that sees the pick, and one less -/
namespace S3
open PySem PySem.W PySem.Spec PyProof.Rows L2 S1
section
variable {s : Say} {x n : Str} {L : List Ltr} {w : List Nat} {bl : List Str} {a b c d : Nat}
theorem seenF_x (xp : x ∈ s.picks) (t : Bool) (o : Own) : x ∈ seenF s.picks n x t o ↔ if o.1 = n then t = true else x ∈ o.2 := by
  unfold seenF
  by_cases h : o.1 = n
  · rw [if_pos h, if_pos h, sgh_mem]
    constructor
    · rintro ⟨_, ⟨_, z⟩ | ⟨_, z⟩⟩
      · exact absurd rfl z
      · exact z
    · intro z
      exact ⟨xp, .inr ⟨rfl, z⟩⟩
  · rw [if_neg h, if_neg h]
theorem seen_owns (s : Say) (f : Own → List Str) : (withF s f).owns.map Prod.fst = s.owns.map Prod.fst := by
  show (s.owns.map fun o => (o.1, f o)).map Prod.fst = _
  rw [List.map_map]
  rfl
theorem Seen.turn (S : Seen s x L w bl) (n : Str) (t : Bool) (bl' : List Str) (h1 : ∀ o ∈ s.owns, (if o.1 = n then t = true else o.1 ∉ bl) ↔ o.1 ∉ bl') (h2 : ∀ y ∈ bl', y ∈ L.map Prod.fst) : Seen (seen s n x t) x L w bl' := by
  refine ⟨⟨S.c.xp, S.c.nd, fun l hl => ?_, S.c.ch, S.c.cl⟩, fun o ho => ?_, h2, S.w, S.l0, S.l8⟩
  · unfold S1.seen
    rw [seen_owns]
    exact S.c.on l hl
  · obtain ⟨o', ho', rfl⟩ := List.mem_map.mp (show o ∈ s.owns.map fun o => (o.1, seenF s.picks n x t o) from ho)
    show x ∈ seenF s.picks n x t o' ↔ o'.1 ∉ bl'
    rw [seenF_x S.c.xp, ← h1 o' ho']
    by_cases h : o'.1 = n
    · rw [if_pos h, if_pos h]
    · rw [if_neg h, if_neg h]
      exact S.see o' ho'
def oth (bl : List Str) (n : Str) : List Str := bl.filter fun y => decide (y ≠ n)
theorem oth_mem {y : Str} : y ∈ oth bl n ↔ y ∈ bl ∧ y ≠ n := by
  unfold oth
  rw [List.mem_filter, decide_eq_true_eq]
theorem Seen.more (S : Seen s x L w bl) (n : Str) : Seen (seen s n x true) x L w (oth bl n) := by
  refine S.turn n true _ (fun o ho => ?_) (fun y hy => S.bl y (oth_mem.mp hy).1)
  rw [oth_mem]
  by_cases h : o.1 = n
  · rw [if_pos h]
    exact ⟨fun _ z => z.2 h, fun _ => rfl⟩
  · rw [if_neg h]
    exact ⟨fun z y => z y.1, fun z y => z ⟨y, h⟩⟩
theorem Seen.less (S : Seen s x L w bl) (hn : n ∈ L.map Prod.fst) : Seen (seen s n x false) x L w (oth bl n ++ [n]) := by
  refine S.turn n false _ (fun o ho => ?_) (fun y hy => ?_)
  · rw [List.mem_append, oth_mem, List.mem_singleton]
    by_cases h : o.1 = n
    · rw [if_pos h]
      exact ⟨fun z => (nomatch z), fun z => absurd (Or.inr h) z⟩
    · rw [if_neg h]
      exact ⟨fun z y => y.elim (fun y => z y.1) h, fun z y => z (.inl ⟨y, h⟩)⟩
  · rcases List.mem_append.mp hy with h | h
    · exact S.bl y (oth_mem.mp h).1
    · rw [List.mem_singleton.mp h]
      exact hn
theorem few_copies {os : List Own} (h : ∀ o ∈ os, o.2.length ≤ 2) : copies os ≤ 4 * os.length := by
  induction os with
  | nil => exact Nat.zero_le _
  | cons o os ih =>
    have h1 := h o List.mem_cons_self
    have h2 := ih fun p hp => h p (List.mem_cons_of_mem _ hp)
    have h3 : 2 ^ o.2.length ≤ 2 ^ 2 := Nat.pow_le_pow_right (by decide) h1
    unfold copies at *
    simp only [List.map_cons, List.sum_cons, List.length_cons]
    omega
theorem sight_len {ps ys : List Str} (hy : ys.Pairwise tlt) (sub : ∀ y ∈ ys, y ∈ ps) : ys.length ≤ ps.length := nodup_le (nodup_tlt hy) sub
theorem seen_copies (ok : SayOk a b c d s) (p2 : s.picks.length ≤ 2) (o8 : s.owns.length ≤ 8) (n : Str) (t : Bool) : copies (seen s n x t).owns ≤ 120 := by
  have z := few_copies (os := (seen s n x t).owns) fun o ho => by
    obtain ⟨o', ho', rfl⟩ := List.mem_map.mp (show o ∈ s.owns.map fun o => (o.1, seenF s.picks n x t o) from ho)
    obtain ⟨h1, h2⟩ := seenF_good ok n x t o' ho'
    exact Nat.le_trans (sight_len h1 h2) p2
  have l : (seen s n x t).owns.length = s.owns.length := List.length_map _
  omega
end
/-- the others of a row of texts, by a comprehension -/
theorem lc_oth {K : PySem.W.Frag} {σ : L2.St} {H : Hp} {D lB : Addr} {bl : List Str} {n : Str} {i k : Nat} {ws : List Nat} {Qd : Hp → Prop} (eB : H lB = some (.lst (bl.map V.str))) (hD : H D = none) (len : bl.length ≤ 1000)
    (ek : ∀ y : V, ((wipe σ ws).set i (some y))[k]? = some (some (.str n))) (ei : ∀ y : V, ((wipe σ ws).set i (some y))[i]? = some (some y)) (hw : ∀ y : V, wipe ((wipe σ ws).set i (some y)) ws = wipe σ ws)
    (hd : ∀ H5, H5 D = some (.lst ((oth bl n).map V.str)) → Same H H5 → Qd H5) :
    ∃ W : Nat → Nat → Hp → Prop, (∃ m, W 0 m (upd H D (.lst []))) ∧ ∀ i' m H, W i' m H →
      ((Itl K lB).stop i' H ∧ Qd H) ∨ ((Itl K lB).go i' H ∧ ∃ Nx : Hp → Prop, (∀ H', Nx H' → ∃ m', m' < m ∧ W (i' + 1) m' H') ∧ ∀ x H', (Itl K lB).yld i' H x H' → gName i x (wipe σ ws) H' fun σ2 H2 => wipe σ2 ws = wipe σ ws ∧ (tTest (tOp rNe (tVar i) (tVar k))) σ2 H2 fun b H3 =>
        if b = true then tVar i σ2 H3 fun y H4 => ∃ acc, H4 D = some (.lst acc) ∧ acc.length < sizeLine ∧ Nx (upd H4 D (.lst (acc ++ [y]))) else Nx H3) := by
  refine lc_list (K := K) (a := lB) (xs := bl.map V.str) (fun j H4 => H4 D = some (.lst ((oth (bl.take j) n).map V.str)) ∧ Same H H4) ⟨upd_same, same_new hD⟩ (fun j H4 _ h => SqL.of (h.2 _ _ eB)) ?_ ?_
  · rintro j y H4 hy ⟨e4, S4⟩
    rw [List.getElem?_map] at hy
    obtain ⟨z, hz, rfl⟩ := Option.map_eq_some_iff.mp hy
    have jl : j < bl.length := (List.getElem?_eq_some_iff.mp hz).1
    have lo : (oth (bl.take j) n).length ≤ 1000 := by
      have := List.length_filter_le (fun y => decide (y ≠ n)) (bl.take j)
      rw [List.length_take] at this
      unfold oth
      omega
    have st : oth (bl.take (j + 1)) n = oth (bl.take j) n ++ oth [z] n := by
      unfold oth
      rw [take_next hz, List.filter_append]
    refine ⟨hw _, _, ei _, _, ek _, rfl, _, rfl, ?_⟩
    show if (!decide (V.str z = V.str n)) = true then _ else _
    by_cases hzn : z = n
    · rw [if_neg (by rw [hzn, decide_eq_true rfl]; decide)]
      refine ⟨?_, S4⟩
      rw [st]
      have eo : oth [z] n = [] := by simp [oth, hzn]
      rw [eo, List.append_nil]
      exact e4
    · rw [if_pos (by rw [decide_eq_false (fun q => hzn (by injection q))]; rfl)]
      refine ⟨_, ei _, _, e4, by rw [List.length_map]; exact small1000 lo, ?_, same_upd S4 hD⟩
      rw [upd_same, st]
      have eo : oth [z] n = [z] := by simp [oth, hzn]
      rw [eo, List.map_append]
      rfl
  · rintro H4 ⟨e4, S4⟩
    rw [List.length_map, List.take_length] at e4
    exact hd H4 e4 S4
def spMore1 : Sp := fun vs H Q _ => ∃ (v : V) (s : Say) (o : Own) (x : Str), vs = [v, .str o.1, .str x] ∧ Dat H v s.d ∧ SayOk 6 8 120 40 s ∧ o ∈ s.owns ∧ x ∈ s.picks ∧ copies (seen s o.1 x true).owns ≤ 120 ∧
  ∀ (v' : V) (H' : Hp), Same H H' → Dat H' v' (seen s o.1 x true).d → Q v' H'
section
variable {P : Program} {w : World} {K : PySem.W.Frag} {mg : Str → Option Value} {base : Heap}
theorem fn_with {k : Nat} {f C : Addr} {fd : FuncData} {ps : List Str} (F : FnOk P w K mg base (L2.CX P w) k f fd ps (spWith C)) : FnOk P w K mg base CX0 k f fd ps spMore1 := by
  have imp : ∀ {vs H Q E}, spMore1 vs H Q E → spWith C vs H Q fun _ _ _ => False := fun {vs H Q E} ⟨v, s, o, x, e, D, ok, ho, hx, hc, q⟩ => ⟨v, s, o, x, e, D, ok, ho, hx, fun _ => q, fun z => absurd hc z⟩
  refine ⟨fun vs H Q E h => F.len vs H Q _ (imp h), fun A outer s H args us vs Q E hr he hb hv hs => ?_⟩
  refine codeAny_mono (F.run A outer s H args us vs Q (fun _ _ _ => False) hr he hb hv (imp hs)) fun r s' hq => ?_
  cases r with
  | error e =>
    obtain ⟨_, _, _, _, _, _, _, _, _, _, _, _, z⟩ := hq
    exact z.elim
  | ok fl => cases fl <;> exact hq
theorem RL.dr {H G : Hp} {l p : Addr} {c0 c : Nat} {T : List TRow} {M : List Ltr} (h : RL H l T M) (n : l ≠ p) (hs : Src H p c0) (d : Dr H p c G) : RL G l T M :=
  ⟨d.keep h.e n, h.d, fun q hq => d.dat hs (key_lts h.d q hq).1 (h.D q hq)⟩
/-- what stands while a chain is asked about -/
structure Cn (H0 : Hp) (p lL lW lB : Addr) (T : List TRow) (L : List Ltr) (w : List Nat) (bl : List Str) (v : V) (s : Say) (c : Nat) (G : Hp) : Prop where
  d : Dr H0 p c G
  L : RL G lL T L
  W : G lW = some (.lst (w.map iV))
  B : G lB = some (.lst (bl.map V.str))
  D : Dat G v s.d
  nL : lL ≠ p
  nW : lW ≠ p
  nB : lB ≠ p
section
variable {H0 G G2 : Hp} {p lL lW lB : Addr} {T : List TRow} {L : List Ltr} {w : List Nat} {bl : List Str} {v : V} {s : Say} {c c' : Nat}
theorem Cn.trans (C : Cn H0 p lL lW lB T L w bl v s c G) (d : Dr G p c' G2) : Cn H0 p lL lW lB T L w bl v s c' G2 :=
  ⟨C.d.trans d, RL.dr C.L C.nL C.d.s d, d.keep C.W C.nW, d.keep C.B C.nB, d.dat C.d.s (keyable_say s) C.D, C.nL, C.nW, C.nB⟩
theorem Cn.up (C : Cn H0 p lL lW lB T L w bl v s c G) (h : c ≤ c') : Cn H0 p lL lW lB T L w bl v s c' G := { C with d := C.d.up h }
theorem Cn.same (C : Cn H0 p lL lW lB T L w bl v s c G) (S : Same G G2) : Cn H0 p lL lW lB T L w bl v s c G2 := C.trans ((Dr.start C.d.s).same S)
theorem Cn.src {o : HO} (C : Cn H0 p lL lW lB T L w bl v s c G) (h : Src (upd G p o) p c') : Cn H0 p lL lW lB T L w bl v s c' (upd G p o) := C.trans ((Dr.start C.d.s).src h)
end
def spOthers : Sp := fun vs H Q _ => ∃ (p : Addr) (c : Nat) (v : V) (s : Say) (x : Str) (lL lW lB : Addr) (T : List TRow) (L : List Ltr) (w : List Nat) (bl : List Str), vs = [.ref p, v, .str x, .ref lL, .ref lW, .ref lB] ∧ Cn H p lL lW lB T L w bl v s c H ∧ c ≤ 60000 ∧
  SayOk 6 8 120 40 s ∧ s.picks.length ≤ 2 ∧ Seen s x L w bl ∧ bl.length ≤ 8 ∧ ∀ H', Dr H p (c + 2) H' → Q (.bl true) H'
abbrev nOt : List Str := ["pot", "saying", "pick", "letters", "wrong", "blind", "name", "more", "less", "other"]
theorem scOt : FnScope nOt ["pot", "saying", "pick", "letters", "wrong", "blind"] (defScope sLOthers) := ⟨rfl, rfl, rfl, by decide +kernel, rfl, by decide +kernel, by decide +kernel⟩
theorem ok_others {f fP fR fM fO : Addr} {fd fdP fdR fdM fdO : FuncData} (F : Fun K "_law_others_right" "_law_others_right" sLOthers f fd) (B : Blt mg) (Pk : Has K mg "_law_draw" sDraw ["pot", "top"] fP fdP)
    (Ri : Has K mg "_law_right" sLRight ["saying", "pick", "letters", "wrong", "blind"] fR fdR) (GR : FnOkG P w K mg base 9 fR fdR ["saying", "pick", "letters", "wrong", "blind"] S3.spRight)
    (Wi : Has K mg "with_sight" sWith ["saying", "name", "pick"] fM fdM) (GW : FnOk P w K mg base CX0 8 fM fdM ["saying", "name", "pick"] spMore1)
    (Wo : Has K mg "without_sight" sWithout ["saying", "name", "pick"] fO fdO) (GO : FnOk P w K mg base CX0 8 fO fdO ["saying", "name", "pick"] spWithout) :
    FnOkG P w K mg base 10 f fd ["pot", "saying", "pick", "letters", "wrong", "blind"] spOthers := by
  have GP : FnOk P w K mg base CX0 1 fP fdP ["pot", "top"] spPick := ok_pick Pk.F B
  refine F.okG scOt (fun vs H Q E h => ?_) (fun cdv A outer s H vs Q E hG0 hr h => ?_)
  · obtain ⟨p, c, v, sy, x, lL, lW, lB, T, L, wr, bl, rfl, _⟩ := h
    rfl
  · obtain ⟨p, c, v, sy, x, lL, lW, lB, T, L, wr, bl, rfl, C, hc, ok, p2, sn, lb, q⟩ := h
    have hG : (A.deeper (envOfC "_law_others_right" (defScope sLOthers) s.heap.objs.size f cdv)).guards = some [] := hG0
    have hu : (A.deeper (envOfC "_law_others_right" (defScope sLOthers) s.heap.objs.size f cdv)).units + 64 < cLine := hr.units
    have hr1 := hr.mono (show 1 ≤ 9 by decide)
    have hr8 := hr.mono (show 8 ≤ 9 by decide)
    refine ⟨_, pss_cons (ps_if (pt_cmpR (op_neP (by exact hu)) (pv 5) (pe_lst pa_nil) (nomark _))
        (pss_cons (ps_set (i := 6) scOt.nd rfl (.inr rfl) (pe_ix ix_list (pv 5) (pe_call GP hr1 rfl Pk.g Pk.F.kp Pk.b .nil pass0 (pa_cons (pv 0) (pa_cons (pe_callB call_len_seq (by rfl) B.len (by decide +kernel) (pa_cons (pv 5) pa_nil)) pa_nil))) (fun _ _ => rfl)))
        (pss_cons (ps_set (i := 7) scOt.nd rfl (.inl rfl) (pe_call GW hr8 rfl Wi.g Wi.F.kp Wi.b .nil pass0 (pa_cons (pv 1) (pa_cons (pv 6) (pa_cons (pv 2) pa_nil)))))
        (pss_one (ps_if (pt_not (pt_val (pe_callG hG GR hr rfl Ri.g Ri.F.kp Ri.b (pa_cons (pv 7) (pa_cons (pv 2) (pa_cons (pv 3) (pa_cons (pv 4)
            (pa_cons (pe_lc (own := [("other", 9)]) (g := gName 9) (tt := tTest (tOp rNe (tVar 9) (tVar 6))) (te := tVar 9) rfl scOt.nd (pi_list (pv 5)) (blkOk_by (N := nOt) (sc := defScope sLOthers) (by decide +kernel))
              (fun _ _ _ _ _ => pg_name (i := 9) scOt.nd rfl (Or.inl rfl)) (fun _ _ _ _ _ => by exact pts_one (pt_cmpR op_ne (pv 9) (pv 6) (nomark _))) (fun _ _ _ _ _ => by exact pv 9)) pa_nil)))))))) (pss_one (ps_ret pe_bl)) pss_nil)))) pss_nil)
      (pss_cons (ps_set (i := 6) scOt.nd rfl (.inr rfl) (pe_ix ix_tup (pe_ix ix_list (pv 3) (pe_call GP hr1 rfl Pk.g Pk.F.kp Pk.b .nil pass0 (pa_cons (pv 0) (pa_cons (pe_callB call_len_seq (by rfl) B.len (by decide +kernel) (pa_cons (pv 3) pa_nil)) pa_nil))) (fun _ _ => rfl)) pe_int (fun _ _ => rfl)))
      (pss_cons (ps_set (i := 8) scOt.nd rfl (.inl rfl) (pe_op op_cat (pe_lc (own := [("other", 9)]) (g := gName 9) (tt := tTest (tOp rNe (tVar 9) (tVar 6))) (te := tVar 9) rfl scOt.nd (pi_list (pv 5)) (blkOk_by (N := nOt) (sc := defScope sLOthers) (by decide +kernel))
              (fun _ _ _ _ _ => pg_name (i := 9) scOt.nd rfl (Or.inl rfl)) (fun _ _ _ _ _ => by exact pts_one (pt_cmpR op_ne (pv 9) (pv 6) (nomark _))) (fun _ _ _ _ _ => by exact pv 9)) (pe_lst (pa_cons (pv 6) pa_nil))))
      (pss_one (ps_ret (pe_callG hG GR hr rfl Ri.g Ri.F.kp Ri.b (pa_cons (pe_call GO hr8 rfl Wo.g Wo.F.kp Wo.b .nil pass0 (pa_cons (pv 1) (pa_cons (pv 6) (pa_cons (pv 2) pa_nil)))) (pa_cons (pv 2) (pa_cons (pv 3) (pa_cons (pv 4) (pa_cons (pv 8) pa_nil)))))))))), ?_⟩
    have o8 := ok.ol
    have l0 := sn.l0
    have l8 := sn.l8
    have lT := C.L.len
    have ok2 : ∀ (n : Str) (t : Bool), SayOk 6 8 120 40 (seen sy n x t) := fun n t => withF_ok ok _ (seenF_good ok n x t) (seen_copies ok p2 o8 n t)
    refine ⟨_, rfl, Nat.zero_le _, fun te hte => ?_⟩
    have C1 := C.same (same_new (o := .lst ([] : List V)) hte)
    refine ⟨.list (bl.map PyData.str), .list [], .lst C1.B (dats_strs _), .lst upd_same .nil, plain_nms _, rfl, ?_, _, rfl, ?_⟩
    · have := depths_map PyData.str 0 (fun _ => Nat.le_refl _) bl
      simp only [PyData.depth]
      omega
    refine branchH (fun G => Cn H p lL lW lB T L wr bl v sy c G) C1 (fun σ' G => ∃ o6 o7 : Option V, σ' = [some (.ref p), some v, some (.str x), some (.ref lL), some (.ref lW), some (.ref lB), o6, o7, none, none] ∧ Cn H p lL lW lB T L wr bl v sy (c + 1) G) ?_ (fun hne G C R => ?_)
      (fun _ G C R => R _ _ ⟨_, _, rfl, C.up (by omega)⟩)
    · rintro σ' G ⟨o6, o7, rfl, C⟩
      refine ⟨_, rfl, _, rfl, _, rfl, _, _, rfl, .inl (SqL.of C.L.e), p, _, _, rfl, C.d.s, by omega, by rw [List.length_map]; omega, by rw [List.length_map]; omega, fun r o r0 r1 hp => ?_⟩
      have C2 := C.src hp
      refine gen_hp (F := fun G => Cn H p lL lW lB T L wr bl v sy (c + 1 + 1) G) C2 (fun G2 C2 => ?_)
      obtain ⟨vv, hv, _, hx⟩ := at_ok (xs := T.map TRow.v) r0 r1
      obtain ⟨t, m, rfl, hm, _, Dm, gm⟩ := C2.L.at_ hx
      obtain ⟨ow, how, eo⟩ := List.mem_map.mp (sn.c.on m (List.mem_of_getElem? hm))
      refine ⟨lL, _, r, _, rfl, rfl, SqL.of C2.L.e, hv, t, _, 0, _, rfl, rfl, SqT.of gm, rfl, ?_⟩
      refine ⟨_, rfl, lB, rfl, ⟨_, SqL.of C2.B⟩, fun D hD => lc_oth (K := K) C2.B hD (by omega) (fun _ => rfl) (fun _ => rfl) (fun _ => rfl) fun H5 e5 S5 => ?_⟩
      refine ⟨_, rfl, (by show 1 ≤ sizeLine; decide), fun l1 hl1 => ?_⟩
      have S6 := same_new (o := .lst [V.str m.1]) hl1
      have lo : (oth bl m.1).length ≤ 8 := Nat.le_trans (List.length_filter_le _ _) lb
      refine ⟨D, l1, _, _, rfl, rfl, S6 _ _ e5, upd_same, ?_, fun l2 hl2 => ?_⟩
      · rw [List.length_map]
        exact Nat.le_of_lt (small1000 (show (oth bl m.1).length + 1 ≤ 1000 by omega))
      have S7 := S6.trans (same_new (o := .lst ((oth bl m.1).map V.str ++ [V.str m.1])) hl2)
      have C3 := C2.same (S5.trans S7)
      have e2 : upd (upd H5 l1 (.lst [V.str m.1])) l2 (.lst ((oth bl m.1).map V.str ++ [V.str m.1])) l2 = some (.lst ((oth bl m.1 ++ [m.1]).map V.str)) := by
        rw [upd_same, List.map_append]
        rfl
      refine gen_hp (F := fun G => Cn H p lL lW lB T L wr bl v sy (c + 1 + 1) G ∧ G l2 = some (.lst ((oth bl m.1 ++ [m.1]).map V.str))) ⟨C3, e2⟩ (fun G3 ⟨C3, e2⟩ => ?_)
      have hmL : m.1 ∈ L.map Prod.fst := List.mem_map_of_mem (List.mem_of_getElem? hm)
      rw [← eo] at e2 hmL ⊢
      refine ⟨_, rfl, _, rfl, _, rfl, v, sy, ow, x, rfl, C3.D, ok, how, sn.c.xp, fun v' G4 S4 D4 => ?_⟩
      have C4 := C3.same S4
      exact ⟨_, rfl, _, rfl, _, rfl, _, rfl, v', seen sy ow.1 x false, x, lL, lW, l2, T, L, wr, oth bl ow.1 ++ [ow.1], rfl, D4, ok2 _ _, sn.less hmL, C4.L, C4.W, S4 _ _ e2, fun H6 S6 => q H6 (C4.d.same S6)⟩
    · have bl0 : 0 < bl.length := by
        cases hb : bl with
        | nil => rw [hb] at hne; exact absurd hne (by decide +kernel)
        | cons _ _ => exact Nat.succ_pos _
      refine ⟨_, rfl, _, rfl, _, rfl, _, _, rfl, .inl (SqL.of C.B), p, _, _, rfl, C.d.s, by omega, by rw [List.length_map]; omega, by rw [List.length_map]; omega, fun r o r0 r1 hp => ?_⟩
      have C2 := C.src hp
      refine gen_hp (F := fun G => Cn H p lL lW lB T L wr bl v sy (c + 1) G) C2 (fun G2 C2 => ?_)
      obtain ⟨vv, hv, hm, _⟩ := at_ok (xs := bl.map V.str) r0 r1
      obtain ⟨n, hn, rfl⟩ := List.mem_map.mp hm
      obtain ⟨m, hmL, em⟩ := List.mem_map.mp (sn.bl n hn)
      obtain ⟨ow, how, eo⟩ := List.mem_map.mp (sn.c.on m hmL)
      have en : n = ow.1 := em.symm.trans eo.symm
      subst en
      refine ⟨lB, _, r, _, rfl, rfl, SqL.of C2.B, hv, ?_⟩
      refine ⟨_, rfl, _, rfl, _, rfl, v, sy, ow, x, rfl, C2.D, ok, how, sn.c.xp, seen_copies ok p2 o8 _ _, fun v' G3 S3 D3 => ?_⟩
      have C3 := C2.same S3
      refine ⟨_, rfl, _, rfl, _, rfl, _, rfl, _, rfl, lB, rfl, ⟨_, SqL.of C3.B⟩, fun D hD => lc_oth (K := K) C3.B hD (by omega) (fun _ => rfl) (fun _ => rfl) (fun _ => rfl) fun H5 e5 S5 => ?_⟩
      have C4 := C3.same S5
      exact ⟨v', seen sy ow.1 x true, x, lL, lW, D, T, L, wr, oth bl ow.1, rfl, D3.same S5, ok2 _ _, sn.more _, C4.L, C4.W, e5, fun H6 S6 => ⟨true, rfl, notT (R _ _ ⟨_, _, rfl, C4.same S6⟩)⟩⟩
end
end S3

set_option Elab.async false
set_option linter.all false
set_option maxRecDepth 100000
set_option maxHeartbeats 4000000
/-! what is drawn makes a saying with a chain -/
namespace S3
open PySem PySem.W PySem.Spec PyProof.Rows L2 S1
/-- what an own sees -/
def sgt (P B : List Str) (x nm : Str) : List Str := P.filter fun y => decide (y ≠ x) || decide (nm ∉ B)
structure Frm (P N row B : List Str) (x : Str) (L : List Ltr) (w : List Nat) : Prop where
  pu : P.Pairwise tlt
  pn : ∀ y ∈ P, Nm y
  p2 : P.length ≤ 2
  xp : x ∈ P
  nn : ∀ y ∈ N, Nm y ∧ y ∉ P
  nd : N.Nodup
  n8 : N.length ≤ 8
  rs : row.Sublist N
  r0 : 0 < row.length
  bl : ∀ b ∈ B, b ∈ row
  Lr : L.map Prod.fst = row
  w : ∀ i ∈ w, i < L.length
def GoodCl (P N : List Str) (x : Str) (L : List Ltr) (w : List Nat) (cl : List Ltr) : Prop :=
  (∃ i, i ≤ L.length ∧ CP cl (ahd x L w i) (nxt x L i)) ∨ (∃ y ∈ P, y ≠ x ∧ ∃ nm ∈ N, ∃ b b', CP cl (y, b) (nm, b'))
theorem ahd_in {x : Str} {L : List Ltr} {w : List Nat} {i : Nat} (hi : i ≤ L.length) : (ahd x L w i).1 = x ∨ (ahd x L w i).1 ∈ L.map Prod.fst := by
  cases i with
  | zero => exact .inl rfl
  | succ i =>
    obtain ⟨l, hl⟩ : ∃ l, L[i]? = some l := ⟨L[i]'(by omega), List.getElem?_eq_getElem (by omega)⟩
    rw [ahd_fst hl]
    exact .inr (List.mem_map_of_mem (List.mem_of_getElem? hl))
theorem nxt_in {x : Str} {L : List Ltr} {i : Nat} : (nxt x L i).1 = x ∨ (nxt x L i).1 ∈ L.map Prod.fst := by
  unfold nxt
  rw [List.getD_eq_getElem?_getD]
  cases h : L[i]? with
  | none => exact .inl rfl
  | some l => exact .inr (List.mem_map_of_mem (List.mem_of_getElem? h))
section
variable {P N row B zs : List Str} {x : Str} {L : List Ltr} {w : List Nat} {cls : List (List Ltr)}
def frmS (P B zs : List Str) (x : Str) (cls : List (List Ltr)) : Say := ⟨P, zs.map fun nm => (nm, sgt P B x nm), cls⟩
theorem frm_fst : (frmS P B zs x cls).owns.map Prod.fst = zs := by
  show (zs.map fun nm => (nm, sgt P B x nm)).map Prod.fst = zs
  rw [List.map_map]
  exact List.map_id zs
theorem Frm.len (f : Frm P N row B x L w) : L.length = row.length := by rw [← f.Lr, List.length_map]
theorem Frm.ok (f : Frm P N row B x L w) (pm : zs.Perm N) (zu : zs.Pairwise tlt) (cu : cls.Pairwise fun a b => dataLt (clD a) (clD b) = true) (cg : ∀ cl ∈ cls, GoodCl P N x L w cl) (c40 : cls.length ≤ 40) : SayOk 6 8 120 40 (frmS P B zs x cls) := by
  have sl : ∀ nm, (sgt P B x nm).length ≤ 2 := fun nm => Nat.le_trans (List.length_filter_le _ _) f.p2
  refine ⟨f.pu, f.pn, Nat.le_trans f.p2 (by decide), ?_, fun o ho => ?_, ?_, ?_, cu, fun cl hcl => ⟨?_, fun l hl => ?_⟩, c40⟩
  · exact List.pairwise_map.mpr zu
  · obtain ⟨nm, hnm, rfl⟩ := List.mem_map.mp ho
    obtain ⟨h1, h2⟩ := f.nn nm (pm.mem_iff.mp hnm)
    exact ⟨h1, h2, f.pu.sublist List.filter_sublist, fun y hy => (List.mem_filter.mp hy).1⟩
  · show (zs.map _).length ≤ 8
    rw [List.length_map, pm.length_eq]
    exact f.n8
  · have z := few_copies (os := (frmS P B zs x cls).owns) fun o ho => by
      obtain ⟨nm, _, rfl⟩ := List.mem_map.mp ho
      exact sl nm
    have l : (frmS P B zs x cls).owns.length = N.length := by
      show (zs.map _).length = _
      rw [List.length_map, pm.length_eq]
    have := f.n8
    omega
  · rcases cg cl hcl with ⟨_, _, h⟩ | ⟨_, _, _, _, _, _, _, h⟩ <;> exact h.1
  · have rowN : ∀ n, n ∈ L.map Prod.fst → n ∈ (frmS P B zs x cls).names := fun n hn => by
      rw [f.Lr] at hn
      refine List.mem_append_right _ ?_
      show n ∈ (frmS P B zs x cls).owns.map Prod.fst
      rw [frm_fst]
      exact pm.mem_iff.mpr (f.rs.subset hn)
    have pN : ∀ n, n ∈ P → n ∈ (frmS P B zs x cls).names := fun n hn => List.mem_append_left _ hn
    rcases cg cl hcl with ⟨i, hi, h⟩ | ⟨y, hy, _, nm, hnm, b, b', h⟩
    · rcases (h.2 l).mp hl with rfl | rfl
      · rcases ahd_in (x := x) (w := w) hi with z | z
        · rw [z]; exact pN x f.xp
        · exact rowN _ z
      · rcases nxt_in (x := x) (L := L) (i := i) with z | z
        · rw [z]; exact pN x f.xp
        · exact rowN _ z
    · rcases (h.2 l).mp hl with rfl | rfl
      · exact pN y hy
      · refine List.mem_append_right _ ?_
        show nm ∈ (frmS P B zs x cls).owns.map Prod.fst
        rw [frm_fst]
        exact pm.mem_iff.mpr hnm
theorem Frm.seen (f : Frm P N row B x L w) (pm : zs.Perm N) (cg : ∀ cl ∈ cls, GoodCl P N x L w cl) (cc : ∀ i, i ≤ L.length → ∃ cl ∈ cls, CP cl (ahd x L w i) (nxt x L i)) : Seen (frmS P B zs x cls) x L w B := by
  refine ⟨⟨f.xp, by rw [f.Lr]; exact f.nd.sublist f.rs, fun l hl => ?_, fun i hi => ?_, fun cl hcl => ?_⟩, fun o ho => ?_, fun b hb => by rw [f.Lr]; exact f.bl b hb, f.w, by rw [f.len]; exact f.r0, by rw [f.len]; exact Nat.le_trans f.rs.length_le f.n8⟩
  · rw [frm_fst]
    refine pm.mem_iff.mpr (f.rs.subset ?_)
    rw [← f.Lr]
    exact List.mem_map_of_mem hl
  · obtain ⟨cl, h1, h2⟩ := cc i hi
    exact ⟨cl, h1, (h2.2 _).mpr (.inl rfl), (h2.2 _).mpr (.inr rfl)⟩
  · rcases cg cl hcl with ⟨i, hi, h⟩ | ⟨y, hy, yx, nm, hnm, b, b', h⟩
    · exact .inl ⟨i, hi, fun m hm => (h.2 m).mp hm⟩
    · refine .inr ⟨y, hy, yx, (nm, b'), fun m hm => ?_⟩
      rcases (h.2 m).mp hm with rfl | rfl
      · exact .inl rfl
      · exact .inr rfl
  · obtain ⟨nm, hnm, rfl⟩ := List.mem_map.mp ho
    show x ∈ sgt P B x nm ↔ nm ∉ B
    unfold sgt
    rw [List.mem_filter, Bool.or_eq_true, decide_eq_true_eq, decide_eq_true_eq]
    constructor
    · rintro ⟨_, z | z⟩
      · exact absurd rfl z
      · exact z
    · intro z
      exact ⟨f.xp, .inr z⟩
end
theorem pre_of {cls : List (List Ltr)} : ∀ {D : List PyData}, (∀ d ∈ D, d ∈ cls.map clD) → ∃ cls' : List (List Ltr), D = cls'.map clD ∧ ∀ c ∈ cls', c ∈ cls
  | [], _ => ⟨[], rfl, fun c hc => absurd hc (by simp)⟩
  | d :: D, h => by
    obtain ⟨c, hc, rfl⟩ := List.mem_map.mp (h d List.mem_cons_self)
    obtain ⟨cls', e, h'⟩ := pre_of fun d hd => h d (List.mem_cons_of_mem _ hd)
    refine ⟨c :: cls', by rw [e]; rfl, fun y hy => ?_⟩
    rcases List.mem_cons.mp hy with rfl | hy
    · exact hc
    · exact h' y hy
/-- clauses without doubles, sorted -/
theorem cls_sorted {Tc T' T9 : List TRow} {cls : List (List Ltr)} (e : Tc.map Prod.snd = cls.map clD) (h1 : ∀ q ∈ T', q ∈ Tc) (h2 : ∀ q ∈ Tc, q.2 ∈ T'.map Prod.snd) (nd : (T'.map Prod.snd).Nodup) (pm : T9.Perm T') (up : T9.Pairwise fun p q => dataLt p.2 q.2 = true) :
    ∃ cls' : List (List Ltr), T9.map Prod.snd = cls'.map clD ∧ (cls'.Pairwise fun a b => dataLt (clD a) (clD b) = true) ∧ (∀ c, c ∈ cls' ↔ c ∈ cls) ∧ cls'.length ≤ cls.length := by
  obtain ⟨cls', e9, sub⟩ := pre_of (cls := cls) (D := T9.map Prod.snd) fun d hd => by
    obtain ⟨q, hq, rfl⟩ := List.mem_map.mp hd
    rw [← e]
    exact List.mem_map_of_mem (h1 q (pm.mem_iff.mp hq))
  have u2 : cls'.Pairwise fun a b => dataLt (clD a) (clD b) = true := by
    have z : (T9.map Prod.snd).Pairwise fun a b => dataLt a b = true := List.pairwise_map.mpr up
    rw [e9] at z
    exact (List.pairwise_map (f := clD) (R := fun a b => dataLt a b = true)).mp z
  refine ⟨cls', e9, u2, fun c => ⟨sub c, fun hc => ?_⟩, ?_⟩
  · have m : clD c ∈ Tc.map Prod.snd := by rw [e]; exact List.mem_map_of_mem hc
    obtain ⟨q, hq, eq⟩ := List.mem_map.mp m
    have m2 := h2 q hq
    rw [eq] at m2
    have m3 : clD c ∈ T9.map Prod.snd := (pm.map Prod.snd).mem_iff.mpr m2
    rw [e9] at m3
    obtain ⟨c', hc', ec⟩ := List.mem_map.mp m3
    rw [← clD_inj ec]
    exact hc'
  · have nd9 : cls'.Nodup := u2.imp fun {a b} z e => by
      rw [e, dataLt_irrefl] at z
      cases z
    exact nodup_le nd9 sub
theorem other_one {P : List Str} {x : Str} (pu : P.Pairwise tlt) (h : 1 < P.length) : ∃ y rest, (P.filter fun y => decide (y ≠ x)) = y :: rest ∧ y ∈ P ∧ y ≠ x := by
  have ex : ∃ y ∈ P, y ≠ x := by
    match P, h, pu with
    | a :: b :: P', _, pu =>
      by_cases ha : a = x
      · refine ⟨b, List.mem_cons_of_mem _ List.mem_cons_self, fun hb => ?_⟩
        have z := (List.pairwise_cons.mp pu).1 b List.mem_cons_self
        rw [ha, hb] at z
        exact tlt_irrefl x z
      · exact ⟨a, List.mem_cons_self, ha⟩
  obtain ⟨y, hy, yx⟩ := ex
  have m : y ∈ P.filter fun y => decide (y ≠ x) := List.mem_filter.mpr ⟨hy, decide_eq_true yx⟩
  cases h : P.filter fun y => decide (y ≠ x) with
  | nil =>
    rw [h] at m
    exact absurd m (by simp)
  | cons a r =>
    have ma : a ∈ P.filter fun y => decide (y ≠ x) := by rw [h]; exact List.mem_cons_self
    obtain ⟨h1, h2⟩ := List.mem_filter.mp ma
    exact ⟨a, r, rfl, h1, of_decide_eq_true h2⟩
/-- a row of texts, filtered by a comprehension -/
theorem lc_filt {K : PySem.W.Frag} {σ : L2.St} {H : Hp} {D lB : Addr} {bl : List Str} {f : Str → Bool} {tt : TT} {i : Nat} {ws : List Nat} {Qd : Hp → Prop} (eB : H lB = some (.lst (bl.map V.str))) (hD : H D = none) (len : bl.length ≤ 1000)
    (ht : ∀ (y : Str) (H4 : Hp), Same H H4 → ∀ Q : Bool → Hp → Prop, Q (f y) H4 → tt ((wipe σ ws).set i (some (V.str y))) H4 Q) (ei : ∀ y : V, ((wipe σ ws).set i (some y))[i]? = some (some y)) (hw : ∀ y : V, wipe ((wipe σ ws).set i (some y)) ws = wipe σ ws)
    (hd : ∀ H5, H5 D = some (.lst ((bl.filter f).map V.str)) → Same H H5 → Qd H5) :
    ∃ W : Nat → Nat → Hp → Prop, (∃ m, W 0 m (upd H D (.lst []))) ∧ ∀ i' m H, W i' m H →
      ((Itl K lB).stop i' H ∧ Qd H) ∨ ((Itl K lB).go i' H ∧ ∃ Nx : Hp → Prop, (∀ H', Nx H' → ∃ m', m' < m ∧ W (i' + 1) m' H') ∧ ∀ x H', (Itl K lB).yld i' H x H' → gName i x (wipe σ ws) H' fun σ2 H2 => wipe σ2 ws = wipe σ ws ∧ tt σ2 H2 fun b H3 =>
        if b = true then tVar i σ2 H3 fun y H4 => ∃ acc, H4 D = some (.lst acc) ∧ acc.length < sizeLine ∧ Nx (upd H4 D (.lst (acc ++ [y]))) else Nx H3) := by
  refine lc_list (K := K) (a := lB) (xs := bl.map V.str) (fun j H4 => H4 D = some (.lst (((bl.take j).filter f).map V.str)) ∧ Same H H4) ⟨upd_same, same_new hD⟩ (fun j H4 _ h => SqL.of (h.2 _ _ eB)) ?_ ?_
  · rintro j y H4 hy ⟨e4, S4⟩
    rw [List.getElem?_map] at hy
    obtain ⟨z, hz, rfl⟩ := Option.map_eq_some_iff.mp hy
    have jl : j < bl.length := (List.getElem?_eq_some_iff.mp hz).1
    have lo : ((bl.take j).filter f).length ≤ 1000 := by
      have := List.length_filter_le f (bl.take j)
      rw [List.length_take] at this
      omega
    have st : (bl.take (j + 1)).filter f = (bl.take j).filter f ++ [z].filter f := by rw [take_next hz, List.filter_append]
    refine ⟨hw _, ht z H4 S4 _ ?_⟩
    by_cases hf : f z = true
    · rw [if_pos hf]
      refine ⟨_, ei _, _, e4, by rw [List.length_map]; exact small1000 lo, ?_, same_upd S4 hD⟩
      rw [upd_same, st]
      have eo : [z].filter f = [z] := by simp [hf]
      rw [eo, List.map_append]
      rfl
    · rw [if_neg hf]
      refine ⟨?_, S4⟩
      rw [st]
      have eo : [z].filter f = [] := by simp [hf]
      rw [eo, List.append_nil]
      exact e4
  · rintro H4 ⟨e4, S4⟩
    rw [List.length_map, List.take_length] at e4
    exact hd H4 e4 S4
theorem lc_filtT {K : PySem.W.Frag} {σ : L2.St} {H : Hp} {D lB : Addr} {bl : List Str} {f : Str → Bool} {tt : TT} {i : Nat} {ws : List Nat} {Qd : Hp → Prop} (eB : H lB = some (.tup (bl.map V.str))) (hD : H D = none) (len : bl.length ≤ 1000)
    (ht : ∀ (y : Str) (H4 : Hp), Same H H4 → ∀ Q : Bool → Hp → Prop, Q (f y) H4 → tt ((wipe σ ws).set i (some (V.str y))) H4 Q) (ei : ∀ y : V, ((wipe σ ws).set i (some y))[i]? = some (some y)) (hw : ∀ y : V, wipe ((wipe σ ws).set i (some y)) ws = wipe σ ws)
    (hd : ∀ H5, H5 D = some (.lst ((bl.filter f).map V.str)) → Same H H5 → Qd H5) :
    ∃ W : Nat → Nat → Hp → Prop, (∃ m, W 0 m (upd H D (.lst []))) ∧ ∀ i' m H, W i' m H →
      ((Itt K lB).stop i' H ∧ Qd H) ∨ ((Itt K lB).go i' H ∧ ∃ Nx : Hp → Prop, (∀ H', Nx H' → ∃ m', m' < m ∧ W (i' + 1) m' H') ∧ ∀ x H', (Itt K lB).yld i' H x H' → gName i x (wipe σ ws) H' fun σ2 H2 => wipe σ2 ws = wipe σ ws ∧ tt σ2 H2 fun b H3 =>
        if b = true then tVar i σ2 H3 fun y H4 => ∃ acc, H4 D = some (.lst acc) ∧ acc.length < sizeLine ∧ Nx (upd H4 D (.lst (acc ++ [y]))) else Nx H3) := by
  refine lc_tup (K := K) (a := lB) (xs := bl.map V.str) (fun j H4 => H4 D = some (.lst (((bl.take j).filter f).map V.str)) ∧ Same H H4) ⟨upd_same, same_new hD⟩ (fun j H4 _ h => SqT.of (h.2 _ _ eB)) ?_ ?_
  · rintro j y H4 hy ⟨e4, S4⟩
    rw [List.getElem?_map] at hy
    obtain ⟨z, hz, rfl⟩ := Option.map_eq_some_iff.mp hy
    have jl : j < bl.length := (List.getElem?_eq_some_iff.mp hz).1
    have lo : ((bl.take j).filter f).length ≤ 1000 := by
      have := List.length_filter_le f (bl.take j)
      rw [List.length_take] at this
      omega
    have st : (bl.take (j + 1)).filter f = (bl.take j).filter f ++ [z].filter f := by rw [take_next hz, List.filter_append]
    refine ⟨hw _, ht z H4 S4 _ ?_⟩
    by_cases hf : f z = true
    · rw [if_pos hf]
      refine ⟨_, ei _, _, e4, by rw [List.length_map]; exact small1000 lo, ?_, same_upd S4 hD⟩
      rw [upd_same, st]
      have eo : [z].filter f = [z] := by simp [hf]
      rw [eo, List.map_append]
      rfl
    · rw [if_neg hf]
      refine ⟨?_, S4⟩
      rw [st]
      have eo : [z].filter f = [] := by simp [hf]
      rw [eo, List.append_nil]
      exact e4
  · rintro H4 ⟨e4, S4⟩
    rw [List.length_map, List.take_length] at e4
    exact hd H4 e4 S4
end S3

set_option Elab.async false
set_option linter.all false
set_option maxRecDepth 100000
set_option maxHeartbeats 4000000
/-! the law -/
namespace S1
open PySem PySem.W PySem.Spec PyProof.Rows L2
def spLaw (K : PySem.W.Frag) : Sp := fun vs H Q _ => ∃ (a : Addr) (ns : List Int), vs = [.ref a] ∧ SqL K H a (ns.map V.int) ∧ ns.length ≤ 63 ∧ ∀ H', Q (.bl true) H'
end S1
namespace S3
open PySem PySem.W PySem.Spec PyProof.Rows L2 S1
theorem same_of_del {H G G' : Hp} {p : Addr} (hn : H p = none) (S : Same H G) (S2 : Same (del G p) (del G' p)) : Same H G' := fun b u e => by
  have bp : b ≠ p := ne_of_none e hn
  have z := S2 b u (by rw [del_ne bp]; exact S _ _ e)
  rwa [del_ne bp] at z
section
variable {P : Program} {w : World} {K : PySem.W.Frag} {mg : Str → Option Value} {base : Heap}
abbrev nLaw : List Str := ["script", "k", "pot", "some", "names", "picks", "pick", "shares", "blind", "row", "letters", "wrong", "clauses", "owns", "name", "other", "saying", "at"]
abbrev tDrI (i : Int) : TE := tOp rEq (tCall spPick [] E0 (tCons (tVar 2) (tCons (tC (V.int i)) tNil))) (tC (V.int 0))
abbrev tDrV (i : Nat) : TE := tOp rEq (tCall spPick [] E0 (tCons (tVar 2) (tCons (tVar i) tNil))) (tC (V.int 0))
theorem scLaw : FnScope nLaw ["script"] (defScope sLaw) := ⟨rfl, rfl, rfl, by decide +kernel, rfl, by decide +kernel, by decide +kernel⟩
theorem ok_law {f fS fP fN fC fR fO : Addr} {fd fdS fdP fdN fdC fdR fdO : FuncData} (F : Fun K "law" "law" sLaw f fd) (B : Blt mg) (en : mg "enumerate" = none) (So : Has K mg "_law_pot" sPot ["script", "k"] fS fdS) (Pk : Has K mg "_law_draw" sDraw ["pot", "top"] fP fdP)
    (Nn : Has K mg "_law_names" sLNames ["pot", "size"] fN fdN) (GN : FnOk P w K mg base CX0 2 fN fdN ["pot", "size"] spNames) (Cs : Has K mg "_law_clauses" sLClauses ["pick", "letters", "wrong"] fC fdC)
    (Ri : Has K mg "_law_right" sLRight ["saying", "pick", "letters", "wrong", "blind"] fR fdR) (GR : FnOkG P w K mg base 9 fR fdR ["saying", "pick", "letters", "wrong", "blind"] S3.spRight)
    (Ot : Has K mg "_law_others_right" sLOthers ["pot", "saying", "pick", "letters", "wrong", "blind"] fO fdO) (GO : FnOkG P w K mg base 10 fO fdO ["pot", "saying", "pick", "letters", "wrong", "blind"] spOthers) : FnOkG P w K mg base 11 f fd ["script"] (S1.spLaw K) := by
  have GS : FnOk P w K mg base CX0 1 fS fdS ["script", "k"] (spPot K) := ok_pot So.F B en
  have GP : FnOk P w K mg base CX0 1 fP fdP ["pot", "top"] spPick := ok_pick Pk.F B
  have GC : FnOk P w K mg base CX0 1 fC fdC ["pick", "letters", "wrong"] spClauses := ok_clauses Cs.F B en
  refine F.okG scLaw (fun vs H Q E h => ?_) (fun cdv A outer s H vs Q E hG0 hr h => ?_)
  · obtain ⟨a, ns, rfl, _⟩ := h
    rfl
  · obtain ⟨a, ns, rfl, hS, hlen, q⟩ := h
    have hr1 := hr.mono (show 1 ≤ 10 by decide)
    have hr2 := hr.mono (show 2 ≤ 10 by decide)
    have hr9 := hr.mono (show 9 ≤ 10 by decide)
    have hG : (A.deeper (envOfC "law" (defScope sLaw) s.heap.objs.size f cdv)).guards = some [] := hG0
    have hu : (A.deeper (envOfC "law" (defScope sLaw) s.heap.objs.size f cdv)).units + 64 < cLine := hr.units
    refine ⟨_, pss_cons (ps_for PassesOwn.never rfl (pi_range1 rfl B.range (pa_cons (pe_callB (call_max2 rfl) (by rfl) B.max (by decide +kernel) (pa_cons pe_int (pa_cons (pe_callB (call_min2 rfl) (by rfl) B.min (by decide +kernel) (pa_cons pe_int (pa_cons (pe_callB call_len_seq (by rfl) B.len (by decide +kernel) (pa_cons (pv 0) pa_nil)) pa_nil))) pa_nil))) pa_nil)) (pg_name (i := 1) scLaw.nd rfl (Or.inl rfl))
        (pss_cons (ps_set (i := 2) scLaw.nd rfl (.inr rfl) (pe_call GS hr1 rfl So.g So.F.kp So.b .nil pass0 (pa_cons (pv 0) (pa_cons (pv 1) pa_nil))))
        (pss_cons (ps_set (i := 3) scLaw.nd rfl (.inl rfl) (pe_op op_add pe_int (pe_call GP hr1 rfl Pk.g Pk.F.kp Pk.b .nil pass0 (pa_cons (pv 2) (pa_cons pe_int pa_nil)))))
        (pss_cons (ps_set (i := 4) scLaw.nd rfl (.inl rfl) (pe_call GN hr2 rfl Nn.g Nn.F.kp Nn.b .nil pass0 (pa_cons (pv 2) (pa_cons (pe_op op_add (pe_op op_add (pv 3) pe_int) (pe_call GP hr1 rfl Pk.g Pk.F.kp Pk.b .nil pass0 (pa_cons (pv 2) (pa_cons pe_int pa_nil)))) pa_nil))))
        (pss_cons (ps_par (i := 5) (j := 4) rfl scLaw.nd rfl rfl (by decide) rfl rfl (pa_cons (pe_tupleOf rfl B.tuple (pe_callB (cr_sortW (by exact hu)) (by rfl) B.sorted (by decide +kernel) (pa_cons (pe_slice sl_list (pv 4) po_none (po_some (pv 3))) pa_nil))) (pa_cons (pe_slice sl_list (pv 4) (po_some (pv 3)) po_none) pa_nil)) (by with_unfolding_all rfl))
        (pss_cons (ps_asg (pe_tup (pa_cons (pe_ix ix_tup (pv 5) (pe_call GP hr1 rfl Pk.g Pk.F.kp Pk.b .nil pass0 (pa_cons (pv 2) (pa_cons (pv 3) pa_nil))) (fun _ _ => rfl))
            (pa_cons (pe_ix ix_list (pe_lst (pa_cons pe_int (pa_cons pe_int (pa_cons pe_int pa_nil)))) (pe_call GP hr1 rfl Pk.g Pk.F.kp Pk.b .nil pass0 (pa_cons (pv 2) (pa_cons pe_int pa_nil))) (fun _ _ => rfl)) pa_nil)))
            (pg_tup rfl (pgs_cons (pg_name (i := 6) scLaw.nd rfl (.inr rfl)) (pgs_cons (pg_name (i := 7) scLaw.nd rfl (.inr rfl)) pgs_nil))))
        (pss_cons (ps_set (i := 8) scLaw.nd rfl (.inr rfl) (pe_lc (own := [("name", 14)]) (g := gName 14) (tt := tAnd (tTest (tOp (rI0 fun i j => V.bl (decide (i > j))) (tVar 7) (tC (V.int 1)))) (tTest (tDrV 7))) (te := tVar 14) rfl scLaw.nd (pi_list (pv 4)) (blkOk_by (N := nLaw) (sc := defScope sLaw) (by decide +kernel))
            (fun _ _ _ _ _ => pg_name (i := 14) scLaw.nd rfl (Or.inl rfl)) (fun _ _ _ _ _ => by exact pts_one (PW.pt (pw_and (pt_cmpR op_gt (pv 7) pe_int (nomark _)) (pw_and1 (pt_cmpR op_eq (pe_call GP (by exact hr1) (by rfl) Pk.g Pk.F.kp Pk.b .nil pass0 (pa_cons (pv 2) (pa_cons (pv 7) pa_nil))) pe_int (nomark _)))))) (fun _ _ _ _ _ => by exact pv 14)))
        (pss_cons (ps_set (i := 9) scLaw.nd rfl (.inr rfl) (pe_slice sl_list (pv 4) (po_some (pe_call GP hr1 rfl Pk.g Pk.F.kp Pk.b .nil pass0 (pa_cons (pv 2) (pa_cons (pe_callB call_len_seq (by rfl) B.len (by decide +kernel) (pa_cons (pv 4) pa_nil)) pa_nil)))) po_none))
        (pss_cons (ps_set (i := 8) scLaw.nd rfl (.inr rfl) (pe_lc (own := [("name", 14)]) (g := gName 14) (tt := tTest (tOp (rIn K false) (tVar 14) (tVar 9))) (te := tVar 14) rfl scLaw.nd (pi_list (pv 8)) (blkOk_by (N := nLaw) (sc := defScope sLaw) (by decide +kernel))
            (fun _ _ _ _ _ => pg_name (i := 14) scLaw.nd rfl (Or.inl rfl)) (fun _ _ _ _ _ => by exact pts_one (pt_cmpR op_in_seq (pv 14) (pv 9) (by with_unfolding_all rfl))) (fun _ _ _ _ _ => by exact pv 14)))
        (pss_cons (ps_par (i := 10) (j := 11) rfl scLaw.nd rfl rfl (by decide) rfl rfl (pa_cons (pe_lc (own := [("name", 14)]) (g := gName 14) (tt := tYes) (te := tTup (tCons (tVar 14) (tCons (tDrI 2) tNil))) rfl scLaw.nd (pi_list (pv 9)) (blkOk_by (N := nLaw) (sc := defScope sLaw) (by decide +kernel))
            (fun _ _ _ _ _ => pg_name (i := 14) scLaw.nd rfl (Or.inl rfl)) (fun _ _ _ _ _ => pts_nil) (fun _ _ _ _ _ => by exact pe_tup (pa_cons (pv 14) (pa_cons (pe_cmpR op_eq (pe_call GP (by exact hr1) (by rfl) Pk.g Pk.F.kp Pk.b .nil pass0 (pa_cons (pv 2) (pa_cons pe_int pa_nil))) pe_int (nomark _)) pa_nil)))) (pa_cons (pe_lst pa_nil) pa_nil)) (by with_unfolding_all rfl))
        (pss_cons (ps_if (PW.pt (pw_and (pt_cmpR op_eq (pe_call GP hr1 rfl Pk.g Pk.F.kp Pk.b .nil pass0 (pa_cons (pv 2) (pa_cons pe_int pa_nil))) pe_int (nomark _)) (pw_and1 (pt_cmpR op_gt (pe_callB call_len_seq (by rfl) B.len (by decide +kernel) (pa_cons (pv 9) pa_nil)) pe_int (nomark _)))))
          (pss_one (ps_setLc (i := 11) (own := [("at", 17)]) (g := gName 17) (tt := tTest (tDrI 4)) (te := tVar 17) rfl scLaw.nd rfl rfl (sw_true rfl rfl rfl (by decide +kernel)) (pi_range1 (by rfl) B.range (pa_cons (pe_callB call_len_seq (by rfl) B.len (by decide +kernel) (pa_cons (pv 9) pa_nil)) pa_nil)) (blkOk_by (N := nLaw) (sc := defScope sLaw) (by decide +kernel))
            (fun _ _ _ _ _ => pg_name (i := 17) scLaw.nd rfl (Or.inl rfl)) (fun _ _ _ _ _ => by exact pts_one (pt_cmpR op_eq (pe_call GP (by exact hr1) (by rfl) Pk.g Pk.F.kp Pk.b .nil pass0 (pa_cons (pv 2) (pa_cons pe_int pa_nil))) pe_int (nomark _))) (fun _ _ _ _ _ => by exact pv 17))) pss_nil)
        (pss_cons (ps_par (i := 12) (j := 13) rfl scLaw.nd rfl rfl (by decide) rfl rfl (pa_cons (pe_call GC hr1 rfl Cs.g Cs.F.kp Cs.b .nil pass0 (pa_cons (pv 6) (pa_cons (pv 10) (pa_cons (pv 11) pa_nil)))) (pa_cons (pe_lst pa_nil) pa_nil)) (by with_unfolding_all rfl))
        (pss_cons (ps_for PassesOwn.never rfl (pi_list (pe_callB (cr_sortW (by exact hu)) (by rfl) B.sorted (by decide +kernel) (pa_cons (pv 4) pa_nil))) (pg_name (i := 14) scLaw.nd rfl (Or.inr rfl))
          (pss_cons (ps_expr (pe_bm PySem.F.plainAttrs_list PySem.F.slot_list_append PySem.F.type_list_append mt_append (pv 13) (pa_cons (pe_tup (pa_cons (pv 14) (pa_cons (pe_tupleOf rfl B.tuple
              (pe_lc (own := [("other", 15)]) (g := gName 15) (tt := tOr (tTest (tOp rNe (tVar 15) (tVar 6))) (tTest (tOp (rIn K true) (tVar 14) (tVar 8)))) (te := tVar 15) rfl scLaw.nd (pi_tup (pv 5)) (blkOk_by (N := nLaw) (sc := defScope sLaw) (by decide +kernel))
                (fun _ _ _ _ _ => pg_name (i := 15) scLaw.nd rfl (Or.inl rfl)) (fun _ _ _ _ _ => by exact pts_one (PW.pt (pw_or (pt_cmpR op_ne (pv 15) (pv 6) (nomark _)) (pw_or1 (pt_cmpR op_notIn_seq (pv 14) (pv 8) (by with_unfolding_all rfl)))))) (fun _ _ _ _ _ => by exact pv 15))) pa_nil))) pa_nil)))
          (pss_one (ps_if (PW.pt (pw_and (pt_cmpR op_gt (pv 3) pe_int (nomark _)) (pw_and1 (pt_cmpR op_eq (pe_call GP hr1 rfl Pk.g Pk.F.kp Pk.b .nil pass0 (pa_cons (pv 2) (pa_cons pe_int pa_nil))) pe_int (nomark _)))))
            (pss_cons (ps_set (i := 15) scLaw.nd rfl (.inl rfl) (pe_ix ix_list (pe_lc (own := [("other", 15)]) (g := gName 15) (tt := tTest (tOp rNe (tVar 15) (tVar 6))) (te := tVar 15) rfl scLaw.nd (pi_tup (pv 5)) (blkOk_by (N := nLaw) (sc := defScope sLaw) (by decide +kernel))
                (fun _ _ _ _ _ => pg_name (i := 15) scLaw.nd rfl (Or.inl rfl)) (fun _ _ _ _ _ => by exact pts_one (pt_cmpR op_ne (pv 15) (pv 6) (nomark _))) (fun _ _ _ _ _ => by exact pv 15)) pe_int (fun _ _ => rfl)))
            (pss_one (ps_expr (pe_bm PySem.F.plainAttrs_list PySem.F.slot_list_append PySem.F.type_list_append mt_append (pv 12) (pa_cons (pe_tupleOf rfl B.tuple (pe_callB (cr_sortL (by exact hu)) (by rfl) B.sorted (by decide +kernel) (pa_cons (pe_lst
                (pa_cons (pe_tup (pa_cons (pv 15) (pa_cons (pe_cmpR op_eq (pe_call GP hr1 rfl Pk.g Pk.F.kp Pk.b .nil pass0 (pa_cons (pv 2) (pa_cons pe_int pa_nil))) pe_int (nomark _)) pa_nil)))
                (pa_cons (pe_tup (pa_cons (pv 14) (pa_cons (pe_cmpR op_eq (pe_call GP hr1 rfl Pk.g Pk.F.kp Pk.b .nil pass0 (pa_cons (pv 2) (pa_cons pe_int pa_nil))) pe_int (nomark _)) pa_nil))) pa_nil))) pa_nil))) pa_nil))))) pss_nil))))
        (pss_cons (ps_set (i := 16) scLaw.nd rfl (.inl rfl) (pe_tup (pa_cons (pv 5) (pa_cons (pe_tupleOf rfl B.tuple (pv 13)) (pa_cons (pe_tupleOf rfl B.tuple (pe_callB (cr_sortN rfl (by exact hu)) (by rfl) B.sorted (by decide +kernel) (pa_cons (pe_callTy (cr_setN rfl (by exact hu)) (by rfl) B.set (by decide +kernel) (pa_cons (pv 12) pa_nil)) pa_nil))) pa_nil)))))
        (pss_cons (ps_if (pt_not (pt_val (pe_callG hG GR hr9 rfl Ri.g Ri.F.kp Ri.b (pa_cons (pv 16) (pa_cons (pv 6) (pa_cons (pv 10) (pa_cons (pv 11) (pa_cons (pv 8) pa_nil)))))))) (pss_one (ps_ret pe_bl)) pss_nil)
        (pss_one (ps_if (pt_not (pt_val (pe_callG hG GO hr rfl Ot.g Ot.F.kp Ot.b (pa_cons (pv 2) (pa_cons (pv 16) (pa_cons (pv 6) (pa_cons (pv 10) (pa_cons (pv 11) (pa_cons (pv 8) pa_nil))))))))) (pss_one (ps_ret pe_bl)) pss_nil)))))))))))))))))
      (pss_one (ps_ret pe_bl)), ?_⟩
    have sz2 : 2 ≤ sizeLine := by decide
    refine ⟨_, rfl, a, _, rfl, .inl hS, _, _, rfl, _, _, rfl, _, rfl, ?_, ?_, ?_⟩
    · repeat' split <;> omega
    · repeat' split <;> omega
    refine for_range (lo := 0) (fun i σ H' => ∃ v1 v2 v3 v4 v5 v6 v7 v8 v9 v10 v11 v12 v13 v14 v15 v16 v17 : Option V, σ = [some (.ref a), v1, v2, v3, v4, v5, v6, v7, v8, v9, v10, v11, v12, v13, v14, v15, v16, v17] ∧ Same H H') ⟨_, _, _, _, _, _, _, _, _, _, _, _, _, _, _, _, _, rfl, Same.refl _⟩ ?_ ?_
    · rintro i σ H1 hi ⟨v1, v2, v3, v4, v5, v6, v7, v8, v9, v10, v11, v12, v13, v14, v15, v16, v17, rfl, s1⟩
      have hi2 : (i : Int) < 1000 := by
        have : (i : Nat) < 1000 := Nat.lt_of_lt_of_le hi (by repeat' split <;> omega)
        omega
      refine ⟨_, rfl, _, rfl, a, ns, _, rfl, s1.seq hS, hlen, by omega, by omega, fun p H2 hp s2 P2 => ?_⟩
      have S02 := s1.trans s2
      have hp0 : H p = none := s1.free hp
      have W0 := Wk.start P2
      refine ⟨_, rfl, p, _, 2, rfl, W0.s, by omega, by decide, by decide, fun r1 o1 r10 r11 hp1 => ⟨_, _, rfl, rfl, ?_⟩⟩
      have W1 := W0.src hp1
      obtain ⟨k, hk, k1, k2⟩ : ∃ k : Nat, 1 + r1 = (k : Int) ∧ 1 ≤ k ∧ k ≤ 2 := ⟨(1 + r1).toNat, by omega, by omega, by omega⟩
      show gName 3 (V.int (1 + r1)) _ _ _
      rw [hk]
      refine ⟨_, rfl, _, rfl, _, _, rfl, rfl, _, rfl, p, _, 8, rfl, W1.s, by omega, by decide, by decide, fun r2 o2 r20 r21 hp2 => ⟨_, _, rfl, rfl, ?_⟩⟩
      have W2 := W1.src hp2
      obtain ⟨m, rfl⟩ : ∃ m : Nat, r2 = (m : Int) := ⟨r2.toNat, by omega⟩
      refine ⟨p, _, k + 1 + m, rfl, W2.s, by omega, by omega, fun b ws H5 wl nd nm hb eb d5 => ?_⟩
      have W3 := ((W2.trans d5).know eb (W2.d.ne hb) (W2.no hb)).up (show _ ≤ 20 by omega)
      refine gen_hp (F := fun G => Wk H2 p 20 [(b, .lst (ws.map V.str))] [] G) W3 (fun G W => ?_)
      clear W3 W2 W1 W0 hb eb d5
      refine ⟨_, rfl, _, rfl, k, rfl, b, _, rfl, SqL.of (W.at 0 rfl), fun n0 hn0 => ⟨n0, ws.take k, rfl, SqL.of (by rw [cut_take]; exact upd_same), fun Pk b0 pm up hb0 => .inl ⟨b0, _, rfl, SqL.of upd_same, fun t1 ht1 => ?_⟩⟩⟩
      have W6 := W.new' (o := .lst (cutV (ws.map V.str) none (some (k : Int)))) hn0
      have W7 := W6.new' (o := .lst (Pk.map V.str)) hb0
      have W8 := W7.new (o := .tup (Pk.map V.str)) ht1
      refine ⟨_, rfl, _, rfl, k, rfl, b, _, rfl, SqL.of (W8.at 1 rfl), fun n1 hn1 => ?_⟩
      have ndT : (ws.take k).Nodup := nd.sublist (List.take_sublist _ _)
      have ndD : (ws.drop k).Nodup := nd.sublist (List.drop_sublist _ _)
      have dis : ∀ x ∈ ws.take k, ∀ y ∈ ws.drop k, x ≠ y := by
        have z : (ws.take k ++ ws.drop k).Nodup := by rw [List.take_append_drop]; exact nd
        exact (List.nodup_append.mp z).2.2
      have pu := up ndT
      have lP : Pk.length = k := by rw [pm.length_eq, List.length_take]; omega
      have pn : ∀ y ∈ Pk, Nm y := fun y hy => nm y (List.take_subset _ _ (pm.mem_iff.mp hy))
      have nn : ∀ y ∈ ws.drop k, Nm y ∧ y ∉ Pk := fun y hy => ⟨nm y (List.drop_subset _ _ hy), fun h' => dis _ (pm.mem_iff.mp h') _ hy rfl⟩
      have lN : (ws.drop k).length = 1 + m := by rw [List.length_drop]; omega
      rw [cut_drop (by omega)] at *
      generalize ws.drop k = N at *
      have W9 := W8.new (o := .lst (N.map V.str)) hn1
      have WA := (W9.addR (v := .ref t1) (keyable_nms Pk) (.tup (W9.at 1 rfl) (dats_strs Pk))).sub (F' := [(n1, .lst (N.map V.str))]) (.cons₂ _ (.cons _ (.cons _ .slnil)))
      refine ⟨_, _, rfl, ?_⟩
      refine gen_hp (F := fun G => Wk H2 p 20 [(n1, .lst (N.map V.str))] [(V.ref t1, nmsD Pk)] G) WA (fun G W => ?_)
      clear WA W9 W8 W7 W6 hn1 hn0 hb0 ht1 ndT dis
      -- pick, shares
      refine ⟨_, rfl, _, rfl, _, rfl, p, _, k, rfl, W.s, by omega, by omega, by omega, fun r3 o3 r30 r31 hp3 => ?_⟩
      have W1 := W.src hp3
      obtain ⟨v3', hv3, hm3, _⟩ := at_ok (xs := Pk.map V.str) r30 (by rw [List.length_map, lP]; exact r31)
      obtain ⟨x, xP, rfl⟩ := List.mem_map.mp hm3
      refine ⟨t1, _, r3, _, rfl, rfl, SqT.of (nms_get (W1.row 0 rfl)), hv3, (by show 3 ≤ sizeLine; decide), fun l3 hl3 => ?_⟩
      have W2 := W1.new (o := .lst ([1, 5, 9].map V.int)) hl3
      refine ⟨_, rfl, p, _, 3, rfl, W2.s, by omega, by decide, by decide, fun r4 o4 r40 r41 hp4 => ?_⟩
      have W3 := W2.src hp4
      obtain ⟨v4', hv4, hm4, _⟩ := at_ok (xs := ([1, 5, 9] : List Int).map V.int) r40 (by simpa using r41)
      obtain ⟨sh, hsh, rfl⟩ := List.mem_map.mp hm4
      have sh0 : 1 ≤ sh ∧ sh ≤ 9 := by
        simp only [List.mem_cons, List.not_mem_nil, or_false] at hsh
        rcases hsh with h | h | h <;> omega
      refine ⟨l3, _, r4, _, rfl, rfl, SqL.of (W3.at 0 rfl), hv4, sz2, fun tz htz => ⟨tz, _, rfl, SqT.of upd_same, rfl, _, _, rfl, _, _, rfl, rfl, ?_⟩⟩
      have W4 := (W3.new' (o := .tup [V.str x, .int sh]) htz).sub (F' := [(n1, .lst (N.map V.str))]) (.cons _ (.refl _))
      refine gen_hp (F := fun G => Wk H2 p 22 [(n1, .lst (N.map V.str))] [(V.ref t1, nmsD Pk)] G) (W4.up (by omega)) (fun G W => ?_)
      clear W4 W3 W2 W1 htz hl3
      -- blind
      refine ⟨_, rfl, n1, rfl, ⟨_, SqL.of (W.at 0 rfl)⟩, fun D1 hD1 => ?_⟩
      have hD10 := W.free hD1
      refine lc_list (K := K) (a := n1) (xs := N.map V.str) (fun j H4 => ∃ bs : List Str, Wk H2 p (22 + j) [(D1, .lst (bs.map V.str)), (n1, .lst (N.map V.str))] [(V.ref t1, nmsD Pk)] H4 ∧ bs.Sublist (N.take j)) ⟨[], W.new hD1, List.nil_sublist _⟩ (fun j H4 _ ⟨_, W, _⟩ => SqL.of (W.at 1 rfl)) ?_ ?_
      · rintro j y H4 hy ⟨bs, W, sb⟩
        rw [List.getElem?_map] at hy
        obtain ⟨z, hz, rfl⟩ := Option.map_eq_some_iff.mp hy
        have jl : j < N.length := (List.getElem?_eq_some_iff.mp hz).1
        have lb : bs.length ≤ 8 := Nat.le_trans sb.length_le (by rw [List.length_take]; omega)
        have no : ∀ {c : Nat} {G : Hp}, Wk H2 p c [(D1, .lst (bs.map V.str)), (n1, .lst (N.map V.str))] [(V.ref t1, nmsD Pk)] G → c ≤ 22 + (j + 1) → ∃ bs : List Str, Wk H2 p (22 + (j + 1)) [(D1, .lst (bs.map V.str)), (n1, .lst (N.map V.str))] [(V.ref t1, nmsD Pk)] G ∧ bs.Sublist (N.take (j + 1)) := fun {c G} W hc => ⟨bs, W.up hc, by rw [take_next hz]; exact sb.trans (List.sublist_append_left _ _)⟩
        refine ⟨rfl, _, rfl, _, _, rfl, rfl, _, rfl, ?_⟩
        show if decide (sh > 1) = true then _ else _
        by_cases hg : sh > 1
        · rw [if_pos (decide_eq_true hg)]
          refine ⟨_, rfl, _, rfl, p, _, sh, rfl, W.s, by omega, by omega, by omega, fun r5 o5 r50 r51 hp5 => ⟨rfl, _, rfl, ?_⟩⟩
          have W5 := W.src hp5
          refine gen_hp (F := fun G => Wk H2 p (22 + j + 1) [(D1, .lst (bs.map V.str)), (n1, .lst (N.map V.str))] [(V.ref t1, nmsD Pk)] G) W5 (fun G W5 => ?_)
          show if decide (V.int r5 = V.int 0) = true then _ else _
          by_cases h0 : decide (V.int r5 = V.int 0) = true
          · rw [if_pos h0]
            refine ⟨_, rfl, _, W5.at 0 rfl, by rw [List.length_map]; exact small1000 (by omega), bs ++ [z], ?_, by rw [take_next hz]; exact sb.append (List.Sublist.refl _)⟩
            rw [List.map_append]
            exact (W5.put (o' := .lst (bs.map V.str ++ [V.str z])) 0 rfl hD10 lst_nt).up (by omega)
          · rw [if_neg h0]
            exact no W5 (by omega)
        · rw [if_neg (by rw [decide_eq_false hg]; decide)]
          show if false = true then _ else _
          rw [if_neg (by decide)]
          exact no W (by omega)
      rintro H4 ⟨bs, W, sb⟩
      rw [List.length_map, lN] at W
      have sb2 := sb.trans (List.take_sublist _ _)
      have W := W.up (show 22 + (1 + m) ≤ 30 by omega)
      -- row
      refine ⟨_, rfl, _, rfl, _, rfl, _, _, rfl, .inl (SqL.of (W.at 1 rfl)), p, _, _, rfl, W.s, by omega, by rw [List.length_map]; omega, by rw [List.length_map]; omega, fun r6 o6 r60 r61 hp6 => ?_⟩
      rw [List.length_map] at r61
      have W1 := W.src hp6
      obtain ⟨ρ, rfl⟩ : ∃ ρ : Nat, r6 = (ρ : Int) := ⟨r6.toNat, by omega⟩
      refine ⟨ρ, rfl, n1, _, rfl, SqL.of (W1.at 1 rfl), fun nr hnr => ?_⟩
      rw [cut_drop (by omega)] at *
      have rs : (N.drop ρ).Sublist N := List.drop_sublist _ _
      have r0 : 0 < (N.drop ρ).length := by rw [List.length_drop]; omega
      generalize N.drop ρ = row at *
      have lr : row.length ≤ 8 := by have := rs.length_le; omega
      have W2 := W1.new (o := .lst (row.map V.str)) hnr
      refine gen_hp (F := fun G => Wk H2 p 31 [(nr, .lst (row.map V.str)), (D1, .lst (bs.map V.str)), (n1, .lst (N.map V.str))] [(V.ref t1, nmsD Pk)] G) W2 (fun G W => ?_)
      clear W2 W1 hnr
      -- blind, of the row
      refine ⟨_, rfl, D1, rfl, ⟨_, SqL.of (W.at 1 rfl)⟩, fun D2 hD2 => ?_⟩
      have lbs : bs.length ≤ 8 := by have := sb2.length_le; omega
      refine lc_filt (K := K) (f := fun y => decide (y ∈ row)) (W.at 1 rfl) hD2 (by omega) (fun y H4 S4 Q qq => ?_) (fun _ => rfl) (fun _ => rfl) fun H5 e5 S5 => ?_
      · refine ⟨_, rfl, _, rfl, nr, _, rfl, .inl (SqL.of (S4 _ _ (W.at 0 rfl))), rfl, flat_strs _, _, rfl, ?_⟩
        show Q (inV (V.str y) (row.map V.str)) H4
        rw [inV_str]
        exact qq
      have W1 := ((W.same S5).know e5 (W.d.ne hD2) (W.no hD2)).sub (F' := [(D2, .lst ((bs.filter fun y => decide (y ∈ row)).map V.str)), (nr, .lst (row.map V.str)), (n1, .lst (N.map V.str))]) (.cons₂ _ (.cons₂ _ (.cons _ (.refl _))))
      have Bm : ∀ b ∈ bs.filter (fun y => decide (y ∈ row)), b ∈ row := fun b hb => of_decide_eq_true (List.mem_filter.mp hb).2
      have B8 : (bs.filter fun y => decide (y ∈ row)).length ≤ 8 := Nat.le_trans (List.length_filter_le _ _) lbs
      generalize (bs.filter fun y => decide (y ∈ row)) = Bl at W1 Bm B8
      clear W e5 hD2
      -- letters
      refine ⟨_, rfl, nr, rfl, ⟨_, SqL.of (W1.at 1 rfl)⟩, fun D3 hD3 => ?_⟩
      have hD30 := W1.free hD3
      refine lc_list (K := K) (a := nr) (xs := row.map V.str) (fun j H4 => ∃ (T : List TRow) (L : List Ltr), T.map Prod.snd = L.map ltD ∧ L.map Prod.fst = row.take j ∧ Wk H2 p (31 + j) [(D3, .lst (T.map TRow.v)), (D2, .lst (Bl.map V.str)), (nr, .lst (row.map V.str)), (n1, .lst (N.map V.str))] ([(V.ref t1, nmsD Pk)] ++ rowR T) H4)
        ⟨[], [], rfl, rfl, W1.new hD3⟩ (fun j H4 _ ⟨_, _, _, _, W⟩ => SqL.of (W.at 2 rfl)) ?_ ?_
      · rintro j y H4 hy ⟨T, L, eT, eL, W⟩
        rw [List.getElem?_map] at hy
        obtain ⟨z, hz, rfl⟩ := Option.map_eq_some_iff.mp hy
        have jl : j < row.length := (List.getElem?_eq_some_iff.mp hz).1
        refine ⟨rfl, yes_of ⟨_, rfl, _, rfl, p, _, 2, rfl, W.s, by omega, by decide, by decide, fun r7 o7 _ _ hp7 => ⟨rfl, sz2, fun t ht => ?_⟩⟩⟩
        have W5 := W.src hp7
        have W6 := W5.new (o := .tup [.str z, .bl (decide (V.int r7 = V.int 0))]) ht
        have lT : T.length = j := by
          rw [← List.length_map (f := Prod.snd), eT, List.length_map, ← List.length_map (f := Prod.fst), eL, List.length_take]
          omega
        have Dl : Dat (upd (upd H4 p o7) t (.tup [.str z, .bl (decide (V.int r7 = V.int 0))])) (.ref t) (ltD (z, decide (V.int r7 = V.int 0))) := .tup upd_same (.cons (.str _) (.cons (.bl _) .nil))
        have W7 := ((W6.sub (F' := [(D3, .lst (T.map TRow.v)), (D2, .lst (Bl.map V.str)), (nr, .lst (row.map V.str)), (n1, .lst (N.map V.str))]) (.cons _ (.refl _))).snoc (q := (t, ltD (z, decide (V.int r7 = V.int 0)))) rfl Dl).put (o' := .lst (T.map TRow.v ++ [.ref t])) 0 rfl hD30 lst_nt
        refine ⟨_, W6.at 1 rfl, by rw [List.length_map, lT]; exact small1000 (by omega), T ++ [(t, ltD (z, decide (V.int r7 = V.int 0)))], L ++ [(z, decide (V.int r7 = V.int 0))], by rw [List.map_append, List.map_append, eT]; rfl, by rw [List.map_append, eL, take_next hz]; rfl, ?_⟩
        rw [List.map_append]
        exact W7.up (by omega)
      rintro H6 ⟨T, L, eT, Lr, W⟩
      rw [List.length_map] at Lr W
      rw [List.take_length] at Lr
      clear W1
      refine ⟨(by show 0 ≤ sizeLine; decide), fun lw0 hlw0 => ⟨_, _, rfl, ?_⟩⟩
      have W1 := (W.new (o := .lst (([] : List Nat).map iV)) hlw0).up (show _ ≤ 40 by omega)
      refine gen_hp (F := fun G => Wk H2 p 40 [(lw0, .lst (([] : List Nat).map iV)), (D3, .lst (T.map TRow.v)), (D2, .lst (Bl.map V.str)), (nr, .lst (row.map V.str)), (n1, .lst (N.map V.str))] ([(V.ref t1, nmsD Pk)] ++ rowR T) G) W1 (fun G W => ?_)
      clear W1
      -- wrong
      dsimp only []
      refine gen_seq (fun σ' G => ∃ (lw : Addr) (wr : List Nat), σ' = [some (.ref a), some (.int (0 + (i : Int))), some (.ref p), some (.int (k : Int)), some (.ref n1), some (.ref t1), some (.str x), some (.int sh), some (.ref D2), some (.ref nr), some (.ref D3), some (.ref lw), v12, v13, v14, v15, v16, v17] ∧
        (∀ i ∈ wr, i < row.length) ∧ Wk H2 p 50 [(lw, .lst (wr.map iV)), (D3, .lst (T.map TRow.v)), (D2, .lst (Bl.map V.str)), (nr, .lst (row.map V.str)), (n1, .lst (N.map V.str))] ([(V.ref t1, nmsD Pk)] ++ rowR T) G) (fun D' kk => ?_) ?_
      · refine ⟨_, rfl, p, _, 3, rfl, W.s, by omega, by decide, by decide, fun r8 o8 _ _ hp8 => ⟨rfl, _, rfl, ?_⟩⟩
        have W2 := W.src hp8
        refine gen_hp (F := fun G => Wk H2 p 41 [(lw0, .lst (([] : List Nat).map iV)), (D3, .lst (T.map TRow.v)), (D2, .lst (Bl.map V.str)), (nr, .lst (row.map V.str)), (n1, .lst (N.map V.str))] ([(V.ref t1, nmsD Pk)] ++ rowR T) G) W2 (fun G W => ?_)
        clear W2
        have no := kk _ _ ⟨lw0, [], rfl, fun i hi => absurd hi (by simp), W.up (by omega)⟩
        show if decide (V.int r8 = V.int 0) = true then _ else _
        by_cases h0 : decide (V.int r8 = V.int 0) = true
        · rw [if_pos h0]
          refine ⟨_, rfl, _, _, rfl, .inl (SqL.of (W.at 3 rfl)), _, _, rfl, rfl, _, rfl, ?_⟩
          refine ite2 (fun _ => ?_) (fun _ => no)
          refine ⟨_, rfl, _, _, rfl, .inl (SqL.of (W.at 3 rfl)), _, rfl, by omega, by rw [List.length_map]; omega, fun D4 hD4 => ?_⟩
          have hD40 := W.free hD4
          refine lc_range (lo := 0) (n := ((row.map V.str).length : Int).toNat) (fun j H4 => ∃ wr : List Nat, (∀ i ∈ wr, i < j) ∧ wr.length ≤ j ∧ j ≤ row.length ∧ Wk H2 p (41 + j) [(D4, .lst (wr.map iV)), (lw0, .lst (([] : List Nat).map iV)), (D3, .lst (T.map TRow.v)), (D2, .lst (Bl.map V.str)), (nr, .lst (row.map V.str)), (n1, .lst (N.map V.str))] ([(V.ref t1, nmsD Pk)] ++ rowR T) H4)
            ⟨[], fun i hi => absurd hi (by simp), Nat.le_refl _, Nat.zero_le _, W.new hD4⟩ ?_ ?_
          · rintro j H4 hj ⟨wr, wl, ww, jr, W⟩
            have jl : j < row.length := by
              rw [Int.toNat_natCast, List.length_map] at hj
              exact hj
            refine ⟨rfl, _, rfl, p, _, 4, rfl, W.s, by omega, by decide, by decide, fun r9 o9 _ _ hp9 => ⟨rfl, _, rfl, ?_⟩⟩
            have W5 := W.src hp9
            refine gen_hp (F := fun G => Wk H2 p (41 + j + 1) [(D4, .lst (wr.map iV)), (lw0, .lst (([] : List Nat).map iV)), (D3, .lst (T.map TRow.v)), (D2, .lst (Bl.map V.str)), (nr, .lst (row.map V.str)), (n1, .lst (N.map V.str))] ([(V.ref t1, nmsD Pk)] ++ rowR T) G) W5 (fun G W5 => ?_)
            show if decide (V.int r9 = V.int 0) = true then _ else _
            by_cases h9 : decide (V.int r9 = V.int 0) = true
            · rw [if_pos h9]
              refine ⟨_, rfl, _, W5.at 0 rfl, by rw [List.length_map]; exact small1000 (by omega), wr ++ [j], fun i hi => ?_, by rw [List.length_append]; show wr.length + 1 ≤ j + 1; omega, jl, ?_⟩
              · rcases List.mem_append.mp hi with z | z
                · have := wl i z
                  omega
                · have := List.mem_singleton.mp z
                  omega
              · have W6 := W5.put (o' := .lst (wr.map iV ++ [V.int (0 + (j : Int))])) 0 rfl hD40 lst_nt
                rw [Int.zero_add] at W6 ⊢
                rw [List.map_append]
                exact W6.up (by omega)
            · rw [if_neg h9]
              exact ⟨wr, fun i hi => by have := wl i hi; omega, by omega, jl, W5.up (by omega)⟩
          · rintro H4 ⟨wr, wl, _, jr, W⟩
            rw [Int.toNat_natCast, List.length_map] at wl W
            exact kk _ _ ⟨D4, wr, rfl, wl, (W.sub (F' := [(D4, .lst (wr.map iV)), (D3, .lst (T.map TRow.v)), (D2, .lst (Bl.map V.str)), (nr, .lst (row.map V.str)), (n1, .lst (N.map V.str))]) (.cons₂ _ (.cons _ (.refl _)))).up (by omega)⟩
        · rw [if_neg h0]
          show if false = true then _ else _
          rw [if_neg (by decide)]
          exact no
      rintro σ' G2 ⟨lw, wr, rfl, wl, W⟩
      have lL : L.length = row.length := by rw [← Lr, List.length_map]
      have fr : Frm Pk N row Bl x L wr := ⟨pu, pn, by omega, xP, nn, ndD, by omega, rs, r0, Bm, Lr, by rw [lL]; exact wl⟩
      have nmz : ∀ y, y ∈ N → y ∉ Pk := fun y hy => (nn y hy).2
      refine ⟨_, rfl, _, rfl, _, rfl, x, D3, lw, T, L, wr, rfl, ⟨W.at 1 rfl, eT, W.rr⟩, W.at 0 rfl, by omega, by omega, by rw [Lr]; exact ndD.sublist rs, by rw [Lr]; exact fun z => nmz x (rs.subset z) xP, fun lC Tc0 cls0 H7 S7 hlC cs lcs hcs => ⟨(by show 0 ≤ sizeLine; decide), fun lO hlO => ⟨_, _, rfl, ?_⟩⟩⟩
      have hlC0 := W.free hlC
      have hlO0 := (W.same S7).free hlO
      have W7 := ((W.same S7).know cs.e (W.d.ne hlC) (W.no hlC)).new (o := .lst ([] : List V)) hlO
      have Wa := W7.rows (R' := [(V.ref t1, nmsD Pk)] ++ rowR (T ++ Tc0)) fun z hz => by
        rcases List.mem_append.mp hz with h | h
        · exact .inl (List.mem_append_left _ h)
        · obtain ⟨q', hq', rfl⟩ := rowR_mem h
          rcases List.mem_append.mp hq' with h2 | h2
          · exact .inl (List.mem_append_right _ (List.mem_map.mpr ⟨q', h2, rfl⟩))
          · exact .inr ⟨cs.key h2, (cs.D q' h2).same (same_new hlO)⟩
      have cg0 : ∀ cl ∈ cls0, GoodCl Pk N x L wr cl := fun cl hcl => by
        obtain ⟨i, hi⟩ := List.getElem?_of_mem hcl
        have il := (List.getElem?_eq_some_iff.mp hi).1
        obtain ⟨c', h1, h2⟩ := hcs i (by omega)
        rw [hi] at h1
        cases h1
        exact .inl ⟨i, by omega, h2⟩
      have cc0 : ∀ i, i ≤ L.length → ∃ cl ∈ cls0, CP cl (ahd x L wr i) (nxt x L i) := fun i hi => by
        obtain ⟨c', h1, h2⟩ := hcs i hi
        exact ⟨c', List.mem_of_getElem? h1, h2⟩
      have eTc0 := cs.d
      refine gen_hp (F := fun G => Wk H2 p 50 [(lO, .lst ([] : List V)), (lC, .lst (Tc0.map TRow.v)), (lw, .lst (wr.map iV)), (D3, .lst (T.map TRow.v)), (D2, .lst (Bl.map V.str)), (nr, .lst (row.map V.str)), (n1, .lst (N.map V.str))] ([(V.ref t1, nmsD Pk)] ++ rowR (T ++ Tc0)) G) Wa (fun G W => ?_)
      clear Wa W7 cs hlO S7 hcs
      -- owns and other clauses
      refine ⟨_, rfl, n1, N, rfl, SqL.of (W.at 6 rfl), fun zs b1 pmz upz hb1 => ⟨b1, rfl, ⟨_, SqL.of upd_same⟩, ?_⟩⟩
      have zu := upz ndD
      have lz : zs.length ≤ 8 := by rw [pmz.length_eq]; omega
      have W1 := (W.new (o := .lst (zs.map V.str)) hb1).sub (F' := [(b1, .lst (zs.map V.str)), (lO, .lst ([] : List V)), (lC, .lst (Tc0.map TRow.v)), (lw, .lst (wr.map iV)), (D3, .lst (T.map TRow.v)), (D2, .lst (Bl.map V.str))]) (.cons₂ _ (.cons₂ _ (.cons₂ _ (.cons₂ _ (.cons₂ _ (.cons₂ _ (.cons _ (.cons _ .slnil))))))))
      have hc00 : cls0.length ≤ 9 := by omega
      refine for_list (K := K) (a := b1) (xs := zs.map V.str) (fun j σ G => ∃ (RR Tc To : List TRow) (cls : List (List Ltr)) (o14 o15 : Option V), σ = [some (.ref a), some (.int (0 + (i : Int))), some (.ref p), some (.int (k : Int)), some (.ref n1), some (.ref t1), some (.str x), some (.int sh), some (.ref D2), some (.ref nr), some (.ref D3), some (.ref lw), some (.ref lC), some (.ref lO), o14, o15, v16, v17] ∧
        (∀ q ∈ T, q ∈ RR) ∧ (∀ q ∈ Tc, q ∈ RR) ∧ (∀ q ∈ To, q ∈ RR) ∧ Tc.map Prod.snd = cls.map clD ∧ To.map Prod.snd = ((zs.take j).map fun nm => ((nm, sgt Pk Bl x nm) : Own)).map ownD ∧ (∀ cl ∈ cls, GoodCl Pk N x L wr cl) ∧ (∀ i, i ≤ L.length → ∃ cl ∈ cls, CP cl (ahd x L wr i) (nxt x L i)) ∧ cls.length ≤ 9 + j ∧
        Wk H2 p (50 + 3 * j) [(b1, .lst (zs.map V.str)), (lO, .lst (To.map TRow.v)), (lC, .lst (Tc.map TRow.v)), (lw, .lst (wr.map iV)), (D3, .lst (T.map TRow.v)), (D2, .lst (Bl.map V.str))] ([(V.ref t1, nmsD Pk)] ++ rowR RR) G)
        ⟨T ++ Tc0, Tc0, [], cls0, _, _, rfl, fun q hq => List.mem_append_left _ hq, fun q hq => List.mem_append_right _ hq, fun q hq => absurd hq (by simp), eTc0, rfl, cg0, cc0, hc00, W1⟩ (fun j σ G _ ⟨_, _, _, _, _, _, _, _, _, _, _, _, _, _, _, W⟩ => SqL.of (W.at 0 rfl)) ?_ ?_
      · rintro j y σ G hy ⟨RR, Tc, To, cls, o14, o15, rfl, mT, mC, mO, eTc, eTo, cg, cc, lcl, W⟩
        rw [List.getElem?_map] at hy
        obtain ⟨z, hz, rfl⟩ := Option.map_eq_some_iff.mp hy
        have jl : j < zs.length := (List.getElem?_eq_some_iff.mp hz).1
        have zN : z ∈ N := pmz.mem_iff.mp (List.mem_of_getElem? hz)
        have lTo : To.length = j := by
          have e := congrArg List.length eTo
          rw [List.length_map, List.length_map, List.length_map, List.length_take] at e
          omega
        have lTc : Tc.length = cls.length := by
          have e := congrArg List.length eTc
          rw [List.length_map, List.length_map] at e
          exact e
        have hP2 : Pk.length ≤ 2 := by omega
        refine ⟨_, rfl, .inl ⟨rfl, _, SqL.of (W.at 1 rfl)⟩, _, rfl, _, rfl, t1, rfl, ⟨_, SqT.of (nms_get (W.row 0 rfl))⟩, fun D5 hD5 => ?_⟩
        refine lc_filtT (K := K) (f := fun y => decide (y ≠ x) || decide (z ∉ Bl)) (nms_get (W.row 0 rfl)) hD5 (by omega) (fun y H4 S4 Q qq => ?_) (fun _ => rfl) (fun _ => rfl) fun H8 e8 S8 => ?_
        · refine ⟨_, rfl, _, rfl, rfl, _, rfl, ?_⟩
          show if (!decide (V.str y = V.str x)) = true then _ else _
          by_cases hyx : y = x
          · rw [if_neg (by rw [hyx, decide_eq_true rfl]; decide)]
            refine ⟨_, rfl, _, rfl, D2, _, rfl, .inl (SqL.of (S4 _ _ (W.at 5 rfl))), rfl, flat_strs _, _, rfl, ?_⟩
            show Q (!inV (V.str z) (Bl.map V.str)) H4
            rw [inV_str]
            have e : (decide (y ≠ x) || decide (z ∉ Bl)) = !decide (z ∈ Bl) := by simp [hyx]
            rw [e] at qq
            exact qq
          · rw [if_pos (by rw [decide_eq_false (fun q => hyx (by injection q))]; rfl)]
            have e : (decide (y ≠ x) || decide (z ∉ Bl)) = true := by simp [hyx]
            rw [e] at qq
            exact qq
        refine .inl ⟨D5, _, rfl, SqL.of e8, fun ts hts => ⟨sz2, fun to hto => ?_⟩⟩
        have W8 := W.same S8
        have W9 := W8.new' (o := .tup ((Pk.filter fun y => decide (y ≠ x) || decide (z ∉ Bl)).map V.str)) hts
        have WA := W9.new' (o := .tup [.str z, .ref ts]) hto
        have Dts : Dat (upd H8 ts (.tup ((Pk.filter fun y => decide (y ≠ x) || decide (z ∉ Bl)).map V.str))) (.ref ts) (nmsD (sgt Pk Bl x z)) := .tup upd_same (dats_strs _)
        have Dto : Dat (upd (upd H8 ts (.tup ((Pk.filter fun y => decide (y ≠ x) || decide (z ∉ Bl)).map V.str))) to (.tup [.str z, .ref ts])) (.ref to) (ownD (z, sgt Pk Bl x z)) := .tup upd_same (.cons (.str _) (.cons (dat_new hto Dts) .nil))
        refine ⟨lO, _, _, rfl, rfl, WA.at 1 rfl, by rw [List.length_map]; exact small1000 (by omega), ?_⟩
        have WB := (WA.snoc (q := (to, ownD (z, sgt Pk Bl x z))) (keyable_own _) Dto).put (o' := .lst (To.map TRow.v ++ [.ref to])) 1 rfl hlO0 lst_nt
        refine gen_hp (F := fun G => Wk H2 p (50 + 3 * j) [(b1, .lst (zs.map V.str)), (lO, .lst ((To ++ [(to, ownD (z, sgt Pk Bl x z))]).map TRow.v)), (lC, .lst (Tc.map TRow.v)), (lw, .lst (wr.map iV)), (D3, .lst (T.map TRow.v)), (D2, .lst (Bl.map V.str))] ([(V.ref t1, nmsD Pk)] ++ rowR (RR ++ [(to, ownD (z, sgt Pk Bl x z))])) G)
          (by rw [List.map_append]; exact WB) (fun G W => ?_)
        have eTo2 : (To ++ [(to, ownD (z, sgt Pk Bl x z))]).map Prod.snd = ((zs.take (j + 1)).map fun nm => ((nm, sgt Pk Bl x nm) : Own)).map ownD := by
          rw [List.map_append, eTo, take_next hz, List.map_append, List.map_append]
          rfl
        have mT2 : ∀ q ∈ T, q ∈ RR ++ [(to, ownD (z, sgt Pk Bl x z))] := fun q hq => List.mem_append_left _ (mT q hq)
        have mC2 : ∀ q ∈ Tc, q ∈ RR ++ [(to, ownD (z, sgt Pk Bl x z))] := fun q hq => List.mem_append_left _ (mC q hq)
        have mO2 : ∀ q ∈ To ++ [(to, ownD (z, sgt Pk Bl x z))], q ∈ RR ++ [(to, ownD (z, sgt Pk Bl x z))] := fun q hq => by
          rcases List.mem_append.mp hq with h | h
          · exact List.mem_append_left _ (mO q h)
          · exact List.mem_append_right _ h
        generalize To ++ [(to, ownD (z, sgt Pk Bl x z))] = To2 at W eTo2 mO2
        generalize RR ++ [(to, ownD (z, sgt Pk Bl x z))] = RR2 at W mT2 mC2 mO2
        clear WB Dto Dts WA W9 W8 S8 e8 hD5 hts hto mT mC mO eTo lTo
        refine ⟨_, rfl, _, _, rfl, rfl, _, rfl, ?_⟩
        show if decide ((k : Int) > 1) = true then _ else _
        by_cases hk1 : (k : Int) > 1
        · rw [if_pos (decide_eq_true hk1)]
          refine ⟨_, rfl, p, _, 3, rfl, W.s, by omega, by decide, by decide, fun r5 o5 _ _ hp5 => ⟨rfl, _, rfl, ?_⟩⟩
          have W1 := W.src hp5
          refine gen_hp (F := fun G => Wk H2 p (50 + 3 * j + 1) [(b1, .lst (zs.map V.str)), (lO, .lst (To2.map TRow.v)), (lC, .lst (Tc.map TRow.v)), (lw, .lst (wr.map iV)), (D3, .lst (T.map TRow.v)), (D2, .lst (Bl.map V.str))] ([(V.ref t1, nmsD Pk)] ++ rowR RR2) G) W1 (fun G W => ?_)
          clear W1
          show if decide (V.int r5 = V.int 0) = true then _ else _
          by_cases h0 : decide (V.int r5 = V.int 0) = true
          · rw [if_pos h0]
            obtain ⟨y0, rest, ey0, y0P, y0x⟩ := other_one pu (show 1 < Pk.length by omega)
            refine ⟨_, rfl, t1, rfl, ⟨_, SqT.of (nms_get (W.row 0 rfl))⟩, fun D6 hD6 => ?_⟩
            refine lc_filtT (K := K) (f := fun y => decide (y ≠ x)) (nms_get (W.row 0 rfl)) hD6 (by omega) (fun y H4 S4 Q qq => ?_) (fun _ => rfl) (fun _ => rfl) fun H9 e9 S9 => ?_
            · refine ⟨_, rfl, _, rfl, rfl, _, rfl, ?_⟩
              show Q (!decide (V.str y = V.str x)) H4
              have e : (!decide (V.str y = V.str x)) = decide (y ≠ x) := by
                by_cases hyx : y = x
                · simp [hyx]
                · simp [hyx]
              rw [e]
              exact qq
            rw [ey0] at e9
            refine ⟨D6, _, 0, V.str y0, rfl, rfl, SqL.of e9, atI_nat (xs := (y0 :: rest).map V.str) (j := 0) rfl, ?_⟩
            have W1 := W.same S9
            refine gen_hp (F := fun G => Wk H2 p (50 + 3 * j + 1) [(b1, .lst (zs.map V.str)), (lO, .lst (To2.map TRow.v)), (lC, .lst (Tc.map TRow.v)), (lw, .lst (wr.map iV)), (D3, .lst (T.map TRow.v)), (D2, .lst (Bl.map V.str))] ([(V.ref t1, nmsD Pk)] ++ rowR RR2) G) W1 (fun G W => ?_)
            clear W1 S9 e9 hD6
            refine ⟨_, rfl, .inl ⟨rfl, _, SqL.of (W.at 2 rfl)⟩, _, rfl, _, rfl, p, _, 2, rfl, W.s, by omega, by decide, by decide, fun r6 o6 _ _ hp6 => ⟨rfl, sz2, fun ta hta => ?_⟩⟩
            have W1 := W.src hp6
            have W2 := W1.new (o := .tup [.str y0, .bl (decide (V.int r6 = V.int 0))]) hta
            generalize decide (V.int r6 = V.int 0) = ba at W2
            refine gen_hp (F := fun G => Wk H2 p (50 + 3 * j + 2) [(ta, .tup [.str y0, .bl ba]), (b1, .lst (zs.map V.str)), (lO, .lst (To2.map TRow.v)), (lC, .lst (Tc.map TRow.v)), (lw, .lst (wr.map iV)), (D3, .lst (T.map TRow.v)), (D2, .lst (Bl.map V.str))] ([(V.ref t1, nmsD Pk)] ++ rowR RR2) G) W2 (fun G W => ?_)
            clear W2 W1
            refine ⟨_, rfl, _, rfl, p, _, 2, rfl, W.s, by omega, by decide, by decide, fun r7 o7 _ _ hp7 => ⟨rfl, sz2, fun tb htb => ⟨sz2, fun tl htl => ?_⟩⟩⟩
            have W1 := W.src hp7
            have W2 := W1.new (o := .tup [.str z, .bl (decide (V.int r7 = V.int 0))]) htb
            generalize decide (V.int r7 = V.int 0) = bb at W2 htl ⊢
            have Da : Dat (upd (upd G p o7) tb (.tup [.str z, .bl bb])) (.ref ta) (ltD (y0, ba)) := .tup (W2.at 1 rfl) (.cons (.str _) (.cons (.bl _) .nil))
            have Db : Dat (upd (upd G p o7) tb (.tup [.str z, .bl bb])) (.ref tb) (ltD (z, bb)) := .tup (W2.at 0 rfl) (.cons (.str _) (.cons (.bl _) .nil))
            have W3 := W2.sub (F' := [(b1, .lst (zs.map V.str)), (lO, .lst (To2.map TRow.v)), (lC, .lst (Tc.map TRow.v)), (lw, .lst (wr.map iV)), (D3, .lst (T.map TRow.v)), (D2, .lst (Bl.map V.str))]) (.cons _ (.cons _ (.refl _)))
            generalize upd (upd G p o7) tb (.tup [.str z, .bl bb]) = G3 at W3 Da Db htl ⊢
            clear W2 W1 W htb hta
            refine ⟨tl, [(ta, ltD (y0, ba)), (tb, ltD (z, bb))], rfl, SqL.of upd_same, fun q hq => ?_, two_sorty, fun T2 b9 pm9 _ up9 hb9 => .inl ⟨b9, _, rfl, SqL.of upd_same, fun tt htt => ?_⟩⟩
            · rcases List.mem_cons.mp hq with rfl | hq
              · exact dat_new htl Da
              · cases List.mem_singleton.mp hq
                exact dat_new htl Db
            have S2 := (same_new (o := .lst [V.ref ta, .ref tb]) htl).trans ((same_new (o := .lst (T2.map TRow.v)) hb9).trans (same_new (o := .tup (T2.map TRow.v)) htt))
            obtain ⟨cl, ecl, cp⟩ := two_sorted (a := (y0, ba)) (b := (z, bb)) (fun e => nmz z zN (by have e2 : y0 = z := e; rw [← e2]; exact y0P)) pm9 up9
            have Dcl : Dat (upd (upd (upd G3 tl (.lst [V.ref ta, .ref tb])) b9 (.lst (T2.map TRow.v))) tt (.tup (T2.map TRow.v))) (.ref tt) (clD cl) := by
              refine .tup upd_same ?_
              show DatAll _ _ (cl.map ltD)
              rw [← ecl]
              refine dats_rows fun q hq => ?_
              have m9 := pm9.mem_iff.mp hq
              rcases List.mem_cons.mp m9 with rfl | m9
              · exact Da.same S2
              · cases List.mem_singleton.mp m9
                exact Db.same S2
            have W4 := W3.same S2
            generalize upd (upd (upd G3 tl (.lst [V.ref ta, .ref tb])) b9 (.lst (T2.map TRow.v))) tt (.tup (T2.map TRow.v)) = G4 at W4 Dcl ⊢
            refine ⟨lC, _, _, rfl, rfl, W4.at 2 rfl, by rw [List.length_map]; exact small1000 (by omega), ?_⟩
            have W5 := (W4.snoc (q := (tt, clD cl)) (keyable_cl _) Dcl).put (o' := .lst (Tc.map TRow.v ++ [.ref tt])) 2 rfl hlC0 lst_nt
            refine ⟨RR2 ++ [(tt, clD cl)], Tc ++ [(tt, clD cl)], To2, cls ++ [cl], _, _, rfl, fun q hq => List.mem_append_left _ (mT2 q hq), fun q hq => ?_, fun q hq => List.mem_append_left _ (mO2 q hq), by rw [List.map_append, List.map_append, eTc]; rfl, eTo2, fun c hc => ?_, fun i hi => ?_, by rw [List.length_append]; show cls.length + 1 ≤ 9 + (j + 1); omega, ?_⟩
            · rcases List.mem_append.mp hq with h | h
              · exact List.mem_append_left _ (mC2 q h)
              · exact List.mem_append_right _ h
            · rcases List.mem_append.mp hc with h | h
              · exact cg c h
              · cases List.mem_singleton.mp h
                exact .inr ⟨y0, y0P, y0x, z, zN, ba, bb, cp⟩
            · obtain ⟨c, h1, h2⟩ := cc i hi
              exact ⟨c, List.mem_append_left _ h1, h2⟩
            · rw [List.map_append (l₁ := Tc)]
              exact W5.up (by omega)
          · rw [if_neg h0]
            exact ⟨RR2, Tc, To2, cls, _, _, rfl, mT2, mC2, mO2, eTc, eTo2, cg, cc, by omega, W.up (by omega)⟩
        · rw [if_neg (by rw [decide_eq_false hk1]; decide)]
          show if false = true then _ else _
          rw [if_neg (by decide)]
          exact ⟨RR2, Tc, To2, cls, _, _, rfl, mT2, mC2, mO2, eTc, eTo2, cg, cc, by omega, W.up (by omega)⟩
      · rintro σ G ⟨RR, Tc, To, cls, o14, o15, rfl, mT, mC, mO, eTc, eTo, cg, cc, lcl, W⟩
        rw [List.length_map, List.take_length] at eTo
        rw [List.length_map] at lcl W
        have lTc : Tc.length = cls.length := by
          have e := congrArg List.length eTc
          rw [List.length_map, List.length_map] at e
          exact e
        have kc : ∀ q ∈ Tc, keyable q.2 = true := fun q hq => by
          have mm : q.2 ∈ cls.map clD := eTc ▸ List.mem_map_of_mem hq
          obtain ⟨c, _, e⟩ := List.mem_map.mp mm
          rw [← e]
          exact keyable_cl c
        have so : Sorty Tc := sorty_of eTc alike_cl (fun c => ⟨_, rfl⟩) (fun c => by have := depth_cl c; omega)
        refine ⟨_, rfl, _, rfl, .inl ⟨lO, _, rfl, SqL.of (W.at 1 rfl), fun tO htO => ?_⟩⟩
        have W1 := W.new (o := .tup (To.map TRow.v)) htO
        refine ⟨_, rfl, lC, Tc, rfl, SqL.of (W1.at 3 rfl), fun q hq => W1.rr q (mC q hq), so, kc, by omega, fun sA T' hsA h1 h2 nd' => ?_⟩
        have W2 := W1.new' (o := SetNO w sA (T'.map TRow.n)) hsA
        refine ⟨sA, T', rfl, upd_same, fun q hq => W2.rr q (mC q (h1 q hq)), so.sub h1, fun q hq => kc q (h1 q hq), fun T9 b9 pm9 up9 hb9 => .inl ⟨b9, _, rfl, SqL.of upd_same, fun tC htC => ⟨(by show 3 ≤ sizeLine; decide), fun tS htS => ?_⟩⟩⟩
        have W3 := W2.new' (o := .lst (T9.map TRow.v)) hb9
        have W4 := W3.new (o := .tup (T9.map TRow.v)) htC
        have W5 := W4.new (o := .tup [V.ref t1, .ref tO, .ref tC]) htS
        obtain ⟨cls', e9, cu, cm, cle⟩ := cls_sorted eTc h1 h2 nd' pm9 up9
        have okS := fr.ok pmz zu cu (fun c hc => cg c ((cm c).mp hc)) (by omega)
        have snS := fr.seen pmz (fun c hc => cg c ((cm c).mp hc)) (fun i hi => by
          obtain ⟨c, h, h'⟩ := cc i hi
          exact ⟨c, (cm c).mpr h, h'⟩)
        generalize hG5 : upd (upd (upd (upd (upd G tO (.tup (To.map TRow.v))) sA (SetNO w sA (T'.map TRow.n))) b9 (.lst (T9.map TRow.v))) tC (.tup (T9.map TRow.v))) tS (.tup [V.ref t1, .ref tO, .ref tC]) = G5 at W5
        have Dcs : Dat G5 (.ref tC) (.tuple (cls'.map clD)) := by
          rw [← e9]
          exact .tup (W5.at 1 rfl) (dats_rows fun q hq => W5.rr q (mC q (h1 q (pm9.mem_iff.mp hq))))
        have Dos : Dat G5 (.ref tO) (.tuple ((zs.map fun nm => ((nm, sgt Pk Bl x nm) : Own)).map ownD)) := by
          rw [← eTo]
          exact .tup (W5.at 2 rfl) (dats_rows fun q hq => W5.rr q (mO q hq))
        have DS : Dat G5 (.ref tS) (frmS Pk Bl zs x cls').d := .tup (W5.at 0 rfl) (.cons (W5.row 0 rfl) (.cons Dos (.cons Dcs .nil)))
        have W6 := ((W5.sub (F' := [(lw, .lst (wr.map iV)), (D3, .lst (T.map TRow.v)), (D2, .lst (Bl.map V.str))]) (.cons _ (.cons _ (.cons _ (.cons _ (.cons _ (.cons _ (.refl _)))))))).rows (R' := [(V.ref tS, (frmS Pk Bl zs x cls').d)] ++ rowR T) fun z hz => by
          rcases List.mem_append.mp hz with h | h
          · cases List.mem_singleton.mp h
            exact .inr ⟨keyable_say _, DS⟩
          · obtain ⟨q', hq', rfl⟩ := rowR_mem h
            exact .inl (List.mem_append_right _ (List.mem_map.mpr ⟨q', mT q' hq', rfl⟩))).up (show _ ≤ 80 by omega)
        refine gen_hp (F := fun G => Wk H2 p 80 [(lw, .lst (wr.map iV)), (D3, .lst (T.map TRow.v)), (D2, .lst (Bl.map V.str))] ([(V.ref tS, (frmS Pk Bl zs x cls').d)] ++ rowR T) G) (hG5 ▸ W6) (fun G W => ?_)
        clear W6 DS Dos Dcs W5 W4 W3 W2 W1 htS htC hb9 hsA htO hG5
        have pS : (frmS Pk Bl zs x cls').picks.length ≤ 2 := fr.p2
        generalize frmS Pk Bl zs x cls' = sy at W okS snS pS
        refine ⟨_, rfl, _, rfl, _, rfl, _, rfl, _, rfl, .ref tS, sy, x, D3, lw, D2, T, L, wr, Bl, rfl, W.row 0 rfl, okS, snS, ⟨W.at 1 rfl, eT, W.rr⟩, W.at 0 rfl, W.at 2 rfl, fun G' S' => ⟨true, rfl, notT ?_⟩⟩
        have W := W.same S'
        refine ⟨_, rfl, _, rfl, _, rfl, _, rfl, _, rfl, _, rfl, p, _, .ref tS, sy, x, D3, lw, D2, T, L, wr, Bl, rfl, ⟨Dr.start W.s, ⟨W.at 1 rfl, eT, W.rr⟩, W.at 0 rfl, W.at 2 rfl, W.row 0 rfl, W.np 1 rfl, W.np 0 rfl, W.np 2 rfl⟩, by omega, okS, pS, snS, B8, fun G9 d9 => ⟨true, rfl, notT ?_⟩⟩
        exact ⟨_, _, _, _, _, _, _, _, _, _, _, _, _, _, _, _, _, rfl, same_of_del hp0 S02 (W.trans d9).d.m⟩
    · rintro σ H1 ⟨v1, v2, v3, v4, v5, v6, v7, v8, v9, v10, v11, v12, v13, v14, v15, v16, v17, rfl, s1⟩
      exact q H1
end
end S3

set_option Elab.async false
set_option linter.all false
set_option maxRecDepth 100000
set_option maxHeartbeats 4000000
/-! all that the text has written -/
namespace S1
open PySem PySem.Spec PyProof.Rows L2
/-- a def of the text stands under its name at f -/
def HasE (K : PySem.W.Frag) (x : Str) (st : Stmt) (f : Addr) : Prop :=
  PySem.W.nsIn K mainGlobals x = some (some (.ref f)) ∧ (∃ (oc : Value) (od : Option Addr) (kV doc pm : Value) (an : Option Addr) (cdv ct : Value) (osl : Array (Option Value)), K.lookup f = some ⟨oc, od, .func (PySem.W.fnOf x x (defArgs st) (defBody st) (defScope st) .none kV doc pm an cdv ct), osl⟩ ∧ PySem.W.codeIn K cdv x = true) ∧ PySem.W.keepIn K (.ref f) = true
theorem has_of {K : PySem.W.Frag} {h : Heap} {mg : Str → Option Value} {x : Str} {st : Stmt} {f : Addr} {ps : List Str} (X : K.In h) (G : h.Ns mainGlobals mg) (e : HasE K x st f)
    (hb : ∀ (kV doc pm : Value) (an : Option Addr) (cdv ct : Value) (us : List Value), us.length = ps.length → bindArgs (PySem.W.fnOf x x (defArgs st) (defBody st) (defScope st) .none kV doc pm an cdv ct) ⟨us, []⟩ = pure (ps.zip us)) : ∃ fd, Has K mg x st ps f fd := by
  obtain ⟨e1, ⟨oc, od, kV, doc, pm, an, cdv, ct, osl, e2, e3⟩, e4⟩ := e
  have F := fun_mk (st := st) e2 e3 e4
  exact ⟨_, F, PySem.W.mg_of X G e1, F.binds hb⟩
theorem all_mk {l : PySem.W.OpenLaw} {w : World} {K : PySem.W.Frag} {h : Heap} {mg : Str → Option Value} {fa fL f_y_isTruth f_y_isTuple f_y_isPair f_y_isRising f_y_isName f_y_isLetter f_y_isAnyClause f_y_areNames f_y_isSight f_y_isOwn f_y_areOwns f_y_isClauseOver f_y_areClauses f_y_namesOf f_y_fitsSaying f_w_saying f_u_own f_u_pick f_o_Rn f_o_Vw f_o_Bs f_o_Ar f_o_Pa f_o_Hb f_o_Io f_o_Ai f_o_Ws f_o_Le f_o_Mo f_o_Re f_o_Ha f_o_Id f_o_Al f_o_Ic f_o_IH f_o_IP f_o_Wo f_o_Wi f_o_Po f_o_Pk f_o_Nn f_o_LS f_o_LC f_o_FT f_o_FF f_o_Ri f_o_Ot : Addr} {t0 t1 t2 t3 t4 t5 : Tok} {fI eC eS : Addr} (X : K.In h) (G : h.Ns mainGlobals mg) (hfa : mg "law" = some (.ref fa))
    (h_y_isTruth : HasE K "is_truth" sIsTruth f_y_isTruth)
    (h_y_isTuple : HasE K "is_tuple" sIsTuple f_y_isTuple)
    (h_y_isPair : HasE K "is_pair" sIsPair f_y_isPair)
    (h_y_isRising : HasE K "is_rising" sIsRising f_y_isRising)
    (h_y_isName : HasE K "is_name" sIsName f_y_isName)
    (h_y_isLetter : HasE K "is_letter" sIsLetter f_y_isLetter)
    (h_y_isAnyClause : HasE K "is_any_clause" sIsAnyClause f_y_isAnyClause)
    (h_y_areNames : HasE K "are_names" sAreNames f_y_areNames)
    (h_y_isSight : HasE K "is_sight" sIsSight f_y_isSight)
    (h_y_isOwn : HasE K "is_own" sIsOwn f_y_isOwn)
    (h_y_areOwns : HasE K "are_owns" sAreOwns f_y_areOwns)
    (h_y_isClauseOver : HasE K "is_clause_over" sIsClauseOver f_y_isClauseOver)
    (h_y_areClauses : HasE K "are_clauses" sAreClauses f_y_areClauses)
    (h_y_namesOf : HasE K "names_of" sNamesOf f_y_namesOf)
    (h_y_fitsSaying : HasE K "fits_saying" sFitsSaying f_y_fitsSaying)
    (h_w_saying : HasE K "want_saying" sWantSaying f_w_saying)
    (h_u_own : HasE K "want_own" sWantOwn f_u_own)
    (h_u_pick : HasE K "want_pick" sWantPick f_u_pick)
    (h_o_Rn : HasE K "renewed" sRenewed f_o_Rn)
    (h_o_Vw : HasE K "viewers_of" sViewersOf f_o_Vw)
    (h_o_Bs : HasE K "letters_beside" sBeside f_o_Bs)
    (h_o_Ar : HasE K "all_reached" sAllReached f_o_Ar)
    (h_o_Pa : HasE K "paper_of" sPaperOf f_o_Pa)
    (h_o_Hb : HasE K "hangs_by" sHangsBy f_o_Hb)
    (h_o_Io : HasE K "idle_owns" sIdleOwns f_o_Io)
    (h_o_Ai : HasE K "all_idle" sAllIdle f_o_Ai)
    (h_o_Ws : HasE K "with_sights" sWithSights f_o_Ws)
    (h_o_Le : HasE K "less_seen" sLess f_o_Le)
    (h_o_Mo : HasE K "more_seen" sMore f_o_Mo)
    (h_o_Re : HasE K "reached" sReached f_o_Re)
    (h_o_Ha : HasE K "hangs" sHangs f_o_Ha)
    (h_o_Id : HasE K "idle" sIdle f_o_Id)
    (h_o_Al : HasE K "are_letters_of" sAreLetters f_o_Al)
    (h_o_Ic : HasE K "is_closed" sIsClosed f_o_Ic)
    (h_o_IH : HasE K "idle_holds" sIdleHolds f_o_IH)
    (h_o_IP : HasE K "idle_paper" sIdlePaper f_o_IP)
    (h_o_Wo : HasE K "without_sight" sWithout f_o_Wo)
    (h_o_Wi : HasE K "with_sight" sWith f_o_Wi)
    (h_o_Po : HasE K "_law_pot" sPot f_o_Po)
    (h_o_Pk : HasE K "_law_draw" sDraw f_o_Pk)
    (h_o_Nn : HasE K "_law_names" sLNames f_o_Nn)
    (h_o_LS : HasE K "_law_same" sLSame f_o_LS)
    (h_o_LC : HasE K "_law_clauses" sLClauses f_o_LC)
    (h_o_FT : HasE K "_law_from_true" sLFromT f_o_FT)
    (h_o_FF : HasE K "_law_from_false" sLFromF f_o_FF)
    (h_o_Ri : HasE K "_law_right" sLRight f_o_Ri)
    (h_o_Ot : HasE K "_law_others_right" sLOthers f_o_Ot)
    (hL : HasE K "law" sLaw fL)
    (c0 : PySem.W.nsIn K mainGlobals "SMALL" = some (some (.str "abcdefghijklmnopqrstuvwxyz" t0)))
    (c1 : PySem.W.nsIn K mainGlobals "MOST_SIGNS" = some (some (.int 8 t1)))
    (c2 : PySem.W.nsIn K mainGlobals "MOST_PICKS" = some (some (.int 6 t2)))
    (c3 : PySem.W.nsIn K mainGlobals "MOST_OWNS" = some (some (.int 8 t3)))
    (c4 : PySem.W.nsIn K mainGlobals "MOST_CLAUSES" = some (some (.int 40 t4)))
    (c5 : PySem.W.nsIn K mainGlobals "MOST_COPIES" = some (some (.int 120 t5)))
    (zlen : PySem.W.nsIn K mainGlobals "len" = some none)
    (zsum : PySem.W.nsIn K mainGlobals "sum" = some none)
    (zint : PySem.W.nsIn K mainGlobals "int" = some none)
    (zmax : PySem.W.nsIn K mainGlobals "max" = some none)
    (zmin : PySem.W.nsIn K mainGlobals "min" = some none)
    (zabs : PySem.W.nsIn K mainGlobals "abs" = some none)
    (zstr : PySem.W.nsIn K mainGlobals "str" = some none)
    (zbool : PySem.W.nsIn K mainGlobals "bool" = some none)
    (zdict : PySem.W.nsIn K mainGlobals "dict" = some none)
    (zlist : PySem.W.nsIn K mainGlobals "list" = some none)
    (zset : PySem.W.nsIn K mainGlobals "set" = some none)
    (ztuple : PySem.W.nsIn K mainGlobals "tuple" = some none)
    (zsorted : PySem.W.nsIn K mainGlobals "sorted" = some none)
    (zzip : PySem.W.nsIn K mainGlobals "zip" = some none)
    (zall : PySem.W.nsIn K mainGlobals "all" = some none)
    (zrange : PySem.W.nsIn K mainGlobals "range" = some none)
    (zisinstance : PySem.W.nsIn K mainGlobals "isinstance" = some none)
    (zenumerate : PySem.W.nsIn K mainGlobals "enumerate" = some none)
    (zrepr : PySem.W.nsIn K mainGlobals "repr" = some none)
    (zany : PySem.W.nsIn K mainGlobals "any" = some none)
    (cC : PySem.W.nsIn K mainGlobals "InvalidSaying" = some (some (.ref eC)))
    (cS : PySem.W.nsIn K mainGlobals "SightError" = some (some (.ref eS)))
    (eI : ∃ (oc : Value) (od : Option Addr) (kV doc pm : Value) (an : Option Addr) (cdv ct : Value) (osl : Array (Option Value)), PySem.W.findIn K (.ref eS) "__init__" = some (some (.ref fI)) ∧ K.lookup fI = some ⟨oc, od, .func (PySem.W.fnOf "__init__" "SightError.__init__" (defArgs sInit) (defBody sInit) (defScope sInit) .none kV doc pm an cdv ct), osl⟩ ∧ PySem.W.codeIn K cdv "SightError.__init__" = true ∧ PySem.W.keepIn K (.ref fI) = true ∧ PySem.W.typeIn K (.ref fI) = some (.type "function"))
    (xC : ∃ nm q N bs bm sn sub ab col dd k0 k1 k2 k3 k5, K.lookup eC = some (excClassObj nm q eC N bs bm true sn sub ab col dd k0 k1 k2 k3 k5 "ValueError.__new__") ∧ PySem.HandSPX.refsVE bm = true)
    (eb : errB K fI eC = true)
    (iC : PySem.W.kitOne K (.ref eC) (.ref eC) = some true)
    (iS : PySem.W.exmOne K (.ref eC) (.ref eS) = some true)
    (hn : PySem.W.specialIn K (.builtin "object.__class__") "__get__" = some (some (.builtin "getset_descriptor.__get__")))
    (ht : PySem.W.takesIn K (.builtin "object.__class__") = some true)
    : ∃ fd : FuncData, (∀ (s : Shared) (u : Value), BindsTo s fd ⟨[u], []⟩ [("script", u)]) ∧ ∀ base : Heap, K.In base → base.Ns mainGlobals mg → FnOkG l.prog w K mg base 11 fa fd ["script"] (spLaw K) := by
  obtain ⟨e1, ⟨oc, od, kV, doc, pm, an, cdv, ct, osl, e2, e3⟩, e4⟩ := hL
  have e := hfa.symm.trans (PySem.W.mg_of X G e1)
  cases e
  have FL := fun_mk (st := sLaw) e2 e3 e4
  obtain ⟨fd_y_isTruth, y_isTruth⟩ := has_of (ps := ["value"]) X G h_y_isTruth fun _ _ _ _ _ _ us hl => match us, hl with | [_], _ => rfl
  obtain ⟨fd_y_isTuple, y_isTuple⟩ := has_of (ps := ["value", "most"]) X G h_y_isTuple fun _ _ _ _ _ _ us hl => match us, hl with | [_, _], _ => rfl
  obtain ⟨fd_y_isPair, y_isPair⟩ := has_of (ps := ["value"]) X G h_y_isPair fun _ _ _ _ _ _ us hl => match us, hl with | [_], _ => rfl
  obtain ⟨fd_y_isRising, y_isRising⟩ := has_of (ps := ["parts"]) X G h_y_isRising fun _ _ _ _ _ _ us hl => match us, hl with | [_], _ => rfl
  obtain ⟨fd_y_isName, y_isName⟩ := has_of (ps := ["value"]) X G h_y_isName fun _ _ _ _ _ _ us hl => match us, hl with | [_], _ => rfl
  obtain ⟨fd_y_isLetter, y_isLetter⟩ := has_of (ps := ["value"]) X G h_y_isLetter fun _ _ _ _ _ _ us hl => match us, hl with | [_], _ => rfl
  obtain ⟨fd_y_isAnyClause, y_isAnyClause⟩ := has_of (ps := ["value"]) X G h_y_isAnyClause fun _ _ _ _ _ _ us hl => match us, hl with | [_], _ => rfl
  obtain ⟨fd_y_areNames, y_areNames⟩ := has_of (ps := ["value", "most"]) X G h_y_areNames fun _ _ _ _ _ _ us hl => match us, hl with | [_, _], _ => rfl
  obtain ⟨fd_y_isSight, y_isSight⟩ := has_of (ps := ["value", "picks"]) X G h_y_isSight fun _ _ _ _ _ _ us hl => match us, hl with | [_, _], _ => rfl
  obtain ⟨fd_y_isOwn, y_isOwn⟩ := has_of (ps := ["value", "picks"]) X G h_y_isOwn fun _ _ _ _ _ _ us hl => match us, hl with | [_, _], _ => rfl
  obtain ⟨fd_y_areOwns, y_areOwns⟩ := has_of (ps := ["value", "picks"]) X G h_y_areOwns fun _ _ _ _ _ _ us hl => match us, hl with | [_, _], _ => rfl
  obtain ⟨fd_y_isClauseOver, y_isClauseOver⟩ := has_of (ps := ["value", "names"]) X G h_y_isClauseOver fun _ _ _ _ _ _ us hl => match us, hl with | [_, _], _ => rfl
  obtain ⟨fd_y_areClauses, y_areClauses⟩ := has_of (ps := ["value", "names"]) X G h_y_areClauses fun _ _ _ _ _ _ us hl => match us, hl with | [_, _], _ => rfl
  obtain ⟨fd_y_namesOf, y_namesOf⟩ := has_of (ps := ["picks", "owns"]) X G h_y_namesOf fun _ _ _ _ _ _ us hl => match us, hl with | [_, _], _ => rfl
  obtain ⟨fd_y_fitsSaying, y_fitsSaying⟩ := has_of (ps := ["value"]) X G h_y_fitsSaying fun _ _ _ _ _ _ us hl => match us, hl with | [_], _ => rfl
  obtain ⟨fd_w_saying, w_saying⟩ := has_of (ps := ["saying"]) X G h_w_saying fun _ _ _ _ _ _ us hl => match us, hl with | [_], _ => rfl
  obtain ⟨fd_u_own, u_own⟩ := has_of (ps := ["saying", "name"]) X G h_u_own fun _ _ _ _ _ _ us hl => match us, hl with | [_, _], _ => rfl
  obtain ⟨fd_u_pick, u_pick⟩ := has_of (ps := ["saying", "pick"]) X G h_u_pick fun _ _ _ _ _ _ us hl => match us, hl with | [_, _], _ => rfl
  obtain ⟨fd_o_Rn, o_Rn⟩ := has_of (ps := ["value"]) X G h_o_Rn fun _ _ _ _ _ _ us hl => match us, hl with | [_], _ => rfl
  obtain ⟨fd_o_Vw, o_Vw⟩ := has_of (ps := ["saying", "pick"]) X G h_o_Vw fun _ _ _ _ _ _ us hl => match us, hl with | [_, _], _ => rfl
  obtain ⟨fd_o_Bs, o_Bs⟩ := has_of (ps := ["saying", "viewers", "letter"]) X G h_o_Bs fun _ _ _ _ _ _ us hl => match us, hl with | [_, _, _], _ => rfl
  obtain ⟨fd_o_Ar, o_Ar⟩ := has_of (ps := ["saying", "pick", "truth"]) X G h_o_Ar fun _ _ _ _ _ _ us hl => match us, hl with | [_, _, _], _ => rfl
  obtain ⟨fd_o_Pa, o_Pa⟩ := has_of (ps := ["saying", "pick"]) X G h_o_Pa fun _ _ _ _ _ _ us hl => match us, hl with | [_, _], _ => rfl
  obtain ⟨fd_o_Hb, o_Hb⟩ := has_of (ps := ["paper", "name"]) X G h_o_Hb fun _ _ _ _ _ _ us hl => match us, hl with | [_, _], _ => rfl
  obtain ⟨fd_o_Io, o_Io⟩ := has_of (ps := ["saying", "pick"]) X G h_o_Io fun _ _ _ _ _ _ us hl => match us, hl with | [_, _], _ => rfl
  obtain ⟨fd_o_Ai, o_Ai⟩ := has_of (ps := ["saying"]) X G h_o_Ai fun _ _ _ _ _ _ us hl => match us, hl with | [_], _ => rfl
  obtain ⟨fd_o_Ws, o_Ws⟩ := has_of (ps := ["saying", "sights"]) X G h_o_Ws fun _ _ _ _ _ _ us hl => match us, hl with | [_, _], _ => rfl
  obtain ⟨fd_o_Le, o_Le⟩ := has_of (ps := ["saying", "name", "pick"]) X G h_o_Le fun _ _ _ _ _ _ us hl => match us, hl with | [_, _, _], _ => rfl
  obtain ⟨fd_o_Mo, o_Mo⟩ := has_of (ps := ["saying", "name", "pick"]) X G h_o_Mo fun _ _ _ _ _ _ us hl => match us, hl with | [_, _, _], _ => rfl
  obtain ⟨fd_o_Re, o_Re⟩ := has_of (ps := ["saying", "pick", "truth"]) X G h_o_Re fun _ _ _ _ _ _ us hl => match us, hl with | [_, _, _], _ => rfl
  obtain ⟨fd_o_Ha, o_Ha⟩ := has_of (ps := ["saying", "name", "pick"]) X G h_o_Ha fun _ _ _ _ _ _ us hl => match us, hl with | [_, _, _], _ => rfl
  obtain ⟨fd_o_Id, o_Id⟩ := has_of (ps := ["saying"]) X G h_o_Id fun _ _ _ _ _ _ us hl => match us, hl with | [_], _ => rfl
  obtain ⟨fd_o_Al, o_Al⟩ := has_of (ps := ["value", "viewers"]) X G h_o_Al fun _ _ _ _ _ _ us hl => match us, hl with | [_, _], _ => rfl
  obtain ⟨fd_o_Ic, o_Ic⟩ := has_of (ps := ["saying", "viewers", "pick_letter", "letters"]) X G h_o_Ic fun _ _ _ _ _ _ us hl => match us, hl with | [_, _, _, _], _ => rfl
  obtain ⟨fd_o_IH, o_IH⟩ := has_of (ps := ["saying", "name", "pick", "value"]) X G h_o_IH fun _ _ _ _ _ _ us hl => match us, hl with | [_, _, _, _], _ => rfl
  obtain ⟨fd_o_IP, o_IP⟩ := has_of (ps := ["saying", "name", "pick"]) X G h_o_IP fun _ _ _ _ _ _ us hl => match us, hl with | [_, _, _], _ => rfl
  obtain ⟨fd_o_Wo, o_Wo⟩ := has_of (ps := ["saying", "name", "pick"]) X G h_o_Wo fun _ _ _ _ _ _ us hl => match us, hl with | [_, _, _], _ => rfl
  obtain ⟨fd_o_Wi, o_Wi⟩ := has_of (ps := ["saying", "name", "pick"]) X G h_o_Wi fun _ _ _ _ _ _ us hl => match us, hl with | [_, _, _], _ => rfl
  obtain ⟨fd_o_Po, o_Po⟩ := has_of (ps := ["script", "k"]) X G h_o_Po fun _ _ _ _ _ _ us hl => match us, hl with | [_, _], _ => rfl
  obtain ⟨fd_o_Pk, o_Pk⟩ := has_of (ps := ["pot", "top"]) X G h_o_Pk fun _ _ _ _ _ _ us hl => match us, hl with | [_, _], _ => rfl
  obtain ⟨fd_o_Nn, o_Nn⟩ := has_of (ps := ["pot", "size"]) X G h_o_Nn fun _ _ _ _ _ _ us hl => match us, hl with | [_, _], _ => rfl
  obtain ⟨fd_o_LS, o_LS⟩ := has_of (ps := ["told", "due"]) X G h_o_LS fun _ _ _ _ _ _ us hl => match us, hl with | [_, _], _ => rfl
  obtain ⟨fd_o_LC, o_LC⟩ := has_of (ps := ["pick", "letters", "wrong"]) X G h_o_LC fun _ _ _ _ _ _ us hl => match us, hl with | [_, _, _], _ => rfl
  obtain ⟨fd_o_FT, o_FT⟩ := has_of (ps := ["letters", "wrong", "blind"]) X G h_o_FT fun _ _ _ _ _ _ us hl => match us, hl with | [_, _, _], _ => rfl
  obtain ⟨fd_o_FF, o_FF⟩ := has_of (ps := ["letters", "wrong", "blind"]) X G h_o_FF fun _ _ _ _ _ _ us hl => match us, hl with | [_, _, _], _ => rfl
  obtain ⟨fd_o_Ri, o_Ri⟩ := has_of (ps := ["saying", "pick", "letters", "wrong", "blind"]) X G h_o_Ri fun _ _ _ _ _ _ us hl => match us, hl with | [_, _, _, _, _], _ => rfl
  obtain ⟨fd_o_Ot, o_Ot⟩ := has_of (ps := ["pot", "saying", "pick", "letters", "wrong", "blind"]) X G h_o_Ot fun _ _ _ _ _ _ us hl => match us, hl with | [_, _, _, _, _, _], _ => rfl
  have B : Blt mg := {len := PySem.W.mg_none_of X G zlen, sum := PySem.W.mg_none_of X G zsum, int := PySem.W.mg_none_of X G zint, max := PySem.W.mg_none_of X G zmax, min := PySem.W.mg_none_of X G zmin, abs := PySem.W.mg_none_of X G zabs, str := PySem.W.mg_none_of X G zstr, bool := PySem.W.mg_none_of X G zbool, dict := PySem.W.mg_none_of X G zdict, list := PySem.W.mg_none_of X G zlist, set := PySem.W.mg_none_of X G zset, tuple := PySem.W.mg_none_of X G ztuple, sorted := PySem.W.mg_none_of X G zsorted, zip := PySem.W.mg_none_of X G zzip, all := PySem.W.mg_none_of X G zall, range := PySem.W.mg_none_of X G zrange, isi := PySem.W.mg_none_of X G zisinstance}
  have nenumerate := PySem.W.mg_none_of X G zenumerate
  have nrepr := PySem.W.mg_none_of X G zrepr
  have nany := PySem.W.mg_none_of X G zany
  have C : Cst mg := {small := ⟨_, PySem.W.mg_of X G c0⟩, signs := ⟨_, PySem.W.mg_of X G c1⟩, picks := ⟨_, PySem.W.mg_of X G c2⟩, owns := ⟨_, PySem.W.mg_of X G c3⟩, clauses := ⟨_, PySem.W.mg_of X G c4⟩, copies := ⟨_, PySem.W.mg_of X G c5⟩}
  have Y : Shp K mg := {isTruth := ⟨_, _, y_isTruth⟩, isTuple := ⟨_, _, y_isTuple⟩, isPair := ⟨_, _, y_isPair⟩, isRising := ⟨_, _, y_isRising⟩, isName := ⟨_, _, y_isName⟩, isLetter := ⟨_, _, y_isLetter⟩, isAnyClause := ⟨_, _, y_isAnyClause⟩, areNames := ⟨_, _, y_areNames⟩, isSight := ⟨_, _, y_isSight⟩, isOwn := ⟨_, _, y_isOwn⟩, areOwns := ⟨_, _, y_areOwns⟩, isClauseOver := ⟨_, _, y_isClauseOver⟩, areClauses := ⟨_, _, y_areClauses⟩, namesOf := ⟨_, _, y_namesOf⟩, fitsSaying := ⟨_, _, y_fitsSaying⟩}
  have Wn : Wnt K mg := {saying := ⟨_, _, w_saying⟩}
  have W2 : Wnt2 K mg := {own := ⟨_, _, u_own⟩, pick := ⟨_, _, u_pick⟩}
  have ev : Env1 K mg := ⟨B, C, Y⟩
  refine ⟨PySem.W.fnOf "law" "law" (defArgs sLaw) (defBody sLaw) (defScope sLaw) .none kV doc pm an cdv ct, fun s v => .of_eq rfl, fun base _ _ => ?_⟩
  obtain ⟨_, _, _, _, _, _, _, _, _, i1, i2, i3, i4, i5⟩ := eI
  have FI := fun_mk (st := sInit) i2 i3 i4
  have Er : ErrS K mg fI _ eC eS := {c := errB_ok eb xC, gC := PySem.W.mg_of X G cC, gS := PySem.W.mg_of X G cS, F := FI, t := i5, hn := hn, ht := ht, iC := iC, iS := iS}
  have GNn : FnOk l.prog w K mg base CX0 2 _ _ ["pot", "size"] spNames := ok_names o_Nn.F o_Pk B
  have GAr : FnOk l.prog w K mg base CX0 2 _ _ ["saying", "pick", "truth"] spAllReached := ok_allReached o_Ar.F B o_Vw o_Bs
  have GPa : FnOk l.prog w K mg base CX0 3 _ _ ["saying", "pick"] spPaper := ok_paperOf o_Pa.F o_Ar GAr
  have GIo : FnOk l.prog w K mg base CX0 4 _ _ ["saying", "pick"] spIdleOwns := ok_idleOwns o_Io.F o_Pa o_Vw o_Hb GPa nany
  have GAi : FnOk l.prog w K mg base CX0 5 _ _ ["saying"] spAllIdle := ok_allIdle o_Ai.F B o_Io GIo
  have GLe : FnOk l.prog w K mg base CX0 2 _ _ ["saying", "name", "pick"] spLess := ok_less o_Le.F B o_Ws
  have GMo : FnOk l.prog w K mg base CX0 2 _ _ ["saying", "name", "pick"] spMore := ok_more o_Mo.F B o_Ws
  have GRe : FnOk l.prog w K mg base CX0 8 _ _ ["saying", "pick", "truth"] spReached := ok_reached o_Re.F ev Wn W2 o_Ar GAr
  have GHa : FnOk l.prog w K mg base CX0 8 _ _ ["saying", "name", "pick"] spHangs := ok_hangs o_Ha.F ev Wn W2 o_Pa o_Hb GPa nany
  have GId : FnOk l.prog w K mg base CX0 8 _ _ ["saying"] spAllIdle := ok_idle o_Id.F ev Wn o_Ai GAi
  have HLt : FnOk l.prog w K mg base CX0 2 _ _ ["value"] (S2.spJ S2.isLt) := S2.ok_isLetter y_isLetter.F y_isPair y_isName y_isTruth B ⟨C.small, C.signs, C.picks, C.owns, C.clauses, C.copies⟩
  have GAl : FnOk l.prog w K mg base CX0 3 _ _ ["value", "viewers"] S2.spAL := S2.ok_areLetters o_Al.F y_isLetter HLt y_isRising B
  have GIc : FnOk l.prog w K mg base CX0 2 _ _ ["saying", "viewers", "pick_letter", "letters"] S2.spClosed := S2.ok_isClosed o_Ic.F o_Bs B
  have GIH : FnOk l.prog w K mg base CX0 8 _ _ ["saying", "name", "pick", "value"] S2.spHolds := S2.ok_idleHolds o_IH.F ev Wn W2 o_Vw y_isPair o_Al GAl o_Hb o_Ic GIc nany
  have GIP : FnOk l.prog w K mg base CX0 8 _ _ ["saying", "name", "pick"] S2.spPaperOf := S2.ok_idlePaper o_IP.F ev Wn W2 o_Pa GPa o_Vw o_Hb nany
  have GWo : FnOk l.prog w K mg base CX0 8 _ _ ["saying", "name", "pick"] spWithout := ok_without o_Wo.F ev Wn W2 o_Le GLe
  have GWi : FnOk l.prog w K mg base (L2.CX l.prog w) 8 _ _ ["saying", "name", "pick"] (spWith eC) := ok_with o_Wi.F ev Wn W2 Er o_Mo GMo o_Rn
  have GWi2 : FnOk l.prog w K mg base CX0 8 _ _ ["saying", "name", "pick"] S3.spMore1 := S3.fn_with GWi
  have GLS : FnOkG l.prog w K mg base 1 _ _ ["told", "due"] spLSame := ok_lSame o_LS.F nrepr
  have GRi : FnOkG l.prog w K mg base 9 _ _ ["saying", "pick", "letters", "wrong", "blind"] S3.spRight := S3.ok_right o_Ri.F B o_FT o_FF nenumerate o_LS GLS o_Re GRe o_Ha GHa o_Id GId o_IP GIP o_IH GIH
  have GOt : FnOkG l.prog w K mg base 10 _ _ ["pot", "saying", "pick", "letters", "wrong", "blind"] S3.spOthers := S3.ok_others o_Ot.F B o_Pk o_Ri GRi o_Wi GWi2 o_Wo GWo
  exact S3.ok_law FL B nenumerate o_Po o_Pk o_Nn GNn o_LC o_Ri GRi o_Ot GOt
theorem walk {l : PySem.W.OpenLaw} {q : Program} {loose : List Str} {XP : (Str → Option Value) → Heap → Prop} {YP : World → Heap → Prop} {d : DefRec} {K : Params → PySem.W.Frag} (hn : l.most = some 63) (hdf : d.params.defaults = []) (hY : ∀ (w : World) (h : Heap), YP w h → (K w.params).In h)
    (F : ∀ (w : World) (mg : Str → Option Value) (fa : Addr) (h : Heap), (K w.params).In h → h.Ns mainGlobals mg → mg d.name = some (.ref fa) →
      ∃ fd : FuncData, (∀ (s : Shared) (u : Value), BindsTo s fd ⟨[u], []⟩ [("script", u)]) ∧ ∀ base : Heap, (K w.params).In base → base.Ns mainGlobals mg → FnOkG l.prog w (K w.params) mg base 11 fa fd ["script"] (spLaw (K w.params))) :
    PySem.W.WalkO q loose XP YP l.row.toRowW d [] (fun f vs => PySem.call f vs) :=
  walk_ofG (n := 63) (k := 11) (sp := spLaw) hn (by decide) hdf ⟨rfl, by decide, by decide⟩ hY F fun _ _ a ns hl _ hS => ⟨a, ns, rfl, hS, hl, fun _ => rfl⟩
end S1

open PySem PySem.W PyProof.Rows
set_option maxRecDepth 100000 in
set_option maxHeartbeats 0 in
theorem PySem.Challenge.cw_onlyseen_k49_whole_chains_of_letters_holds : PySem.Challenge.rw_onlyseen_k49_whole_chains_of_letters.Holds := by
  w_on; o_law; k_head; (case hw => w_witness2)
  k_fill
  refine S1.walk (l := PySem.Challenge.rw_onlyseen_k49_whole_chains_of_letters) rfl rfl (fun w h Y => PySem.W.kIn_of Y) ?F
  case F =>
    intro w mg fa h KX G hmg
    refine' S1.all_mk KX G hmg ?h_y_isTruth ?h_y_isTuple ?h_y_isPair ?h_y_isRising ?h_y_isName ?h_y_isLetter ?h_y_isAnyClause ?h_y_areNames ?h_y_isSight ?h_y_isOwn ?h_y_areOwns ?h_y_isClauseOver ?h_y_areClauses ?h_y_namesOf ?h_y_fitsSaying ?h_w_saying ?h_u_own ?h_u_pick ?h_o_Rn ?h_o_Vw ?h_o_Bs ?h_o_Ar ?h_o_Pa ?h_o_Hb ?h_o_Io ?h_o_Ai ?h_o_Ws ?h_o_Le ?h_o_Mo ?h_o_Re ?h_o_Ha ?h_o_Id ?h_o_Al ?h_o_Ic ?h_o_IH ?h_o_IP ?h_o_Wo ?h_o_Wi ?h_o_Po ?h_o_Pk ?h_o_Nn ?h_o_LS ?h_o_LC ?h_o_FT ?h_o_FF ?h_o_Ri ?h_o_Ot ?hL ?c0 ?c1 ?c2 ?c3 ?c4 ?c5 ?zlen ?zsum ?zint ?zmax ?zmin ?zabs ?zstr ?zbool ?zdict ?zlist ?zset ?ztuple ?zsorted ?zzip ?zall ?zrange ?zisinstance ?zenumerate ?zrepr ?zany ?cC ?cS ?eI ?xC ?eb ?iC ?iS ?hn ?ht
    (case h_y_isTruth => exact ⟨by k_is, ⟨_, _, _, _, _, _, _, _, _, by k_is, by k_is⟩, by k_is⟩)
    (case h_y_isTuple => exact ⟨by k_is, ⟨_, _, _, _, _, _, _, _, _, by k_is, by k_is⟩, by k_is⟩)
    (case h_y_isPair => exact ⟨by k_is, ⟨_, _, _, _, _, _, _, _, _, by k_is, by k_is⟩, by k_is⟩)
    (case h_y_isRising => exact ⟨by k_is, ⟨_, _, _, _, _, _, _, _, _, by k_is, by k_is⟩, by k_is⟩)
    (case h_y_isName => exact ⟨by k_is, ⟨_, _, _, _, _, _, _, _, _, by k_is, by k_is⟩, by k_is⟩)
    (case h_y_isLetter => exact ⟨by k_is, ⟨_, _, _, _, _, _, _, _, _, by k_is, by k_is⟩, by k_is⟩)
    (case h_y_isAnyClause => exact ⟨by k_is, ⟨_, _, _, _, _, _, _, _, _, by k_is, by k_is⟩, by k_is⟩)
    (case h_y_areNames => exact ⟨by k_is, ⟨_, _, _, _, _, _, _, _, _, by k_is, by k_is⟩, by k_is⟩)
    (case h_y_isSight => exact ⟨by k_is, ⟨_, _, _, _, _, _, _, _, _, by k_is, by k_is⟩, by k_is⟩)
    (case h_y_isOwn => exact ⟨by k_is, ⟨_, _, _, _, _, _, _, _, _, by k_is, by k_is⟩, by k_is⟩)
    (case h_y_areOwns => exact ⟨by k_is, ⟨_, _, _, _, _, _, _, _, _, by k_is, by k_is⟩, by k_is⟩)
    (case h_y_isClauseOver => exact ⟨by k_is, ⟨_, _, _, _, _, _, _, _, _, by k_is, by k_is⟩, by k_is⟩)
    (case h_y_areClauses => exact ⟨by k_is, ⟨_, _, _, _, _, _, _, _, _, by k_is, by k_is⟩, by k_is⟩)
    (case h_y_namesOf => exact ⟨by k_is, ⟨_, _, _, _, _, _, _, _, _, by k_is, by k_is⟩, by k_is⟩)
    (case h_y_fitsSaying => exact ⟨by k_is, ⟨_, _, _, _, _, _, _, _, _, by k_is, by k_is⟩, by k_is⟩)
    (case h_w_saying => exact ⟨by k_is, ⟨_, _, _, _, _, _, _, _, _, by k_is, by k_is⟩, by k_is⟩)
    (case h_u_own => exact ⟨by k_is, ⟨_, _, _, _, _, _, _, _, _, by k_is, by k_is⟩, by k_is⟩)
    (case h_u_pick => exact ⟨by k_is, ⟨_, _, _, _, _, _, _, _, _, by k_is, by k_is⟩, by k_is⟩)
    (case h_o_Rn => exact ⟨by k_is, ⟨_, _, _, _, _, _, _, _, _, by k_is, by k_is⟩, by k_is⟩)
    (case h_o_Vw => exact ⟨by k_is, ⟨_, _, _, _, _, _, _, _, _, by k_is, by k_is⟩, by k_is⟩)
    (case h_o_Bs => exact ⟨by k_is, ⟨_, _, _, _, _, _, _, _, _, by k_is, by k_is⟩, by k_is⟩)
    (case h_o_Ar => exact ⟨by k_is, ⟨_, _, _, _, _, _, _, _, _, by k_is, by k_is⟩, by k_is⟩)
    (case h_o_Pa => exact ⟨by k_is, ⟨_, _, _, _, _, _, _, _, _, by k_is, by k_is⟩, by k_is⟩)
    (case h_o_Hb => exact ⟨by k_is, ⟨_, _, _, _, _, _, _, _, _, by k_is, by k_is⟩, by k_is⟩)
    (case h_o_Io => exact ⟨by k_is, ⟨_, _, _, _, _, _, _, _, _, by k_is, by k_is⟩, by k_is⟩)
    (case h_o_Ai => exact ⟨by k_is, ⟨_, _, _, _, _, _, _, _, _, by k_is, by k_is⟩, by k_is⟩)
    (case h_o_Ws => exact ⟨by k_is, ⟨_, _, _, _, _, _, _, _, _, by k_is, by k_is⟩, by k_is⟩)
    (case h_o_Le => exact ⟨by k_is, ⟨_, _, _, _, _, _, _, _, _, by k_is, by k_is⟩, by k_is⟩)
    (case h_o_Mo => exact ⟨by k_is, ⟨_, _, _, _, _, _, _, _, _, by k_is, by k_is⟩, by k_is⟩)
    (case h_o_Re => exact ⟨by k_is, ⟨_, _, _, _, _, _, _, _, _, by k_is, by k_is⟩, by k_is⟩)
    (case h_o_Ha => exact ⟨by k_is, ⟨_, _, _, _, _, _, _, _, _, by k_is, by k_is⟩, by k_is⟩)
    (case h_o_Id => exact ⟨by k_is, ⟨_, _, _, _, _, _, _, _, _, by k_is, by k_is⟩, by k_is⟩)
    (case h_o_Al => exact ⟨by k_is, ⟨_, _, _, _, _, _, _, _, _, by k_is, by k_is⟩, by k_is⟩)
    (case h_o_Ic => exact ⟨by k_is, ⟨_, _, _, _, _, _, _, _, _, by k_is, by k_is⟩, by k_is⟩)
    (case h_o_IH => exact ⟨by k_is, ⟨_, _, _, _, _, _, _, _, _, by k_is, by k_is⟩, by k_is⟩)
    (case h_o_IP => exact ⟨by k_is, ⟨_, _, _, _, _, _, _, _, _, by k_is, by k_is⟩, by k_is⟩)
    (case h_o_Wo => exact ⟨by k_is, ⟨_, _, _, _, _, _, _, _, _, by k_is, by k_is⟩, by k_is⟩)
    (case h_o_Wi => exact ⟨by k_is, ⟨_, _, _, _, _, _, _, _, _, by k_is, by k_is⟩, by k_is⟩)
    (case h_o_Po => exact ⟨by k_is, ⟨_, _, _, _, _, _, _, _, _, by k_is, by k_is⟩, by k_is⟩)
    (case h_o_Pk => exact ⟨by k_is, ⟨_, _, _, _, _, _, _, _, _, by k_is, by k_is⟩, by k_is⟩)
    (case h_o_Nn => exact ⟨by k_is, ⟨_, _, _, _, _, _, _, _, _, by k_is, by k_is⟩, by k_is⟩)
    (case h_o_LS => exact ⟨by k_is, ⟨_, _, _, _, _, _, _, _, _, by k_is, by k_is⟩, by k_is⟩)
    (case h_o_LC => exact ⟨by k_is, ⟨_, _, _, _, _, _, _, _, _, by k_is, by k_is⟩, by k_is⟩)
    (case h_o_FT => exact ⟨by k_is, ⟨_, _, _, _, _, _, _, _, _, by k_is, by k_is⟩, by k_is⟩)
    (case h_o_FF => exact ⟨by k_is, ⟨_, _, _, _, _, _, _, _, _, by k_is, by k_is⟩, by k_is⟩)
    (case h_o_Ri => exact ⟨by k_is, ⟨_, _, _, _, _, _, _, _, _, by k_is, by k_is⟩, by k_is⟩)
    (case h_o_Ot => exact ⟨by k_is, ⟨_, _, _, _, _, _, _, _, _, by k_is, by k_is⟩, by k_is⟩)
    (case hL => exact ⟨by k_is, ⟨_, _, _, _, _, _, _, _, _, by k_is, by k_is⟩, by k_is⟩)
    (case c0 => k_is)
    (case c1 => k_is)
    (case c2 => k_is)
    (case c3 => k_is)
    (case c4 => k_is)
    (case c5 => k_is)
    (case zlen => k_is)
    (case zsum => k_is)
    (case zint => k_is)
    (case zmax => k_is)
    (case zmin => k_is)
    (case zabs => k_is)
    (case zstr => k_is)
    (case zbool => k_is)
    (case zdict => k_is)
    (case zlist => k_is)
    (case zset => k_is)
    (case ztuple => k_is)
    (case zsorted => k_is)
    (case zzip => k_is)
    (case zall => k_is)
    (case zrange => k_is)
    (case zisinstance => k_is)
    (case zenumerate => k_is)
    (case zrepr => k_is)
    (case zany => k_is)
    (case cC => k_is)
    (case cS => k_is)
    (case eI => exact ⟨_, _, _, _, _, _, _, _, _, by k_is, by k_is, by k_is, by k_is, by k_is⟩)
    (case xC => exact ⟨_, _, _, _, _, _, _, _, _, _, _, _, _, _, _, by k_is, by rfl⟩)
    (case hn => k_is)
    (case ht => k_is)
    (case eb => kernel_rfl)
    (case iC => kernel_rfl)
    (case iS => kernel_rfl)
