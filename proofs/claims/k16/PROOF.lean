import PyProof.Rows.All
import Wide.All
import OpenK.AllK
import Wide.FinOn
import HandS.ForMost
import HandS.ExcInit
import PyProof.ReprReads
import PyProof.ReprRoads
import HandS.Conv
import KE.KExcIs
import HandS.Defaults
import HandS.Wide
import KE.SortData
import KE.KeyNested
import HandS.TupSets
import PyProof.ListStr
import PyProof.Rows.CountFlat
import HandS.Style
import HandS.IsInst
import HandS.TupLe
import HandS.Iter
import KE.DataEq
import PySem.Challenge.RW_onlyseen_k16_plain_ones_and_twos_told
set_option Elab.async false
set_option linter.all false
set_option maxRecDepth 100000
set_option maxHeartbeats 4000000
namespace PySem
namespace KwX
open Builtin Builtin.ObjectAttr PySem.HandSPX
section
variable {M : Model} {A : Around} {E : Value → Shared → Prop} {h : Heap} {g : Array GenState} {d : Drawn} {t : Nat} {os : OsState}
variable {nm q : Str} {C N : Addr} {bs bm bmB : List Value} {hdct : Bool} {sn : List Str} {sub : List Value} {ab : Bool} {col : Option Bool} {dd : Option Addr} {k0 k1 k2 k3 k5 : Option Value} {B newId initId : String}
theorem check_new_kw (F : ExcBaseFacts B newId initId bmB) (hT : ∀ X : String, bm.contains (.type X) = bmB.contains (.type X)) {kx : Str} {kv : Value} {Q : Unit → Shared → Prop}
    (hC : h.get? C = some (excClassObj nm q C N bs bm hdct sn sub ab col dd k0 k1 k2 k3 k5 newId)) (hq : Q () ⟨h, g, d, t, os⟩) : wpAny M A (checkBuiltinCall newId ⟨[.ref C], [(kx, kv)]⟩) Q E ⟨h, g, d, t, os⟩ := by
  have hcont : (Value.ref C :: bm).contains (.type B) = true := by rw [List.contains_cons, hT, F.hasB, Bool.or_true]
  have hstar := F.noStar
  simp only [checkBuiltinCall, F.newKind, F.newSplit, F.newRow]
  repeat (first | refine wpAny_loadPart_at hC ?_ | (refine wpAny_isSubtype_exc hC ?_; rw [hcont]) | refine wpAny_staticBase_exc hC ?_ | refine wpAny_madeBy_exc hC ?_ | simp only [bne_self_eq_false, Bool.false_eq_true, if_false] | wp_step)
  exact hq
end
section
variable {prog : Program} {w : World} {A : Around} {E : Value → Shared → Prop} {R : Result → Shared → Prop} {h : Heap} {g : Array GenState} {d : Drawn} {t : Nat} {os : OsState}
variable {nm q : Str} {C N : Addr} {bs bm bmB : List Value} {hdct : Bool} {sn : List Str} {sub : List Value} {ab : Bool} {col : Option Bool} {dd : Option Addr} {k0 k1 k2 k3 k5 : Option Value} {B newId initId : String}
theorem new_kw (F : ExcBaseFacts B newId initId bmB) (hT : ∀ X : String, bm.contains (.type X) = bmB.contains (.type X)) {kx : Str} {kv : Value}
    (hC : h.get? C = some (excClassObj nm q C N bs bm hdct sn sub ab col dd k0 k1 k2 k3 k5 newId))
    (hq : R (.ok (.ret (.ref (h.objs.size + 1)))) ⟨(h.push { cls := .type "tuple", data := .seq #[] }).push
      { cls := .ref C, data := .fields #[.ref h.objs.size, .none, .none, .none, .bool false, .none] }, g, d, t, os⟩) :
    codeAny (model prog w) A (.builtin newId ⟨[.ref C], [(kx, kv)]⟩) R ⟨h, g, d, t, os⟩ := by
  have hends := F.ends
  have hrest : ([] : List Value).length ≤ sizeLine := Nat.zero_le _
  have hcB : (Value.ref C :: bm).contains (.type B) = true := by rw [List.contains_cons, hT, F.hasB, Bool.or_true]
  have hcA : (Value.ref C :: bm).contains (.type "AttributeError") = false := by rw [List.contains_cons, hT, F.noAttr]; rfl
  have hcN : (Value.ref C :: bm).contains (.type "NameError") = false := by rw [List.contains_cons, hT, F.noName]; rfl
  refine codeAny_builtinAt F.entry ?_
  unfold Builtin.«BaseException.__new__»
  refine wpAt_bind ?_
  show wpAt _ _ _ (stack >>= _) _ _ _
  refine wpAt_bind (wpAt_stack fun p below => wpAt_of_wpAny ?_)
  wp_walk
  refine wpAt_of_wpAny ?_
  rw [F.owner]
  repeat (first | with_reducible refine wpAny_madeHere_exc F.canon hC ?_ | with_reducible refine wpAny_loadPart_at hC ?_ | (with_reducible refine wpAny_isSubtype_exc hC ?_; first | rw [hcB] | rw [hcA] | rw [hcN]) | wp_step)
  show R _ _
  rw [Heap.size_push]
  exact hq
theorem type_call_kw (F : ExcBaseFacts B newId initId bmB) (hT : ∀ X : String, bm.contains (.type X) = bmB.contains (.type X)) {kx : Str} {kv : Value} {fI : Addr} {Q : Fin → Shared → Prop}
    (hC : h.get? C = some (excClassObj nm q C N bs bm hdct sn sub ab col dd k0 k1 k2 k3 k5 newId))
    (hi : W.Looks (model prog w) h (typeLookup (.ref C) "__init__") (some (.ref fI))) (hb : ∀ self, W.Looks (model prog w) h (bindSpecial (.ref fI) self) (.ref fI, [self]))
    (hq : codeAny (model prog w) A (.call (.ref fI) ⟨[.ref (h.objs.size + 1)], [(kx, kv)]⟩)
      (fun r s' => match r with | .ok (.ret v) => v = .none ∧ Q (.done (.ret (.ref (h.objs.size + 1)))) s' | .ok _ => False | .error e => E e s')
      ⟨(h.push (W.kdv_tup [])).push (excO C h.objs.size), g, d, t, os⟩) :
    wpAny (model prog w) A (Builtin.«type.__call__» ⟨[.ref C], [(kx, kv)]⟩) Q E ⟨h, g, d, t, os⟩ := by
  repeat (first | with_reducible refine wpAny_loadPart_at hC ?_ | with_reducible refine wpAny_madeBy_exc hC ?_ | wp_step)
  refine codeAny_call_builtin_code (Code.quiet_builtin _ F.quiet) (check_new_kw F hT hC ?_)
  refine new_kw F hT hC ?_
  show wpAny _ _ _ _ _ _
  have k : ∀ b o, h.get? b = some o → ((h.push (W.kdv_tup [])).push (excO C h.objs.size)).get? b = some o := fun b o e => Heap.get?_push_of_some _ (Heap.get?_push_of_some _ e)
  have hC₁ := k _ _ hC
  have hget : ((h.push (W.kdv_tup [])).push (excO C h.objs.size)).get? (h.objs.size + 1) = some (excO C h.objs.size) := by heap_get
  have hcC : (Value.ref C :: bm).contains (.ref C) = true := by simp
  have i1 := hi.keeps k
  have b1 := (hb (.ref (h.objs.size + 1))).keeps k
  unfold isInstance
  repeat (first | with_reducible refine wpAny_loadPart_at hget ?_ | (with_reducible refine wpAny_isSubtype_exc hC₁ ?_; rw [hcC]) | wp_step)
  show wpAny _ _ (typeLookup (.ref C) _) _ _ _
  refine i1.at ?_
  refine wpAny_holding (wpAny_bind (b1.at ?_))
  refine wpAny_bind (wpAny_call (codeAny_mono hq fun r s' z => ?_))
  rcases r with e | (v | _ | _ | _) <;> first | exact z | exact z.elim | skip
  obtain ⟨rfl, z⟩ := z
  first
    | exact wpAny_pure (wpAny_pure z)
    | (wp_walk; exact z)
theorem call_kw (F : ExcBaseFacts B newId initId bmB) (hT : ∀ X : String, bm.contains (.type X) = bmB.contains (.type X)) {kx : Str} {kv : Value} {fI : Addr}
    (hC : h.get? C = some (excClassObj nm q C N bs bm hdct sn sub ab col dd k0 k1 k2 k3 k5 newId))
    (hi : W.Looks (model prog w) h (typeLookup (.ref C) "__init__") (some (.ref fI))) (hb : ∀ self, W.Looks (model prog w) h (bindSpecial (.ref fI) self) (.ref fI, [self]))
    (hq : codeAny (model prog w) (A.under (.builtin "type.__call__" ⟨[.ref C], [(kx, kv)]⟩)) (.call (.ref fI) ⟨[.ref (h.objs.size + 1)], [(kx, kv)]⟩) (W.InitBack (h.objs.size + 1) R)
      ⟨(h.push (W.kdv_tup [])).push (excO C h.objs.size), g, d, t, os⟩) :
    codeAny (model prog w) A (.call (.ref C) ⟨[], [(kx, kv)]⟩) R ⟨h, g, d, t, os⟩ := by
  have f1 := tc_lookup
  have f2 := tc_bind (.ref C)
  have hTy : (⟨h, g, d, t, os⟩ : Shared).TypeIs (.ref C) "type" := ⟨_, hC, rfl⟩
  refine codeAny_of_tree ?_
  show wpAny _ _ (callAny (.ref C) _) _ _ _
  repeat (any_goals (first | assumption | with_reducible refine wpAny_loadPart_at hC ?_ | wp_step))
  refine ⟨rfl, ?_⟩
  refine codeAny_call_builtin_at (Code.quiet_builtin _ (by decide +kernel)) entry_typeCall (wpAny_check_type_call_sub hC (type_call_kw F hT hC hi hb ?_))
  refine codeAny_mono hq fun r s' z => ?_
  rcases r with e | (v | _ | _ | _) <;> exact z
end
end KwX
end PySem

set_option Elab.async false
set_option linter.all false
set_option maxRecDepth 100000
set_option maxHeartbeats 4000000
namespace L2
open PySem PySem.Spec PyProof.Rows
def keyD : Key → PyData
  | .inl i => .int i
  | .inr x => .str x
mutual
inductive Dat (H : Hp) : V → PyData → Prop
  | non : Dat H .non .none
  | bl (b : Bool) : Dat H (.bl b) (.bool b)
  | int (i : Int) : Dat H (.int i) (.int i)
  | str (x : Str) : Dat H (.str x) (.str x)
  | lst {a : Addr} {xs : List V} {ds : List PyData} : H a = some (.lst xs) → DatAll H xs ds → Dat H (.ref a) (.list ds)
  | tup {a : Addr} {xs : List V} {ds : List PyData} : H a = some (.tup xs) → DatAll H xs ds → Dat H (.ref a) (.tuple ds)
  | dct {a : Addr} {kvs : List (Key × V)} {ds : List (PyData × PyData)} : H a = some (.dK kvs) → DatKv H kvs ds → Dat H (.ref a) (.dict ds)
inductive DatAll (H : Hp) : List V → List PyData → Prop
  | nil : DatAll H [] []
  | cons {v : V} {d : PyData} {vs : List V} {ds : List PyData} : Dat H v d → DatAll H vs ds → DatAll H (v :: vs) (d :: ds)
inductive DatKv (H : Hp) : List (Key × V) → List (PyData × PyData) → Prop
  | nil : DatKv H [] []
  | cons {k : Key} {v : V} {d : PyData} {kvs : List (Key × V)} {ds : List (PyData × PyData)} : Dat H v d → DatKv H kvs ds → DatKv H ((k, v) :: kvs) ((keyD k, d) :: ds)
end
mutual
theorem Dat.same {H H' : Hp} (S : Same H H') : ∀ {v : V} {d : PyData}, Dat H v d → Dat H' v d
  | _, _, .non => .non
  | _, _, .bl b => .bl b
  | _, _, .int i => .int i
  | _, _, .str x => .str x
  | _, _, .lst e h => .lst (S _ _ e) (DatAll.same S h)
  | _, _, .tup e h => .tup (S _ _ e) (DatAll.same S h)
  | _, _, .dct e h => .dct (S _ _ e) (DatKv.same S h)
theorem DatAll.same {H H' : Hp} (S : Same H H') : ∀ {vs : List V} {ds : List PyData}, DatAll H vs ds → DatAll H' vs ds
  | _, _, .nil => .nil
  | _, _, .cons h t => .cons (Dat.same S h) (DatAll.same S t)
theorem DatKv.same {H H' : Hp} (S : Same H H') : ∀ {kvs : List (Key × V)} {ds : List (PyData × PyData)}, DatKv H kvs ds → DatKv H' kvs ds
  | _, _, .nil => .nil
  | _, _, .cons h t => .cons (Dat.same S h) (DatKv.same S t)
end
theorem DatAll.snoc {H : Hp} : ∀ {vs : List V} {ds : List PyData} {v : V} {d : PyData}, DatAll H vs ds → Dat H v d → DatAll H (vs ++ [v]) (ds ++ [d])
  | _, _, _, _, .nil, h => .cons h .nil
  | _, _, _, _, .cons a t, h => .cons a (DatAll.snoc t h)
theorem DatAll.len {H : Hp} : ∀ {vs : List V} {ds : List PyData}, DatAll H vs ds → vs.length = ds.length
  | _, _, .nil => rfl
  | _, _, .cons _ t => by rw [List.length_cons, List.length_cons, DatAll.len t]
section
variable {P : Program} {w : World} {H : Hp} {h : Heap}
mutual
theorem reads_of_dat (ok : HOk P w H h) : ∀ {v : V} {d : PyData} {u : Value}, Dat H v d → RelV v u → ∃ as, Reads h u d as
  | _, _, _, .non, r => by cases (show _ = Value.none from r); exact ⟨_, .none⟩
  | _, _, _, .bl b, r => by cases (show _ = Value.bool b from r); exact ⟨_, .bool b⟩
  | _, _, _, .int i, r => by obtain ⟨t, rfl⟩ := r; exact ⟨_, .int i t⟩
  | _, _, _, .str x, r => by obtain ⟨t, rfl⟩ := r; exact ⟨_, .str x t⟩
  | _, _, _, .lst (a := a) e hh, r => by
    cases (show _ = Value.ref a from r)
    obtain ⟨_, its, n, rv, e1⟩ := (show ObjOk P w H h a (.lst _) from ok a _ e)
    obtain ⟨as, R⟩ := readsAll_of_dat ok hh rv
    exact ⟨_, .list e1 rfl rfl R⟩
  | _, _, _, .tup (a := a) e hh, r => by
    cases (show _ = Value.ref a from r)
    obtain ⟨_, its, rv, o, e1, e2, n, e3⟩ := (show ObjOk P w H h a (.tup _) from ok a _ e)
    obtain ⟨as, R⟩ := readsAll_of_dat ok hh rv
    exact ⟨_, .tuple e1 e2 e3 R⟩
  | _, _, _, .dct (a := a) e hh, r => by
    cases (show _ = Value.ref a from r)
    obtain ⟨_, _, vs, rv, o, es, ep, e1, e2, e3, e4, e5, e6⟩ := (show ObjOk P w H h a (.dK _) from ok a _ e)
    obtain ⟨⟨as, A⟩, ⟨bs, B⟩⟩ := readsKv_of_dat ok hh rv e5
    exact ⟨_, .dict e1 e2.1 e3 A B⟩
theorem readsAll_of_dat (ok : HOk P w H h) : ∀ {vs : List V} {ds : List PyData} {us : List Value}, DatAll H vs ds → Vals vs us → ∃ as, ReadsAll h us ds as
  | _, _, _, .nil, .nil => ⟨_, .nil⟩
  | _, _, _, .cons a t, .cons r q => by
    obtain ⟨as, A⟩ := reads_of_dat ok a r
    obtain ⟨bs, B⟩ := readsAll_of_dat ok t q
    exact ⟨_, .cons A B⟩
theorem readsKv_of_dat (ok : HOk P w H h) : ∀ {kvs : List (Key × V)} {ds : List (PyData × PyData)} {vs : List (Key × Value)} {es : List DictEntry}, DatKv H kvs ds → KV kvs vs → Pairs (mixKind P w) es vs →
    (∃ as, ReadsAll h (es.map (·.key)) (ds.map (·.1)) as) ∧ ∃ bs, ReadsAll h (es.map (·.val)) (ds.map (·.2)) bs
  | _, _, _, _, .nil, .nil, .nil => ⟨⟨_, .nil⟩, ⟨_, .nil⟩⟩
  | _, _, _, _, .cons (k := k) hd hq, .cons r q, .cons k1 e1 p => by
    obtain ⟨rk, rv⟩ := r
    obtain ⟨⟨as, A⟩, ⟨bs, B⟩⟩ := readsKv_of_dat ok hq q p
    obtain ⟨cs, C⟩ := reads_of_dat ok hd rv
    refine ⟨?_, ⟨_, .cons (by show Reads h (DictEntry.val _) _ _; rw [e1]; exact C) B⟩⟩
    dsimp only at rk
    subst rk
    rcases keyIs_shape k1 with ⟨i, t, ek, e⟩ | ⟨x, t, ek, e⟩
    · rw [ek]; exact ⟨_, .cons (by show Reads h (DictEntry.key _) (PyData.int i) _; rw [e]; exact .int i t) A⟩
    · rw [ek]; exact ⟨_, .cons (by show Reads h (DictEntry.key _) (PyData.str x) _; rw [e]; exact .str x t) A⟩
end
theorem reprKeys_of {as : List Addr} {d : Nat} : ∀ {kvs : List (Key × V)} {ds : List (PyData × PyData)} {vs : List (Key × Value)} {es : List DictEntry}, DatKv H kvs ds → KV kvs vs → Pairs (mixKind P w) es vs → PyData.showableAll (ds.map (·.1)) = true →
    (∀ t ∈ PyData.shownAll (ds.map (·.1)), t.length ≤ sizeLine) → ReprAllK P w as h d (es.map (·.key)) (PyData.shownAll (ds.map (·.1)))
  | _, _, _, _, .nil, .nil, .nil, _, _ => by simp only [List.map_nil, PyData.shownAll]; exact .nil
  | _, _, _, _, .cons (k := k) hd hq, .cons r q, .cons k1 e1 p, hs, hz => by
    obtain ⟨rk, rv⟩ := r
    dsimp only at rk
    subst rk
    simp only [List.map_cons, PyData.showableAll, Bool.and_eq_true] at hs
    simp only [List.map_cons, PyData.shownAll] at hz ⊢
    refine .cons ?_ (reprKeys_of hq q p hs.2 fun t ht => hz t (List.mem_cons_of_mem _ ht))
    rcases keyIs_shape k1 with ⟨i, t, ek, e⟩ | ⟨x, t, ek, e⟩
    · rw [ek] at hs ⊢
      rw [e]
      simp only [keyD, PyData.shown]
      exact .of_is (ReprIs.int t (by simpa [keyD, PyData.showable] using hs.1)) _ _ _
    · rw [ek] at hz ⊢
      rw [e]
      simp only [keyD, PyData.shown]
      exact .of_is (ReprIs.str x t (by have := hz _ (List.mem_cons_self ..); simpa only [keyD, PyData.shown] using this)) _ _ _
mutual
theorem reprK_of_dat (ok : HOk P w H h) : ∀ {v : V} {d : PyData} {u : Value}, Dat H v d → RelV v u → d.showable = true → d.shown.length ≤ sizeLine → ∃ bs, ReadAtMost h d.depth bs ∧ ReprK P w bs h d.depth u d.shown
  | _, _, _, .non, r, _, _ => by cases (show _ = Value.none from r); exact ⟨[], (fun _ h => nomatch h), by simp only [PyData.shown]; exact .of_is ReprIs.none _ _ _⟩
  | _, _, _, .bl b, r, _, _ => by cases (show _ = Value.bool b from r); exact ⟨[], (fun _ h => nomatch h), by simp only [PyData.shown]; exact .of_is (ReprIs.bool b) _ _ _⟩
  | _, _, _, .int i, r, hs, _ => by obtain ⟨t, rfl⟩ := r; exact ⟨[], (fun _ h => nomatch h), by simp only [PyData.shown]; exact .of_is (ReprIs.int t (by simpa [PyData.showable] using hs)) _ _ _⟩
  | _, _, _, .str x, r, _, hz => by obtain ⟨t, rfl⟩ := r; exact ⟨[], (fun _ h => nomatch h), by simp only [PyData.shown]; exact .of_is (ReprIs.str x t (by simpa only [PyData.shown] using hz)) _ _ _⟩
  | _, _, _, .lst (a := a) (xs := xs) (ds := ds) e hh, r, hs, hz => by
    obtain ⟨as, R0⟩ := reads_of_dat ok (Dat.lst e hh) r
    cases (show _ = Value.ref a from r)
    obtain ⟨_, its, n, rv, e1⟩ := (show ObjOk P w H h a (.lst _) from ok a _ e)
    have hz' : (listText (PyData.shownAll ds)).length ≤ sizeLine := by simpa only [PyData.shown] using hz
    obtain ⟨bs, hb, hk⟩ := reprAllK_of_dat ok hh rv (by simpa [PyData.showable] using hs) (fun t ht => Nat.le_trans (listText_mem_le ht) hz')
    have hna : a ∉ bs := not_mem_of_deeper R0 (by simp only [PyData.depth]; omega) hb
    refine ⟨a :: bs, ReadAtMost.cons R0 (by simp only [PyData.depth]; omega) hb, ?_⟩
    simp only [PyData.depth, PyData.shown]
    cases its with
    | nil =>
      cases rv
      cases hh
      simp only [PyData.shownAll, listText_nil]
      exact ReprK.listEmpty e1 rfl rfl
    | cons x l => exact ReprK.list e1 rfl rfl hna (by simpa using hk.length_eq) (fun i y e => hk.item i y (by simpa using e))
  | _, _, _, .tup (a := a) (xs := xs) (ds := ds) e hh, r, hs, hz => by
    obtain ⟨as, R0⟩ := reads_of_dat ok (Dat.tup e hh) r
    cases (show _ = Value.ref a from r)
    obtain ⟨_, its, rv, o, e1, e2, n, e3⟩ := (show ObjOk P w H h a (.tup _) from ok a _ e)
    have hz' : (tupleText (PyData.shownAll ds)).length ≤ sizeLine := by simpa only [PyData.shown] using hz
    obtain ⟨bs, hb, hk⟩ := reprAllK_of_dat ok hh rv (by simpa [PyData.showable] using hs) (fun t ht => Nat.le_trans (tupleText_mem_le ht) hz')
    have hna : a ∉ bs := not_mem_of_deeper R0 (by simp only [PyData.depth]; omega) hb
    refine ⟨a :: bs, ReadAtMost.cons R0 (by simp only [PyData.depth]; omega) hb, ?_⟩
    simp only [PyData.depth, PyData.shown]
    exact ReprK.tuple e1 e2 e3 hna (by simpa using hk)
  | _, _, _, .dct (a := a) (kvs := kvs) (ds := ds) e hh, r, hs, hz => by
    obtain ⟨as, R0⟩ := reads_of_dat ok (Dat.dct e hh) r
    cases (show _ = Value.ref a from r)
    obtain ⟨_, hsys, vs, rv, o, es, ep, e1, e2, e3, e4, e5, e6⟩ := (show ObjOk P w H h a (.dK _) from ok a _ e)
    have hz' : (dictText (PyData.shownKv ds)).length ≤ sizeLine := by simpa only [PyData.shown] using hz
    obtain ⟨hs1, hs2⟩ := PyData.showableKv_split ds (by simpa [PyData.showable] using hs)
    have k1 : ReprAllK P w [] h (PyData.depthKv ds) (es.toList.map (·.key)) (PyData.shownAll (ds.map (·.1))) := reprKeys_of hh rv e5 hs1 (fun t ht => let ⟨p, hp, hl⟩ := PyData.shownKv_key_le ds t ht; Nat.le_trans hl (Nat.le_trans (dictText_mem_le hp) hz'))
    obtain ⟨b2, hb2, k2⟩ := reprVals_of_dat ok hh rv e5 hs2 (fun t ht => let ⟨p, hp, hl⟩ := PyData.shownKv_val_le ds t ht; Nat.le_trans hl (Nat.le_trans (dictText_mem_le hp) hz'))
    have hb : ReadAtMost h (PyData.depthKv ds) b2 := hb2.mono (PyData.depthAll_vals_le ds)
    have hna : a ∉ b2 := not_mem_of_deeper R0 (by simp only [PyData.depth]; omega) hb
    refine ⟨a :: b2, ReadAtMost.cons R0 (by simp only [PyData.depth]; omega) hb, ?_⟩
    simp only [PyData.depth, PyData.shown, PyData.shownKv_eq]
    exact ReprK.dict e1 e2.1 e3 hsys hna (ReprEntriesK.of_two es.toList _ _
      (k1.more_le (fun b hb => absurd hb (by simp)) (Nat.le_refl _)) (k2.more_le (fun b hb => hb) (PyData.depthAll_vals_le ds)))
theorem reprAllK_of_dat (ok : HOk P w H h) : ∀ {vs : List V} {ds : List PyData} {us : List Value}, DatAll H vs ds → Vals vs us → PyData.showableAll ds = true → (∀ t ∈ PyData.shownAll ds, t.length ≤ sizeLine) →
    ∃ bs, ReadAtMost h (PyData.depthAll ds) bs ∧ ReprAllK P w bs h (PyData.depthAll ds) us (PyData.shownAll ds)
  | _, _, _, .nil, .nil, _, _ => ⟨[], (fun _ h => nomatch h), by simp only [PyData.shownAll]; exact .nil⟩
  | _, _, _, .cons (d := d) (ds := ds) a t, .cons r q, hs, hz => by
    have hs' : d.showable = true ∧ PyData.showableAll ds = true := by simpa [PyData.showableAll] using hs
    obtain ⟨b1, hb1, k1⟩ := reprK_of_dat ok a r hs'.1 (hz _ (by simp only [PyData.shownAll]; exact List.mem_cons_self ..))
    obtain ⟨b2, hb2, k2⟩ := reprAllK_of_dat ok t q hs'.2 (fun t ht => hz t (by simp only [PyData.shownAll]; exact List.mem_cons_of_mem _ ht))
    refine ⟨b1 ++ b2, ?_, ?_⟩
    · simp only [PyData.depthAll]
      exact (hb1.mono (Nat.le_max_left _ _)).append (hb2.mono (Nat.le_max_right _ _))
    · simp only [PyData.depthAll, PyData.shownAll]
      exact .cons ((k1.more fun b hb => List.mem_append_left _ hb).level_le (Nat.le_max_left _ _)) (k2.more_le (fun b hb => List.mem_append_right _ hb) (Nat.le_max_right _ _))
theorem reprVals_of_dat (ok : HOk P w H h) : ∀ {kvs : List (Key × V)} {ds : List (PyData × PyData)} {vs : List (Key × Value)} {es : List DictEntry}, DatKv H kvs ds → KV kvs vs → Pairs (mixKind P w) es vs → PyData.showableAll (ds.map (·.2)) = true → (∀ t ∈ PyData.shownAll (ds.map (·.2)), t.length ≤ sizeLine) →
    ∃ bs, ReadAtMost h (PyData.depthAll (ds.map (·.2))) bs ∧ ReprAllK P w bs h (PyData.depthAll (ds.map (·.2))) (es.map (·.val)) (PyData.shownAll (ds.map (·.2)))
  | _, _, _, _, .nil, .nil, .nil, _, _ => ⟨[], (fun _ h => nomatch h), by simp only [List.map_nil, PyData.shownAll]; exact .nil⟩
  | _, _, _, _, .cons (d := d) (ds := ds) a t, .cons r q, .cons k1 e1 p, hs, hz => by
    obtain ⟨rk, rv⟩ := r
    have hs' : d.showable = true ∧ PyData.showableAll (ds.map (·.2)) = true := by simpa [PyData.showableAll] using hs
    obtain ⟨b1, hb1, k1⟩ := reprK_of_dat ok a rv hs'.1 (hz _ (by simp only [List.map_cons, PyData.shownAll]; exact List.mem_cons_self ..))
    obtain ⟨b2, hb2, k2⟩ := reprVals_of_dat ok t q p hs'.2 (fun t ht => hz t (by simp only [List.map_cons, PyData.shownAll]; exact List.mem_cons_of_mem _ ht))
    refine ⟨b1 ++ b2, ?_, ?_⟩
    · simp only [List.map_cons, PyData.depthAll]
      exact (hb1.mono (Nat.le_max_left _ _)).append (hb2.mono (Nat.le_max_right _ _))
    · simp only [List.map_cons, PyData.depthAll, PyData.shownAll]
      rw [e1]
      exact .cons ((k1.more fun b hb => List.mem_append_left _ hb).level_le (Nat.le_max_left _ _)) (k2.more_le (fun b hb => List.mem_append_right _ hb) (Nat.le_max_right _ _))
end
end
section
variable {X : Cx}
def rRepr : List V → Hp → VK → Prop := fun xs H Q => ∃ v d, xs = [v] ∧ Dat H v d ∧ d.showable = true ∧ d.depth ≤ 50 ∧ d.shown.length ≤ sizeLine ∧ Q (.str d.shown) H
theorem call_reprD (hg : X.A.guards = some []) (hu : X.A.units + 64 < cLine) : CallR X (.builtin "repr") rRepr := by
  intro pins s σ H xs us Q I r h
  obtain ⟨v, d, rfl, D, hs, hd, hz, q⟩ := h
  obtain ⟨u, rfl, ru⟩ := vals1 r
  have fin : ∀ (h' : Heap) (tk tk' : Tok), (∀ b o, s.heap.get? b = some o → h'.get? b = some o) → EP X pins σ Q (.str d.shown tk') { s with heap := h', toks := tk } := fun h' tk tk' k => ⟨.str d.shown, H, I.kept (t' := tk) k, ⟨_, rfl⟩, q⟩
  have nl : ∀ {b : Addr}, Clear ([] : List Code) b := fun {b} => Clear.nil b
  cases D with
  | non =>
    cases (show _ = Value.none from ru)
    simp only [PyData.shown] at fin
    exact PySem.P.repr_of_none (fin s.heap _ _ fun _ _ e => e)
  | bl b =>
    cases (show _ = Value.bool b from ru)
    simp only [PyData.shown] at fin
    exact PySem.P.repr_of_bool (fin s.heap _ _ fun _ _ e => e)
  | int i =>
    obtain ⟨t, rfl⟩ := ru
    simp only [PyData.shown] at fin
    exact PySem.P.repr_of_int (by simpa [PyData.showable] using hs) (fin s.heap _ _ fun _ _ e => e)
  | str x =>
    obtain ⟨t, rfl⟩ := ru
    simp only [PyData.shown] at fin
    exact PySem.P.repr_of_str (fin s.heap _ _ fun _ _ e => e) (by simpa only [PyData.shown] using hz)
  | @lst a xs ds e hh =>
    obtain ⟨as, R0⟩ := reads_of_dat I.hok (Dat.lst e hh) ru
    cases (show _ = Value.ref a from ru)
    obtain ⟨_, its, n, rv, e1⟩ := (show ObjOk X.prog X.w H s.heap a (.lst _) from I.hok a _ e)
    have hz' : (listText (PyData.shownAll ds)).length ≤ sizeLine := by simpa only [PyData.shown] using hz
    obtain ⟨bs, hb, hk⟩ := reprAllK_of_dat I.hok hh rv (by simpa [PyData.showable] using hs) (fun t ht => Nat.le_trans (listText_mem_le ht) hz')
    have hna : a ∉ bs := not_mem_of_deeper R0 (by simp only [PyData.depth]; omega) hb
    simp only [PyData.shown] at fin
    simp only [PyData.depth] at hd
    refine call_repr_slot (by omega) ⟨_, e1, rfl⟩ F.slot_list_repr.toG ?_
    cases its with
    | nil =>
      cases rv
      cases hh
      simp only [PyData.shownAll, listText_nil] at fin
      exact call_list_repr_empty ⟨_, e1, rfl⟩ e1 rfl ⟨_, _, rfl, fin s.heap _ _ fun _ _ e => e⟩
    | cons x l =>
      exact call_list_reprK (h₀ := s.heap) e1 rfl rfl hna (by simpa using hk.length_eq) (fun i y e => hk.item i y (by simpa using e)) hg (fun b _ => Clear.nil b) (by show X.A.units + 1 + _ < cLine; omega) (fun _ _ e => e) (fun h' u tk k => ⟨_, _, rfl, fin h' tk u k⟩) hz'
  | @tup a xs ds e hh =>
    obtain ⟨as, R0⟩ := reads_of_dat I.hok (Dat.tup e hh) ru
    cases (show _ = Value.ref a from ru)
    obtain ⟨_, its, rv, o, e1, e2, n, e3⟩ := (show ObjOk X.prog X.w H s.heap a (.tup _) from I.hok a _ e)
    have hz' : (tupleText (PyData.shownAll ds)).length ≤ sizeLine := by simpa only [PyData.shown] using hz
    obtain ⟨bs, hb, hk⟩ := reprAllK_of_dat I.hok hh rv (by simpa [PyData.showable] using hs) (fun t ht => Nat.le_trans (tupleText_mem_le ht) hz')
    have hna : a ∉ bs := not_mem_of_deeper R0 (by simp only [PyData.depth]; omega) hb
    simp only [PyData.shown] at fin
    simp only [PyData.depth] at hd
    refine call_repr_slot (by omega) ⟨_, e1, e2⟩ F.slot_tuple_repr ?_
    exact call_tuple_reprK (h₀ := s.heap) e1 e2 e3 hna (by simpa using hk) hg (fun b _ => Clear.nil b) (by show X.A.units + 1 + _ < cLine; omega) (fun _ _ e => e) (fun h' u tk k => ⟨_, _, rfl, fin h' tk u k⟩) hz'
  | @dct a kvs ds e hh =>
    obtain ⟨as, R0⟩ := reads_of_dat I.hok (Dat.dct e hh) ru
    cases (show _ = Value.ref a from ru)
    obtain ⟨_, hsys, vs, rv, o, es, ep, e1, e2, e3, e4, e5, e6⟩ := (show ObjOk X.prog X.w H s.heap a (.dK _) from I.hok a _ e)
    have hz' : (dictText (PyData.shownKv ds)).length ≤ sizeLine := by simpa only [PyData.shown] using hz
    obtain ⟨hs1, hs2⟩ := PyData.showableKv_split ds (by simpa [PyData.showable] using hs)
    have k1 : ReprAllK X.prog X.w [] s.heap (PyData.depthKv ds) (es.toList.map (·.key)) (PyData.shownAll (ds.map (·.1))) := reprKeys_of hh rv e5 hs1 (fun t ht => let ⟨p, hp, hl⟩ := PyData.shownKv_key_le ds t ht; Nat.le_trans hl (Nat.le_trans (dictText_mem_le hp) hz'))
    obtain ⟨b2, hb2, k2⟩ := reprVals_of_dat I.hok hh rv e5 hs2 (fun t ht => let ⟨p, hp, hl⟩ := PyData.shownKv_val_le ds t ht; Nat.le_trans hl (Nat.le_trans (dictText_mem_le hp) hz'))
    have hb : ReadAtMost s.heap (PyData.depthKv ds) b2 := hb2.mono (PyData.depthAll_vals_le ds)
    have hna : a ∉ b2 := not_mem_of_deeper R0 (by simp only [PyData.depth]; omega) hb
    simp only [PyData.shown, PyData.shownKv_eq] at fin
    simp only [PyData.depth] at hd
    refine call_repr_slot (by omega) ⟨_, e1, e2.1⟩ F.slot_dict_repr ?_
    exact call_dict_reprK (h₀ := s.heap) e1 e2.1 e3 hsys hna (ReprEntriesK.of_two es.toList _ _ (k1.more_le (fun b hb => absurd hb (by simp)) (Nat.le_refl _)) (k2.more_le (fun b hb => hb) (PyData.depthAll_vals_le ds)))
      hg (fun b _ => Clear.nil b) (by show X.A.units + 1 + _ < cLine; omega) (fun _ _ e => e) (fun h' u tk k => ⟨_, _, rfl, fin h' tk u k⟩) (by rw [← PyData.shownKv_eq]; exact hz')
end
end L2

set_option Elab.async false
set_option linter.all false
set_option maxRecDepth 100000
set_option maxHeartbeats 4000000
namespace L2
open PySem PySem.Spec PyProof.Rows
/-- what isinstance and the field's reading ask of an error class -/
def errB (K : PySem.W.Frag) (fI C : Addr) : Bool :=
  decide (PySem.W.findIn K (.ref C) "__setattr__" = some (some (.builtin "object.__setattr__"))) && (decide (PySem.W.findIn K (.ref C) "__getattribute__" = some (some (.builtin "BaseException.__getattribute__"))) &&
  (decide (PySem.W.findIn K (.ref C) "__getattr__" = some none) && (decide (PySem.W.findIn K (.ref C) "value" = some none) && (decide (PySem.W.findIn K (.ref C) "__init__" = some (some (.ref fI))) &&
  (decide (PySem.W.subIn K (.ref C) (.type "BaseException") = some true) && (decide (PySem.W.typeIn K (.ref C) = some (.type "type")) && (PySem.W.keepIn K (.ref C) && (PySem.W.hasDictIn K C &&
  (decide (PySem.W.findIn K (.ref C) "__class__" = some (some (.builtin "object.__class__"))) && decide (PySem.W.mroIn K C (.type "object") = some true))))))))))
structure ErrC (K : PySem.W.Frag) (fI C : Addr) : Prop where
  o : OexC K C
  ga : PySem.W.findIn K (.ref C) "__getattribute__" = some (some (.builtin "BaseException.__getattribute__"))
  gg : PySem.W.findIn K (.ref C) "__getattr__" = some none
  no : PySem.W.findIn K (.ref C) "value" = some none
  iC : PySem.W.findIn K (.ref C) "__init__" = some (some (.ref fI))
  hd : PySem.W.hasDictIn K C = true
  cl : PySem.W.findIn K (.ref C) "__class__" = some (some (.builtin "object.__class__"))
  mo : PySem.W.mroIn K C (.type "object") = some true
theorem errB_ok {K : PySem.W.Frag} {fI C : Addr} (h : errB K fI C = true) (cls : ∃ nm q N bs bm sn sub ab col dd k0 k1 k2 k3 k5, K.lookup C = some (excClassObj nm q C N bs bm true sn sub ab col dd k0 k1 k2 k3 k5 "ValueError.__new__") ∧ PySem.HandSPX.refsVE bm = true) : ErrC K fI C := by
  obtain ⟨h1, h⟩ := Bool.and_eq_true_iff.mp h
  obtain ⟨h2, h⟩ := Bool.and_eq_true_iff.mp h
  obtain ⟨h3, h⟩ := Bool.and_eq_true_iff.mp h
  obtain ⟨h4, h⟩ := Bool.and_eq_true_iff.mp h
  obtain ⟨h5, h⟩ := Bool.and_eq_true_iff.mp h
  obtain ⟨h6, h⟩ := Bool.and_eq_true_iff.mp h
  obtain ⟨h7, h⟩ := Bool.and_eq_true_iff.mp h
  obtain ⟨h8, h⟩ := Bool.and_eq_true_iff.mp h
  obtain ⟨h9, h⟩ := Bool.and_eq_true_iff.mp h
  obtain ⟨h10, h11⟩ := Bool.and_eq_true_iff.mp h
  exact ⟨⟨cls, of_decide_eq_true h1, of_decide_eq_true h6, of_decide_eq_true h7, h8⟩, of_decide_eq_true h2, of_decide_eq_true h3, of_decide_eq_true h4, of_decide_eq_true h5, h9, of_decide_eq_true h10, of_decide_eq_true h11⟩
/-- an error of the class at C that keeps v stands at e, its own dict at d -/
def Err (H : Hp) (e d C : Addr) (v : V) : Prop := H e = some (exo e C (some d)) ∧ H d = some (exd d [(("value" : Str), v)])
theorem Err.same {H H' : Hp} {e d C : Addr} {v : V} (h : Err H e d C v) (S : Same H H') : Err H' e d C v := ⟨S _ _ h.1, S _ _ h.2⟩
/-- the promise of SightError.__init__ -/
def spInit (K : PySem.W.Frag) : Sp := fun vs H Q _ => ∃ (a C : Addr) (v : V), vs = [.ref a, v] ∧ OexC K C ∧ PySem.W.findIn K (.ref C) "value" = some none ∧ H a = some (exo a C none) ∧
  ∀ d, H d = none → d ≠ a → Q .non (upd (upd H d (exd d [(("value" : Str), v)])) a (exo a C (some d)))
/-- C(e), C(value=e): a new error -/
def tMkE (C : Addr) (te : TE) : TE := fun σ H Q => te σ H fun v H1 => ∀ (a d : Addr) (H2 : Hp), H1 a = none → H1 d = none → d ≠ a → Err H2 a d C v → Same H1 H2 → Q (.ref a) H2
theorem err_made {H1 : Hp} {a d C : Addr} {v : V} (na : H1 a = none) (hd : upd H1 a (exo a C none) d = none) (ne : d ≠ a) : H1 d = none ∧ Err (upd (upd (upd H1 a (exo a C none)) d (exd d [(("value" : Str), v)])) a (exo a C (some d))) a d C v ∧ Same H1 (upd (upd (upd H1 a (exo a C none)) d (exd d [(("value" : Str), v)])) a (exo a C (some d))) := by
  rw [upd_ne ne] at hd
  refine ⟨hd, ⟨upd_same, by rw [upd_ne ne, upd_same]⟩, fun b o e => ?_⟩
  rw [upd_ne (ne_of_none e na), upd_ne (ne_of_none e hd), upd_ne (ne_of_none e na)]
  exact e
section
variable {X : Cx} {fI C : Addr} {k : Nat} {fd : FuncData} {x : Str} {e : Expr} {te : TE} {p pos kp : Pos}
theorem run_err {pins : List (Addr × Obj)} {σ : St} {H1 : Hp} {Q : VK} {hp : Heap} {g : Array GenState} {d : Drawn} {t : Nat} {os : OsState} {v : V} {u : Value} {args : Args} {us : List Value} {kw : List (Str × Value)} (T : ErrC X.K fI C)
    (F1 : FnOk X.prog X.w X.K X.mg X.base CX0 k fI fd ["self", "value"] (spInit X.K)) (hr : Room (k + 1) X.A) (I1 : Inv X pins σ H1 ⟨hp, g, d, t, os⟩) (rv : RelV v u) {tp : Obj}
    (hb : ∀ s : Shared, BindsTo s fd ⟨.ref (hp.objs.size + 1) :: us, kw⟩ ((["self", "value"] : List Str).zip [Value.ref (hp.objs.size + 1), u]))
    (q : ∀ (a d : Addr) (H2 : Hp), H1 a = none → H1 d = none → d ≠ a → Err H2 a d C v → Same H1 H2 → Q (.ref a) H2) :
    codeAny (model X.prog X.w) (X.A.under (.builtin "type.__call__" ⟨.ref C :: us, kw⟩)) (.call (.ref fI) ⟨.ref (hp.objs.size + 1) :: us, kw⟩) (PySem.W.InitBack (hp.objs.size + 1) fun r s' => ∃ u, r = .ok (.ret u) ∧ EP X pins σ Q u s')
      ⟨(hp.push tp).push (PySem.HandSPX.excO C hp.objs.size), g, d, t, os⟩ := by
  have hsz : hp.objs.size ≤ hp.objs.size + 1 := Nat.le_succ _
  have hn : H1 (hp.objs.size + 1) = none := I1.hok.fresh hsz
  have kk : ∀ b o, hp.get? b = some o → ((hp.push tp).push (PySem.HandSPX.excO C hp.objs.size)).get? b = some o := fun b o e => Heap.get?_push_of_some _ (Heap.get?_push_of_some _ e)
  have hget : ((hp.push tp).push (PySem.HandSPX.excO C hp.objs.size)).get? (hp.objs.size + 1) = some (PySem.HandSPX.excO C hp.objs.size) := by heap_get
  have I2 : Inv X pins σ (upd H1 (hp.objs.size + 1) (exo (hp.objs.size + 1) C none)) ⟨(hp.push tp).push (PySem.HandSPX.excO C hp.objs.size), g, d, t, os⟩ :=
    I1.laid (t' := t) (a := hp.objs.size + 1) (o := exo (hp.objs.size + 1) C none) (h' := (hp.push tp).push (PySem.HandSPX.excO C hp.objs.size)) kk hsz (exo_ok hget)
  have r2 : Vals [V.ref (hp.objs.size + 1), v] [Value.ref (hp.objs.size + 1), u] := .cons rfl (.cons rv .nil)
  have hq : spInit X.K [V.ref (hp.objs.size + 1), v] (upd H1 (hp.objs.size + 1) (exo (hp.objs.size + 1) C none)) (fun y H2 => y = .non ∧ Q (.ref (hp.objs.size + 1)) H2) E0 :=
    ⟨_, C, v, rfl, T.o, T.no, upd_same, fun d hd ne => ⟨rfl, let ⟨z1, z2, z3⟩ := err_made hn hd ne; q _ d _ hn z1 ne z2 z3⟩⟩
  refine codeAny_mono (F1.run _ X.stack _ _ _ [Value.ref (hp.objs.size + 1), u] _ _ E0 (hr.make C us kw) (I2.env0.make C us kw) (hb _) r2 hq) fun r s' hq' => ?_
  cases r with
  | error er => exact False.elim hq'
  | ok fl =>
    cases fl with
    | ret y =>
      obtain ⟨w, H', I3, rw', ew, q3⟩ := I2.after hq'
      subst ew
      exact ⟨rw', _, rfl, V.ref (hp.objs.size + 1), H', I3, rfl, q3⟩
    | next => exact False.elim hq'
    | brk => exact False.elim hq'
    | cont => exact False.elim hq'
theorem pe_err (T : ErrC X.K fI C) (tI : PySem.W.typeIn X.K (.ref fI) = some (.type "function")) (F1 : FnOk X.prog X.w X.K X.mg X.base CX0 k fI fd ["self", "value"] (spInit X.K)) (hr : Room (k + 1) X.A)
    (hb : ∀ (s : Shared) (a u : Value), BindsTo s fd ⟨[a, u], []⟩ ((["self", "value"] : List Str).zip [a, u])) (hg : Gl X x) (hm : X.mg x = some (.ref C)) (he : PE X e te)
    (hdb : (x == ("__debug__" : Str)) = false := by decide) (hs : starEach [e] X.env = (false, eval e X.env) :: starEach [] X.env := by rfl) : PE X (.Call (.Name x p) [e] [] pos) (tMkE C te) := by
  refine ⟨fun pins s σ H Q I h => ?_⟩
  obtain ⟨nm, q, N, bs, bm, sn, sub, ab, col, dd, k0, k1, k2, k3, k5, hC, hbm⟩ := T.o.cls
  refine wpAny_Call_Name_kw (ld_glob I hg hm ?_ hdb)
  refine PySem.W.callWith_K (h₀ := X.base) I.ok.mod.kin T.o.kC ?_ hs (by rfl)
  rw [hs]
  show wpAny _ _ (spliced ((false, eval e X.env) :: backTo pos (starEach [] X.env))) _ _ s
  refine Calls.spliced_cons (thn (he.run pins s σ H _ I h) fun u s1 ⟨v, H1, I1, r1, q1⟩ => ?_)
  refine Calls.spliced_nil ⟨I1.kIn, ?_⟩
  show wpAny _ _ (call (.ref C) [u]) _ _ _
  obtain ⟨hp, g, dr, tk, os⟩ := s1
  refine wpAny_call (codeAny_mono (PySem.HandSPX.call_own F.excBase_ValueError (fun Y => PySem.HandSPX.refsVE_contains Y bm hbm) (I1.kIn _ _ hC) (PySem.W.looks_findIn I1.kIn T.iC) (fun self => PySem.W.bind_fn I1.kIn self tI) (by show 1 ≤ sizeLine; rw [sizeLine_eq]; omega)
    (run_err (kw := []) (us := [u]) (args := ⟨[], []⟩) T F1 hr I1 r1 (fun s => hb s _ u) q1)) fun r s' hq => ?_)
  obtain ⟨y, rfl, ep⟩ := hq
  exact ep
theorem pe_errK (T : ErrC X.K fI C) (tI : PySem.W.typeIn X.K (.ref fI) = some (.type "function")) (F1 : FnOk X.prog X.w X.K X.mg X.base CX0 k fI fd ["self", "value"] (spInit X.K)) (hr : Room (k + 1) X.A)
    (hb : ∀ (s : Shared) (a u : Value), BindsTo s fd ⟨[a], [("value", u)]⟩ ((["self", "value"] : List Str).zip [a, u])) (hg : Gl X x) (hm : X.mg x = some (.ref C)) (he : PE X e te)
    (hdb : (x == ("__debug__" : Str)) = false := by decide) (hall : (backToKw pos (keywordEach [⟨some "value", e, kp⟩] X.env)).all (·.1.isSome) = true := by rfl) (hks : (backToKw pos (keywordEach [⟨some "value", e, kp⟩] X.env)).filterMap (·.1) = [("value" : Str)] := by rfl)
    (hpl : ((backTo pos (starEach [] X.env)).any (·.1) || (backToKw pos (keywordEach [⟨some "value", e, kp⟩] X.env)).any (·.1.isNone)) = false := by rfl) : PE X (.Call (.Name x p) [] [⟨some "value", e, kp⟩] pos) (tMkE C te) := by
  refine ⟨fun pins s σ H Q I h => ?_⟩
  obtain ⟨nm, q, N, bs, bm, sn, sub, ab, col, dd, k0, k1, k2, k3, k5, hC, hbm⟩ := T.o.cls
  refine wpAny_Call_Name_kw (ld_glob I hg hm ?_ hdb)
  refine PySem.W.callWith_KW0 (h₀ := X.base) I.ok.mod.kin T.o.kC hall ?_ hpl
  refine thn ((pk_cons he pk_nil).run pos pins s σ H (fun vs H1 => ∃ v, vs = [v] ∧ ∀ (a d : Addr) (H2 : Hp), H1 a = none → H1 d = none → d ≠ a → Err H2 a d C v → Same H1 H2 → Q (.ref a) H2) I ?_) fun ws s2 ⟨zs, H2, I2, rz, q2⟩ => ?_
  · refine (?_ : te σ H _)
    have h' : te σ H (fun v H1 => ∀ (a d : Addr) (H2 : Hp), H1 a = none → H1 d = none → d ≠ a → Err H2 a d C v → Same H1 H2 → Q (.ref a) H2) := h
    have e : (fun (v : V) (H1 : Hp) => ∀ (a d : Addr) (H2 : Hp), H1 a = none → H1 d = none → d ≠ a → Err H2 a d C v → Same H1 H2 → Q (.ref a) H2) = (fun x H1 => tNil σ H1 fun xs H2 => ∃ v, x :: xs = [v] ∧ ∀ (a d : Addr) (H3 : Hp), H2 a = none → H2 d = none → d ≠ a → Err H3 a d C v → Same H2 H3 → Q (.ref a) H3) := by
      funext v H1
      refine propext ⟨fun z => ⟨v, rfl, z⟩, fun ⟨w, e, z⟩ => ?_⟩
      cases e
      exact z
    rw [e] at h'
    exact h'
  · obtain ⟨v, rfl, q1⟩ := q2
    obtain ⟨u, rfl, r1⟩ := vals1 rz
    refine ⟨I2.kIn, ?_⟩
    rw [hks]
    show wpAny _ _ (call (.ref C) [] [(("value" : Str), u)]) _ _ _
    obtain ⟨hp, g, dr, tk, os⟩ := s2
    refine wpAny_call (codeAny_mono (PySem.KwX.call_kw F.excBase_ValueError (fun Y => PySem.HandSPX.refsVE_contains Y bm hbm) (I2.kIn _ _ hC) (PySem.W.looks_findIn I2.kIn T.iC) (fun self => PySem.W.bind_fn I2.kIn self tI)
      (run_err (kw := [(("value" : Str), u)]) (us := []) (args := ⟨[], []⟩) T F1 hr I2 r1 (fun s => hb s _ u) q1)) fun r s' hq => ?_)
    obtain ⟨y, rfl, ep⟩ := hq
    exact ep
/-- e.value -/
def tErrV (K : PySem.W.Frag) (fI : Addr) (te : TE) : TE := fun σ H Q => te σ H fun x H1 => ∃ (a d C : Addr) (v : V), x = .ref a ∧ ErrC K fI C ∧ Err H1 a d C v ∧ Q v H1
theorem pe_errV (he : PE X e te) (hb : attributeBase e "value" X.env (eval e X.env) = eval e X.env := by rfl) : PE X (.Attribute e "value" pos) (tErrV X.K fI te) := by
  refine ⟨fun pins s σ H Q I h => ?_⟩
  refine attr_of hb (thn (he.run pins s σ H _ I h) fun u s1 hh => ?_)
  obtain ⟨x, H1, I1, rx, a, d, C, v, rfl, T, ⟨e1, e2⟩, q⟩ := hh
  obtain rfl : u = Value.ref a := rx
  obtain ⟨t1, ho⟩ := exo_at I1.hok e1
  obtain ⟨mA, hns, hr⟩ := exd_at I1.hok e2
  obtain ⟨od, hod, hl⟩ := lookIn_ns hns
  obtain ⟨w, hu, ru⟩ := RelO.some_of (v := v) (o := mA "value") (by have z := hr "value"; rw [lookup_put, if_pos rfl] at z; exact z)
  have J : PySem.W.InstAt s1.heap a { cls := .ref C, dict := some d, data := .fields #[.ref t1, .none, .none, .none, .bool false, .none] } C (some od) := ⟨ho, rfl, rfl, hod⟩
  exact HandSPX.exc_get I1.kIn J T.ga T.gg T.o.exC (PySem.W.findObj_own T.hd T.no rfl (by rw [hl, hu])) (handed_of ru) ⟨v, H1, I1.tok _, ru, q⟩
/-- isinstance(e, c) -/
def rIsErr (K : PySem.W.Frag) (fI : Addr) : List V → Hp → VK → Prop := fun xs H Q => ∃ (a d C : Addr) (v c : V) (cv : Value) (b : Bool), xs = [.ref a, c] ∧ ErrC K fI C ∧ Err H a d C v ∧ (∀ u, RelV c u → u = cv) ∧ PySem.W.kitOne K (.ref C) cv = some b ∧ Q (.bl b) H
theorem call_isErr (hn : PySem.W.specialIn X.K (.builtin "object.__class__") "__get__" = some (some (.builtin "getset_descriptor.__get__"))) (htk : PySem.W.takesIn X.K (.builtin "object.__class__") = some true) : CallR X (.builtin "isinstance") (rIsErr X.K fI) := by
  intro pins s σ H xs us Q I r h
  obtain ⟨a, d, C, v, c, cv, b, rfl, T, ⟨e1, e2⟩, hcv, e, q⟩ := h
  obtain ⟨u1, u2, rfl, r1, r2⟩ := vals2 r
  have ec := hcv _ r2
  subst ec
  cases (show u1 = Value.ref a from r1)
  obtain ⟨t1, ho⟩ := exo_at I.hok e1
  obtain ⟨mA, hns, hr⟩ := exd_at I.hok e2
  obtain ⟨od, hod, hl⟩ := lookIn_ns hns
  have J : PySem.W.InstAt s.heap a { cls := .ref C, dict := some d, data := .fields #[.ref t1, .none, .none, .none, .bool false, .none] } C (some od) := ⟨ho, rfl, rfl, hod⟩
  exact PySem.W.kia_one (PySem.W.kitx_exc (by obtain ⟨cd, hc, _⟩ := PySem.W.any_some T.hd; rw [hc]; rfl) T.ga T.gg T.o.exC T.cl hn htk T.mo) I.kIn J e (fun z => nomatch z) fun tk => ⟨.bl b, H, I.kept (t' := tk) fun _ _ z => z, rfl, q⟩
end
/-! ### defs that need to know the guards around (repr) -/
structure FnOkG (P : Program) (w : World) (K : PySem.W.Frag) (mg : Str → Option Value) (base : Heap) (k : Nat) (f : Addr) (fd : FuncData) (ps : List Str) (sp : Sp) : Prop where
  len : ∀ vs H Q E, sp vs H Q E → vs.length = ps.length
  run : ∀ (A : Around) (outer : List Env) (s : Shared) (H : Hp) (args : Args) (us : List Value) (vs : List V) (Q : VK) (E : XK), A.guards = some [] → Room k A → Env0 P w K mg base A outer s H → BindsTo s fd args (ps.zip us) → Vals vs us → sp vs H Q E →
    codeAny (model P w) A (.call (.ref f) args) (CR CX0 outer P w H s Q E) s
section
variable {P : Program} {w : World} {K : PySem.W.Frag} {mg : Str → Option Value} {base : Heap}
/-- one call of a def of the text, at one place: from its body's reading there -/
theorem run_once {x qual : Str} {st : Stmt} {f : Addr} {fd : FuncData} {N ps : List Str} (F : Fun K x qual st f fd) (S : FnScope N ps (defScope st)) {A : Around} {outer : List Env} {s : Shared} {H : Hp} {args : Args} {us : List Value} {vs : List V} {Q : VK} {E : XK}
    (hd : A.handled = none) (dp : A.depth < recursionLimit) (e0 : Env0 P w K mg base A outer s H) (hb : BindsTo s fd args (ps.zip us)) (r : Vals vs us) (hl : vs.length = ps.length)
    (body : ∀ cdv : Value, ∃ t, PSs (cxOf CX0 P w K mg base N qual (defScope st) f cdv A outer s H E).nox (defBody st) t ∧ t { nx := fun _ H' => Q .non H', rt := Q } (start N vs) H) :
    codeAny (model P w) A (.call (.ref f) args) (CR CX0 outer P w H s Q E) s := by
  obtain ⟨oc, od, kV, doc, pm, an, cdv, ct, osl, rfl, lk, hcd⟩ := F.ex
  have keep : ∀ b o, base.get? b = some o → s.heap.get? b = some o := fun b o e => (e0.bs b o e).1
  have KX : K.In s.heap := e0.mod.kin.keeps keep
  refine codeAny_call_function dp (KX _ _ lk) rfl S.co S.gen rfl (PySem.W.codeRec_of KX hcd) (hb _ _ _ _ ?_)
  refine wpAny_newFunctionEnv_cells S.kind (fun y hy => ?_) fun env he s1 z => ?_
  · rcases S.par y.1 (List.of_mem_zip hy).1 with q | q
    · exact .inl q
    · exact .inr ⟨q, PySem.W.cellsFrom_some _ _ _ (.inl q)⟩
  · subst he
    refine ⟨(e0.mod.nolimit.keeps keep).keeps z.toInCall.keep, codeAny_func ?_⟩
    obtain ⟨t, ht, hq⟩ := body cdv
    have I : Inv (cxOf CX0 P w K mg base N qual (defScope st) f cdv A outer s H E) [] (start N vs) H s1 := inv_start S hd e0 hl r z
    refine wpAny_mono (ht.nox.run [] s1 (start N vs) H _ I hq) (fun fl s' hs => ?_) fun e s' hs => hs
    cases fl with
    | ret u =>
      obtain ⟨v, _, H', J, rv, q⟩ := hs
      exact ⟨v, H', J.os, J.bare, J.base, J.hok, rv, q⟩
    | next =>
      obtain ⟨_, H', J, q⟩ := hs
      exact ⟨V.non, H', J.os, J.bare, J.base, J.hok, rfl, q⟩
    | brk => exact (hs.choose_spec.choose_spec.2 : False).elim
    | cont => exact (hs.choose_spec.choose_spec.2 : False).elim
theorem Fun.okG {x qual : Str} {st : Stmt} {f : Addr} {fd : FuncData} {N ps : List Str} {k : Nat} {sp : Sp} (F : Fun K x qual st f fd) (S : FnScope N ps (defScope st)) (len : ∀ vs H Q E, sp vs H Q E → vs.length = ps.length)
    (hbody : ∀ (cdv : Value) (A : Around) (outer : List Env) (s : Shared) (H : Hp) (vs : List V) (Q : VK) (E : XK), A.guards = some [] → Room k (A.deeper (envOfC qual (defScope st) s.heap.objs.size f cdv)) → sp vs H Q E →
      ∃ t, PSs (cxOf CX0 P w K mg base N qual (defScope st) f cdv A outer s H E).nox (defBody st) t ∧ t { nx := fun _ H' => Q .non H', rt := Q } (start N vs) H) : FnOkG P w K mg base (k + 1) f fd ps sp :=
  ⟨len, fun A outer s H args us vs Q E hg hr e0 hb r hsp => run_once F S hr.hd hr.depth e0 hb r (len _ _ _ _ hsp) fun cdv => hbody cdv A outer s H vs Q E hg (hr.deeper _) hsp⟩
end
section
variable {X : Cx} {k : Nat} {f : Addr} {fd : FuncData} {ps : List Str} {sp : Sp} {x : Str} {p pos : Pos} {e : Expr} {es : List Expr} {t : TA}
/-- f(e, ..), f a def that wants the guards known -/
theorem pe_callG (hG : X.A.guards = some []) (F : FnOkG X.prog X.w X.K X.mg X.base k f fd ps sp) (hr : Room k X.A) (hg : Gl X x) (hm : X.mg x = some (.ref f)) (hk : PySem.W.keepIn X.K (.ref f) = true) (hb : Binds X.K fd ps [])
    (ha : PA X (e :: es) t) (hdb : (x == ("__debug__" : Str)) = false := by decide) (he : starEach (e :: es) X.env = (false, eval e X.env) :: starEach es X.env := by rfl) (hpl : (backTo pos (starEach es X.env)).any (·.1) = false := by rfl) :
    PE X (.Call (.Name x p) (e :: es) [] pos) (tCall sp [] E0 t) := by
  refine ⟨fun pins s σ H Q I h => ?_⟩
  refine wpAny_Call_Name_kw (ld_glob I hg hm ?_ hdb)
  refine PySem.W.callWith_K (h₀ := X.base) I.ok.mod.kin hk (thn (ha.run pos pins s σ H _ I h) fun us s1 ⟨vs, H1, I1, r, q⟩ => ⟨I1.kIn, ?_⟩) he hpl
  have hl : (us ++ []).length = ps.length := by rw [List.append_nil, ← r.length, ← F.len _ _ _ _ q, List.append_nil]
  show wpAny _ _ (call (.ref f) us) _ _ _
  refine wpAny_call (codeAny_mono (F.run X.A X.stack s1 H1 ⟨us, []⟩ (us ++ []) (vs ++ []) Q E0 hG hr I1.env0 (hb s1 us I1.kIn hl) (r.append .nil) q) fun res s' hq => ?_)
  cases res with
  | error er => exact False.elim hq
  | ok fl =>
    cases fl with
    | ret u => exact I1.after hq
    | next => exact False.elim hq
    | brk => exact False.elim hq
    | cont => exact False.elim hq
end
/-! ### the end of a law row for such a def -/
theorem enter_law {P : Program} {w : World} {K : PySem.W.Frag} {mg mb : Str → Option Value} {k : Nat} {fa a : Addr} {fd : FuncData} {x : Str} {sp : Sp} {s1 : Shared} {us : List Value} {H : Hp}
    (F : ∀ base : Heap, K.In base → base.Ns mainGlobals mg → FnOkG P w K mg base k fa fd [x] sp) (hr : Room k callerA) (hbind : ∀ (s : Shared) (u : Value), BindsTo s fd ⟨[u], []⟩ [(x, u)])
    (KX : K.In s1.heap) (hns : s1.heap.Ns mainGlobals mg) (hb : s1.heap.Ns builtinsNs mb) (hbb : ∀ x : Str, x ≠ "__name__" → mb x = bootBuiltins x) (hlim : s1.heap.NoLimit) (hg : s1.gens = #[])
    (ha : s1.heap.get? a = some { cls := .type "list", data := .seq us.toArray }) (ok : HOk P w H s1.heap) (only : ∀ b o, H b = some o → b = a ∧ K.lookup a = none ∧ ∃ xs, o = .frz { cls := .type "list", data := .seq us.toArray } (.lst xs))
    (hsp : sp [.ref a] H (fun v _ => v = .bl true) E0) :
    codeAny (model P w) callerA (.call (.ref fa) ⟨[.ref a], []⟩) (fun r s' => r = .ok (.ret (.bool true)) ∧ OldK s1.heap s'.heap ∧ s'.os = s1.os ∧ AllBare s'.gens) s1 := by
  have free : ∀ {b : Addr} {o : Obj}, s1.heap.get? b = some o → (∀ z : Array Value, ∀ n, o.data ≠ .seq z n) → H b = none := fun {b o} e d => by
    cases q : H b with
    | none => rfl
    | some u =>
      obtain ⟨rfl, _⟩ := only b u q
      rw [ha] at e
      cases e
      exact (d _ _ rfl).elim
  have ns2 : ∀ {b : Addr} {m : Str → Option Value}, s1.heap.Ns b m → (hidT s1.heap H).Ns b m := fun {b m} n => by
    obtain ⟨o, es, ep, e, d, r⟩ := n
    exact ⟨o, es, ep, hidT_get e (free e (fun z n y => by rw [d] at y; cases y)), d, r⟩
  have kin : K.In (hidT s1.heap H) := fun b o e => hidT_get (KX b o e) (by
    cases q : H b with
    | none => rfl
    | some u =>
      obtain ⟨rfl, z, _⟩ := only b u q
      rw [z] at e
      cases e)
  have M : Mod K mg (hidT s1.heap H) := ⟨kin, ns2 hns, ⟨mb, ns2 hb, hbb⟩, by obtain ⟨mc, z1, z2⟩ := hlim; exact ⟨mc, ns2 z1, z2⟩⟩
  have e0 : Env0 P w K mg (hidT s1.heap H) callerA [] s1 H := ⟨rfl, M, fun b o e => of_hidT e, Nat.le_of_eq (hidT_size _ _), trivial, (fun b z => absurd (show b ∈ ([] : List Addr) from z) (by simp)), ok, .of_eq hg⟩
  refine codeAny_mono ((F _ kin (ns2 hns)).run callerA [] s1 H _ [.ref a] [.ref a] _ _ rfl hr e0 (hbind s1 (.ref a)) (.cons rfl .nil) hsp) fun r s' h => ?_
  cases r with
  | error e => exact False.elim h
  | ok fl =>
    cases fl with
    | next => exact False.elim h
    | brk => exact False.elim h
    | cont => exact False.elim h
    | ret u =>
      obtain ⟨v, H', os, bare, un, ok', rv, q⟩ := h
      subst q
      obtain rfl : u = Value.bool true := rv
      refine ⟨rfl, OldK.of_keep fun b o e => ?_, os, bare⟩
      cases q : H b with
      | none => exact un.keep b o e q (fun z => absurd (show b ∈ ([] : List Addr) from z) (by simp)) (by simp)
      | some y =>
        obtain ⟨rfl, _, xs, rfl⟩ := only b y q
        obtain ⟨e1, _⟩ := ok' b _ (un.frzs b _ _ q)
        rw [ha] at e
        cases e
        exact e1
theorem walk_ofG {l : PySem.W.OpenLaw} {n k : Nat} {q : Program} {loose : List Str} {XP : (Str → Option Value) → Heap → Prop} {YP : World → Heap → Prop} {d : DefRec} {K : Params → PySem.W.Frag} {sp : PySem.W.Frag → Sp} {x : Str}
    (hn : l.most = some n) (hn2 : n ≤ sizeLine) (hdf : d.params.defaults = []) (hr : Room k callerA) (hY : ∀ (w : World) (h : Heap), YP w h → (K w.params).In h)
    (F : ∀ (w : World) (mg : Str → Option Value) (fa : Addr) (h : Heap), (K w.params).In h → h.Ns mainGlobals mg → mg d.name = some (.ref fa) →
      ∃ fd : FuncData, (∀ (s : Shared) (u : Value), BindsTo s fd ⟨[u], []⟩ [(x, u)]) ∧ ∀ base : Heap, (K w.params).In base → base.Ns mainGlobals mg → FnOkG l.prog w (K w.params) mg base k fa fd [x] (sp (K w.params)))
    (hsp : ∀ (K : PySem.W.Frag) (H : Hp) (a : Addr) (ns : List Int), ns.length ≤ n → Only H → SqL K H a (ns.map V.int) → sp K [.ref a] H (fun v _ => v = .bl true) E0) :
    PySem.W.WalkO q loose XP YP l.row.toRowW d [] (fun f vs => PySem.call f vs) := by
  refine Att.attach_call hn hdf fun w s0 s1 mg mb fa o pm cd doc a us ns G Y ho hd hcd hmg hobj hints hlen hg => ?_
  have KX := hY w _ Y
  obtain ⟨fd, hb, hF⟩ := F w mg fa _ KX G.T.g hmg
  have rv := vals_ints hints
  have hz : (ns.map V.int).length ≤ sizeLine := by rw [List.length_map]; omega
  cases hk : (K w.params).lookup a with
  | some ob =>
    have e := KX a ob hk
    rw [hobj] at e
    cases e
    have S : SqL (K w.params) (fun _ => none) a (ns.map V.int) := .inr ⟨_, us.toArray, _, hk, rfl, rfl, rfl, by rw [List.size_toArray, ← rv.length]; exact hz, by simpa using rv⟩
    exact enter_law (H := fun _ => none) hF hr hb KX G.T.g G.T.b G.T.builtins G.T.nolimit hg hobj (fun b u z => by cases (show (none : Option HO) = some u from z)) (fun b u z => by cases (show (none : Option HO) = some u from z))
      (hsp _ _ a ns hlen (fun b => .inl rfl) S)
  | none =>
    refine enter_law (H := upd (fun _ => none) a (.frz { cls := .type "list", data := .seq us.toArray } (.lst (ns.map V.int)))) hF hr hb KX G.T.g G.T.b G.T.builtins G.T.nolimit hg hobj (fun b u z => ?_) (fun b u z => ?_)
      (hsp _ _ a ns hlen (fun b => ?_) (.inl (.inr ⟨_, upd_same⟩)))
    · by_cases e : b = a
      · subst e
        rw [upd_same] at z
        cases z
        exact ⟨hobj, hz, us, _, rv, hobj⟩
      · rw [upd_ne e] at z
        cases z
    · by_cases e : b = a
      · subst e
        rw [upd_same] at z
        cases z
        exact ⟨rfl, hk, _, rfl⟩
      · rw [upd_ne e] at z
        cases z
    · by_cases e : b = a
      · subst e
        exact .inr ⟨_, _, upd_same⟩
      · exact .inl (upd_ne e)
end L2

set_option Elab.async false
set_option linter.all false
set_option maxRecDepth 100000
set_option maxHeartbeats 4000000
/-! sorting tuples of any lengths, the empty one too -/
namespace L2
open PySem PySem.W PySem.SeqAt PySem.Spec PyProof.Rows
section
variable {prog : Program} {w : World} {A : Around} {E : Value → Shared → Prop} {s : Shared}
theorem tupLt_call {Q : Value → Shared → Prop} {x y : Addr} {us vs : Array Value} {eqs lts : Nat → Bool} (hx : s.heap.IsTuple x us) (hy : s.heap.IsTuple y vs)
    (h1 : ∀ j (a : j < us.size) (b : j < vs.size), EqAt A.in1 s us[j] vs[j] (eqs j))
    (h2 : ∀ j (a : j < us.size) (b : j < vs.size), eqs j = false → RcLt A.in1 s us[j] vs[j] (lts j))
    (hq : Q (.bool (firstLt eqs lts (decide (us.size < vs.size)) (List.range (min us.size vs.size)))) s) :
    wpAny (model prog w) A (call (.builtin "tuple.__lt__") [.ref x, .ref y]) Q E s := by
  obtain ⟨⟨kx, dx, tx, sx⟩, gx, rfl, nx, rfl⟩ := hx
  obtain ⟨⟨ky, dy, ty, sy⟩, gy, rfl, ny, rfl⟩ := hy
  exact call_meets F.slot_tuple_lt ⟨_, gx, rfl⟩ F.entry_tuple_lt (F.args_tuple_lt_2 _ _) (tuple_ltAt x y us vs nx ny dx dy sx sy eqs lts) ⟨gx, gy, h1, h2, hq⟩
theorem oneLt_tups {f : Bool} {xs ys : List PyData} {u v : Value} {as bs : List Addr} {Q : Bool → Shared → Prop} (ra : Reads s.heap u (.tuple xs) as) (rb : Reads s.heap v (.tuple ys) bs) (hal : alikeAll xs ys = true)
    (hu : A.units + min (PyData.tuple xs).depth (PyData.tuple ys).depth < cLine) (hq : Q (dataLt (.tuple xs) (.tuple ys)) s) : wpAny (model prog w) A (oneLt' f u v) Q E s := by
  cases f with
  | false => exact oneLt_alike (fun z => nomatch z) ra rb (by simpa [alike] using hal) (fun z => nomatch z) hu hq
  | true =>
    cases ra with
    | @tuple x ox us nx _ cs g1 g2 g3 g4 =>
      cases rb with
      | @tuple y oy vs ny _ ds k1 k2 k3 k4 =>
        have l1 : us.size = xs.length := by simpa using SeqAt.ReadsAll.length _ _ _ g4
        have l2 : vs.size = ys.length := by simpa using SeqAt.ReadsAll.length _ _ _ k4
        rw [dataLt_tuple, ← firstLt_toks xs ys hal, ← l1, ← l2] at hq
        rw [oneLt'_eq, if_pos rfl]
        have hroom := room_in hu
        refine wpAny_bind (wpAny_cRoomFor (room_here hu) ?_)
        refine wpAny_bind (wpAny_callSpecialIfBound?_slot (T := "tuple") ⟨_, g1, g2⟩ F.slot_tuple_lt ?_)
        refine tupLt_call (eqs := pairEq xs ys) (lts := fun j => dataLt (xs.getD j .none) (ys.getD j .none)) ⟨_, g1, g2, _, g3⟩ ⟨_, k1, k2, _, k3⟩ (fun j a b => ?_) (fun j a b hj => ?_) ?_
        · have z := eqAt_alikeAll xs ys A.in1 s us.toList vs.toList _ _ g4 k4 hal hroom j (by simpa using a) (by simpa using b)
          rwa [Array.getElem_toList, Array.getElem_toList] at z
        · have z := rcLt_alikeAll xs ys A.in1 s us.toList vs.toList _ _ g4 k4 hal hroom j (by simpa using a) (by simpa using b) hj
          rwa [Array.getElem_toList, Array.getElem_toList] at z
        · exact wpAny_truthy_bool hq
end
/-- the first item of a tuple of the heap -/
def headAt (h : Heap) : Value → Option Value
  | .ref a => match h.get? a with
    | some o => match o.data with
      | .seq us _ => us[0]?
      | _ => none
    | none => none
  | _ => none
def IsTup (h : Heap) (v : Value) : Prop := ∃ a us, v = .ref a ∧ h.IsTuple a us
section
variable {M : Model} {A : Around} {E : Value → Shared → Prop} {s : Shared}
theorem heads_run : ∀ (vs : List Value) {Q : List (Option Value) → Shared → Prop}, (∀ v ∈ vs, IsTup s.heap v) → Q (vs.map (headAt s.heap)) s → wpAny M A (vs.mapM firstOfTuple') Q E s
  | [], _, _, q => by rw [List.mapM_nil]; exact wpAny_pure q
  | v :: vs, Q, hv, q => by
    obtain ⟨a, us, rfl, o, g1, g2, n, g3⟩ := hv v List.mem_cons_self
    rw [List.mapM_cons, kas_first_eq]
    refine wpAny_bind (wpAny_bind (Looks.here ((Looks.ld g1).andThen .now) ?_))
    rw [g2, if_neg (by decide)]
    refine wpAny_bind (listItems_at g1 g3 (wpAny_pure ?_))
    have e : headAt s.heap (.ref a) = us[0]? := by
      show (match s.heap.get? a with | some o => _ | none => none) = _
      rw [g1]
      show (match o.data with | .seq us _ => us[0]? | _ => none) = _
      rw [g3]
    rw [← e]
    exact wpAny_bind (heads_run vs (fun u hu => hv u (List.mem_cons_of_mem _ hu)) (wpAny_pure q))
theorem kind_mixed {vs : List Value} (h2 : 2 ≤ vs.length) (hv : ∀ v ∈ vs, IsTup s.heap v) (hm : ∃ v ∈ vs, headAt s.heap v = none) :
    ∃ f : Bool, ∀ (E : Value → Shared → Prop) {Q : SortKind → Shared → Prop}, Q (if f = true then oneType' else general') s → wpAny M A (keyKind' vs.toArray) Q E s := by
  obtain ⟨v, l, rfl⟩ : ∃ v l, vs = v :: l := by
    cases vs with
    | nil => exact absurd h2 (by simp)
    | cons v l => exact ⟨v, l, rfl⟩
  refine ⟨(headAt s.heap v).isNone, fun E Q q => ?_⟩
  rw [keyKind'_eq, List.mapM_toArray, map_eq_pure_bind]
  refine wpAny_bind (wpAny_bind (heads_run _ hv (wpAny_pure ?_)))
  have no : ¬ (((v :: l).map (headAt s.heap)).toArray.all fun z => z.isSome) = true := by
    obtain ⟨u, hu, e⟩ := hm
    intro z
    simp only [List.all_toArray, List.all_map, List.all_eq_true] at z
    have := z u hu
    simp [e] at this
  rw [if_neg no]
  have e0 : ((v :: l).map (headAt s.heap)).toArray[0]? = some (headAt s.heap v) := by simp
  rw [e0]
  cases hh : headAt s.heap v with
  | some f =>
    rw [hh] at q
    exact wpAny_pure q
  | none =>
    rw [hh] at q
    show wpAny M A (oneTypeOnly' _ >>= fun z => pure (if z.isSome = true then oneType' else general')) Q E s
    rw [oneTypeOnly'_eq, List.mapM_toArray, map_eq_pure_bind]
    refine wpAny_bind (wpAny_bind (wpAny_bind (kas_mapM (r := Value.type "tuple") _ (fun u hu Q' hq => ?_) (wpAny_pure ?_))))
    · obtain ⟨a, us, rfl, o, g1, g2, _⟩ := hv u hu
      exact Looks.here (show Looks M s.heap (typeOf (.ref a)) (.type "tuple") from g2 ▸ (Looks.ld g1).andThen .now) hq
    · have e1 : (List.map (fun _ => Value.type "tuple") (v :: l)).toArray[0]? = some (Value.type "tuple") := by simp
      rw [e1]
      have e2 : ((List.map (fun _ => Value.type "tuple") (v :: l)).toArray.all fun z => z == Value.type "tuple") = true := by
        simp only [List.all_toArray, List.all_map, List.all_eq_true]
        exact fun _ _ => beq_self_eq_true _
      simp only [e2, if_true]
      exact wpAny_pure (wpAny_pure q)
end
section
variable {prog : Program} {w : World} {A : Around} {s : Shared}
theorem each_isTup {h : Heap} {vs : List Value} {ds : List PyData} (e : EachIs (fun v d => ∃ as, Reads h v d as) vs ds) (ht : ∀ d ∈ ds, ∃ xs, d = .tuple xs) : ∀ v ∈ vs, IsTup h v := fun v hv => by
  obtain ⟨d, hd, as, r⟩ := e.left v hv
  obtain ⟨xs, rfl⟩ := ht d hd
  cases r with
  | tuple g1 g2 g3 _ => exact ⟨_, _, rfl, _, g1, g2, _, g3⟩
theorem each_back {R : Value → PyData → Prop} : ∀ {vs : List Value} {ds : List PyData}, EachIs R vs ds → ∀ d ∈ ds, ∃ v ∈ vs, R v d
  | _, _, .nil, d, hd => absurd hd (by simp)
  | _, _, .cons (a := a) r t, d, hd => by
    rcases List.mem_cons.mp hd with rfl | hd
    · exact ⟨a, List.mem_cons_self, r⟩
    · obtain ⟨v, hv, q⟩ := each_back t d hd
      exact ⟨v, List.mem_cons_of_mem _ hv, q⟩
/-- tuples of any lengths can be sorted -/
theorem sortsAt_tups {vs : List Value} {ds : List PyData} (e : EachIs (fun v d => ∃ as, Reads s.heap v d as) vs ds) (hal : AllAlike ds) (ht : ∀ d ∈ ds, ∃ xs, d = .tuple xs) (hu : ∀ d, d ∈ ds → A.units + d.depth < cLine) :
    SortsAt prog w A s (dataKind s.heap ds) vs := by
  rcases Classical.em (∀ d ∈ ds, ∃ x r, d = PyData.tuple (x :: r)) with c | c
  · exact SortsAt.data e hal (.inl c) hu
  · have key : ∀ v ∈ vs, ∃ a, (dataKind s.heap ds).keyOf v = some a := fun v hv => by
      obtain ⟨d, hd, as, r⟩ := e.left v hv
      exact ⟨_, dataKind_some hal hd r⟩
    refine ⟨key, ?_⟩
    rcases Nat.lt_or_ge vs.length 2 with z | z
    · refine ⟨general', ?_, fun h2 => absurd h2 (by omega)⟩
      intro E u v a b Q ha hb hq
      obtain ⟨d, as, hd, ra, rfl⟩ := dataKind_inv ha
      obtain ⟨d', bs, hd', rb, rfl⟩ := dataKind_inv hb
      obtain ⟨xs, rfl⟩ := ht d hd
      obtain ⟨ys, rfl⟩ := ht d' hd'
      exact oneLt_tups (f := false) ra rb (by simpa [alike] using hal _ hd _ hd') (Nat.lt_of_le_of_lt (Nat.add_le_add_left (Nat.min_le_left _ _) _) (hu _ hd)) hq
    · have hm : ∃ v ∈ vs, headAt s.heap v = none := by
        obtain ⟨d, c⟩ := Classical.not_forall.mp c
        obtain ⟨hd, c⟩ := Classical.not_imp.mp c
        obtain ⟨xs, rfl⟩ := ht d hd
        cases xs with
        | cons x r => exact absurd ⟨x, r, rfl⟩ c
        | nil =>
          obtain ⟨v, hv, as, r⟩ := each_back e _ hd
          refine ⟨v, hv, ?_⟩
          cases r with
          | @tuple a o us n _ _ g1 g2 g3 g4 =>
            have l : us.size = 0 := by simpa using SeqAt.ReadsAll.length _ _ _ g4
            have e0 : us[0]? = none := by simp [l]
            show (match s.heap.get? a with | some o => _ | none => none) = _
            rw [g1]
            show (match o.data with | .seq us _ => us[0]? | _ => none) = _
            rw [g3]
            exact e0
      obtain ⟨f, hf⟩ := kind_mixed (M := model prog w) (A := A) z (each_isTup e ht) hm
      refine ⟨if f = true then oneType' else general', ?_, fun _ E Q q => hf E q⟩
      intro E u v a b Q ha hb hq
      obtain ⟨d, as, hd, ra, rfl⟩ := dataKind_inv ha
      obtain ⟨d', bs, hd', rb, rfl⟩ := dataKind_inv hb
      obtain ⟨xs, rfl⟩ := ht d hd
      obtain ⟨ys, rfl⟩ := ht d' hd'
      have g := fun f => oneLt_tups (prog := prog) (w := w) (E := E) (f := f) ra rb (by simpa [alike] using hal _ hd _ hd') (Nat.lt_of_le_of_lt (Nat.add_le_add_left (Nat.min_le_left _ _) _) (hu _ hd)) hq
      cases f with
      | true => exact g true
      | false => exact g false
end
end L2

set_option Elab.async false
set_option linter.all false
set_option maxRecDepth 100000
set_option maxHeartbeats 4000000
/-! sets of nested tuples: the small questions -/
namespace L2
open PySem PySem.SeqAt PySem.Spec PyProof.Rows
section
variable {P : Program} {w : World}
/-- no class statement of the program made anything of it -/
def NoClass (P : Program) (w : World) (n : Nat) (s : Shared) (v : Value) : Prop := ∀ (A : Around) (E : Value → Shared → Prop) (Q : Bool → Shared → Prop), Q false s → wpAny (model P w) A (ofAClassStatement n v) Q E s
theorem NoClass.leaf {n : Nat} {s : Shared} {v : Value} (h : ofAClassStatement n v = pure false) : NoClass P w n s v := fun A E Q q => by
  rw [h]
  exact wpAny_pure q
theorem NoClass.tup {n : Nat} {s : Shared} {a : Addr} {o : Obj} {us : Array Value} {m : Nat} (g1 : s.heap.get? a = some o) (g2 : o.cls = .type "tuple") (g3 : o.data = .seq us m) (hu : ∀ u ∈ us.toList, NoClass P w n s u) : NoClass P w (n + 1) s (.ref a) := fun A E Q q => by
  unfold ofAClassStatement
  refine wpAny_bind (wpAny_typeOf ⟨o, g1, g2⟩ ?_)
  dsimp only
  have e : (("tuple" : String) == "tuple") = true := by decide
  rw [if_pos e]
  refine wpAny_bind (wpAny_pure ?_)
  rw [if_neg (by decide)]
  refine wpAny_bind (wpAny_seqItems g1 g3 ?_)
  dsimp only
  refine wpAny_bind ?_
  rw [← Array.forIn_toList]
  refine wpAny_forIn_list _ (fun left acc s' => acc.1 = none ∧ s' = s ∧ ∀ u ∈ left, NoClass P w n s u) _ ?_ ?_ _ _ ⟨rfl, rfl, hu⟩
  · rintro u left acc s' ⟨ha, rfl, hl⟩
    refine wpAny_bind (hl u List.mem_cons_self _ _ _ ?_)
    rw [if_neg (by decide)]
    exact wpAny_pure ⟨rfl, rfl, fun x hx => hl x (List.mem_cons_of_mem _ hx)⟩
  · rintro ⟨acc1, acc2⟩ s' ⟨ha, rfl, _⟩
    cases (show acc1 = none from ha)
    exact wpAny_pure q
mutual
theorem noClass_key : ∀ (k : NestedKey) (v : Value) (n : Nat) (s : Shared), NestedIs s.heap k v → k.depth ≤ n → NoClass P w n s v
  | .none, _, n, s, x, _ => by cases x; exact .leaf (by cases n <;> rfl)
  | .num i, _, n, s, x, _ => by cases x <;> exact .leaf (by cases n <;> rfl)
  | .text y, _, n, s, x, _ => by cases x; exact .leaf (by cases n <;> rfl)
  | .tup ks, _, n, s, x, hn => by
    cases x with
    | tup g1 g2 g3 g4 =>
      simp only [NestedKey.depth] at hn
      cases n with
      | zero => omega
      | succ n => exact .tup g1 g2 g3 (noClass_keys ks _ n s g4 (by omega))
theorem noClass_keys : ∀ (ks : List NestedKey) (vs : List Value) (n : Nat) (s : Shared), NestedAll s.heap ks vs → NestedKey.depthAll ks ≤ n → ∀ v ∈ vs, NoClass P w n s v
  | [], _, n, s, x, _, v, hv => by cases x; cases hv
  | k :: ks, _, n, s, x, hn, v, hv => by
    cases x with
    | cons x1 x2 =>
      simp only [NestedKey.depthAll] at hn
      rcases List.mem_cons.mp hv with rfl | hv
      · exact noClass_key k _ n s x1 (by omega)
      · exact noClass_keys ks _ n s x2 (by omega) v hv
end
/-- whether its hash is by value: some answer, and nothing else -/
def SomeHash (P : Program) (w : World) (n : Nat) (s : Shared) (v : Value) : Prop := ∀ (A : Around) (E : Value → Shared → Prop) (Q : Bool → Shared → Prop), (∀ b, Q b s) → wpAny (model P w) A (hashByValue n v) Q E s
theorem SomeHash.leaf {n : Nat} {s : Shared} {v : Value} (b : Bool) (h : hashByValue n v = pure b) : SomeHash P w n s v := fun A E Q q => by
  rw [h]
  exact wpAny_pure (q b)
theorem SomeHash.tup {n : Nat} {s : Shared} {a : Addr} {o : Obj} {us : Array Value} {m : Nat} (g1 : s.heap.get? a = some o) (g2 : o.cls = .type "tuple") (g3 : o.data = .seq us m) (hu : ∀ u ∈ us.toList, SomeHash P w n s u) : SomeHash P w (n + 1) s (.ref a) := fun A E Q q => by
  unfold hashByValue
  refine wpAny_bind (wpAny_specialOf ⟨o, g1, g2⟩ F.slot_tuple_hash.lookup ?_)
  show wpAny _ _ (seqItems? (.ref a) >>= _) _ _ s
  refine wpAny_bind (wpAny_seqItems g1 g3 ?_)
  refine wpAny_bind ?_
  show wpAny _ _ (forIn us _ _) _ _ s
  rw [← Array.forIn_toList]
  refine wpAny_forIn_list _ (fun left acc s' => acc.1 = none ∧ s' = s ∧ ∀ u ∈ left, SomeHash P w n s u) _ ?_ ?_ _ _ ⟨rfl, rfl, hu⟩
  · rintro u left acc s' ⟨ha, rfl, hl⟩
    refine wpAny_bind (hl u List.mem_cons_self _ _ _ fun b => ?_)
    cases b with
    | true =>
      rw [if_neg (by decide)]
      exact wpAny_pure ⟨rfl, rfl, fun x hx => hl x (List.mem_cons_of_mem _ hx)⟩
    | false =>
      rw [if_pos (by decide)]
      exact wpAny_pure (wpAny_pure (q _))
  · rintro ⟨acc1, acc2⟩ s' ⟨ha, rfl, _⟩
    cases (show acc1 = none from ha)
    exact wpAny_pure (q _)
mutual
theorem someHash_key : ∀ (k : NestedKey) (v : Value) (n : Nat) (s : Shared), NestedIs s.heap k v → k.depth ≤ n → SomeHash P w n s v
  | .none, _, n, s, x, _ => by cases x; exact .leaf true (by cases n <;> rfl)
  | .num i, _, n, s, x, _ => by cases x <;> exact .leaf true (by cases n <;> rfl)
  | .text y, _, n, s, x, _ => by cases x; exact .leaf false (by cases n <;> rfl)
  | .tup ks, _, n, s, x, hn => by
    cases x with
    | tup g1 g2 g3 g4 =>
      simp only [NestedKey.depth] at hn
      cases n with
      | zero => omega
      | succ n => exact .tup g1 g2 g3 (someHash_keys ks _ n s g4 (by omega))
theorem someHash_keys : ∀ (ks : List NestedKey) (vs : List Value) (n : Nat) (s : Shared), NestedAll s.heap ks vs → NestedKey.depthAll ks ≤ n → ∀ v ∈ vs, SomeHash P w n s v
  | [], _, n, s, x, _, v, hv => by cases x; cases hv
  | k :: ks, _, n, s, x, hn, v, hv => by
    cases x with
    | cons x1 x2 =>
      simp only [NestedKey.depthAll] at hn
      rcases List.mem_cons.mp hv with rfl | hv
      · exact someHash_key k _ n s x1 (by omega)
      · exact someHash_keys ks _ n s x2 (by omega) v hv
end
/-- a key of the heap that sets take: a nested tuple, not too deep -/
structure TupKey (h : Heap) (k : NestedKey) (a : Addr) : Prop where
  is : NestedIs h k (.ref a)
  deep : k.depth ≤ 8
theorem TupKey.cls {h : Heap} {k : NestedKey} {a : Addr} (x : TupKey h k a) : ∃ o us n, h.get? a = some o ∧ o.cls = .type "tuple" ∧ o.data = .seq us n := by
  cases x.is with
  | tup g1 g2 g3 _ => exact ⟨_, _, _, g1, g2, g3⟩
theorem TupKey.keep {h h' : Heap} {k : NestedKey} {a : Addr} (x : TupKey h k a) (ext : ∀ b o, h.get? b = some o → h'.get? b = some o) : TupKey h' k a := ⟨x.is.at (fun b o _ _ g _ => ext b o g) _ _, x.deep⟩
/-- no set's own object is read of a key -/
theorem TupKey.but {h h' : Heap} {k : NestedKey} {a b : Addr} {o : Obj} {es : Array (Int × Value)} {ep : Nat} {t : SetTable} (x : TupKey h k a) (g : h.get? b = some o) (d : o.data = .set es ep t) (sb : Heap.SameBut b h h') : TupKey h' k a :=
  ⟨NestedIs.at (fun c p us n gc dc => by
    refine (sb.2 c fun e => ?_).trans gc
    subst e
    cases (g.symm.trans gc)
    exact nomatch d.symm.trans dc) _ _ x.is, x.deep⟩
theorem TupKey.unseen {A : Around} {E : Value → Shared → Prop} {s : Shared} {Q : Bool → Shared → Prop} {k : NestedKey} {a : Addr} (x : TupKey s.heap k a) {ys : List Value} (hy : ∀ y ∈ ys, ∃ j b, y = Value.ref b ∧ TupKey s.heap j b) (q : Q false s) :
    wpAny (model P w) A (searchCouldBeSeen (.ref a) ys) Q E s := by
  unfold searchCouldBeSeen
  refine wpAny_bind ?_
  refine wpAny_forIn_list _ (fun left acc s' => acc.1 = none ∧ s' = s ∧ ∀ y ∈ left, ∃ j b, y = Value.ref b ∧ TupKey s.heap j b) _ ?_ ?_ _ _ ⟨rfl, rfl, hy⟩
  · rintro y left acc s' ⟨ha, rfl, hl⟩
    obtain ⟨j, b, rfl, xb⟩ := hl y List.mem_cons_self
    have more : ∀ y ∈ left, ∃ j b, y = Value.ref b ∧ TupKey s'.heap j b := fun u hu => hl u (List.mem_cons_of_mem _ hu)
    dsimp only
    split
    · exact wpAny_pure ⟨rfl, rfl, more⟩
    · refine wpAny_bind (quiet_key _ _ 8 _ x.is x.deep _ _ _ ?_)
      rw [if_neg (by decide)]
      refine wpAny_bind (quiet_key _ _ 8 _ xb.is xb.deep _ _ _ ?_)
      rw [if_neg (by decide)]
      refine wpAny_bind (noClass_key _ _ 8 _ x.is x.deep _ _ _ ?_)
      rw [if_neg (by decide)]
      refine wpAny_bind (noClass_key _ _ 8 _ xb.is xb.deep _ _ _ ?_)
      rw [if_neg (by decide)]
      exact wpAny_pure ⟨rfl, rfl, more⟩
  · rintro ⟨acc1, acc2⟩ s' ⟨ha, rfl, _⟩
    cases (show acc1 = none from ha)
    exact wpAny_pure q
end
end L2

set_option Elab.async false
set_option linter.all false
set_option maxRecDepth 100000
set_option maxHeartbeats 4000000
/-! sets of nested tuples: the search -/
namespace L2
open PySem PySem.SeqAt PySem.Spec PyProof.Rows
abbrev NRow := Addr × NestedKey
def hashesN (w : World) (L : List NRow) : List Int := L.map fun r => r.2.hash w
def nrows (w : World) (L : List NRow) : List (Int × Value) := L.map fun r => (r.2.hash w, Value.ref r.1)
/-- the set at a has these keys, in the sequence of its table -/
structure NSet (w : World) (h : Heap) (a : Addr) (L : List NRow) (es : Array (Int × Value)) (ep : Nat) (t : SetTable) : Prop where
  obj : ∃ o, h.get? a = some o ∧ o.ExactSet ∧ o.data = .set es ep t
  eqs : es.toList = nrows w L
  tok : TabOk t (hashesN w L)
  dif : (L.map Prod.snd).Nodup
  key : ∀ r ∈ L, TupKey h r.2 r.1
  led : w.params.followText "set-order" = true ∨ t.led = true
  gap : L.length * 5 < t.mask * 3
  small : L.length < 64
section
variable {P : Program} {w : World} {A : Around} {E : Value → Shared → Prop} {s : Shared} {a : Addr} {L : List NRow} {es : Array (Int × Value)} {ep : Nat} {t : SetTable}
theorem nrows_len (h : es.toList = nrows w L) : es.size = L.length := by
  have z := congrArg List.length h
  unfold nrows at z
  simpa using z
theorem NSet.size (N : NSet w s.heap a L es ep t) : es.size = L.length := nrows_len N.eqs
theorem NSet.place (N : NSet w s.heap a L es ep t) : t.place.size = L.length := by
  have z := N.tok.sz
  unfold hashesN at z
  simpa using z
theorem fits_of (h1 : t.place.size = es.size) (h2 : t.dummies = #[]) (h3 : es.size ≤ t.mask) : t.fits es.size = true := by
  unfold SetTable.fits SetTable.fill
  rw [h2, h1, Bool.and_eq_true]
  exact ⟨beq_self_eq_true _, decide_eq_true (by show es.size + 0 ≤ t.mask; omega)⟩
theorem NSet.fits (N : NSet w s.heap a L es ep t) : t.fits es.size = true := fits_of (by rw [N.place, N.size]) N.tok.dm (by have := N.gap; have := N.size; omega)
theorem row_at (h : es.toList = nrows w L) {i : Nat} {r : NRow} (e : L[i]? = some r) : es[i]? = some (r.2.hash w, Value.ref r.1) := by
  rw [← Array.getElem?_toList, h]
  unfold nrows
  rw [List.getElem?_map, e]
  first | rfl | done
theorem NSet.odd (N : NSet w s.heap a L es ep t) : ¬ t.gaveWay = true := by
  unfold SetTable.gaveWay
  rw [mask_odd N.tok.mok]
  decide
/-- the c-th step of the way of a hash -/
abbrev step (m : Nat) (h : Int) (c : Nat) : SetTable.Probe := nth m (runAt m (SetTable.bits h % (m + 1)) (SetTable.bits h)) c
theorem step_add (m : Nat) (h : Int) (c q : Nat) : nth m (step m h c) q = step m h (c + q) := (nth_add m c _ q).symm
theorem step_way (m : Nat) (h : Int) (c q : Nat) : (nth m (step m h c) q).j = way m h (c + q) := congrArg SetTable.Probe.j (step_add m h c q)
theorem step_dummy (m : Nat) : ∀ (c : Nat) (p : SetTable.Probe), p.dummy = none → (nth m p c).dummy = none
  | 0, _, e => e
  | c + 1, p, e => step_dummy m c (adv m p) (by unfold adv; split <;> exact e)
/-- from the c-th step of the way on: the key is there, or the first empty slot is found -/
theorem nsearch_from (N : NSet w s.heap a L es ep t) {x : Addr} {k : NestedKey} (kx : TupKey s.heap k x) (hu : A.units + 8 < cLine) {K : Nat} (hf : K < 10 * SetTable.turns t.mask)
    (hK : way t.mask (k.hash w) K ∉ t.place.toList) (hb : ∀ c, c < K → way t.mask (k.hash w) c ∈ t.place.toList) {Q : SetFound → Shared → Prop}
    (yes : k ∈ L.map Prod.snd → Q (.there none) s) (no : k ∉ L.map Prod.snd → Q (.free (way t.mask (k.hash w) K) false) s) :
    ∀ (f c : Nat) (from_ : Option SetTable.Probe), from_.getD (t.probeStart (k.hash w)) = step t.mask (k.hash w) c → c ≤ K → K - c < f →
      (∀ (i : Nat) r, L[i]? = some r → r.2 = k → ∃ d, c ≤ d ∧ d < K ∧ t.place.toList[i]? = some (way t.mask (k.hash w) d)) →
      wpAny (model P w) A (setSearchFrom a (.ref x) (k.hash w) true f from_) Q E s
  | 0, _, _, _, _, z, _ => absurd z (Nat.not_lt_zero _)
  | f + 1, c, from_, hst, hc, hz, hre => by
    obtain ⟨o, g, hex, hd⟩ := N.obj
    have places : t.place.toList.length = L.length := by rw [Array.length_toList]; exact N.place
    rw [setSearchFrom_succ]
    refine wpAny_bind (wpAny_setState_of g hd N.fits ?_)
    dsimp only
    rw [if_neg N.odd]
    try refine wpAny_bind (wpAny_pure ?_)
    generalize hhv : k.hash w = hv at *
    have hashOf : ∀ (i : Nat) r, L[i]? = some r → ((es[i]?.map (·.1)).getD 0) = r.2.hash w := fun i r e => by
      rw [row_at N.eqs e]
      first | rfl | done
    have cases2 := go_spec t N.tok.ris N.tok.dm (fun i => (es[i]?.map (·.1)).getD 0) hv (10 * SetTable.turns t.mask) (K - c) (step t.mask hv c) (step_dummy _ _ _ rfl) (by omega)
      (fun q hq => by rw [step_way]; exact hb (c + q) (by omega)) (by rw [step_way, show c + (K - c) = K by omega]; exact hK)
    rcases cases2 with ⟨q, i, hq, hi, hh, before, hp⟩ | ⟨before, hp⟩
    · rw [step_way] at hi hp
      rw [step_add] at hp
      have hp' : t.probe (fun i => (es[i]?.map (·.1)).getD 0) hv (from_.getD (t.probeStart hv)) = some (.candidate (way t.mask hv (c + q)) i (step t.mask hv (c + (q + 1)))) := by
        rw [hst]
        exact hp
      rw [hp']
      dsimp only
      obtain ⟨r, hr⟩ : ∃ r, L[i]? = some r := ⟨_, List.getElem?_eq_getElem (by have := (List.getElem?_eq_some_iff.mp hi).1; omega)⟩
      have mem : r ∈ L := List.mem_of_getElem? hr
      have kr := N.key r mem
      have after : wpAny (model P w) A (searchRest a (.ref x) hv true f es t (way t.mask hv (c + q)) i (step t.mask hv (c + (q + 1)))) Q E s := by
        unfold searchRest
        rw [row_at N.eqs hr]
        dsimp only
        refine wpAny_bind (wpAny_holding (eqAt_key _ _ A s _ _ kr.is kx.is (by have := kr.deep; omega) _ _ _ _ ?_))
        refine wpAny_bind (wpAny_setState_of g hd N.fits ?_)
        dsimp only
        by_cases same : r.2 = k
        · rw [if_pos (by rw [same, NestedKey.beq_self]; decide)]
          exact wpAny_pure (yes (List.mem_map.mpr ⟨r, mem, same⟩))
        · have nb : NestedKey.beq r.2 k = false := by
            rw [← NestedKey.decide_eq]
            exact decide_eq_false same
          rw [if_neg (by rw [nb]; decide)]
          try refine wpAny_bind (wpAny_pure ?_)
          rw [sameMem]
          dsimp only
          have sl : t.slot (way t.mask hv (c + q)) = .live i := slot_live N.tok.ris hi
          simp only [if_true, sl, row_at N.eqs hr]
          refine wpAny_bind (wpAny_isSame_ref_self (wpAny_bind (wpAny_pure ?_)))
          rw [if_pos rfl]
          dsimp only
          rw [nb, if_neg (by decide)]
          subst hhv
          refine nsearch_from N kx hu hf hK hb yes no f (c + (q + 1)) _ rfl (by omega) (by omega) fun j r' hj hk => ?_
          obtain ⟨d, d1, d2, d3⟩ := hre j r' hj hk
          refine ⟨d, ?_, d2, d3⟩
          rcases Nat.lt_trichotomy d (c + q) with z | z | z
          · exact absurd ((hashOf j r' hj).trans (by rw [hk])) (before (d - c) j (by omega) (by rw [step_way, show c + (d - c) = d by omega]; exact d3))
          · exfalso
            rw [z] at d3
            have sj := slot_live N.tok.ris d3
            rw [sl] at sj
            injection sj with sj
            rw [← sj, hr] at hj
            exact same ((congrArg Prod.snd (Option.some.inj hj)).trans hk)
          · omega
      cases hl : t.led with
      | true =>
        rw [if_neg (by decide)]
        try refine wpAny_bind (wpAny_pure ?_)
        exact after
      | false =>
        rw [if_pos (by decide)]
        refine wpAny_bind (kx.unseen (fun y hy => ?_) ?_)
        · obtain ⟨e, he, rfl⟩ := List.mem_map.mp hy
          have he : e ∈ es.toList := by
            have z : e ∈ es ∧ e.1 = hv := by simpa using he
            simpa using z.1
          rw [N.eqs] at he
          obtain ⟨r2, m2, rfl⟩ := List.mem_map.mp he
          exact ⟨_, _, rfl, N.key r2 m2⟩
        · rw [if_neg (by decide)]
          try refine wpAny_bind (wpAny_pure ?_)
          exact after
    · have hp' : t.probe (fun i => (es[i]?.map (·.1)).getD 0) hv (from_.getD (t.probeStart hv)) = some (.empty (way t.mask hv K) none) := by
        rw [hst]
        rw [step_way, show c + (K - c) = K by omega] at hp
        exact hp
      rw [hp']
      dsimp only
      refine wpAny_pure (no fun m => ?_)
      obtain ⟨r, mr, hk⟩ := List.mem_map.mp m
      obtain ⟨i, hi, e⟩ := List.getElem_of_mem mr
      have hr : L[i]? = some r := by rw [List.getElem?_eq_getElem hi, e]
      obtain ⟨d, d1, d2, d3⟩ := hre i r hr hk
      exact before (d - c) i (by omega) (by rw [step_way, show c + (d - c) = d by omega]; exact d3) ((hashOf i r hr).trans (by rw [hk, hhv]))
end
end L2

set_option Elab.async false
set_option linter.all false
set_option maxRecDepth 100000
set_option maxHeartbeats 4000000
/-! sets of nested tuples: adding -/
namespace L2
open PySem PySem.SeqAt PySem.Spec PyProof.Rows
section
variable {P : Program} {w : World} {A : Around} {E : Value → Shared → Prop} {s : Shared} {a : Addr} {L : List NRow} {es : Array (Int × Value)} {ep : Nat} {t : SetTable}
theorem nsearch (N : NSet w s.heap a L es ep t) {x : Addr} {k : NestedKey} (kx : TupKey s.heap k x) (hu : A.units + 8 < cLine) {Q : SetFound → Shared → Prop}
    (yes : k ∈ L.map Prod.snd → Q (.there none) s)
    (no : ∀ K, k ∉ L.map Prod.snd → way t.mask (k.hash w) K ∉ t.place.toList → (∀ c, c < K → way t.mask (k.hash w) c ∈ t.place.toList) → Q (.free (way t.mask (k.hash w) K) false) s) :
    wpAny (model P w) A (setSearch a (.ref x) (k.hash w) true) Q E s := by
  have hgap := N.gap
  obtain ⟨K, f1, f2, f3⟩ := N.tok.first (by unfold hashesN; rw [List.length_map]; omega) (k.hash w)
  have lim : K < 100000 := by
    have z : SetTable.turns t.mask ≤ 142 := by
      unfold SetTable.turns
      rcases N.tok.mok with e | e | e <;> omega
    omega
  unfold setSearch
  refine nsearch_from N kx hu f1 f2 f3 yes (fun m => no K m f2 f3) 100000 0 none rfl (Nat.zero_le _) (by omega) fun i r hr hk => ?_
  have h1 : (hashesN w L)[i]? = some (k.hash w) := by
    unfold hashesN
    rw [List.getElem?_map, hr, ← hk]
    first | rfl | done
  have h2 : i < t.place.toList.length := by
    rw [Array.length_toList, N.place]
    exact (List.getElem?_eq_some_iff.mp hr).1
  have h3 := List.getElem?_eq_getElem h2
  obtain ⟨d, d1, d2⟩ := N.tok.before f2 h1 h3
  exact ⟨d, Nat.zero_le _, d1, by rw [h3, d2]⟩
theorem nrows_put (L : List NRow) (p : Nat) (r : NRow) : nrows w (L.take p ++ r :: L.drop p) = (nrows w L).take p ++ (r.2.hash w, Value.ref r.1) :: (nrows w L).drop p := by
  unfold nrows
  rw [List.map_append, List.map_take, List.map_cons, List.map_drop]
theorem hashesN_put (L : List NRow) (p : Nat) (r : NRow) : hashesN w (L.take p ++ r :: L.drop p) = (hashesN w L).take p ++ r.2.hash w :: (hashesN w L).drop p := by
  unfold hashesN
  rw [List.map_append, List.map_take, List.map_cons, List.map_drop]
/-- rows taken by their numbers -/
theorem rows_taken (L : List NRow) (eqs : es.toList = nrows w L) : ∀ l : List Nat, (∀ i ∈ l, i < L.length) →
    l.filterMap (fun i => es[i]?) = nrows w (l.filterMap fun i => L[i]?) ∧ hashesN w (l.filterMap fun i => L[i]?) = l.map fun i => (es.map (·.1)).getD i 0
  | [], _ => ⟨rfl, rfl⟩
  | i :: l, hl => by
    obtain ⟨r, hi⟩ : ∃ r, L[i]? = some r := ⟨_, List.getElem?_eq_getElem (hl i List.mem_cons_self)⟩
    obtain ⟨h1, h2⟩ := rows_taken L eqs l fun j hj => hl j (List.mem_cons_of_mem _ hj)
    have he := row_at eqs hi
    have hg : (es.map (·.1)).getD i 0 = r.2.hash w := by
      have z : (es.map (·.1))[i]? = some (r.2.hash w) := by
        rw [Array.getElem?_map, he]
        first | rfl | done
      simp [Array.getD_eq_getD_getElem?, z]
    rw [List.filterMap_cons_some he, List.filterMap_cons_some hi, h1, List.map_cons, hg]
    refine ⟨rfl, ?_⟩
    rw [← h2]
    first | rfl | done
theorem all_taken (L : List NRow) : (List.range L.length).filterMap (fun i => L[i]?) = L := by
  have key : ∀ n, n ≤ L.length → (List.range n).filterMap (fun i => L[i]?) = L.take n := by
    intro n
    induction n with
    | zero => exact fun _ => rfl
    | succ n ih =>
      intro hn
      rw [List.range_succ, List.filterMap_append, ih (by omega), List.take_succ, List.getElem?_eq_getElem hn]
      refine congrArg _ ?_
      rw [List.filterMap_cons_some (List.getElem?_eq_getElem hn)]
      first | rfl | done
  rw [key _ (Nat.le_refl _), List.take_length]
/-- laid anew in a larger table -/
theorem nrelay {o : Obj} (g : s.heap.get? a = some o) (hex : o.ExactSet) (hd : o.data = .set es ep t) (eqs : es.toList = nrows w L) (hpl : t.place.size = es.size) (hdm : t.dummies = #[]) (hmk : es.size ≤ t.mask)
    (dif : (L.map Prod.snd).Nodup) (key : ∀ r ∈ L, TupKey s.heap r.2 r.1) (led : w.params.followText "set-order" = true ∨ t.led = true) (small : L.length < 64) {want M : Nat}
    (hw : SetTable.sizeAbove want - 1 = M) (hM : MaskOk M) (hw2 : SetTable.sizeAbove want ≤ 128) (gap : L.length * 5 < M * 3) {Q : Unit → Shared → Prop}
    (q : ∀ h' L' es' ep' t', Heap.SameBut a s.heap h' → NSet w h' a L' es' ep' t' → L'.Perm L → Q () { s with heap := h' }) : wpAny (model P w) A (setRelay a want) Q E s := by
  have hn := nrows_len eqs
  obtain ⟨t', order, e1, e2, e3, e4, e5, _, e7⟩ := relaid_ok t (hs := es.map (·.1)) hw hM (by rw [Array.size_map]; omega)
  rw [Array.size_map, hn] at e2
  obtain ⟨r1, r2⟩ := rows_taken L eqs order.toList fun i hi => List.mem_range.mp (e2.mem_iff.mp hi)
  rw [← r2] at e3
  have pm : (order.toList.filterMap fun i => L[i]?).Perm L := by
    have z := e2.filterMap fun i => L[i]?
    rw [all_taken] at z
    exact z
  have r3 : (order.filterMap (es[·]?)).toList = nrows w (order.toList.filterMap fun i => L[i]?) := by
    rw [← r1]
    first
      | exact Array.toList_filterMap
      | simp
  generalize hL2 : (order.toList.filterMap fun i => L[i]?) = L2 at *
  generalize hes2 : order.filterMap (es[·]?) = es2 at *
  have hn2 : es2.size = es.size := by rw [nrows_len r3, pm.length_eq, hn]
  rw [setRelay_eq]
  refine wpAny_bind (wpAny_setState_of g hd (fits_of hpl hdm hmk) ?_)
  dsimp only
  rw [if_neg (by rw [sizeLine_eq]; omega)]
  try refine wpAny_bind (wpAny_pure ?_)
  rw [e1]
  dsimp only
  refine wpAny_bind ?_
  rw [hes2, if_neg (by rw [hn2]; simp)]
  try refine wpAny_bind (wpAny_pure ?_)
  refine wpAny_pure ?_
  dsimp only
  refine wpAny_storeSet_of g hd ?_ (by rw [hn2, hn, sizeLine_eq]; omega)
  have sb : Heap.SameBut a s.heap (s.heap.update a (Obj.putSet es2 t')) := Heap.SameBut.update ..
  refine q _ L2 es2 (ep + 1) t' sb ⟨⟨_, store_at g hd, ⟨hex.1, hex.2.1, hex.2.2⟩, rfl⟩, r3, e3, (pm.map Prod.snd).nodup_iff.mpr dif, fun r m => (key r (pm.mem_iff.mp m)).but g hd sb, by rw [e5]; exact led, ?_, by rw [pm.length_eq]; exact small⟩ pm
  rw [pm.length_eq, e4]
  exact gap
theorem tab_plain {hs : List Int} (T : TabOk t hs) (b : Bool) : TabOk (if b = true then t else { t with plain := false }) hs ∧ (if b = true then t else { t with plain := false }).mask = t.mask ∧ (if b = true then t else { t with plain := false }).led = t.led ∧
    (if b = true then t else { t with plain := false }).fill = t.fill := by
  cases b with
  | true => exact ⟨T, rfl, rfl, rfl⟩
  | false => exact ⟨⟨T.ris, T.dm, T.sz, T.mok, T.bd, T.reach⟩, rfl, rfl, rfl⟩
/-- one key is added -/
theorem nadd (N : NSet w s.heap a L es ep t) {x : Addr} {k : NestedKey} (kx : TupKey s.heap k x) (hu : A.units + 8 < cLine) (few : L.length + 1 < 64) {Q : Bool → Shared → Prop}
    (q : ∀ b h' L' es' ep' t', Heap.SameBut a s.heap h' → NSet w h' a L' es' ep' t' → (k ∈ L.map Prod.snd → L' = L) → (k ∉ L.map Prod.snd → L'.Perm ((x, k) :: L)) → Q b { s with heap := h' }) :
    wpAny (model P w) A (setAddHashed a (.ref x) (k.hash w)) Q E s := by
  obtain ⟨o, g, hex, hd⟩ := N.obj
  have hn := N.size
  have hgap := N.gap
  unfold setAddHashed
  refine wpAny_holding ?_
  rw [show (100000 : Nat) = Nat.succ 99999 from rfl, setAddHashedIn_succ]
  refine wpAny_bind (wpAny_setState_of g hd N.fits ?_)
  dsimp only
  rw [if_neg (by simp [byScan, Value.scannable])]
  try refine wpAny_bind (wpAny_pure ?_)
  refine wpAny_bind (nsearch N kx hu (fun m => ?_) fun K m hK hb => ?_)
  · dsimp only
    exact wpAny_pure (q false s.heap L es ep t (Heap.SameBut.refl a s.heap) N (fun _ => rfl) fun z => absurd m z)
  · dsimp only
    refine wpAny_bind (wpAny_setState_of g hd N.fits ?_)
    dsimp only
    obtain ⟨q1, q2, q3, q4, q5, q6, q7, q8, q9⟩ := N.tok.put hK hb
    generalize hpt : t.put (way t.mask (k.hash w) K) = pt at *
    obtain ⟨t1, p⟩ := pt
    dsimp only at q1 q3 q4 q5 q9 ⊢
    subst q1
    have some_ : ∀ (f : Bool → Sem Bool), (∀ b, wpAny (model P w) A (f b) Q E s) → wpAny (model P w) A (if t1.plain = true then hashByValue 8 (.ref x) >>= f else pure true >>= f) Q E s := fun f hr => by
      by_cases hp : t1.plain = true
      · rw [if_pos hp]
        exact wpAny_bind (someHash_key _ _ 8 _ kx.is kx.deep _ _ _ hr)
      · rw [if_neg hp]
        exact wpAny_bind (wpAny_pure (hr true))
    refine some_ _ fun b => ?_
    obtain ⟨T2, m2, l2, f2⟩ := tab_plain q3 b
    generalize (if b = true then t1 else { t1 with plain := false }) = t2 at T2 m2 l2 f2 ⊢
    rw [← hashesN_put L _ (x, k)] at T2
    have he : (SetTable.insertAt es (SetTable.below t.place (way t.mask (k.hash w) K)) (k.hash w, Value.ref x)).toList = nrows w (L.take (SetTable.below t.place (way t.mask (k.hash w) K)) ++ (x, k) :: L.drop (SetTable.below t.place (way t.mask (k.hash w) K))) := by
      rw [SetTable.toList_insertAt, nrows_put, N.eqs]
    have pm := put_perm L (SetTable.below t.place (way t.mask (k.hash w) K)) (x, k)
    generalize SetTable.insertAt es (SetTable.below t.place (way t.mask (k.hash w) K)) (k.hash w, Value.ref x) = es1 at he ⊢
    generalize L.take (SetTable.below t.place (way t.mask (k.hash w) K)) ++ (x, k) :: L.drop (SetTable.below t.place (way t.mask (k.hash w) K)) = L1 at pm he T2
    have n1 : L1.length = L.length + 1 := pm.length_eq
    have n2 : es1.size = L.length + 1 := by rw [nrows_len he, n1]
    have nd : (L1.map Prod.snd).Nodup := by
      rw [(pm.map Prod.snd).nodup_iff, List.map_cons, List.nodup_cons]
      exact ⟨m, N.dif⟩
    have pl2 : t2.place.size = es1.size := by
      have z := T2.sz
      unfold hashesN at z
      rw [z, List.length_map, n1, n2]
    rw [hn]
    refine wpAny_bind (wpAny_storeSet_of g hd ?_ (by rw [n2, sizeLine_eq]; omega))
    have sb : Heap.SameBut a s.heap (s.heap.update a (Obj.putSet es1 t2)) := Heap.SameBut.update ..
    have g1 := store_at (es' := es1) (t' := t2) g hd
    generalize s.heap.update a (Obj.putSet es1 t2) = h1 at sb g1 ⊢
    have key1 : ∀ r ∈ L1, TupKey h1 r.2 r.1 := fun r hr => by
      rcases List.mem_cons.mp (pm.mem_iff.mp hr) with rfl | hr
      · exact kx.but g hd sb
      · exact (N.key r hr).but g hd sb
    have led1 : w.params.followText "set-order" = true ∨ t2.led = true := by
      rw [l2, q5]
      exact N.led
    have full : t2.tooFull = decide ((L.length + 1) * 5 ≥ t.mask * 3) := by
      unfold SetTable.tooFull
      rw [f2, q9, m2, q4]
      unfold hashesN
      rw [List.length_map]
    by_cases hf : (L.length + 1) * 5 ≥ t.mask * 3
    · rw [full, decide_eq_true hf]
      have two : (t.mask = 7 ∧ L.length = 4) ∨ (t.mask = 31 ∧ L.length = 18) := by
        rcases N.tok.mok with e | e | e
        · exact .inl ⟨e, by omega⟩
        · exact .inr ⟨e, by omega⟩
        · omega
      have grow : ∀ M, SetTable.sizeAbove (SetTable.grown (L.length + 1)) - 1 = M → MaskOk M → SetTable.sizeAbove (SetTable.grown (L.length + 1)) ≤ 128 → (L.length + 1) * 5 < M * 3 →
          wpAny (model P w) A (setRelay a (SetTable.grown (L.length + 1))) (fun _ s' => wpAny (model P w) A (pure true) Q E s') E { s with heap := h1 } := fun M h1' h2' h3' h4' => by
        refine nrelay (s := { s with heap := h1 }) g1 ⟨hex.1, hex.2.1, hex.2.2⟩ rfl he pl2 T2.dm (by rw [n2, m2, q4]; omega) nd key1 led1 (by rw [n1]; exact few) h1' h2' h3' (by rw [n1]; exact h4') ?_
        exact fun h2 L2 es2 ep2 t3 sb2 N2 pm2 => wpAny_pure (q true h2 L2 es2 ep2 t3 (sb.trans sb2) N2 (fun z => absurd z m) fun _ => pm2.trans pm)
      have go : wpAny (model P w) A (setRelay a (SetTable.grown (L.length + 1))) (fun _ s' => wpAny (model P w) A (pure true) Q E s') E { s with heap := h1 } := by
        rcases two with ⟨_, e⟩ | ⟨_, e⟩
        · exact grow 31 (by rw [e, size_20]) (.inr (.inl rfl)) (by rw [e, size_20]; decide) (by omega)
        · exact grow 127 (by rw [e, size_76]) (.inr (.inr rfl)) (by rw [e, size_76]; decide) (by omega)
      first
        | (refine wpAny_bind ?_; rw [if_pos (by decide)]; exact go)
        | (rw [if_pos (by decide)]; exact wpAny_bind go)
    · rw [full, decide_eq_false hf]
      have N1 : NSet w h1 a L1 es1 (ep + 1) t2 := ⟨⟨_, g1, ⟨hex.1, hex.2.1, hex.2.2⟩, rfl⟩, he, T2, nd, key1, led1, by rw [n1, m2, q4]; omega, by rw [n1]; exact few⟩
      have fin : wpAny (model P w) A (pure true) Q E { s with heap := h1 } := wpAny_pure (q true h1 L1 es1 (ep + 1) t2 sb N1 (fun z => absurd z m) fun _ => pm)
      first
        | (refine wpAny_bind ?_; rw [if_neg (by decide)]; exact wpAny_pure fin)
        | (rw [if_neg (by decide)]; exact fin)
end
end L2

set_option Elab.async false
set_option linter.all false
set_option maxRecDepth 100000
set_option maxHeartbeats 4000000
/-! sets of nested tuples: set(list) -/
namespace L2
open PySem PySem.SeqAt PySem.Spec PyProof.Rows
/-- what a set has got of the first i of these rows -/
structure NGot (ks : List NRow) (i : Nat) (L : List NRow) : Prop where
  only : ∀ r ∈ L, r ∈ ks.take i
  every : ∀ r ∈ ks.take i, r.2 ∈ L.map Prod.snd
  most : L.length ≤ i
theorem NGot.none_ (ks : List NRow) : NGot ks 0 [] := ⟨fun r h => absurd h (by simp), fun r h => absurd h (by simp), Nat.le_refl _⟩
theorem NGot.next {ks L L' : List NRow} {i : Nat} {x : NRow} (g : NGot ks i L) (e : ks[i]? = some x) (h1 : x.2 ∈ L.map Prod.snd → L' = L) (h2 : x.2 ∉ L.map Prod.snd → L'.Perm (x :: L)) : NGot ks (i + 1) L' := by
  have tk := take_next e
  rcases Classical.em (x.2 ∈ L.map Prod.snd) with c | c
  · cases h1 c
    refine ⟨fun r hr => ?_, fun r hr => ?_, Nat.le_succ_of_le g.most⟩
    · rw [tk]
      exact List.mem_append_left _ (g.only r hr)
    · rw [tk] at hr
      rcases List.mem_append.mp hr with z | z
      · exact g.every r z
      · cases List.mem_singleton.mp z
        exact c
  · have pm := h2 c
    refine ⟨fun r hr => ?_, fun r hr => ?_, by rw [pm.length_eq, List.length_cons]; exact Nat.succ_le_succ g.most⟩
    · rw [tk]
      rcases List.mem_cons.mp (pm.mem_iff.mp hr) with rfl | z
      · exact List.mem_append_right _ List.mem_cons_self
      · exact List.mem_append_left _ (g.only r z)
    · rw [(pm.map Prod.snd).mem_iff, List.map_cons]
      rw [tk] at hr
      rcases List.mem_append.mp hr with z | z
      · exact List.mem_cons_of_mem _ (g.every r z)
      · cases List.mem_singleton.mp z
        exact List.mem_cons_self
section
variable {P : Program} {w : World} {A : Around} {E : Value → Shared → Prop} {s : Shared}
/-- a set that was just made -/
abbrev newSetObj (w : World) : Obj := { cls := .type "set", dict := none, data := .set #[] 0 (.fresh 0 0 (!w.params.followText "set-order")) }
theorem nset_new {h : Heap} {a : Addr} (g : h.get? a = some (newSetObj w)) : NSet w h a [] #[] 0 (.fresh 0 0 (!w.params.followText "set-order")) where
  obj := ⟨_, g, ⟨rfl, rfl, rfl⟩, rfl⟩
  eqs := rfl
  tok := ⟨List.Pairwise.nil, rfl, rfl, .inl rfl, fun x hx => absurd hx (by first | exact List.not_mem_nil | simp), fun i h j hi => absurd hi (by simp [hashesN])⟩
  dif := List.nodup_nil
  key := fun r hr => absurd hr (by simp)
  led := by
    cases z : w.params.followText "set-order"
    · exact .inr rfl
    · exact .inl rfl
  gap := by show 0 < 7 * 3; decide
  small := by decide
theorem NSet.keep {h h' : Heap} {a : Addr} {L : List NRow} {es : Array (Int × Value)} {ep : Nat} {t : SetTable} (N : NSet w h a L es ep t) (ha : ∀ o, h.get? a = some o → h'.get? a = some o) (hk : ∀ r ∈ L, TupKey h' r.2 r.1) : NSet w h' a L es ep t := by
  obtain ⟨o, g, z⟩ := N.obj
  exact ⟨⟨o, ha o g, z⟩, N.eqs, N.tok, N.dif, hk, N.led, N.gap, N.small⟩
/-- the loop of set.update -/
theorem nupdate {I : Addr} {fp wr : List Addr} {G : Array GenState → Array GenState → Prop} {n : Nat} {Pv : Nat → Value → Prop} {St : Nat → Shared → Prop} {R : Result → Shared → Prop}
    (W : WalksS P w A.in1 I fp wr G n Pv St) (S : Addr) (hS : S ∉ fp) (ks : List NRow) (hn : n = ks.length) (few : ks.length < 64) (val : ∀ i v, Pv i v → ∃ r, ks[i]? = some r ∧ v = .ref r.1)
    (h0 : Heap) (hk : ∀ r ∈ ks, TupKey h0 r.2 r.1) (hS0 : h0.get? S = none) (hw0 : ∀ b ∈ wr, h0.get? b = none) (hu : A.in1.units + 8 < cLine) :
    ∀ (d i : Nat) (s : Shared), n - i = d → i ≤ n → St i s → (∀ b o, h0.get? b = some o → s.heap.get? b = some o) → (∃ L es ep t, NSet w s.heap S L es ep t ∧ NGot ks i L) →
      (∀ s' L es ep t, Moved (S :: wr) G s s' → NSet w s'.heap S L es ep t → NGot ks n L → (∀ b o, h0.get? b = some o → s'.heap.get? b = some o) → R (.ok (.ret .none)) s') →
      codeAny (model P w) A (.builtin "set.update.loop" ⟨[.ref S, .ref I], []⟩) R s := by
  have out : S ∉ wr := fun z => hS (W.sub _ z)
  have up : ∀ b ∈ wr, b ∈ S :: wr := fun b z => List.mem_cons_of_mem _ z
  have moved : ∀ {s s' : Shared}, Moved wr G s s' → (∀ b o, h0.get? b = some o → s.heap.get? b = some o) → ∀ b o, h0.get? b = some o → s'.heap.get? b = some o := fun m ext b o e =>
    m.heap b o (fun z => nomatch (hw0 b z).symm.trans e) (ext b o e)
  intro d
  induction d with
  | zero =>
    intro i s hd hi st ext ⟨L, es, ep, t, N, g⟩ hR
    obtain rfl : i = n := by omega
    refine codeAny_builtin F.entry_set_update_loop ?_
    rw [Around.under_plainId F.plain_set_update_loop _]
    show wpAny _ A.in1 (pyNext (.ref I) >>= _) _ _ s
    refine wpAny_bind (W.done s _ _ st fun s' m => ?_)
    show wpAny _ A.in1 (ret Value.none) _ _ s'
    have ext' := moved m ext
    exact wpAny_pure (hR s' L es ep t (m.mono up) (N.keep (fun o e => m.heap S o out e) fun r hr => (hk r (List.mem_of_mem_take (g.only r hr))).keep ext') g ext')
  | succ d ih =>
    intro i s hd hi st ext ⟨L, es, ep, t, N, g⟩ hR
    have lt : i < n := by omega
    refine codeAny_builtin F.entry_set_update_loop ?_
    rw [Around.under_plainId F.plain_set_update_loop _]
    show wpAny _ A.in1 (pyNext (.ref I) >>= _) _ _ s
    refine wpAny_bind (W.item i s _ _ lt st fun v s' hv st' m => ?_)
    obtain ⟨r, hr, rfl⟩ := val i v hv
    have ext' := moved m ext
    have N' : NSet w s'.heap S L es ep t := N.keep (fun o e => m.heap S o out e) fun q hq => (hk q (List.mem_of_mem_take (g.only q hq))).keep ext'
    have kr : TupKey s'.heap r.2 r.1 := (hk r (List.mem_of_getElem? hr)).keep ext'
    show wpAny _ A.in1 (holding [Value.ref r.1] (setAdd S (.ref r.1)) >>= _) _ _ s'
    refine wpAny_bind (wpAny_holding ?_)
    unfold setAdd
    refine wpAny_holding ?_
    refine wpAny_bind (pyHash_key _ _ _ _ _ kr.is (by have := kr.deep; omega) ?_)
    refine nadd (s := { s' with toks := s'.toks + r.2.draws }) N' kr hu (by have := g.most; omega) fun b h' L' es' ep' t' sb N2 c1 c2 => ?_
    have g' : NGot ks (i + 1) L' := g.next hr c1 c2
    have ext2 : ∀ b o, h0.get? b = some o → h'.get? b = some o := fun b o e => (sb.2 b (fun z => by rw [z, hS0] at e; exact nomatch e)).trans (ext' b o e)
    refine wpAny_pure ⟨plainId_quiet F.plain_set_update_loop _, ih (i + 1) _ (by omega) lt (W.frame _ s' _ _ st' (Nat.le_add_right _ _) fun b hb o e => ?_) ext2 ⟨L', es', ep', t', N2, g'⟩ fun s2 L2 es2 ep2 t2 m2 N3 g3 ext3 => ?_⟩
    · rw [sb.2 b (fun z => hS (z ▸ hb))]
      exact e
    · refine hR s2 L2 es2 ep2 t2 (Moved.trans W.gtrans ((m.mono up).then_heap (Nat.le_add_right _ _) fun b o hb e => ?_) m2) N3 g3 ext3
      rw [sb.2 b (fun z => hb (z ▸ List.mem_cons_self))]
      exact e
end
end L2

set_option Elab.async false
set_option linter.all false
set_option maxRecDepth 100000
set_option maxHeartbeats 4000000
/-! sets of nested tuples: the call set(list) -/
namespace L2
open PySem PySem.SeqAt PySem.Spec PyProof.Rows
section
variable {P : Program} {w : World} {A : Around} {E : Value → Shared → Prop} {s : Shared}
theorem absent_of {h : Heap} {b : Addr} (z : h.objs.size ≤ b) : h.get? b = none := by
  cases q : h.get? b with
  | none => rfl
  | some o => exact absurd (Nat.lt_of_lt_of_le (Heap.lt_size q) z) (Nat.lt_irrefl _)
/-- what a call of set leaves behind -/
def NMade (w : World) (s : Shared) (ks : List NRow) (s' : Shared) : Prop := ∃ h' tk L es ep t, s' = { s with heap := h', toks := tk } ∧ NSet w h' s.heap.objs.size L es ep t ∧ NGot ks ks.length L ∧ ∀ b o, s.heap.get? b = some o → h'.get? b = some o
theorem nset_call {l : Addr} {us : Array Value} (ks : List NRow) {Q : Value → Shared → Prop} (hh : A.handled = none) (hl : s.heap.IsList l us) (hit : us.toList = ks.map fun r => Value.ref r.1)
    (hk : ∀ r ∈ ks, TupKey s.heap r.2 r.1) (few : ks.length < 64) (hu : A.units + 16 < cLine) (q : ∀ s', NMade w s ks s' → Q (.ref s.heap.objs.size) s') :
    wpAny (model P w) A (call (.type "set") [.ref l]) Q E s := by
  have n0 : us.size = ks.length := by
    have z := congrArg List.length hit
    simpa using z
  obtain ⟨c, tl, mro⟩ := F.called_set.mro
  have made_ := F.called_set.made
  have sub_ := F.called_set.sub
  refine wpAny_call (codeAny_of_tree ?_)
  show wpAny _ _ (callAny (.type "set") _) _ _ _
  refine wpAny_pure ⟨Code.quiet_builtin _ (by decide +kernel), codeAny_builtin F.entry_type_call ?_⟩
  rw [Around.under_plain (weight_type_call_type "set" [.ref l] []) rfl]
  have isn := F.called_set.notType
  have can := F.called_set.canCreate
  have fit := F.typeCall_set_1 (.ref l)
  repeat (any_goals (first | assumption | wp_step))
  refine codeAny_mono (code_set_led1 (.ref l) (E := E) (Q₁ := fun obj s₁ => obj = .ref s.heap.objs.size ∧ s₁ = { s with heap := s.heap.push (newSetObj w) }) ⟨rfl, rfl⟩) fun r s₁ hr => ?_
  cases r with
  | error e => exact hr
  | ok fl =>
    cases fl with
    | ret obj =>
      obtain ⟨rfl, rfl⟩ := hr
      have gS : (s.heap.push (newSetObj w)).get? s.heap.objs.size = some (newSetObj w) := Heap.get?_push_size _ rfl
      have tS : Shared.TypeIs { s with heap := s.heap.push (newSetObj w) } (.ref s.heap.objs.size) "set" := ⟨_, gS, rfl⟩
      have look := F.called_set.init.lookup
      have bind_ := F.called_set.init.bind (.ref s.heap.objs.size)
      repeat (any_goals (first | assumption | wp_step))
      refine codeAny_mono (codeAny_call_builtin (R := wants (fun r s₂ => r = .none ∧ NMade w s ks s₂) E) F.called_set.init.plain F.entry_set_init (check_set_init_1 tS ?_)) fun r₂ s₂ hr₂ => ?_
      · obtain ⟨⟨kl, dl, tl', sl⟩, gl, rfl, nl, rfl⟩ := hl
        have gl' : (s.heap.push (newSetObj w)).get? l = some { cls := .type "list", dict := dl, data := .seq us nl, slots := sl } := Heap.get?_push_of_some _ gl
        have sub1 := F.sub_list_set
        have sub2 := F.sub_list_frozenset
        have nd : (Value.type "list" == Value.type "dict") = false := by decide
        have L1 : (s.heap.push (newSetObj w)).IsList l us := ⟨_, gl', rfl, nl, rfl⟩
        unfold Builtin.«set.__init__» noKeywords Builtin.Frozenset.updateFrom
        generalize hit_ : pyIter = IT
        wp_walk
        subst hit_
        refine wpAny_pyIter_list L1 ?_
        refine wpAny_bind (wpAny_runValue ?_)
        have ll : l < s.heap.objs.size := Heap.lt_size gl
        have sz1 : (s.heap.push (newSetObj w)).objs.size = s.heap.objs.size + 1 := Heap.size_push ..
        have ne1 : l ≠ (s.heap.push (newSetObj w)).objs.size := by
          rw [sz1]
          exact Nat.ne_of_lt (Nat.lt_succ_of_lt ll)
        have out : s.heap.objs.size ∉ [(s.heap.push (newSetObj w)).objs.size, l] := by
          rw [sz1]
          intro z
          rcases List.mem_cons.mp z with z | z
          · exact absurd z (Nat.ne_of_lt (Nat.lt_succ_self _))
          · exact absurd (List.mem_singleton.mp z) (Nat.ne_of_gt ll)
        have val : ∀ (i : Nat) (v : Value), us[i]? = some v → ∃ r, ks[i]? = some r ∧ v = .ref r.1 := fun i v hv => by
          rw [← Array.getElem?_toList, hit, List.getElem?_map] at hv
          obtain ⟨r, hr, e⟩ := Option.map_eq_some_iff.mp hv
          exact ⟨r, hr, e.symm⟩
        have W0 := (Walks.list (prog := P) (w := w) (A := A.in1.in1.in1) (show A.in1.in1.in1.handled = none by simp [hh]) (s.heap.push (newSetObj w)).objs.size l ne1 us).toS
        refine nupdate W0 s.heap.objs.size out ks n0 few val s.heap hk (absent_of (Nat.le_refl _)) (fun b hb => absent_of (by
            rw [List.mem_singleton.mp hb, sz1]
            exact Nat.le_succ _)) (by simp only [Around.in1_units]; omega) (us.size - 0) 0 _ (by omega) (Nat.zero_le _)
          ⟨⟨_, Heap.get?_push_size _ rfl, rfl, rfl⟩, L1.push _⟩ (fun b o e => Heap.get?_push_of_some _ (Heap.get?_push_of_some _ e)) ?first ?last
        case first => exact ⟨[], #[], 0, _, nset_new (Heap.get?_push_of_some _ gS), NGot.none_ ks⟩
        case last =>
          intro s' L es ep t m N g ext
          obtain ⟨h', gn, dr, tk', os'⟩ := s'
          cases (show gn = s.gens from m.gens)
          cases (show dr = s.drawn from m.drawn)
          cases (show os' = s.os from m.os)
          show wpAny _ _ _ _ _ _
          refine wpAny_pure ?_
          show wpAny _ _ (ret Value.none) _ _ _
          rw [n0] at g
          exact wpAny_pure ⟨rfl, h', tk', L, es, ep, t, rfl, N, g, ext⟩
      · cases r₂ with
        | error e => exact hr₂
        | ok fl₂ =>
          cases fl₂ with
          | ret r =>
            obtain ⟨rfl, hm⟩ := hr₂
            have hm' := hm
            obtain ⟨h', tk, L, es, ep, t, rfl, N, g, ext⟩ := hm
            repeat (any_goals (first | assumption | wp_step))
            exact q _ hm'
          | _ => exact hr₂.elim
    | _ => exact hr.elim
end
end L2

set_option Elab.async false
set_option linter.all false
set_option maxRecDepth 100000
set_option maxHeartbeats 4000000
/-! data that sets take, and their order -/
namespace L2
open PySem PySem.W PySem.SeqAt PySem.Spec PyProof.Rows
mutual
def nkey : PyData → NestedKey
  | .none => .none
  | .bool b => .num (if b = true then 1 else 0)
  | .int i => .num i
  | .str x => .text x
  | .tuple ds => .tup (nkeys ds)
  | .list _ => .none
  | .dict _ => .none
def nkeys : List PyData → List NestedKey
  | [] => []
  | d :: ds => nkey d :: nkeys ds
end
mutual
/-- neither a list nor a dict, nor one within -/
def keyable : PyData → Bool
  | .list _ => false
  | .dict _ => false
  | .tuple ds => keyables ds
  | _ => true
def keyables : List PyData → Bool
  | [] => true
  | d :: ds => keyable d && keyables ds
end
mutual
theorem nkey_depth : ∀ d : PyData, keyable d = true → (nkey d).depth = d.depth
  | .none, _ => rfl
  | .bool _, _ => rfl
  | .int _, _ => rfl
  | .str _, _ => rfl
  | .tuple ds, k => by
    have z := nkeys_depth ds (by simpa [keyable] using k)
    simp only [nkey, NestedKey.depth, PyData.depth, z]
  | .list _, k => by simp [keyable] at k
  | .dict _, k => by simp [keyable] at k
theorem nkeys_depth : ∀ ds : List PyData, keyables ds = true → NestedKey.depthAll (nkeys ds) = PyData.depthAll ds
  | [], _ => rfl
  | d :: ds, k => by
    rw [keyables, Bool.and_eq_true] at k
    simp only [nkeys, NestedKey.depthAll, PyData.depthAll, nkey_depth d k.1, nkeys_depth ds k.2]
end
mutual
theorem nkey_is {h : Heap} : ∀ (d : PyData) (v : Value) (as : List Addr), keyable d = true → Reads h v d as → NestedIs h (nkey d) v
  | .none, _, _, _, r => by cases r; exact .none
  | .bool b, _, _, _, r => by cases r; exact .bool rfl
  | .int i, _, _, _, r => by cases r; exact .int _ _
  | .str x, _, _, _, r => by cases r; exact .text _ _
  | .tuple ds, _, _, k, r => by
    cases r with
    | tuple g1 g2 g3 g4 => exact .tup g1 g2 g3 (nkeys_is ds _ _ (by simpa [keyable] using k) g4)
  | .list _, _, _, k, _ => by simp [keyable] at k
  | .dict _, _, _, k, _ => by simp [keyable] at k
theorem nkeys_is {h : Heap} : ∀ (ds : List PyData) (vs : List Value) (as : List Addr), keyables ds = true → ReadsAll h vs ds as → NestedAll h (nkeys ds) vs
  | [], _, _, _, r => by cases r; exact .nil
  | d :: ds, _, _, k, r => by
    rw [keyables, Bool.and_eq_true] at k
    cases r with
    | cons r1 r2 => exact .cons (nkey_is d _ _ k.1 r1) (nkeys_is ds _ _ k.2 r2)
end
mutual
theorem nkey_inj : ∀ d e : PyData, keyable d = true → keyable e = true → alike d e = true → nkey d = nkey e → d = e
  | .none, e, _, _, a, _ => by cases e <;> first | rfl | simp [alike] at a
  | .bool b, e, _, _, a, q => by
    cases e with
    | bool c =>
      simp only [nkey] at q
      injection q with q
      cases b <;> cases c <;> first | rfl | exact absurd q (by decide)
    | _ => simp [alike] at a
  | .int i, e, _, _, a, q => by
    cases e with
    | int j =>
      simp only [nkey] at q
      injection q with q
      rw [q]
    | _ => simp [alike] at a
  | .str x, e, _, _, a, q => by
    cases e with
    | str y =>
      simp only [nkey] at q
      injection q with q
      rw [q]
    | _ => simp [alike] at a
  | .tuple ds, e, k, k', a, q => by
    cases e with
    | tuple es =>
      simp only [nkey] at q
      injection q with q
      rw [nkeys_inj ds es (by simpa [keyable] using k) (by simpa [keyable] using k') (by simpa [alike] using a) q]
    | _ => simp [alike] at a
  | .list _, _, k, _, _, _ => by simp [keyable] at k
  | .dict _, _, k, _, _, _ => by simp [keyable] at k
theorem nkeys_inj : ∀ ds es : List PyData, keyables ds = true → keyables es = true → alikeAll ds es = true → nkeys ds = nkeys es → ds = es
  | [], [], _, _, _, _ => rfl
  | [], _ :: _, _, _, _, q => by simp [nkeys] at q
  | _ :: _, [], _, _, _, q => by simp [nkeys] at q
  | d :: ds, e :: es, k, k', a, q => by
    rw [keyables, Bool.and_eq_true] at k k'
    obtain ⟨a1, a2⟩ := alike_all_cons a
    simp only [nkeys] at q
    injection q with q1 q2
    rw [nkey_inj d e k.1 k'.1 a1 q1, nkeys_inj ds es k.2 k'.2 a2 q2]
end
mutual
theorem eqv_same : ∀ d e : PyData, alike d e = true → PyData.eqv d e = true → d = e
  | .none, e, a, _ => by cases e <;> first | rfl | simp [alike] at a
  | .bool b, e, a, q => by
    cases e with
    | bool c => cases b <;> cases c <;> first | rfl | (simp [PyData.eqv] at q)
    | _ => simp [alike] at a
  | .int i, e, a, q => by
    cases e with
    | int j =>
      have z : i = j := by simpa [PyData.eqv] using q
      rw [z]
    | _ => simp [alike] at a
  | .str x, e, a, q => by
    cases e with
    | str y =>
      have z : x = y := by simpa [PyData.eqv] using q
      rw [z]
    | _ => simp [alike] at a
  | .tuple ds, e, a, q => by
    cases e with
    | tuple es => rw [eqvs_same ds es (by simpa [alike] using a) (by simpa [PyData.eqv] using q)]
    | _ => simp [alike] at a
  | .list ds, e, a, q => by
    cases e with
    | list es => rw [eqvs_same ds es (by simpa [alike] using a) (by simpa [PyData.eqv] using q)]
    | _ => simp [alike] at a
  | .dict _, e, a, _ => by cases e <;> simp [alike] at a
theorem eqvs_same : ∀ ds es : List PyData, alikeAll ds es = true → PyData.eqvAll ds es = true → ds = es
  | [], [], _, _ => rfl
  | [], _ :: _, _, q => by simp [PyData.eqvAll] at q
  | _ :: _, [], _, q => by simp [PyData.eqvAll] at q
  | d :: ds, e :: es, a, q => by
    obtain ⟨a1, a2⟩ := alike_all_cons a
    rw [eqv_all_cons, Bool.and_eq_true] at q
    rw [eqv_same d e a1 q.1, eqvs_same ds es a2 q.2]
end
/-- of two unlike data of one kind one is below the other -/
theorem dataLt_or {d e : PyData} (a : alike d e = true) (ne : d ≠ e) : dataLt d e = true ∨ dataLt e d = true := by
  cases h1 : dataLt d e with
  | true => exact .inl rfl
  | false =>
    cases h2 : dataLt e d with
    | true => exact .inr rfl
    | false =>
      exfalso
      have tk : keyToks d = keyToks e := (listOrd itemOrd).total _ _ h1 h2
      cases q : PyData.eqv d e with
      | true => exact ne (eqv_same d e a q)
      | false =>
        have z := (toks_eqv d e a).2 q [] [.inl 0]
        rw [tk, lex_pre] at z
        have z2 := (toks_eqv d e a).2 q [] []
        rw [tk, lex_pre] at z2
        rw [← z2] at z
        exact absurd z (by decide)
theorem dataLt_irrefl (d : PyData) : dataLt d d = false := (listOrd itemOrd).irrefl _
theorem dataLt_trans {d e f : PyData} (h1 : dataLt d e = true) (h2 : dataLt e f = true) : dataLt d f = true := (listOrd itemOrd).trans _ _ _ h1 h2
end L2

set_option Elab.async false
set_option linter.all false
set_option maxRecDepth 100000
set_option maxHeartbeats 4000000
/-! sorted(set) of nested tuples -/
namespace L2
open PySem PySem.W PySem.SeqAt PySem.Spec PyProof.Rows PySem.Calls
theorem perm_back {α β : Type} {f : α → β} {l k : List β} (p : l.Perm k) : ∀ m : List α, k = m.map f → ∃ m' : List α, m'.Perm m ∧ l = m'.map f := by
  induction p with
  | nil =>
    intro m e
    exact ⟨[], by cases m with | nil => exact .nil | cons _ _ => simp at e, rfl⟩
  | cons x _ ih =>
    intro m e
    cases m with
    | nil => simp at e
    | cons y m =>
      rw [List.map_cons] at e
      injection e with e1 e2
      obtain ⟨m', h1, h2⟩ := ih m e2
      exact ⟨y :: m', h1.cons y, by rw [h2, e1, List.map_cons]⟩
  | swap x y l =>
    intro m e
    match m, e with
    | [], e => simp at e
    | [_], e => simp at e
    | u :: v :: m, e =>
      simp only [List.map_cons] at e
      injection e with e1 e2
      injection e2 with e2 e3
      exact ⟨v :: u :: m, .swap _ _ _, by simp only [List.map_cons]; rw [e1, e2, e3]⟩
  | trans _ _ ih1 ih2 =>
    intro m e
    obtain ⟨m2, h1, h2⟩ := ih2 m e
    obtain ⟨m3, h3, h4⟩ := ih1 m2 h2
    exact ⟨m3, h3.trans h1, h4⟩
theorem sub_back {α β : Type} {f : α → β} {m : List α} : ∀ l : List β, (∀ x ∈ l, x ∈ m.map f) → ∃ m' : List α, l = m'.map f ∧ ∀ y ∈ m', y ∈ m
  | [], _ => ⟨[], rfl, fun y h => absurd h (by simp)⟩
  | x :: l, h => by
    obtain ⟨y, hy, e⟩ := List.mem_map.mp (h x List.mem_cons_self)
    obtain ⟨m', e', h'⟩ := sub_back l fun z hz => h z (List.mem_cons_of_mem _ hz)
    refine ⟨y :: m', by rw [List.map_cons, e, e'], fun z hz => ?_⟩
    rcases List.mem_cons.mp hz with rfl | hz
    · exact hy
    · exact h' z hz
/-- a tuple of the heap and what it reads as -/
abbrev TRow := Addr × PyData
abbrev TRow.n (p : TRow) : NRow := (p.1, nkey p.2)
abbrev TRow.r (p : TRow) : Value := .ref p.1
theorem each_rows {R : Value → TRow → Prop} : ∀ T : List TRow, (∀ p ∈ T, R p.r p) → EachIs R (T.map TRow.r) T
  | [], _ => .nil
  | p :: T, h => .cons (h p List.mem_cons_self) (each_rows T fun q hq => h q (List.mem_cons_of_mem _ hq))
theorem rows_each : ∀ {vs : List Value} {T : List TRow}, EachIs (fun v p => v = TRow.r p) vs T → vs = T.map TRow.r
  | _, _, .nil => rfl
  | _, _, .cons h t => by rw [h, rows_each t, List.map_cons]
section
variable {P : Program} {w : World} {A : Around} {E : Value → Shared → Prop} {s : Shared}
/-- the rows, sorted -/
def sortT (T : List TRow) : List TRow := T.mergeSort (dataLe false Prod.snd)
theorem sortT_perm (T : List TRow) : (sortT T).Perm T := List.mergeSort_perm _ _
theorem sortT_up (T : List TRow) (hal : AllAlike (T.map Prod.snd)) (nd : (T.map Prod.snd).Nodup) : (sortT T).Pairwise fun p q => dataLt p.2 q.2 = true := by
  have srt : (sortT T).Pairwise fun p q => dataLe false Prod.snd p q = true := sort_pairwise (sortLe_total (listOrd itemOrd) false fun p : TRow => keyToks p.2) T
  have nd' : ((sortT T).map Prod.snd).Nodup := ((sortT_perm T).map Prod.snd).nodup_iff.mpr nd
  have ne : (sortT T).Pairwise fun p q => p.2 ≠ q.2 := List.pairwise_map.mp nd'
  refine List.Pairwise.imp_of_mem (fun {p q} hp hq z => ?_) (srt.and ne)
  obtain ⟨z1, z2⟩ := z
  have mp := (sortT_perm T).mem_iff.mp hp
  have mq := (sortT_perm T).mem_iff.mp hq
  rcases dataLt_or (hal _ (List.mem_map_of_mem mp) _ (List.mem_map_of_mem mq)) z2 with c | c
  · exact c
  · exfalso
    have z3 : (!dataLt q.2 p.2) = true := z1
    rw [c] at z3
    exact absurd z3 (by decide)
/-- sorted of a set of tuples -/
theorem nsorted {a : Addr} {T : List TRow} {es : Array (Int × Value)} {ep : Nat} {t : SetTable} {Q : Value → Shared → Prop} (N : NSet w s.heap a (T.map TRow.n) es ep t) (hh : A.handled = none)
    (hr : ∀ p ∈ T, ∃ as, Reads s.heap p.r p.2 as) (hal : AllAlike (T.map Prod.snd)) (ht : ∀ p ∈ T, ∃ xs, p.2 = .tuple xs) (hu : ∀ p ∈ T, A.units + 4 + p.2.depth < cLine)
    (q : ∀ s' b c T', (∀ b o, s.heap.get? b = some o → s'.heap.get? b = some o) → s'.gens = s.gens → s'.os = s.os → s.heap.objs.size ≤ b → T'.Perm T → s'.heap.get? b = some (seqObj "list" ((sortT T').map TRow.r).toArray c) → Q (.ref b) s') :
    wpAny (model P w) A (call (.builtin "sorted") [.ref a]) Q E s := by
  obtain ⟨o, g, hex, hd⟩ := N.obj
  have few := N.small
  rw [List.length_map] at few
  refine Calls.call_function_entry kind_sorted plain_sorted entry_sorted (args_sorted1 _) ?_
  unfold Builtin.«sorted»
  refine wpAny_bind (m := checkCount "sorted" 1 1 _) (wpAny_pure ?_)
  refine wpAny_bind (collect_set (A := A.in1) hh ⟨o, g, hex.1, hd⟩ N.fits (by rw [N.size, List.length_map]; unfold scanBound; omega) N.tok.ris N.led fun s1 vs k1 hz g1 o1 pm => ?_)
  have e1 : es.toList.map (·.2) = T.map TRow.r := by
    rw [N.eqs]
    unfold nrows
    rw [List.map_map, List.map_map]
    first | rfl | done
  obtain ⟨T2, p2, rfl⟩ := perm_back pm T e1
  have len2 : (T2.map TRow.r).length < 64 := by rw [List.length_map, p2.length_eq]; exact few
  refine wpAny_bind (wpAny_newList ?_ (by rw [sizeLine_eq]; omega))
  have gL : (s1.heap.push (seqObj "list" (T2.map TRow.r).toArray 0)).get? s1.heap.objs.size = some (seqObj "list" (T2.map TRow.r).toArray 0) := Heap.get?_push_size _ rfl
  have rd : EachIs (fun v p => ∃ as, Reads (sortingHeap (s1.heap.push (seqObj "list" (T2.map TRow.r).toArray 0)) s1.heap.objs.size (T2.map TRow.r)) v p.2 as) (T2.map TRow.r) T2 :=
    each_rows T2 fun p hp => by
      obtain ⟨as, r⟩ := hr p (p2.mem_iff.mp hp)
      exact ⟨as, PyProof.Rows.Reads.keeps (fun b u e => by
        have z := k1 b u e
        exact sortingHeap_old (Nat.ne_of_lt (Heap.lt_size z)) (Heap.get?_push_of_some _ z)) r⟩
  have al2 : AllAlike (T2.map Prod.snd) := fun d hd e he => hal d ((p2.map Prod.snd).mem_iff.mp hd) e ((p2.map Prod.snd).mem_iff.mp he)
  have tp2 : ∀ d ∈ T2.map Prod.snd, ∃ xs, d = PyData.tuple xs := fun d hd => by
    obtain ⟨p, hp, rfl⟩ := List.mem_map.mp hd
    exact ht p (p2.mem_iff.mp hp)
  have u2 : ∀ d, d ∈ T2.map Prod.snd → A.in1.in1.units + d.depth < cLine := fun d hd => by
    obtain ⟨p, hp, rfl⟩ := List.mem_map.mp hd
    have z := hu p (p2.mem_iff.mp hp)
    simp only [Around.in1_units]
    omega
  have srt := sortsAt_tups (prog := P) (w := w) (A := A.in1.in1) (s := { s1 with heap := sortingHeap (s1.heap.push (seqObj "list" (T2.map TRow.r).toArray 0)) s1.heap.objs.size (T2.map TRow.r) }) (each_map (R := fun v d => ∃ as, Reads _ v d as) Prod.snd rd) al2 tp2 u2
  have out := rows_each (sortVals_data (R := fun v p => v = TRow.r p) (enc := Prod.snd) false (each_rows T2 fun p _ => rfl) rd al2)
  refine wpAny_bind (wpAny_holding (wpAny_call_entry slot_list_sort ⟨_, gL, rfl⟩ entry_list_sort (list_sort_vals (s := { s1 with heap := s1.heap.push (seqObj "list" (T2.map TRow.r).toArray 0) }) gL srt (by rw [sizeLine_eq]; omega) ⟨_, rfl, ?_⟩) (args_list_sort _)))
  rw [out]
  obtain ⟨c, hc⟩ := sortedHeap_at (vs := T2.map TRow.r) (out := ((T2.mergeSort (dataLe false Prod.snd)).map TRow.r).toArray) gL
  refine wpAny_pure ⟨_, rfl, q _ s1.heap.objs.size c T2 (fun b u e => ?_) g1 o1 hz p2 hc⟩
  have z := k1 b u e
  have lt := Heap.lt_size z
  show (sortedHeap (s1.heap.push (seqObj "list" (T2.map TRow.r).toArray 0)) s1.heap.objs.size (T2.map TRow.r) _).get? b = some u
  rw [sortedHeap_old (Nat.ne_of_lt lt) (by rw [size_push']; exact Nat.lt_succ_of_lt lt)]
  exact Heap.get?_push_of_some _ z
end
end L2

set_option Elab.async false
set_option linter.all false
set_option maxRecDepth 100000
set_option maxHeartbeats 4000000
/-! sets of nested tuples, and sorted lists of tuples: rules of the layer -/
namespace L2
open PySem PySem.W PySem.Spec PyProof.Rows
abbrev TRow.v (p : TRow) : V := .ref p.1
theorem tuple_ref {H : Hp} {v : V} {ds : List PyData} (h : Dat H v (.tuple ds)) : ∃ a, v = .ref a := by
  cases h with
  | tup _ _ => exact ⟨_, rfl⟩
theorem rows_of_dat {H : Hp} : ∀ {vs : List V} {ds : List PyData}, DatAll H vs ds → (∀ d ∈ ds, ∃ xs, d = .tuple xs) → ∃ T : List TRow, vs = T.map TRow.v ∧ ds = T.map Prod.snd ∧ ∀ p ∈ T, Dat H p.v p.2
  | _, _, .nil, _ => ⟨[], rfl, rfl, fun p hp => absurd hp (by simp)⟩
  | _, _, .cons (v := v) (d := d) h t, ht => by
    obtain ⟨T, rfl, rfl, h3⟩ := rows_of_dat t fun e he => ht e (List.mem_cons_of_mem _ he)
    obtain ⟨xs, rfl⟩ := ht d List.mem_cons_self
    obtain ⟨a, rfl⟩ := tuple_ref h
    refine ⟨(a, .tuple xs) :: T, rfl, rfl, fun p hp => ?_⟩
    rcases List.mem_cons.mp hp with rfl | hp
    · exact h
    · exact h3 p hp
theorem rows_vals : ∀ T : List TRow, Vals (T.map TRow.v) (T.map TRow.r)
  | [] => .nil
  | _ :: T => .cons rfl (rows_vals T)
theorem vals_rows : ∀ {T : List TRow} {us : List Value}, Vals (T.map TRow.v) us → us = T.map TRow.r
  | [], _, .nil => rfl
  | _ :: T, _, .cons r t => by
    cases (show _ = Value.ref _ from r)
    rw [vals_rows t, List.map_cons]
/-- what is asked of the data of tuples that are sorted -/
structure Sorty (T : List TRow) : Prop where
  alike : AllAlike (T.map Prod.snd)
  tup : ∀ p ∈ T, ∃ xs, p.2 = .tuple xs
  deep : ∀ p ∈ T, p.2.depth ≤ 8
theorem Sorty.sub {T T' : List TRow} (h : Sorty T) (s : ∀ p ∈ T', p ∈ T) : Sorty T' where
  alike := fun d hd e he => by
    obtain ⟨p, hp, rfl⟩ := List.mem_map.mp hd
    obtain ⟨q, hq, rfl⟩ := List.mem_map.mp he
    exact h.alike _ (List.mem_map_of_mem (s p hp)) _ (List.mem_map_of_mem (s q hq))
  tup := fun p hp => h.tup p (s p hp)
  deep := fun p hp => h.deep p (s p hp)
/-- the set at a, without its members -/
structure NSet0 (w : World) (h : Heap) (a : Addr) (L : List NRow) : Prop where
  ex : ∃ (es : Array (Int × Value)) (ep : Nat) (t : SetTable), (∃ o, h.get? a = some o ∧ o.ExactSet ∧ o.data = .set es ep t) ∧ es.toList = nrows w L ∧ TabOk t (hashesN w L) ∧ (L.map Prod.snd).Nodup ∧
    (w.params.followText "set-order" = true ∨ t.led = true) ∧ L.length * 5 < t.mask * 3 ∧ L.length < 64
def SetNO (w : World) (a : Addr) (L : List NRow) : HO := .ext fun h => NSet0 w h a L
theorem NSet.less {w : World} {h : Heap} {a : Addr} {L : List NRow} {es : Array (Int × Value)} {ep : Nat} {t : SetTable} (N : NSet w h a L es ep t) : NSet0 w h a L := ⟨es, ep, t, N.obj, N.eqs, N.tok, N.dif, N.led, N.gap, N.small⟩
theorem NSet0.full {w : World} {h : Heap} {a : Addr} {L : List NRow} (N : NSet0 w h a L) (hk : ∀ r ∈ L, TupKey h r.2 r.1) : ∃ es ep t, NSet w h a L es ep t := by
  obtain ⟨es, ep, t, h1, h2, h3, h4, h5, h6, h7⟩ := N.ex
  exact ⟨es, ep, t, h1, h2, h3, h4, hk, h5, h6, h7⟩
theorem setNO_ok {P : Program} {w : World} {H : Hp} {h : Heap} {a : Addr} {L : List NRow} (N : NSet0 w h a L) : ObjOk P w H h a (SetNO w a L) := by
  obtain ⟨es, ep, t, ⟨o, g, r⟩, z⟩ := N.ex
  refine ⟨N, ⟨o, g⟩, fun h1 h2 p k => ?_⟩
  obtain ⟨es', ep', t', ⟨o', g', r'⟩, z'⟩ := NSet0.ex p
  exact ⟨es', ep', t', ⟨o', k o' g', r'⟩, z'⟩
section
variable {X : Cx}
theorem Inv.reads {pins : List (Addr × Obj)} {σ : St} {H : Hp} {s : Shared} (I : Inv X pins σ H s) {p : TRow} (d : Dat H p.v p.2) : ∃ as, Reads s.heap p.r p.2 as := reads_of_dat I.hok d rfl
theorem tupKey_of {h : Heap} {p : TRow} (r : ∃ as, Reads h p.r p.2 as) (k : keyable p.2 = true) (z : p.2.depth ≤ 8) : TupKey h (nkey p.2) p.1 := by
  obtain ⟨as, r⟩ := r
  exact ⟨nkey_is _ _ as k r, by rw [nkey_depth _ k]; exact z⟩
/-- set(xs), xs a list of nested tuples -/
def rSetN (K : PySem.W.Frag) (w : World) : List V → Hp → VK → Prop := fun xs H Q => ∃ (l : Addr) (T : List TRow), xs = [V.ref l] ∧ SqL K H l (T.map TRow.v) ∧ (∀ p ∈ T, Dat H p.v p.2) ∧ Sorty T ∧ (∀ p ∈ T, keyable p.2 = true) ∧ T.length < 64 ∧
  ∀ (a : Addr) (T' : List TRow), H a = none → (∀ p ∈ T', p ∈ T) → (∀ p ∈ T, p.2 ∈ T'.map Prod.snd) → (T'.map Prod.snd).Nodup → Q (.ref a) (upd H a (SetNO w a (T'.map TRow.n)))
theorem cr_setN (hc : X.calm = true) (hu : X.A.units + 64 < cLine) : CallR X (.type "set") (rSetN X.K X.w) := by
  intro pins s σ H xs us Q I r h
  obtain ⟨l, T, rfl, hl, hd, so, hk, few, q⟩ := h
  rw [Vals.ref1 r]
  obtain ⟨its, rv, pl, hz⟩ := I.list hl
  have e1 : its = T.map TRow.r := vals_rows rv
  have fresh : H s.heap.objs.size = none := I.hok.fresh (Nat.le_refl _)
  have keys : ∀ r ∈ T.map TRow.n, TupKey s.heap r.2 r.1 := fun r hr => by
    obtain ⟨p, hp, rfl⟩ := List.mem_map.mp hr
    exact tupKey_of (I.reads (hd p hp)) (hk p hp) (so.deep p hp)
  refine nset_call (P := X.prog) (w := X.w) (T.map TRow.n) (I.ok.hd hc) pl.isList (by rw [e1, List.map_map]; first | rfl | done) keys (by rw [List.length_map]; exact few) (by omega) fun s' hm => ?_
  obtain ⟨h', tk, L, es, ep, t, rfl, N, g, ext⟩ := hm
  have sub : ∀ r ∈ L, r ∈ T.map TRow.n := fun r hr => List.mem_of_mem_take (g.only r hr)
  obtain ⟨T', rfl, sub'⟩ := sub_back L sub
  refine ⟨.ref s.heap.objs.size, upd H s.heap.objs.size (SetNO X.w s.heap.objs.size (T'.map TRow.n)), I.laid (t' := tk) ext (Nat.le_refl _) (setNO_ok N.less), rfl, q _ T' fresh sub' (fun p hp => ?_) ?_⟩
  · have z := g.every p.n (by rw [List.take_length]; exact List.mem_map_of_mem hp)
    rw [List.map_map] at z
    obtain ⟨p', hp', e⟩ := List.mem_map.mp z
    have e2 : nkey p'.2 = nkey p.2 := e
    have mp' := sub' p' hp'
    rw [← nkey_inj _ _ (hk p' mp') (hk p hp) (so.alike _ (List.mem_map_of_mem mp') _ (List.mem_map_of_mem hp)) e2]
    exact List.mem_map_of_mem hp'
  · have z := N.dif
    rw [List.map_map] at z
    have z2 : ((T'.map Prod.snd).map nkey).Nodup := by
      rw [List.map_map]
      exact z
    exact nodup_of_map z2
/-- sorted(set), the members nested tuples -/
def rSortN (w : World) : List V → Hp → VK → Prop := fun vs H Q => ∃ (a : Addr) (T : List TRow), vs = [V.ref a] ∧ H a = some (SetNO w a (T.map TRow.n)) ∧ (∀ p ∈ T, Dat H p.v p.2) ∧ Sorty T ∧ (∀ p ∈ T, keyable p.2 = true) ∧
  ∀ (T' : List TRow) (b : Addr), T'.Perm T → (T'.Pairwise fun p q => dataLt p.2 q.2 = true) → H b = none → Q (.ref b) (upd H b (.lst (T'.map TRow.v)))
theorem cr_sortN (hc : X.calm = true) (hu : X.A.units + 64 < cLine) : CallR X (.builtin "sorted") (rSortN X.w) := by
  intro pins s σ H vs us Q I r h
  obtain ⟨a, T, rfl, ha, hd, so, hk, q⟩ := h
  have N0 : NSet0 X.w s.heap a (T.map TRow.n) := (I.hok a _ ha).1
  obtain ⟨es, ep, t, N⟩ := N0.full fun r hr => by
    obtain ⟨p, hp, rfl⟩ := List.mem_map.mp hr
    exact tupKey_of (I.reads (hd p hp)) (hk p hp) (so.deep p hp)
  rw [Vals.ref1 r]
  have nd : (T.map Prod.snd).Nodup := by
    have z := N.dif
    rw [List.map_map] at z
    have z2 : ((T.map Prod.snd).map nkey).Nodup := by
      rw [List.map_map]
      exact z
    exact nodup_of_map z2
  have few := N.small
  rw [List.length_map] at few
  refine nsorted N (I.ok.hd hc) (fun p hp => I.reads (hd p hp)) so.alike so.tup (fun p hp => by have := so.deep p hp; omega) fun s' b c T' k g o hb pm hc' => ?_
  have pm2 : (sortT T').Perm T := (sortT_perm T').trans pm
  have so' : Sorty T' := so.sub fun p hp => pm.mem_iff.mp hp
  have fresh : H b = none := I.hok.fresh hb
  have J : Inv X pins σ (upd H b (.lst ((sortT T').map TRow.v))) { s with heap := s'.heap, gens := s'.gens, drawn := s'.drawn, toks := s'.toks } :=
    I.call (ch := []) (Un.laid k hb fresh) (I.hok.laid k hb ⟨by rw [List.length_map, pm2.length_eq, sizeLine_eq]; omega, _, c, rows_vals _, hc'⟩) (by rw [g]; exact I.bare) (fun _ z => nomatch z)
  have e : s' = { s with heap := s'.heap, gens := s'.gens, drawn := s'.drawn, toks := s'.toks } := by
    cases s'
    cases s
    cases o
    rfl
  rw [e]
  exact ⟨.ref b, _, J, rfl, q (sortT T') b pm2 (sortT_up T' so'.alike ((pm.map Prod.snd).nodup_iff.mpr nd)) fresh⟩
end
end L2

set_option Elab.async false
set_option linter.all false
set_option maxRecDepth 100000
set_option maxHeartbeats 4000000
/-! sorted(list) of tuples of any lengths -/
namespace L2
open PySem PySem.W PySem.Spec PyProof.Rows
theorem sortT_le (T : List TRow) : (sortT T).Pairwise fun p q => dataLt q.2 p.2 = false := by
  have srt : (sortT T).Pairwise fun p q => dataLe false Prod.snd p q = true := sort_pairwise (sortLe_total (listOrd itemOrd) false fun p : TRow => keyToks p.2) T
  refine srt.imp fun {p q} z => ?_
  have z3 : (!dataLt q.2 p.2) = true := z
  cases c : dataLt q.2 p.2 with
  | false => rfl
  | true =>
    rw [c] at z3
    exact absurd z3 (by decide)
section
variable {X : Cx}
/-- sorted(xs), xs a list of tuples -/
def rSortL (K : PySem.W.Frag) : List V → Hp → VK → Prop := fun vs H Q => ∃ (l : Addr) (T : List TRow), vs = [V.ref l] ∧ SqL K H l (T.map TRow.v) ∧ (∀ p ∈ T, Dat H p.v p.2) ∧ Sorty T ∧
  ∀ (T' : List TRow) (b : Addr), T'.Perm T → (T'.Pairwise fun p q => dataLt q.2 p.2 = false) → ((T.map Prod.snd).Nodup → T'.Pairwise fun p q => dataLt p.2 q.2 = true) → H b = none → Q (.ref b) (upd H b (.lst (T'.map TRow.v)))
theorem cr_sortL (hu : X.A.units + 64 < cLine) : CallR X (.builtin "sorted") (rSortL X.K) := by
  intro pins s σ H vs us Q I r h
  obtain ⟨l, T, rfl, hl, hd, so, q⟩ := h
  rw [Vals.ref1 r]
  obtain ⟨its, rv, pl, hz⟩ := I.list hl
  have e1 : its = T.map TRow.r := vals_rows rv
  subst e1
  rw [List.length_map] at hz
  have rd : EachIs (fun v p => ∃ as, Reads (sortingHeap (copyHeap s.heap (T.map TRow.r)) (s.heap.objs.size + 1) (T.map TRow.r)) v p.2 as) (T.map TRow.r) T :=
    each_rows T fun p hp => by
      obtain ⟨as, z⟩ := I.reads (hd p hp)
      exact ⟨as, PyProof.Rows.Reads.keeps (fun _ _ => sorting_copy_old) z⟩
  have tp : ∀ d ∈ T.map Prod.snd, ∃ xs, d = PyData.tuple xs := fun d z => by
    obtain ⟨p, hp, rfl⟩ := List.mem_map.mp z
    exact so.tup p hp
  have un : ∀ d, d ∈ T.map Prod.snd → X.A.in1.in1.units + d.depth < cLine := fun d z => by
    obtain ⟨p, hp, rfl⟩ := List.mem_map.mp z
    have z := so.deep p hp
    simp only [Around.in1_units]
    omega
  have srt := sortsAt_tups (prog := X.prog) (w := X.w) (A := X.A.in1.in1) (s := { s with heap := sortingHeap (copyHeap s.heap (T.map TRow.r)) (s.heap.objs.size + 1) (T.map TRow.r) }) (each_map (R := fun v d => ∃ as, Reads _ v d as) Prod.snd rd) so.alike tp un
  have out := rows_each (sortVals_data (R := fun v p => v = TRow.r p) (enc := Prod.snd) false (each_rows T fun p _ => rfl) rd so.alike)
  refine sorted_vals pl.isList srt (by rw [List.length_map]; exact hz) ?_
  rw [out]
  obtain ⟨c, hc⟩ := PyProof.Rows.sortedAll_at s.heap (T.map TRow.r) ((sortT T).map TRow.r).toArray
  have fresh : H (s.heap.objs.size + 1) = none := I.hok.fresh (Nat.le_succ _)
  exact ⟨.ref _, upd H (s.heap.objs.size + 1) (.lst ((sortT T).map TRow.v)), I.laid (t' := s.toks) (fun _ _ => PyProof.Rows.sortedAll_old) (Nat.le_succ _) ⟨by rw [List.length_map, (sortT_perm T).length_eq]; exact hz, _, c, rows_vals _, hc⟩, rfl,
    q (sortT T) _ (sortT_perm T) (sortT_le T) (sortT_up T so.alike) fresh⟩
end
end L2

set_option Elab.async false
set_option linter.all false
set_option maxRecDepth 100000
set_option maxHeartbeats 4000000
/-! list(text); list.count of a list of truths -/
namespace L2
open PySem PySem.W PySem.Spec PyProof.Rows
section
variable {X : Cx}
def signV (x : Str) : List V := x.cps.toList.map fun c => V.str ⟨#[c]⟩
theorem vals_signs {x : Str} {acc : Array Value} (h : ItemsOf (SignAt x) acc x.cps.size) : Vals (signV x) acc.toList := by
  refine vals_of_idx _ _ (by rw [Array.length_toList, h.1, signV, List.length_map, Array.length_toList]) fun j u hj => ?_
  obtain ⟨c, t, hc, rfl⟩ := h.2 j u (by rw [← Array.getElem?_toList]; exact hj)
  refine ⟨V.str ⟨#[c]⟩, ?_, ⟨t, rfl⟩⟩
  rw [signV, List.getElem?_map, Array.getElem?_toList, hc]
  rfl
/-- list(x), x a text: a new list of its signV -/
def rListStr : List V → Hp → VK → Prop := fun xs H Q => ∃ x : Str, xs = [.str x] ∧ x.cps.size ≤ sizeLine ∧ ∀ l, H l = none → Q (.ref l) (upd H l (.lst (signV x)))
theorem call_listStr (hc : X.calm = true) : CallR X (.type "list") rListStr := by
  intro pins s σ H xs us Q I r h
  obtain ⟨x, rfl, hn, q⟩ := h
  obtain ⟨u, rfl, rx⟩ := vals1 r
  obtain ⟨t, rfl⟩ := rx
  refine call_list_str (I.ok.hd hc) x t (fun h' tk acc c' kp e ia => ?_) hn
  have rv := vals_signs ia
  exact ⟨.ref s.heap.objs.size, _, I.laid (t' := tk) kp (Nat.le_refl _) (show ObjOk X.prog X.w _ h' _ (.lst (signV x)) from ⟨by rw [signV, List.length_map, Array.length_toList]; exact hn, acc.toList, c', rv, by simpa using e⟩), rfl, q _ (I.hok.fresh (Nat.le_refl _))⟩
theorem bls_vals : ∀ {bs : List Bool} {us : List Value}, Vals (bs.map V.bl) us → us = bs.map Value.bool
  | [], _, .nil => rfl
  | b :: bs, _, .cons r t => by
    cases (show _ = Value.bool b from r)
    rw [bls_vals t, List.map_cons]
/-- xs.count(b), xs a list of truths -/
def rCntB (K : PySem.W.Frag) : V → List V → Hp → VK → Prop := fun x xs H Q => ∃ (p : Addr) (bs : List Bool) (k : Bool), x = .ref p ∧ xs = [.bl k] ∧ SqL K H p (bs.map V.bl) ∧ Q (.int (bs.count k : Nat)) H
theorem mt_lcountB : MtR X "list.count" (rCntB X.K) := by
  intro pins s σ H x xs v us Q I rx rxs h
  obtain ⟨p, bs, k, rfl, rfl, hs, q⟩ := h
  cases rx
  obtain ⟨u, rfl, ru⟩ := rxs.one
  cases (show u = Value.bool k from ru)
  obtain ⟨its, rv, ⟨⟨cls, dd, data, sl⟩, n, ho, hc, hdn, hd⟩, hlen⟩ := I.list hs
  simp only at hc hd
  subst hc hd
  have e := bls_vals rv
  subst e
  refine call_meets PySem.F.slot_list_count ⟨_, ho, rfl⟩ PySem.F.entry_list_count (PySem.F.args_list_count_2 _ _)
    (SeqAt.list_countAt p (bs.map Value.bool).toArray n dd sl (.bool k) (isBoolOf k)) ⟨ho, fun y hy => ?_, ?_⟩
  · obtain ⟨b, _, rfl⟩ := List.mem_map.mp (show y ∈ bs.map Value.bool by simpa using hy)
    exact SeqAt.EqAt.bool_bool b k
  · have ec : (bs.map Value.bool).toArray.toList.countP (isBoolOf k) = bs.count k := by
      rw [List.toList_toArray, List.countP_map, List.count]
      rfl
    refine ⟨.int (bs.count k : Nat), H, I.tok _, ⟨s.toks, ?_⟩, q⟩
    show Value.int (((bs.map Value.bool).toArray.toList.countP (isBoolOf k) : Nat) : Int) s.toks = Value.int ((bs.count k : Nat) : Int) s.toks
    rw [ec]
end
end L2

set_option Elab.async false
set_option linter.all false
set_option maxRecDepth 100000
set_option maxHeartbeats 4000000
namespace S1
open PySem PySem.Spec PyProof.Rows L2
def topS (i : Nat) : Stmt := PySem.Challenge.pw_onlyseen_k16_plain_ones_and_twos_told.main.body.getD i (.Pass ⟨0, 0, 0, 0⟩)
abbrev sIsTruth : Stmt := topS 10
abbrev sIsTuple : Stmt := topS 11
abbrev sIsPair : Stmt := topS 12
abbrev sIsRising : Stmt := topS 13
abbrev sIsName : Stmt := topS 14
abbrev sIsLetter : Stmt := topS 15
abbrev sIsAnyClause : Stmt := topS 16
abbrev sAreNames : Stmt := topS 17
abbrev sIsSight : Stmt := topS 18
abbrev sIsOwn : Stmt := topS 19
abbrev sAreOwns : Stmt := topS 20
abbrev sIsClauseOver : Stmt := topS 21
abbrev sAreClauses : Stmt := topS 22
abbrev sNamesOf : Stmt := topS 23
abbrev sFitsSaying : Stmt := topS 24
abbrev sWantSaying : Stmt := topS 27
abbrev sLettersOf : Stmt := topS 29
abbrev sFitsPlain : Stmt := topS 30
abbrev sFitsTwos : Stmt := topS 31
abbrev sPlain : Stmt := topS 32
abbrev sTwos : Stmt := topS 33
abbrev sTank : Stmt := topS 35
abbrev sDrop : Stmt := topS 36
abbrev sLPick : Stmt := topS 37
abbrev sLot : Stmt := topS 38
abbrev sNames : Stmt := topS 39
abbrev sFrame : Stmt := topS 40
abbrev sLetters : Stmt := topS 41
abbrev sLSome : Stmt := topS 42
abbrev sPlainCl : Stmt := topS 43
abbrev sTwosCl : Stmt := topS 44
abbrev sAnyCl : Stmt := topS 45
abbrev sClauses : Stmt := topS 46
abbrev sCounted : Stmt := topS 47
abbrev sRight : Stmt := topS 48
abbrev sLaw : Stmt := topS 49
end S1

set_option Elab.async false
set_option linter.all false
set_option maxRecDepth 100000
set_option maxHeartbeats 4000000
namespace S1
open PySem PySem.Spec PyProof.Rows L2
/-- the built-in names that the text leaves as they are -/
structure Blt (mg : Str → Option Value) : Prop where
  len : mg "len" = none
  sum : mg "sum" = none
  int : mg "int" = none
  max : mg "max" = none
  min : mg "min" = none
  abs : mg "abs" = none
  str : mg "str" = none
  bool : mg "bool" = none
  dict : mg "dict" = none
  list : mg "list" = none
  set : mg "set" = none
  tuple : mg "tuple" = none
  sorted : mg "sorted" = none
  zip : mg "zip" = none
  all : mg "all" = none
  range : mg "range" = none
  isi : mg "isinstance" = none
/-- a def as the text leaves it: at f, under its name -/
structure Has (K : PySem.W.Frag) (mg : Str → Option Value) (x : Str) (st : Stmt) (ps : List Str) (f : Addr) (fd : FuncData) : Prop where
  F : Fun K x x st f fd
  g : mg x = some (.ref f)
  b : Binds K fd ps []
/-- the draws of one cell at p: the digits left, the mixed number, how many have been mixed -/
structure Src (H : Hp) (p : Addr) (c : Nat) : Prop where
  at_ : ∃ a b d : Int, H p = some (.lst [.int a, .int b, .int d]) ∧ 0 ≤ b ∧ b < 2 ^ 100 ∧ 0 ≤ d ∧ d ≤ c
theorem Src.mono {H H' : Hp} {p : Addr} {c c' : Nat} (h : Src H p c) (e : H' p = H p) (hc : c ≤ c') : Src H' p c' := by
  obtain ⟨a, b, d, h1, h2, h3, h4, h5⟩ := h
  exact ⟨a, b, d, e.trans h1, h2, h3, h4, by omega⟩
theorem Src.ne {H : Hp} {p l : Addr} {c : Nat} (h : Src H p c) (e : H l = none) : p ≠ l := by
  obtain ⟨a, b, d, h1, _⟩ := h
  exact ne_of_none h1 e
theorem same_new {H : Hp} {p : Addr} {o : HO} (h : H p = none) : Same H (upd H p o) := fun b u e => by
  rw [upd_ne (ne_of_none e h)]
  exact e
theorem same_upd {H H' : Hp} {p : Addr} {o : HO} (s : Same H H') (h : H p = none) : Same H (upd H' p o) := fun b u e => by
  rw [upd_ne (ne_of_none e h)]
  exact s _ _ e
theorem yes_of {σ : L2.St} {H : Hp} {A B : Hp → Prop} (h : A H) : tYes σ H (fun b H3 => if b = true then A H3 else B H3) := by
  show if true = true then A H else B H
  rw [if_pos rfl]
  exact h
theorem at_ok {xs : List V} {r : Int} (h0 : 0 ≤ r) (h1 : r < xs.length) : ∃ v, atI xs r = some v ∧ v ∈ xs ∧ xs[r.toNat]? = some v := by
  have hl : r.toNat < xs.length := by omega
  refine ⟨xs[r.toNat], ?_, List.getElem_mem _, List.getElem?_eq_getElem hl⟩
  have z := atI_nat (List.getElem?_eq_getElem hl)
  rw [Int.toNat_of_nonneg h0] at z
  exact z
def spTank (K : PySem.W.Frag) : Sp := fun vs H Q _ => ∃ (a : Addr) (ns : List Int) (k : Int), vs = [.ref a, .int k] ∧ SqL K H a (ns.map V.int) ∧ ns.length ≤ 63 ∧ 0 ≤ k ∧ k < 1000 ∧
  ∀ (p : Addr) (H' : Hp), H p = none → Same H H' → Src H' p 0 → Q (.ref p) H'
def spPick : Sp := fun vs H Q _ => ∃ (p : Addr) (c : Nat) (m : Int), vs = [.ref p, .int m] ∧ Src H p c ∧ c ≤ 100000 ∧ 0 < m ∧ m < 2 ^ 100 ∧
  ∀ (r : Int) (o : HO), 0 ≤ r → r < m → Src (upd H p o) p (c + 1) → Q (.int r) (upd H p o)
theorem len_ints {ns : List Int} : (ns.map V.int).length = ns.length := List.length_map ..
theorem get_ints {ns : List Int} {i : Nat} {x : V} (h : (ns.map V.int)[i]? = some x) : ∃ z, ns[i]? = some z ∧ x = V.int z := by
  rw [List.getElem?_map] at h
  cases e : ns[i]? with
  | none => rw [e] at h; cases h
  | some z => rw [e] at h; exact ⟨z, rfl, (Option.some.inj h).symm⟩
section
variable {P : Program} {w : World} {K : PySem.W.Frag} {mg : Str → Option Value} {base : Heap}
abbrev mx (b d : Int) : Int := ((b + 2654435761 * d) * (b + 40503 * d * d + 11)) % (10 ^ (33 : Int).toNat + 61)
abbrev my (x : Int) : Int := (x * x + 97 * x) % (10 ^ (32 : Int).toNat + 49)
theorem mx_lt (b d : Int) : 0 ≤ mx b d ∧ (mx b d).natAbs < 2 ^ 110 := by
  have m29 : (0 : Int) < 10 ^ (33 : Int).toNat + 61 := by decide +kernel
  have n29 : (10 : Int) ^ (33 : Int).toNat + 61 ≤ 2 ^ 110 := by decide +kernel
  have h0 : 0 ≤ mx b d := Int.emod_nonneg _ (by omega)
  have h1 : mx b d < 2 ^ 110 := Int.lt_of_lt_of_le (Int.emod_lt_of_pos _ m29) n29
  exact ⟨h0, by omega⟩
theorem my_lt (x : Int) : (my x).natAbs < 2 ^ 110 := by
  have m31 : (0 : Int) < 10 ^ (32 : Int).toNat + 49 := by decide +kernel
  have n31 : (10 : Int) ^ (32 : Int).toNat + 49 ≤ 2 ^ 110 := by decide +kernel
  have h0 : 0 ≤ my x := Int.emod_nonneg _ (by omega)
  have h1 : my x < 2 ^ 110 := Int.lt_of_lt_of_le (Int.emod_lt_of_pos _ m31) n31
  omega
theorem ite_int {c : Prop} [Decidable c] {ta tb : TE} {σ : L2.St} {H : Hp} {Q : VK} (R : ∀ i : Int, Q (.int i) H) (h1 : c → (∀ i : Int, Q (.int i) H) → ta σ H Q) (h2 : ¬ c → (∀ i : Int, Q (.int i) H) → tb σ H Q) : if c then ta σ H Q else tb σ H Q := by
  by_cases h : c
  · rw [if_pos h]; exact h1 h R
  · rw [if_neg h]; exact h2 h R
theorem scTank : FnScope ["script", "k", "cell", "blend", "other"] ["script", "k"] (defScope sTank) := ⟨rfl, rfl, rfl, by decide +kernel, rfl, by decide +kernel, by decide +kernel⟩
theorem scDrop : FnScope ["tank", "many", "found", "mixed"] ["tank", "many"] (defScope sDrop) := ⟨rfl, rfl, rfl, by decide +kernel, rfl, by decide +kernel, by decide +kernel⟩
theorem ok_pick {f : Addr} {fd : FuncData} (F : Fun K "_law_drop" "_law_drop" sDrop f fd) (B : Blt mg) : FnOk P w K mg base CX0 1 f fd ["tank", "many"] spPick := by
  refine F.ok scDrop (fun vs H Q E h => ?_) (fun cdv A outer s H vs Q E hr h => ?_)
  · obtain ⟨p, c, m, rfl, _⟩ := h
    rfl
  · obtain ⟨p, c, m, rfl, ⟨a, b, d, hp, hb0, hb1, hd0, hd1⟩, hc, hm0, hm1, q⟩ := h
    refine ⟨_, pss_cons (ps_if (pt_cmpR op_gt (pe_ix ix_list (pv 0) pe_int (fun _ _ => rfl)) pe_int (nomark _))
        (pss_cons (ps_set (i := 2) scDrop.nd rfl (.inl rfl) (pe_op op_mod (pe_callTy call_int1 (by rfl) B.int (by decide +kernel) (pa_cons (pe_ix ix_list (pv 0) pe_int (fun _ _ => rfl)) pa_nil)) (pv 1)))
        (pss_cons (ps_asg (pe_op op_fdivW (pe_ix ix_list (pv 0) pe_int (fun _ _ => rfl)) (pv 1)) (pg_sub (pv 0) pe_int set_list))
        (pss_one (ps_ret (pv 2))))) pss_nil)
      (pss_cons (ps_asg (pe_op op_add (pe_ix ix_list (pv 0) pe_int (fun _ _ => rfl)) pe_int) (pg_sub (pv 0) pe_int set_list))
      (pss_cons (ps_set (i := 3) scDrop.nd rfl (.inl rfl) (pe_op op_mod (pe_callTy call_int1 (by rfl) B.int (by decide +kernel)
          (pa_cons (pe_op op_mulW (pe_op op_add (pe_ix ix_list (pv 0) pe_int (fun _ _ => rfl)) (pe_op op_mulW pe_int (pe_ix ix_list (pv 0) pe_int (fun _ _ => rfl))))
            (pe_op op_add (pe_op op_add (pe_ix ix_list (pv 0) pe_int (fun _ _ => rfl)) (pe_op op_mulW (pe_op op_mulW pe_int (pe_ix ix_list (pv 0) pe_int (fun _ _ => rfl))) (pe_ix ix_list (pv 0) pe_int (fun _ _ => rfl)))) pe_int)) pa_nil)) (pe_op op_add (pe_op op_pow pe_int pe_int) pe_int)))
      (pss_cons (ps_set (i := 3) scDrop.nd rfl (.inl rfl) (pe_op op_mod (pe_callTy call_int1 (by rfl) B.int (by decide +kernel)
          (pa_cons (pe_op op_add (pe_op op_mulW (pv 3) (pv 3)) (pe_op op_mulW pe_int (pv 3))) pa_nil)) (pe_op op_add (pe_op op_pow pe_int pe_int) pe_int)))
      (pss_one (ps_ret (pe_op op_mod (pe_callTy call_int1 (by rfl) B.int (by decide +kernel) (pa_cons (pe_op op_fdiv (pv 3) pe_int) pa_nil)) (pv 1))))))), ?_⟩
    have hh := SqL.of (K := K) hp
    refine ⟨_, rfl, p, _, 0, _, rfl, rfl, hh, rfl, _, _, rfl, rfl, _, rfl, ?_⟩
    refine ite2 (fun ha => ?_) (fun _ => ?_)
    · have ha0 : 0 < a := of_decide_eq_true ha
      refine ⟨_, rfl, p, _, 0, _, rfl, rfl, hh, rfl, .inl ⟨_, rfl, _, rfl, _, _, rfl, rfl, hm0, ?_⟩⟩
      refine ⟨_, rfl, p, _, 0, _, rfl, rfl, hh, rfl, _, rfl, _, _, rfl, rfl, wide_div (b := 100) hm0 (by omega) (by decide) (by decide), _, rfl, p, _, 0, 0, rfl, rfl, hp, rfl, _, rfl, ?_⟩
      exact q _ _ (Int.emod_nonneg _ (by omega)) (Int.emod_lt_of_pos _ hm0) ⟨_, _, _, upd_same, hb0, hb1, hd0, by omega⟩
    · refine ⟨_, rfl, p, _, 2, _, rfl, rfl, hh, rfl, _, _, rfl, rfl, _, rfl, p, _, 2, 2, rfl, rfl, hp, rfl, ?_⟩
      have hp' : (upd H p (HO.lst ([V.int a, V.int b, V.int d].set 2 (V.int (d + 1))))) p = some (.lst [V.int a, V.int b, V.int (d + 1)]) := upd_same
      have hh' := SqL.of (K := K) hp'
      have m33 : (0 : Int) < 10 ^ (33 : Int).toNat + 61 := by decide +kernel
      have m32 : (0 : Int) < 10 ^ (32 : Int).toNat + 49 := by decide +kernel
      have e0 : (2654435761 : Int).natAbs < 2 ^ 60 := by decide
      have e2 : (d + 1).natAbs < 2 ^ 20 := by omega
      have e4 : (40503 : Int).natAbs < 2 ^ 20 := by decide
      have e5 : (40503 * (d + 1)).natAbs < 2 ^ 40 := by omega
      have g1 : (b + 2654435761 * (d + 1)).natAbs < 2 ^ 101 := by omega
      have l3 : (40503 * (d + 1) * (d + 1)).natAbs < 2 ^ (40 + 20) := wide_lt e5 e2
      have g2 : (b + 40503 * (d + 1) * (d + 1) + 11).natAbs < 2 ^ 101 := by omega
      refine ⟨_, rfl, p, _, 1, _, rfl, rfl, hh', rfl, _, rfl, p, _, 2, _, rfl, rfl, hh', rfl, _, _, rfl, rfl, wide_mul e0 e2 (by decide) (by decide) (by decide), _, _, rfl, rfl,
        _, rfl, p, _, 1, _, rfl, rfl, hh', rfl, _, rfl, p, _, 2, _, rfl, rfl, hh', rfl, _, _, rfl, rfl, wide_mul e4 e2 (by decide) (by decide) (by decide), _, rfl, p, _, 2, _, rfl, rfl, hh', rfl, _, _, rfl, rfl, wide_mul e5 e2 (by decide) (by decide) (by decide), _, _, rfl, rfl, _, _, rfl, rfl,
        _, _, rfl, rfl, wide_mul (a := 101) (b := 101) g1 g2 (by decide) (by decide) (by decide), .inl ⟨_, rfl, ?_⟩⟩
      refine ⟨_, _, rfl, rfl, ⟨by decide, by decide, by decide⟩, _, _, rfl, rfl, _, _, rfl, rfl, m33, ?_⟩
      obtain ⟨_, f1⟩ := mx_lt b (d + 1)
      refine ⟨_, rfl, _, rfl, _, _, rfl, rfl, wide_mul (a := 110) (b := 110) f1 f1 (by decide) (by decide) (by decide), _, rfl, _, _, rfl, rfl, wide_mul (a := 20) (b := 110) (by decide) f1 (by decide) (by decide) (by decide), _, _, rfl, rfl, .inl ⟨_, rfl, ?_⟩⟩
      refine ⟨_, _, rfl, rfl, ⟨by decide, by decide, by decide⟩, _, _, rfl, rfl, _, _, rfl, rfl, m32, ?_⟩
      refine ⟨_, rfl, _, _, rfl, rfl, ⟨by decide, by decide⟩, .inl ⟨_, rfl, _, rfl, _, _, rfl, rfl, hm0, ?_⟩⟩
      exact q _ _ (Int.emod_nonneg _ (by omega)) (Int.emod_lt_of_pos _ hm0) ⟨_, _, _, upd_same, hb0, hb1, by omega, by omega⟩
theorem ok_tank {f : Addr} {fd : FuncData} (F : Fun K "_law_tank" "_law_tank" sTank f fd) (B : Blt mg) : FnOk P w K mg base CX0 1 f fd ["script", "k"] (spTank K) := by
  refine F.ok scTank (fun vs H Q E h => ?_) (fun cdv A outer s H vs Q E hr h => ?_)
  · obtain ⟨a, ns, k, rfl, _⟩ := h
    rfl
  · obtain ⟨a, ns, k, rfl, hS, hlen, hk, hk1, q⟩ := h
    refine ⟨_, pss_cons (ps_set (i := 2) scTank.nd rfl (.inl rfl) (pe_ifExp (pt_cmpR op_lt (pv 1) (pe_callB call_len_seq (by rfl) B.len (by decide +kernel) (pa_cons (pv 0) pa_nil)) (nomark _))
        (pe_ix ix_list (pv 0) (pv 1) (fun _ _ => rfl)) (pe_op op_add (pe_op op_mul pe_int (pv 1)) pe_int)))
      (pss_cons (ps_set (i := 3) scTank.nd rfl (.inl rfl) (pe_callB (cr_sum rfl) (by rfl) B.sum (by decide +kernel) (pa_cons
        (pe_lc (own := [("other", 4)]) (g := gName 4) (tt := tYes) rfl scTank.nd (pi_list (pv 0)) (blkOk_by (N := ["script", "k", "cell", "blend", "other"]) (sc := defScope sTank) (by decide +kernel)) (fun _ _ _ _ _ => pg_name (i := 4) scTank.nd rfl (Or.inl rfl)) (fun _ _ _ _ _ => pts_nil)
          (fun _ _ _ _ _ => pe_op op_mod (pe_callTy call_int1 (by rfl) B.int (by decide +kernel) (pa_cons (pv 4) pa_nil)) (pe_op op_add (pe_op op_pow pe_int pe_int) pe_int))) pa_nil)))
      (pss_one (ps_ret (pe_lst (pa_cons (pe_callB (call_max2 rfl) (by rfl) B.max (by decide +kernel) (pa_cons pe_int (pa_cons (pe_op op_sub (pv 2) (pe_op op_pow pe_int pe_int)) pa_nil)))
        (pa_cons (pe_op op_mod (pe_callTy call_int1 (by rfl) B.int (by decide +kernel) (pa_cons (pe_op op_add (pe_op op_add (pe_op op_mul (pe_callB call_abs (by rfl) B.abs (by decide +kernel) (pa_cons (pv 2) pa_nil)) pe_int) (pe_op op_mul (pv 3) pe_int)) (pe_op op_mul pe_int (pv 1))) pa_nil))
            (pe_op op_add (pe_op op_pow pe_int pe_int) pe_int))
        (pa_cons pe_int pa_nil))))))), ?_⟩
    have p24 : (0 : Int) < 10 ^ (24 : Int).toNat + 7 := by decide +kernel
    have p30 : (0 : Int) < 10 ^ (30 : Int).toNat + 57 := by decide +kernel
    have q30 : (10 : Int) ^ (30 : Int).toNat + 57 ≤ 2 ^ 100 := by decide +kernel
    refine ⟨_, rfl, _, rfl, _, _, rfl, .inl hS, _, _, rfl, rfl, _, rfl, ?_⟩
    refine ite_int (fun cell => ?_) (fun hlt R => ?_) (fun _ R => ?_)
    · refine ⟨_, rfl, a, rfl, ⟨_, hS⟩, fun D hD => lc_list (K := K) (a := a) (xs := ns.map V.int) (fun i H' => ∃ ms : List Int, Same H H' ∧ H' D = some (.lst (ms.map V.int)) ∧ ms.length = i)
        ⟨[], same_new hD, upd_same, rfl⟩ (fun i H' _ ⟨_, s, _⟩ => s.seq hS) ?_ ?_⟩
      · rintro i x H' hx ⟨ms, s, hd, hm⟩
        obtain ⟨z, hz, rfl⟩ := get_ints hx
        have hi : i < ns.length := (List.getElem?_eq_some_iff.mp hz).1
        refine ⟨rfl, yes_of ?_⟩
        refine ⟨_, rfl, .inl ⟨_, rfl, _, _, rfl, rfl, ⟨by decide, by decide, by decide⟩, _, _, rfl, rfl, _, _, rfl, rfl, p24, _, hd, ?_, ?_⟩⟩
        · rw [List.length_map]; exact small1000 (by omega)
        · refine ⟨ms ++ [_], same_upd s hD, by rw [upd_same, List.map_append]; rfl, ?_⟩
          rw [List.length_append, hm]; rfl
      · rintro H' ⟨ms, s, hd, hl⟩
        refine ⟨D, ms, rfl, SqL.of hd, ?_⟩
        refine ⟨_, rfl, _, _, rfl, rfl, ⟨by decide, by decide, by decide⟩, _, _, rfl, rfl, _, _, rfl, _, rfl, _, rfl, _, _, rfl, rfl, .inr ⟨by decide, by decide⟩, _, rfl, _, _, rfl, rfl, .inr ⟨by decide, by decide⟩, _, _, rfl, rfl,
          _, rfl, _, _, rfl, rfl, .inl ⟨by decide, by decide⟩, _, _, rfl, rfl, .inl ⟨_, rfl, _, _, rfl, rfl, ⟨by decide, by decide, by decide⟩, _, _, rfl, rfl, _, _, rfl, rfl, p30, (by show 3 ≤ sizeLine; decide), fun p hp => ?_⟩⟩
        exact q p _ (s.free hp) (s.trans (same_new hp)) ⟨_, _, _, upd_same, Int.emod_nonneg _ (by omega), Int.lt_of_lt_of_le (Int.emod_lt_of_pos _ p30) q30, by decide, by decide⟩
    · have hlt' : k < ((ns.map V.int).length : Int) := of_decide_eq_true hlt
      rw [len_ints] at hlt'
      have hget : (ns.map V.int)[k.toNat]? = some (.int ns[k.toNat]) := by rw [List.getElem?_map, List.getElem?_eq_getElem (by omega)]; rfl
      have hat := atI_nat hget
      rw [Int.toNat_of_nonneg hk] at hat
      exact ⟨_, rfl, _, rfl, a, _, k, _, rfl, rfl, hS, hat, R _⟩
    · exact ⟨_, rfl, _, _, rfl, rfl, .inl ⟨by decide, by decide⟩, _, _, rfl, rfl, R _⟩
end
end S1

set_option Elab.async false
set_option linter.all false
set_option maxRecDepth 100000
set_option maxHeartbeats 4000000
/-! unlike names, drawn: the counting -/
namespace S1
open PySem PySem.Spec PyProof.Rows L2
/-- a name -/
structure Nm (x : Str) : Prop where
  lo : 1 ≤ x.length
  hi : x.length ≤ 8
  az : ∀ c ∈ x.cps.toList, 97 ≤ c ∧ c ≤ 122
def nmB (x : Str) : Bool := decide (1 ≤ x.length) && decide (x.length ≤ 8) && x.cps.toList.all fun c => decide (97 ≤ c ∧ c ≤ 122)
theorem nm_of {x : Str} (h : nmB x = true) : Nm x := by
  unfold nmB at h
  rw [Bool.and_eq_true, Bool.and_eq_true, decide_eq_true_eq, decide_eq_true_eq, List.all_eq_true] at h
  exact ⟨h.1.1, h.1.2, fun c hc => of_decide_eq_true (h.2 c hc)⟩
def resv : List Str := ["mine", "newone", "nobody", "notthere"]
def left0 : List Str := ["a", "b", "c", "x", "y", "z", "ab", "ba", "aa", "xy", "yx", "zz", "abc", "acb", "xyz", "zyx", "own", "owns"]
def left1 : List Str := ["pick", "picks", "zebra", "alpha", "omega", "abcdefg", "abcdefgh", "hgfedcba", "aaaaaaaa", "zzzzzzzz"]
def cnt (L F : List Str) : Nat := L.countP fun w => decide (w ∈ F)
theorem pop_perm {α : Type} (L : List α) (k : Nat) (h : k < L.length) : L.Perm (L[k] :: L.eraseIdx k) := by
  have e : L = L.take k ++ L[k] :: L.drop (k + 1) := by
    rw [← List.drop_eq_getElem_cons h, List.take_append_drop]
  have z : (L.take k ++ L[k] :: L.drop (k + 1)).Perm (L[k] :: (L.take k ++ L.drop (k + 1))) := List.perm_middle
  rw [← e, ← List.eraseIdx_eq_take_drop_succ] at z
  exact z
theorem cnt_cons (w : Str) (L F : List Str) : cnt (w :: L) F = cnt L F + if w ∈ F then 1 else 0 := by
  unfold cnt
  rw [List.countP_cons]
  by_cases h : w ∈ F <;> simp [h]
theorem cnt_pop (L F : List Str) (k : Nat) (h : k < L.length) : cnt L F = cnt (L.eraseIdx k) F + if L[k] ∈ F then 1 else 0 := by
  rw [← cnt_cons]
  exact (pop_perm L k h).countP_eq _
theorem cnt_snoc_out {L F : List Str} {w : Str} (h : w ∉ L) : cnt L (F ++ [w]) = cnt L F := by
  unfold cnt
  refine List.countP_congr fun x hx => ?_
  have ne : x ≠ w := fun e => h (e ▸ hx)
  simp [ne]
theorem cnt_snoc_le : ∀ {L F : List Str} {w : Str}, L.Nodup → cnt L (F ++ [w]) ≤ cnt L F + 1
  | [], F, w, _ => by simp [cnt]
  | x :: L, F, w, nd => by
    obtain ⟨n1, n2⟩ := List.nodup_cons.mp nd
    rw [cnt_cons, cnt_cons]
    by_cases e : x = w
    · subst e
      rw [cnt_snoc_out n1]
      by_cases h : x ∈ F <;> simp [h]
    · have ih := cnt_snoc_le (F := F) (w := w) n2
      have z : (x ∈ F ++ [w]) ↔ x ∈ F := by simp [e]
      by_cases h : x ∈ F <;> simp [z, h] <;> omega
/-- what is left to draw from, what was found, and how many turns are ahead -/
structure Pool (L F : List Str) (r : Nat) : Prop where
  nl : L.Nodup
  nf : F.Nodup
  vl : ∀ w ∈ L, Nm w ∧ w ∉ resv
  vf : ∀ w ∈ F, Nm w ∧ w ∉ resv
  room : 2 * r + cnt L F ≤ L.length
/-- the same within a turn, with a word in hand -/
structure Mid (L F : List Str) (w : Str) (r : Nat) : Prop where
  nl : L.Nodup
  nf : F.Nodup
  vl : ∀ w ∈ L, Nm w ∧ w ∉ resv
  vf : ∀ w ∈ F, Nm w ∧ w ∉ resv
  nw : Nm w
  b : 2 * r + cnt L F ≤ L.length + 2
  c : w ∈ F ∨ w ∈ resv → 2 * r + cnt L F ≤ L.length + 1
  d : w ∉ L ∨ 2 * r + cnt L F ≤ L.length + 1
theorem erase_of {L : List Str} (nl : L.Nodup) (k : Nat) (h : k < L.length) : (L.eraseIdx k).Nodup ∧ L[k] ∉ L.eraseIdx k ∧ (L.eraseIdx k).length + 1 = L.length ∧ ∀ w ∈ L.eraseIdx k, w ∈ L := by
  have p := pop_perm L k h
  obtain ⟨n1, n2⟩ := List.nodup_cons.mp (p.nodup_iff.mp nl)
  refine ⟨n2, n1, by rw [p.length_eq, List.length_cons], fun w hw => p.mem_iff.mpr (List.mem_cons_of_mem _ hw)⟩
theorem Pool.pop {L F : List Str} {r : Nat} (P : Pool L F (r + 1)) (k : Nat) (h : k < L.length) : Mid (L.eraseIdx k) F L[k] (r + 1) ∧ 2 * (r + 1) + cnt (L.eraseIdx k) F ≤ (L.eraseIdx k).length + 1 := by
  obtain ⟨e1, e2, e3, e4⟩ := erase_of P.nl k h
  have c := cnt_pop L F k h
  have room := P.room
  have z : 2 * (r + 1) + cnt (L.eraseIdx k) F ≤ (L.eraseIdx k).length + 1 := by
    by_cases hF : L[k] ∈ F
    · rw [if_pos hF] at c; omega
    · rw [if_neg hF] at c; omega
  exact ⟨⟨e1, P.nf, fun w hw => P.vl w (e4 w hw), P.vf, (P.vl _ (List.getElem_mem h)).1, by omega, fun _ => z, .inr z⟩, z⟩
theorem Mid.rand {L F : List Str} {w u : Str} {r : Nat} (M : Mid L F w r) (z : 2 * r + cnt L F ≤ L.length + 1) (hu : Nm u) : Mid L F u r := ⟨M.nl, M.nf, M.vl, M.vf, hu, by omega, fun _ => z, .inr z⟩
theorem Mid.more {L F : List Str} {w : Str} {r : Nat} (M : Mid L F w (r + 1)) (hw : w ∈ F ∨ w ∈ resv) : 0 < L.length ∧ ∀ (k : Nat) (h : k < L.length), Mid (L.eraseIdx k) F L[k] (r + 1) := by
  have c := M.c hw
  refine ⟨by omega, fun k h => ?_⟩
  obtain ⟨e1, e2, e3, e4⟩ := erase_of M.nl k h
  have cp := cnt_pop L F k h
  refine ⟨e1, M.nf, fun w hw => M.vl w (e4 w hw), M.vf, (M.vl _ (List.getElem_mem h)).1, ?_, fun hk => ?_, .inl e2⟩
  · split at cp <;> omega
  · rcases hk with hk | hk
    · rw [if_pos hk] at cp; omega
    · exact absurd hk (M.vl _ (List.getElem_mem h)).2
theorem Mid.done {L F : List Str} {w : Str} {r : Nat} (M : Mid L F w (r + 1)) (h1 : w ∉ F) (h2 : w ∉ resv) : Pool L (F ++ [w]) r := by
  refine ⟨M.nl, ?_, M.vl, fun x hx => ?_, ?_⟩
  · rw [List.nodup_append]
    refine ⟨M.nf, by simp, fun a ha b hb => ?_⟩
    cases List.mem_singleton.mp hb
    exact fun e => h1 (e ▸ ha)
  · rcases List.mem_append.mp hx with z | z
    · exact M.vf x z
    · cases List.mem_singleton.mp z
      exact ⟨M.nw, h2⟩
  · rcases M.d with z | z
    · rw [cnt_snoc_out z]
      have := M.b
      omega
    · have := cnt_snoc_le (F := F) (w := w) M.nl
      omega
theorem pool0 {r : Nat} (h : r ≤ 14) : Pool (left0 ++ left1) [] r := by
  refine ⟨by decide +kernel, List.nodup_nil, fun w hw => ?_, fun w hw => absurd hw (by simp), ?_⟩
  · have z : ((left0 ++ left1).all fun w => nmB w && !resv.contains w) = true := by decide +kernel
    have z2 := List.all_eq_true.mp z w hw
    rw [Bool.and_eq_true] at z2
    refine ⟨nm_of z2.1, fun m => ?_⟩
    have z3 := z2.2
    simp [m] at z3
  · have z : cnt (left0 ++ left1) [] = 0 := by decide +kernel
    have z2 : (left0 ++ left1).length = 28 := by decide +kernel
    rw [z, z2]
    omega
end S1

set_option Elab.async false
set_option linter.all false
set_option maxRecDepth 100000
set_option maxHeartbeats 4000000
/-! unlike names, drawn -/
namespace S1
open PySem PySem.Spec PyProof.Rows L2
def spWords : Sp := fun vs H Q _ => ∃ (p : Addr) (c n : Nat), vs = [.ref p, .int n] ∧ Src H p c ∧ c ≤ 90000 ∧ n ≤ 14 ∧
  ∀ (l : Addr) (ws : List Str) (H' : Hp), H l = none → H' l = some (.lst (ws.map V.str)) → ws.length = n → ws.Nodup → (∀ x ∈ ws, Nm x ∧ x ∉ resv) → Src H' p (c + 200) → Same (del H p) (del H' p) → Q (.ref l) H'
theorem branch {c : Prop} [Decidable c] {t u : TS} {D : Ends} {σ : L2.St} {H : Hp} (I : L2.St → Hp → Prop) (R : ∀ σ' H', I σ' H' → D.nx σ' H') (h1 : c → (∀ σ' H', I σ' H' → D.nx σ' H') → t D σ H)
    (h2 : ¬ c → (∀ σ' H', I σ' H' → D.nx σ' H') → u D σ H) : if c then t D σ H else u D σ H := by
  by_cases h : c
  · rw [if_pos h]; exact h1 h R
  · rw [if_neg h]; exact h2 h R
theorem seq_nat {r : Int} {n : Nat} (h0 : 0 ≤ r) (h1 : r < n) : seqIndex? r n = some r.toNat := by
  unfold seqIndex?
  simp
  omega
theorem map_erase {α β : Type} (f : α → β) : ∀ (l : List α) (k : Nat), (l.map f).eraseIdx k = (l.eraseIdx k).map f
  | [], _ => rfl
  | _ :: _, 0 => rfl
  | x :: l, k + 1 => by rw [List.map_cons, List.eraseIdx_cons_succ, List.eraseIdx_cons_succ, List.map_cons, map_erase f l k]
theorem sd_of {H H' : Hp} {p : Addr} (s : Same H H') : Same (del H p) (del H' p) := fun b u e => by
  by_cases z : b = p
  · rw [z, del_same] at e; cases e
  · rw [del_ne z] at e ⊢; exact s b u e
theorem sd_put {H H' : Hp} {p l : Addr} {o : HO} (s : Same (del H p) (del H' p)) (h : H l = none) : Same (del H p) (del (upd H' l o) p) := fun b u e => by
  by_cases z : b = p
  · rw [z, del_same] at e; cases e
  · have z2 := s b u e
    rw [del_ne z] at e z2 ⊢
    rw [upd_ne (ne_of_none e h)]
    exact z2
theorem sd_at {H H' : Hp} {p : Addr} {o : HO} (s : Same (del H p) (del H' p)) : Same (del H p) (del (upd H' p o) p) := fun b u e => by
  by_cases z : b = p
  · rw [z, del_same] at e; cases e
  · have z2 := s b u e
    rw [del_ne z] at z2 ⊢
    rw [upd_ne z]
    exact z2
abbrev sg (c : Nat) : Str := ⟨#[c]⟩
theorem joinL_one : ∀ cs : List Nat, TL.joinL [] ((cs.map sg).map TL.tl) = cs
  | [] => rfl
  | [c] => rfl
  | c :: d :: cs => by
    show TL.tl (sg c) ++ ([] ++ TL.joinL [] (((d :: cs).map sg).map TL.tl)) = c :: d :: cs
    rw [joinL_one (d :: cs)]
    rfl
theorem join_one (cs : List Nat) : Txt.join "" (cs.map sg) = ⟨cs.toArray⟩ := by
  refine TL.ext_tl ((congrArg TL.tl (TL.join_eq _ _)).trans ((TL.tl_join _ _).trans ?_))
  have e : TL.tl ("" : Str) = [] := by decide +kernel
  rw [e, joinL_one]
theorem nm_join {cs : List Nat} (h1 : 1 ≤ cs.length) (h2 : cs.length ≤ 8) (h3 : ∀ c ∈ cs, 97 ≤ c ∧ c ≤ 122) : Nm (Txt.join "" (cs.map sg)) := by
  rw [join_one]
  exact ⟨by simpa [Str.length] using h1, by simpa [Str.length] using h2, by simpa using h3⟩
theorem join_len (cs : List Nat) : ((cs.map sg).map (·.length)).sum = cs.length := by
  induction cs with
  | nil => rfl
  | cons c cs ih =>
    rw [List.map_cons, List.map_cons, List.sum_cons, ih, List.length_cons]
    show 1 + cs.length = cs.length + 1
    omega
theorem abc_at {r : Int} (h0 : 0 ≤ r) (h1 : r < 26) : atI ("abcdefghijklmnopqrstuvwxyz" : Str).cps.toList r = some (97 + r.toNat) := by
  have z : ∀ k, k < 26 → ("abcdefghijklmnopqrstuvwxyz" : Str).cps.toList[k]? = some (97 + k) := by decide +kernel
  have z2 := atI_nat (z r.toNat (by omega))
  rwa [Int.toNat_of_nonneg h0] at z2
theorem gen_heap {D : L2.St → Hp → Prop} {σ : L2.St} {G : Hp} (F : Hp → Prop) (h : F G) (k : ∀ G', F G' → D σ G') : D σ G := k G h
theorem or_split {c : Prop} [Decidable c] {u : TT} {σ : L2.St} {H : Hp} {Q : Bool → Hp → Prop} (R : Hp → Prop) (k : ∀ H', R H' → Q true H') (h1 : c → (∀ H', R H' → Q true H') → Q true H) (h2 : ¬ c → (∀ H', R H' → Q true H') → u σ H Q) : if c then Q true H else u σ H Q := by
  by_cases h : c
  · rw [if_pos h]; exact h1 h k
  · rw [if_neg h]; exact h2 h k
theorem inV_str {x : Str} {xs : List Str} : inV (.str x) (xs.map V.str) = decide (x ∈ xs) := by
  unfold inV
  rw [List.any_map]
  by_cases h : x ∈ xs
  · rw [decide_eq_true h, List.any_eq_true]
    exact ⟨x, h, by simp [eqV]⟩
  · rw [decide_eq_false h, List.any_eq_false]
    intro y hy
    simp only [Function.comp, eqV]
    intro z
    have z2 : y = x := by simpa using z
    exact h (z2 ▸ hy)
theorem flat_strs (xs : List Str) : (xs.map V.str).all flatV = true := by
  rw [List.all_map, List.all_eq_true]
  exact fun _ _ => rfl
end S1

set_option Elab.async false
set_option linter.all false
set_option maxRecDepth 100000
set_option maxHeartbeats 4000000
/-! clauses, drawn -/
namespace S1
open PySem PySem.W PySem.Spec PyProof.Rows L2
theorem lst_ne_tup {xs ys : List V} : HO.lst xs ≠ HO.tup ys := fun z => by cases z
mutual
/-- tuples stay what they are while a list changes -/
theorem dat_del {H H' : Hp} {p : Addr} {xs : List V} (hp : H p = some (.lst xs)) (s : Same (del H p) (del H' p)) : ∀ {v : V} {d : PyData}, keyable d = true → Dat H v d → Dat H' v d
  | _, _, _, .non => .non
  | _, _, _, .bl b => .bl b
  | _, _, _, .int i => .int i
  | _, _, _, .str x => .str x
  | _, _, k, .lst e h => by simp [keyable] at k
  | _, _, k, .tup (a := a) e h => by
    have ne : a ≠ p := fun z => by rw [z, hp] at e; cases e
    have z := s a _ (by rw [del_ne ne]; exact e)
    rw [del_ne ne] at z
    exact .tup z (dats_del hp s (by simpa [keyable] using k) h)
  | _, _, k, .dct e h => by simp [keyable] at k
theorem dats_del {H H' : Hp} {p : Addr} {xs : List V} (hp : H p = some (.lst xs)) (s : Same (del H p) (del H' p)) : ∀ {vs : List V} {ds : List PyData}, keyables ds = true → DatAll H vs ds → DatAll H' vs ds
  | _, _, _, .nil => .nil
  | _, _, k, .cons h t => by
    rw [keyables, Bool.and_eq_true] at k
    exact .cons (dat_del hp s k.1 h) (dats_del hp s k.2 t)
end
theorem Src.lst {H : Hp} {p : Addr} {c : Nat} (h : Src H p c) : ∃ xs, H p = some (.lst xs) := by
  obtain ⟨_, _, _, z, _⟩ := h.at_
  exact ⟨_, z⟩
theorem dat_src {H H' : Hp} {p : Addr} {c : Nat} (h : Src H p c) (s : Same (del H p) (del H' p)) {v : V} {d : PyData} (k : keyable d = true) (D : Dat H v d) : Dat H' v d := by
  obtain ⟨xs, z⟩ := h.lst
  exact dat_del z s k D
theorem dat_upd {H : Hp} {p : Addr} {o : HO} {xs : List V} (hp : H p = some (.lst xs)) {v : V} {d : PyData} (k : keyable d = true) (D : Dat H v d) : Dat (upd H p o) v d := dat_del hp (sd_at (Same.refl _)) k D
theorem dat_new {H : Hp} {p : Addr} {o : HO} (hp : H p = none) {v : V} {d : PyData} (D : Dat H v d) : Dat (upd H p o) v d := D.same (same_new hp)
/-! ### letters and clauses, as data -/
abbrev Ltr := Str × Bool
def ltD (l : Ltr) : PyData := .tuple [.str l.1, .bool l.2]
def clD (cl : List Ltr) : PyData := .tuple (cl.map ltD)
theorem keyable_lt (l : Ltr) : keyable (ltD l) = true := rfl
theorem keyables_map {α : Type} (f : α → PyData) (h : ∀ x, keyable (f x) = true) : ∀ l : List α, keyables (l.map f) = true
  | [] => rfl
  | x :: l => by rw [List.map_cons, keyables, h x, keyables_map f h l]; rfl
theorem keyable_cl (cl : List Ltr) : keyable (clD cl) = true := by
  show keyables (cl.map ltD) = true
  exact keyables_map ltD keyable_lt cl
theorem alike_lt (a b : Ltr) : alike (ltD a) (ltD b) = true := by simp [ltD, alike, alikeAll]
theorem alikes_map {α : Type} (f : α → PyData) (h : ∀ x y, alike (f x) (f y) = true) : ∀ l m : List α, alikeAll (l.map f) (m.map f) = true
  | [], _ => by simp [alikeAll]
  | _ :: _, [] => by simp [alikeAll]
  | x :: l, y :: m => by simp only [List.map_cons, alikeAll, h x y, alikes_map f h l m, Bool.and_self]
theorem alike_cl (a b : List Ltr) : alike (clD a) (clD b) = true := by
  show alikeAll (a.map ltD) (b.map ltD) = true
  exact alikes_map ltD alike_lt a b
/-- one text below another -/
def tlt (x y : Str) : Prop := x.cps.toList < y.cps.toList
theorem lt_letters {a b : Ltr} (ne : a.1 ≠ b.1) (h : dataLt (ltD a) (ltD b) = true) : tlt a.1 b.1 := by
  unfold ltD at h
  rw [dataLt_pair (by simp [alike]) (by simp [alike])] at h
  have e : PyData.eqv (.str a.1) (.str b.1) = false := by
    simp only [PyData.eqv]
    exact beq_false_of_ne ne
  rw [e, if_neg (by decide), dataLt_str] at h
  rw [decide_eq_true_eq] at h
  exact h
/-- what a drawn clause is -/
structure ClOk (ws : List Str) (cl : List Ltr) : Prop where
  up : cl.Pairwise fun a b => tlt a.1 b.1
  mem : ∀ l ∈ cl, l.1 ∈ ws
theorem depth_lt (l : Ltr) : (ltD l).depth ≤ 1 := by simp [ltD, PyData.depth, PyData.depthAll]
theorem depths_map {α : Type} (f : α → PyData) (n : Nat) (h : ∀ x, (f x).depth ≤ n) : ∀ l : List α, PyData.depthAll (l.map f) ≤ n
  | [] => by simp [PyData.depthAll]
  | x :: l => by
    have := h x
    have := depths_map f n h l
    simp only [List.map_cons, PyData.depthAll]
    omega
theorem depth_cl (cl : List Ltr) : (clD cl).depth ≤ 2 := by
  have := depths_map ltD 1 depth_lt cl
  simp only [clD, PyData.depth]
  omega
def spClause : Sp := fun vs H Q _ => ∃ (p lw : Addr) (c : Nat) (ws : List Str), vs = [.ref p, .ref lw] ∧ Src H p c ∧ c ≤ 90000 ∧ H lw = some (.lst (ws.map V.str)) ∧ ws.Nodup ∧ ws.length ≤ 100 ∧ p ≠ lw ∧
  ∀ (v : V) (cl : List Ltr) (H' : Hp), Dat H' v (clD cl) → ClOk ws cl → Src H' p (c + 202) → Same (del H p) (del H' p) → Q v H'
theorem ite_intP {c : Prop} [Decidable c] {ta tb : TE} {σ : L2.St} {H : Hp} {Q : VK} (I : Int → Prop) (R : ∀ i : Int, I i → Q (.int i) H) (h1 : c → (∀ i : Int, I i → Q (.int i) H) → ta σ H Q) (h2 : ¬ c → (∀ i : Int, I i → Q (.int i) H) → tb σ H Q) : if c then ta σ H Q else tb σ H Q := by
  by_cases h : c
  · rw [if_pos h]; exact h1 h R
  · rw [if_neg h]; exact h2 h R
theorem sd_new {H H' : Hp} {p l : Addr} {o : HO} (s : Same (del H p) (del H' p)) (hl : H' l = none) (n : l ≠ p) : Same (del H p) (del (upd H' l o) p) := by
  refine sd_put s ?_
  cases z : H l with
  | none => rfl
  | some u =>
    have z2 := s l u (by rw [del_ne n]; exact z)
    rw [del_ne n, hl] at z2
    cases z2
theorem sd_free {H H' : Hp} {p l : Addr} (s : Same (del H p) (del H' p)) (hl : H' l = none) (n : l ≠ p) : H l = none := by
  cases z : H l with
  | none => rfl
  | some u =>
    have z2 := s l u (by rw [del_ne n]; exact z)
    rw [del_ne n, hl] at z2
    cases z2
theorem dats_rows {H : Hp} : ∀ {T : List TRow}, (∀ q ∈ T, Dat H q.v q.2) → DatAll H (T.map TRow.v) (T.map Prod.snd)
  | [], _ => .nil
  | q :: T, h => .cons (h q List.mem_cons_self) (dats_rows fun r hr => h r (List.mem_cons_of_mem _ hr))
theorem sorty_of {α : Type} {f : α → PyData} {T : List TRow} {l : List α} (e : T.map Prod.snd = l.map f) (al : ∀ x y, alike (f x) (f y) = true) (tp : ∀ x, ∃ xs, f x = .tuple xs) (dp : ∀ x, (f x).depth ≤ 8) : Sorty T := by
  have z : ∀ p ∈ T, ∃ x, p.2 = f x := fun p hp => by
    have m : p.2 ∈ l.map f := e ▸ List.mem_map_of_mem hp
    obtain ⟨x, _, hx⟩ := List.mem_map.mp m
    exact ⟨x, hx.symm⟩
  refine ⟨fun d hd d' hd' => ?_, fun p hp => ?_, fun p hp => ?_⟩
  · rw [e] at hd hd'
    obtain ⟨x, _, rfl⟩ := List.mem_map.mp hd
    obtain ⟨y, _, rfl⟩ := List.mem_map.mp hd'
    exact al x y
  · obtain ⟨x, hx⟩ := z p hp
    rw [hx]; exact tp x
  · obtain ⟨x, hx⟩ := z p hp
    rw [hx]; exact dp x
/-- the letters of sorted rows -/
theorem letters_back {T T' : List TRow} {cl : List Ltr} (pm : T'.Perm T) (e : T.map Prod.snd = cl.map ltD) (nd : (cl.map Prod.fst).Nodup) (up : (T.map Prod.snd).Nodup → T'.Pairwise fun p q => dataLt p.2 q.2 = true) :
    ∃ cl' : List Ltr, cl'.Perm cl ∧ T'.map Prod.snd = cl'.map ltD ∧ cl'.Pairwise fun a b => tlt a.1 b.1 := by
  obtain ⟨cl', p2, e2⟩ := perm_back (f := ltD) ((pm.map Prod.snd).trans (.of_eq e)) cl rfl
  have nl : cl.Nodup := nodup_of_map nd
  have nT : (T.map Prod.snd).Nodup := by
    rw [e]
    refine List.pairwise_map.mpr (nl.imp fun {a b} ne z => ne ?_)
    unfold ltD at z
    injection z with z
    injection z with z1 z2
    injection z1 with z1
    injection z2 with z2
    injection z2 with z2
    exact Prod.ext z1 z2
  have u1 : (T'.map Prod.snd).Pairwise fun d e => dataLt d e = true := List.pairwise_map.mpr (up nT)
  rw [e2] at u1
  have nd' : (cl'.map Prod.fst).Nodup := ((p2.map Prod.fst).nodup_iff).mpr nd
  exact ⟨cl', p2, e2, ((List.pairwise_map.mp u1).and (List.pairwise_map.mp nd')).imp fun {a b} z => lt_letters z.2 z.1⟩
end S1

set_option Elab.async false
set_option linter.all false
set_option maxRecDepth 100000
set_option maxHeartbeats 4000000
/-! sorted(list) of texts, and the data of sayings -/
namespace S1
open PySem PySem.W PySem.Spec PyProof.Rows L2
abbrev RS (v : Value) (x : Str) : Prop := RelV (.str x) v
theorem each_strs : ∀ {xs : List Str} {us : List Value}, Vals (xs.map V.str) us → EachIs RS us xs
  | [], _, .nil => .nil
  | _ :: _, _, .cons r t => .cons r (each_strs t)
theorem strs_each : ∀ {us : List Value} {xs : List Str}, EachIs RS us xs → Vals (xs.map V.str) us
  | _, _, .nil => .nil
  | _, _, .cons r t => .cons r (strs_each t)
theorem each_reads {h : Heap} : ∀ {us : List Value} {xs : List Str}, EachIs RS us xs → EachIs (fun v x => ∃ as, Reads h v (.str x) as) us xs
  | _, _, .nil => .nil
  | _, _, .cons r t => .cons (by obtain ⟨k, rfl⟩ := r; exact ⟨_, .str _ k⟩) (each_reads t)
def sortW (xs : List Str) : List Str := xs.mergeSort (dataLe false PyData.str)
theorem sortW_up {xs : List Str} (nd : xs.Nodup) : (sortW xs).Pairwise tlt := by
  have srt : (sortW xs).Pairwise fun p q => dataLe false PyData.str p q = true := sort_pairwise (sortLe_total (listOrd itemOrd) false fun p : Str => keyToks (.str p)) xs
  have nd' : (sortW xs).Nodup := (List.mergeSort_perm _ _).nodup_iff.mpr nd
  refine (srt.and nd').imp fun {p q} z => ?_
  have al : alike (.str p) (.str q) = true := by simp [alike]
  have ne : PyData.str p ≠ PyData.str q := fun e => z.2 (by injection e)
  rcases dataLt_or al ne with c | c
  · rw [dataLt_str, decide_eq_true_eq] at c
    exact c
  · have z3 : (!dataLt (.str q) (.str p)) = true := z.1
    rw [c] at z3
    exact absurd z3 (by decide)
section
variable {X : Cx}
/-- sorted(xs), xs a list of texts -/
def rSortW (K : PySem.W.Frag) : List V → Hp → VK → Prop := fun vs H Q => ∃ (l : Addr) (xs : List Str), vs = [V.ref l] ∧ SqL K H l (xs.map V.str) ∧
  ∀ (ys : List Str) (b : Addr), ys.Perm xs → (xs.Nodup → ys.Pairwise tlt) → H b = none → Q (.ref b) (upd H b (.lst (ys.map V.str)))
theorem cr_sortW (hu : X.A.units + 64 < cLine) : CallR X (.builtin "sorted") (rSortW X.K) := by
  intro pins s σ H vs us Q I r h
  obtain ⟨l, xs, rfl, hl, q⟩ := h
  rw [Vals.ref1 r]
  obtain ⟨its, rv, pl, hz⟩ := I.list hl
  have e0 := each_strs rv
  have rd := each_reads (h := sortingHeap (copyHeap s.heap its) (s.heap.objs.size + 1) its) e0
  have al : AllAlike (xs.map PyData.str) := AllAlike.of fun b b' => by simp [alike]
  have un : ∀ d, d ∈ xs.map PyData.str → X.A.in1.in1.units + d.depth < cLine := fun d z => by
    obtain ⟨p, _, rfl⟩ := List.mem_map.mp z
    simp only [Around.in1_units, PyData.depth]
    omega
  have srt := SortsAt.data (prog := X.prog) (w := X.w) (A := X.A.in1.in1) (s := { s with heap := sortingHeap (copyHeap s.heap its) (s.heap.objs.size + 1) its }) (each_map (R := fun v d => ∃ as, Reads _ v d as) PyData.str rd) al
    (Sortable.others fun b => ⟨fun z => (nomatch z), fun _ z => (nomatch z)⟩) un
  have out := strs_each (sortVals_data (R := RS) (enc := PyData.str) false e0 rd al)
  rw [List.length_map] at hz
  have len : its.length = xs.length := by rw [e0.length]
  refine sorted_vals pl.isList srt (by rw [len]; exact hz) ?_
  obtain ⟨c, hc⟩ := PyProof.Rows.sortedAll_at s.heap its (sortVals (dataKind (sortingHeap (copyHeap s.heap its) (s.heap.objs.size + 1) its) (xs.map PyData.str)) false its its).toArray
  have fresh : H (s.heap.objs.size + 1) = none := I.hok.fresh (Nat.le_succ _)
  have pm : (sortW xs).Perm xs := List.mergeSort_perm _ _
  exact ⟨.ref _, upd H (s.heap.objs.size + 1) (.lst ((sortW xs).map V.str)), I.laid (t' := s.toks) (fun _ _ => PyProof.Rows.sortedAll_old) (Nat.le_succ _) ⟨by rw [List.length_map, pm.length_eq]; exact hz, _, c, out, hc⟩, rfl,
    q (sortW xs) _ pm sortW_up fresh⟩
end
/-! ### the data of sayings -/
abbrev Own := Str × List Str
def nmsD (xs : List Str) : PyData := .tuple (xs.map .str)
def ownD (o : Own) : PyData := .tuple [.str o.1, nmsD o.2]
structure Say where
  picks : List Str
  owns : List Own
  cls : List (List Ltr)
def Say.d (s : Say) : PyData := .tuple [nmsD s.picks, .tuple (s.owns.map ownD), .tuple (s.cls.map clD)]
def Say.names (s : Say) : List Str := s.picks ++ s.owns.map Prod.fst
def copies (os : List Own) : Nat := (os.map fun o => 2 ^ o.2.length).sum
/-- a saying of at most so many picks, owns, copies, clauses -/
structure SayOk (a b c d : Nat) (s : Say) : Prop where
  pu : s.picks.Pairwise tlt
  pn : ∀ x ∈ s.picks, Nm x
  pl : s.picks.length ≤ a
  ou : s.owns.Pairwise fun x y => tlt x.1 y.1
  on : ∀ o ∈ s.owns, Nm o.1 ∧ o.1 ∉ s.picks ∧ o.2.Pairwise tlt ∧ ∀ x ∈ o.2, x ∈ s.picks
  ol : s.owns.length ≤ b
  oc : copies s.owns ≤ c
  cu : s.cls.Pairwise fun x y => dataLt (clD x) (clD y) = true
  ck : ∀ cl ∈ s.cls, ClOk s.names cl
  cl : s.cls.length ≤ d
theorem alike_nms (a b : List Str) : alike (nmsD a) (nmsD b) = true := by
  show alikeAll (a.map .str) (b.map .str) = true
  exact alikes_map PyData.str (fun _ _ => by simp [alike]) a b
theorem alike_own (a b : Own) : alike (ownD a) (ownD b) = true := by
  simp only [ownD, alike, alikeAll, alike_nms, Bool.and_self, Bool.and_true]
theorem depth_nms (a : List Str) : (nmsD a).depth ≤ 1 := by
  have := depths_map PyData.str 0 (fun _ => Nat.le_refl _) a
  simp only [nmsD, PyData.depth]
  omega
theorem depth_own (a : Own) : (ownD a).depth ≤ 2 := by
  have := depth_nms a.2
  simp only [ownD, PyData.depth, PyData.depthAll]
  omega
theorem keyable_nms (a : List Str) : keyable (nmsD a) = true := by
  show keyables (a.map .str) = true
  exact keyables_map PyData.str (fun _ => rfl) a
theorem keyable_own (a : Own) : keyable (ownD a) = true := by
  simp only [ownD, keyable, keyables, keyable_nms, Bool.and_self]
theorem lt_owns {a b : Own} (ne : a.1 ≠ b.1) (h : dataLt (ownD a) (ownD b) = true) : tlt a.1 b.1 := by
  unfold ownD at h
  rw [dataLt_pair (by simp [alike]) (alike_nms _ _)] at h
  have e : PyData.eqv (.str a.1) (.str b.1) = false := by
    simp only [PyData.eqv]
    exact beq_false_of_ne ne
  rw [e, if_neg (by decide), dataLt_str, decide_eq_true_eq] at h
  exact h
/-- a tuple that stands -/
def FT (H : Hp) (a : Addr) (xs : List V) : Prop := H a = some (.tup xs)
theorem FT.rd {H : Hp} {a : Addr} {xs : List V} (h : FT H a xs) : Rd H a (.tup xs) := .inl h
theorem FT.sq {K : PySem.W.Frag} {H : Hp} {a : Addr} {xs : List V} (h : FT H a xs) : SqT K H a xs := .inl h.rd
theorem FT.same {H H' : Hp} {a : Addr} {xs : List V} (h : FT H a xs) (S : Same H H') : FT H' a xs := S _ _ h
/-- the owns of a saying, as they stand -/
def DatO (H : Hp) (v : V) (os : List Own) : Prop := ∃ b us, v = .ref b ∧ FT H b us ∧ DatAll H us (os.map ownD)
theorem DatO.same {H H' : Hp} {v : V} {os : List Own} (h : DatO H v os) (S : Same H H') : DatO H' v os := let ⟨b, us, e, f, d⟩ := h; ⟨b, us, e, f.same S, DatAll.same S d⟩
/-- a saying, as it stands -/
def DatS (H : Hp) (v : V) (s : Say) : Prop := ∃ a p o c, v = .ref a ∧ H a = some (.tup [p, o, c]) ∧ Dat H p (nmsD s.picks) ∧ DatO H o s.owns ∧ Dat H c (.tuple (s.cls.map clD))
theorem DatS.same {H H' : Hp} {v : V} {s : Say} (h : DatS H v s) (S : Same H H') : DatS H' v s := let ⟨a, p, o, c, e, g, d1, d2, d3⟩ := h; ⟨a, p, o, c, e, S _ _ g, d1.same S, d2.same S, d3.same S⟩
end S1

set_option Elab.async false
set_option linter.all false
set_option maxRecDepth 100000
set_option maxHeartbeats 4000000
/-! sayings, drawn -/
namespace S1
open PySem PySem.W PySem.Spec PyProof.Rows L2
theorem cut_take {ws : List Str} {r : Nat} : cutV (ws.map V.str) none (some (r : Int)) = (ws.take r).map V.str := by
  unfold cutV
  rw [HT.sIx_nat, HT.sIx_none, List.drop_zero, List.map_take, Nat.sub_zero, ← List.take_eq_take_min]
theorem cut_mid {ws : List Str} {a r : Nat} (h : a + r ≤ ws.length) : cutV (ws.map V.str) (some (a : Int)) (some ((a + r : Nat) : Int)) = ((ws.drop a).take r).map V.str := by
  unfold cutV
  rw [HT.sIx_nat, HT.sIx_nat, List.length_map, Nat.min_eq_left (show a ≤ ws.length by omega), Nat.min_eq_left h, ← List.map_drop, ← List.map_take]
  congr 1
  congr 1
  omega
theorem dats_strs {H : Hp} : ∀ xs : List Str, DatAll H (xs.map V.str) (xs.map PyData.str)
  | [] => .nil
  | x :: xs => .cons (.str x) (dats_strs xs)
theorem copies_snoc (os : List Own) (o : Own) : copies (os ++ [o]) = copies os + 2 ^ o.2.length := by
  unfold copies
  rw [List.map_append, List.sum_append, List.map_cons, List.map_nil, List.sum_cons, List.sum_nil, Nat.add_zero]
theorem own_row {H : Hp} {q : TRow} {o : Own} (e : q.2 = ownD o) (D : Dat H q.v q.2) : ∃ t, H q.1 = some (.tup [.str o.1, .ref t]) ∧ H t = some (.tup (o.2.map V.str)) := by
  rw [e] at D
  have D2 : Dat H (.ref q.1) (.tuple [.str o.1, nmsD o.2]) := D
  cases D2 with
  | tup g h =>
    cases h with
    | cons h1 h2 =>
      cases h2 with
      | cons h3 h4 =>
        cases h4
        cases h1
        have h5 : Dat H _ (.tuple (o.2.map .str)) := h3
        cases h5 with
        | tup g2 h6 =>
          have key : ∀ {xs : List V} {l : List Str}, DatAll H xs (l.map PyData.str) → xs = l.map V.str := by
            intro xs l
            induction l generalizing xs with
            | nil => intro h; cases h; rfl
            | cons x l ih =>
              intro h
              cases h with
              | cons a b =>
                cases a
                rw [ih b, List.map_cons]
          rw [key h6] at g2
          exact ⟨_, g, g2⟩
theorem rows_back {α : Type} {f : α → PyData} {g : α → Str} (hg : ∀ a b, f a = f b → g a = g b) (hlt : ∀ a b, g a ≠ g b → dataLt (f a) (f b) = true → tlt (g a) (g b)) {T T' : List TRow} {l : List α} (pm : T'.Perm T) (e : T.map Prod.snd = l.map f)
    (nd : (l.map g).Nodup) (up : (T.map Prod.snd).Nodup → T'.Pairwise fun p q => dataLt p.2 q.2 = true) : ∃ l' : List α, l'.Perm l ∧ T'.map Prod.snd = l'.map f ∧ l'.Pairwise fun a b => tlt (g a) (g b) := by
  obtain ⟨l', p2, e2⟩ := perm_back (f := f) ((pm.map Prod.snd).trans (.of_eq e)) l rfl
  have nT : (T.map Prod.snd).Nodup := by
    rw [e]
    exact List.pairwise_map.mpr ((List.pairwise_map.mp nd).imp fun {a b} ne z => ne (hg a b z))
  have u1 : (T'.map Prod.snd).Pairwise fun d e => dataLt d e = true := List.pairwise_map.mpr (up nT)
  rw [e2] at u1
  have nd' : (l'.map g).Nodup := ((p2.map g).nodup_iff).mpr nd
  exact ⟨l', p2, e2, ((List.pairwise_map.mp u1).and (List.pairwise_map.mp nd')).imp fun {a b} z => hlt a b z.2 z.1⟩
theorem own_name (a b : Own) (h : ownD a = ownD b) : a.1 = b.1 := by
  unfold ownD at h
  injection h with h
  injection h with h _
  injection h
theorem nodup_le {α : Type} : ∀ {l m : List α}, l.Nodup → (∀ x ∈ l, x ∈ m) → l.length ≤ m.length
  | [], _, _, _ => Nat.zero_le _
  | x :: l, m, nd, h => by
    obtain ⟨s, t, e⟩ := List.append_of_mem (h x List.mem_cons_self)
    obtain ⟨n1, n2⟩ := List.nodup_cons.mp nd
    have ih := nodup_le (m := s ++ t) n2 fun y hy => by
      have z := h y (List.mem_cons_of_mem _ hy)
      rw [e] at z
      rcases List.mem_append.mp z with z | z
      · exact List.mem_append_left _ z
      · rcases List.mem_cons.mp z with z | z
        · exact absurd (z ▸ hy) n1
        · exact List.mem_append_right _ z
    rw [e, List.length_append, List.length_cons, List.length_cons]
    rw [List.length_append] at ih
    omega
theorem copies_perm {l m : List Own} (p : l.Perm m) : copies l = copies m := (p.map fun o : Own => 2 ^ o.2.length).sum_nat
theorem and_split {c : Prop} [Decidable c] {u : TT} {σ : L2.St} {H : Hp} {Q : Bool → Hp → Prop} (R : Hp → Prop) (k : ∀ H', R H' → Q false H') (h1 : c → (∀ H', R H' → Q false H') → u σ H Q) (h2 : ¬ c → (∀ H', R H' → Q false H') → Q false H) : if c then u σ H Q else Q false H := by
  by_cases h : c
  · rw [if_pos h]; exact h1 h k
  · rw [if_neg h]; exact h2 h k
end S1

set_option Elab.async false
set_option linter.all false
set_option maxRecDepth 100000
set_option maxHeartbeats 4000000
/-! a heap off another one by draws and new things; parts drawn out of lists -/
namespace S1
open PySem PySem.W PySem.Spec PyProof.Rows L2
/-- G comes of H by draws at p and by new things -/
structure Dr (H : Hp) (p : Addr) (c : Nat) (G : Hp) : Prop where
  s : Src G p c
  m : Same (del H p) (del G p)
section
variable {H G : Hp} {p : Addr} {c c' : Nat}
theorem Dr.start (h : Src H p c) : Dr H p c H := ⟨h, Same.refl _⟩
theorem Dr.up (d : Dr H p c G) (le : c ≤ c') : Dr H p c' G := ⟨d.s.mono rfl le, d.m⟩
theorem Dr.src {o : HO} (d : Dr H p c G) (h : Src (upd G p o) p c') : Dr H p c' (upd G p o) := ⟨h, sd_at d.m⟩
theorem Dr.ne {l : Addr} (d : Dr H p c G) (h : G l = none) : l ≠ p := (d.s.ne h).symm
theorem Dr.free {l : Addr} (d : Dr H p c G) (h : G l = none) : H l = none := sd_free d.m h (d.ne h)
theorem Dr.new {l : Addr} {o : HO} (d : Dr H p c G) (h : G l = none) : Dr H p c (upd G l o) :=
  ⟨d.s.mono (upd_ne (d.ne h).symm) (Nat.le_refl _), sd_new d.m h (d.ne h)⟩
theorem Dr.put {l : Addr} {o : HO} (d : Dr H p c G) (h : H l = none) (n : l ≠ p) : Dr H p c (upd G l o) :=
  ⟨d.s.mono (upd_ne n.symm) (Nat.le_refl _), sd_put d.m h⟩
theorem Dr.keep {x : Addr} {o : HO} (d : Dr H p c G) (e : H x = some o) (n : x ≠ p) : G x = some o := by
  have z := d.m x o (by rw [del_ne n]; exact e)
  rwa [del_ne n] at z
theorem Dr.dat {c0 : Nat} (d : Dr H p c G) (h : Src H p c0) {v : V} {u : PyData} (k : keyable u = true) (D : Dat H v u) : Dat G v u := dat_src h d.m k D
theorem Dr.trans {G2 : Hp} (d : Dr H p c G) (d2 : Dr G p c' G2) : Dr H p c' G2 := ⟨d2.s, d.m.trans d2.m⟩
theorem Dr.same {G2 : Hp} (d : Dr H p c G) (S : Same G G2) : Dr H p c G2 := by
  obtain ⟨xs, hx⟩ := d.s.lst
  exact ⟨d.s.mono (by rw [hx, S _ _ hx]) (Nat.le_refl _), d.m.trans (sd_of S)⟩
end
theorem Src.nes {H : Hp} {p l : Addr} {c : Nat} {xs : List Str} (h : Src H p c) (e : H l = some (.lst (xs.map V.str))) : l ≠ p := fun z => by
  obtain ⟨a, b, d, hp, _⟩ := h.at_
  rw [z, hp] at e
  injection e with e
  injection e with e
  cases xs with
  | nil => cases e
  | cons x xs =>
    rw [List.map_cons] at e
    injection e with e
    cases e
def spLPick : Sp := fun vs H Q _ => ∃ (p l : Addr) (c : Nat) (is : List Int), vs = [.ref p, .ref l] ∧ Src H p c ∧ c ≤ 90000 ∧ H l = some (.lst (is.map V.int)) ∧ l ≠ p ∧ 0 < is.length ∧ is.length ≤ 100 ∧
  ∀ (i : Int) (o : HO), i ∈ is → Src (upd H p o) p (c + 1) → Q (.int i) (upd H p o)
def spLot : Sp := fun vs H Q _ => ∃ (p l : Addr) (c : Nat) (xs : List Str), vs = [.ref p, .ref l] ∧ Src H p c ∧ c ≤ 90000 ∧ H l = some (.lst (xs.map V.str)) ∧ xs.length ≤ 100 ∧
  ∀ (b : Addr) (ys : List Str) (H' : Hp), ys.Sublist xs → H b = none → H' b = some (.lst (ys.map V.str)) → Dr H p (c + 1 + xs.length) H' → Q (.ref b) H'
def spLetters : Sp := fun vs H Q _ => ∃ (p l : Addr) (c : Nat) (xs : List Str), vs = [.ref p, .ref l] ∧ Src H p c ∧ c ≤ 90000 ∧ H l = some (.lst (xs.map V.str)) ∧ xs.length ≤ 100 ∧
  ∀ (b : Addr) (T : List TRow) (cl : List Ltr) (H' : Hp), H b = none → H' b = some (.lst (T.map TRow.v)) → T.map Prod.snd = cl.map ltD → cl.map Prod.fst = xs → (∀ q ∈ T, Dat H' q.v q.2) → Dr H p (c + xs.length) H' → Q (.ref b) H'
def spLSome (K : PySem.W.Frag) : Sp := fun vs H Q _ => ∃ (p l : Addr) (c : Nat) (xs : List Str) (m : Nat), vs = [.ref p, .ref l, .int m] ∧ Src H p c ∧ c ≤ 90000 ∧ (SqL K H l (xs.map V.str) ∨ SqT K H l (xs.map V.str)) ∧ xs.Nodup ∧ xs.length ≤ 100 ∧ m ≤ 1000 ∧
  ∀ (b : Addr) (ys : List Str) (H' : Hp), ys.Nodup → (∀ y ∈ ys, y ∈ xs) → ys.length ≤ xs.length → H b = none → H' b = some (.lst (ys.map V.str)) → Dr H p (c + 1 + xs.length) H' → Q (.ref b) H'
section
variable {P : Program} {w : World} {K : PySem.W.Frag} {mg : Str → Option Value} {base : Heap}
theorem scLPick : FnScope ["tank", "things"] ["tank", "things"] (defScope sLPick) := ⟨rfl, rfl, rfl, by decide +kernel, rfl, by decide +kernel, by decide +kernel⟩
theorem scLot : FnScope ["tank", "things", "way", "thing"] ["tank", "things"] (defScope sLot) := ⟨rfl, rfl, rfl, by decide +kernel, rfl, by decide +kernel, by decide +kernel⟩
theorem scLetters : FnScope ["tank", "names", "name"] ["tank", "names"] (defScope sLetters) := ⟨rfl, rfl, rfl, by decide +kernel, rfl, by decide +kernel, by decide +kernel⟩
theorem scLSome : FnScope ["tank", "names", "most", "left", "found", "turn"] ["tank", "names", "most"] (defScope sLSome) := ⟨rfl, rfl, rfl, by decide +kernel, rfl, by decide +kernel, by decide +kernel⟩
theorem ok_lPick {f fP : Addr} {fd fdP : FuncData} (F : Fun K "_law_pick" "_law_pick" sLPick f fd) (Pk : Has K mg "_law_drop" sDrop ["tank", "many"] fP fdP) (B : Blt mg) : FnOk P w K mg base CX0 2 f fd ["tank", "things"] spLPick := by
  have GP : FnOk P w K mg base CX0 1 fP fdP ["tank", "many"] spPick := ok_pick Pk.F B
  refine F.ok scLPick (fun vs H Q E h => ?_) (fun cdv A outer s H vs Q E hr h => ?_)
  · obtain ⟨p, l, c, xs, rfl, _⟩ := h
    rfl
  · obtain ⟨p, l, c, xs, rfl, hs, hc, hl, npl, h0, h1, q⟩ := h
    refine ⟨_, pss_one (ps_ret (pe_ix ix_list (pv 1) (pe_call GP hr rfl Pk.g Pk.F.kp Pk.b .nil pass0 (pa_cons (pv 0) (pa_cons (pe_callB call_len_seq (by rfl) B.len (by decide +kernel) (pa_cons (pv 1) pa_nil)) pa_nil))) (fun _ _ => rfl))), ?_⟩
    refine ⟨_, rfl, _, rfl, _, rfl, _, _, rfl, .inl (SqL.of hl), p, _, _, rfl, hs, by omega, by rw [List.length_map]; omega, by rw [List.length_map]; omega, fun r o r0 r1 hp1 => ?_⟩
    rw [List.length_map] at r1
    obtain ⟨v, hv, hm, _⟩ := at_ok (xs := xs.map V.int) r0 (by rw [List.length_map]; exact r1)
    obtain ⟨z, hz, rfl⟩ := List.mem_map.mp hm
    exact ⟨l, _, r, _, rfl, rfl, SqL.of (by rw [upd_ne npl]; exact hl), hv, q z o hz hp1⟩
theorem ok_lot {f fP : Addr} {fd fdP : FuncData} (F : Fun K "_law_lot" "_law_lot" sLot f fd) (Pk : Has K mg "_law_drop" sDrop ["tank", "many"] fP fdP) (B : Blt mg) : FnOk P w K mg base CX0 2 f fd ["tank", "things"] spLot := by
  have GP : FnOk P w K mg base CX0 1 fP fdP ["tank", "many"] spPick := ok_pick Pk.F B
  refine F.ok scLot (fun vs H Q E h => ?_) (fun cdv A outer s H vs Q E hr h => ?_)
  · obtain ⟨p, l, c, xs, rfl, _⟩ := h
    rfl
  · obtain ⟨p, l, c, xs, rfl, hs, hc, hl, h1, q⟩ := h
    refine ⟨_, pss_cons (ps_set (i := 2) scLot.nd rfl (.inl rfl) (pe_call GP hr rfl Pk.g Pk.F.kp Pk.b .nil pass0 (pa_cons (pv 0) (pa_cons pe_int pa_nil))))
      (pss_cons (ps_if (pt_cmpR op_lt (pv 2) pe_int (nomark _)) (pss_one (ps_ret (pe_ifExp (pt_cmpR op_eq (pv 2) pe_int (nomark _)) (pe_callTy call_list_of (by rfl) B.list (by decide +kernel) (pa_cons (pv 1) pa_nil)) (pe_lst pa_nil)))) pss_nil)
      (pss_one (ps_ret (pe_lc (own := [("thing", 3)]) (g := gName 3) rfl scLot.nd (pi_list (pv 1)) (blkOk_by (N := ["tank", "things", "way", "thing"]) (sc := defScope sLot) (by decide +kernel))
            (fun _ _ _ _ _ => pg_name (i := 3) scLot.nd rfl (Or.inl rfl)) (fun _ _ _ _ _ => pts_one (pt_cmpR op_eq (pe_call GP (by exact hr) (by rfl) Pk.g Pk.F.kp Pk.b .nil pass0 (pa_cons (pv 0) (pa_cons pe_int pa_nil))) pe_int (nomark _))) (fun _ _ _ _ _ => pv 3))))), ?_⟩
    have npl := hs.nes hl
    refine ⟨_, rfl, p, _, 6, rfl, hs, by omega, by decide, by decide, fun r o _ _ hp1 => ?_⟩
    have d1 : Dr H p (c + 1) (upd H p o) := (Dr.start hs).src hp1
    have el1 : upd H p o l = some (.lst (xs.map V.str)) := by rw [upd_ne npl]; exact hl
    generalize upd H p o = H1 at d1 el1 ⊢
    refine ⟨_, rfl, _, _, rfl, rfl, _, rfl, ?_⟩
    refine ite2 (fun _ => ?_) (fun _ => ?_)
    · refine ⟨_, rfl, rfl, _, rfl, ?_⟩
      refine ite2 (fun _ => ?_) (fun _ => ?_)
      · refine ⟨_, rfl, l, _, rfl, .inl (SqL.of el1), fun b hb => ?_⟩
        exact q b xs _ (List.Sublist.refl _) (d1.free hb) upd_same ((d1.new hb).up (by omega))
      · refine ⟨(by show 0 ≤ sizeLine; decide), fun b hb => ?_⟩
        exact q b [] _ (List.nil_sublist _) (d1.free hb) upd_same ((d1.new hb).up (by omega))
    · refine ⟨_, rfl, l, rfl, ⟨_, SqL.of el1⟩, fun D hD => ?_⟩
      have D0 := d1.free hD
      have Dp := d1.ne hD
      have nlD : l ≠ D := ne_of_none el1 hD
      refine lc_list (K := K) (a := l) (xs := xs.map V.str) (fun j H4 => ∃ ys : List Str, H4 D = some (.lst (ys.map V.str)) ∧ ys.Sublist (xs.take j) ∧ Dr H p (c + 1 + j) H4 ∧ H4 l = some (.lst (xs.map V.str))) ⟨[], upd_same, List.nil_sublist _, d1.new hD, by rw [upd_ne nlD]; exact el1⟩
        (fun j H4 _ ⟨_, _, _, _, e⟩ => SqL.of e) ?_ ?_
      · rintro j x H4 hx ⟨ys, eD, sub, d4, el4⟩
        rw [List.getElem?_map] at hx
        obtain ⟨y, hy, rfl⟩ := Option.map_eq_some_iff.mp hx
        have jl : j < xs.length := (List.getElem?_eq_some_iff.mp hy).1
        refine ⟨rfl, _, rfl, p, _, 2, rfl, d4.s, by omega, by decide, by decide, fun k4 o4 _ _ hp4 => ⟨rfl, _, rfl, ?_⟩⟩
        have d5 := d4.src hp4
        have eD5 : upd H4 p o4 D = some (.lst (ys.map V.str)) := by rw [upd_ne Dp]; exact eD
        have el5 : upd H4 p o4 l = some (.lst (xs.map V.str)) := by rw [upd_ne npl]; exact el4
        have tk : xs.take (j + 1) = xs.take j ++ [y] := take_next hy
        refine ite2 (fun _ => ?_) (fun _ => ?_)
        · refine ⟨_, rfl, _, eD5, ?_, ys ++ [y], by rw [upd_same, List.map_append]; rfl, by rw [tk]; exact sub.append (List.Sublist.refl _), (d5.put D0 Dp).up (by omega), by rw [upd_ne nlD]; exact el5⟩
          rw [List.length_map]
          have := sub.length_le
          rw [List.length_take] at this
          exact small1000 (by omega)
        · exact ⟨ys, eD5, by rw [tk]; exact sub.trans (List.sublist_append_left _ _), d5.up (by omega), el5⟩
      · rintro H4 ⟨ys, eD, sub, d4, el4⟩
        rw [List.length_map] at d4
        exact q D ys H4 (sub.trans (List.take_sublist _ _)) D0 eD d4
theorem ok_letters {f fP : Addr} {fd fdP : FuncData} (F : Fun K "_law_letters" "_law_letters" sLetters f fd) (Pk : Has K mg "_law_drop" sDrop ["tank", "many"] fP fdP) (B : Blt mg) : FnOk P w K mg base CX0 2 f fd ["tank", "names"] spLetters := by
  have GP : FnOk P w K mg base CX0 1 fP fdP ["tank", "many"] spPick := ok_pick Pk.F B
  refine F.ok scLetters (fun vs H Q E h => ?_) (fun cdv A outer s H vs Q E hr h => ?_)
  · obtain ⟨p, l, c, xs, rfl, _⟩ := h
    rfl
  · obtain ⟨p, l, c, xs, rfl, hs, hc, hl, h1, q⟩ := h
    refine ⟨_, pss_one (ps_ret (pe_lc (own := [("name", 2)]) (g := gName 2) (tt := tYes) rfl scLetters.nd (pi_list (pv 1)) (blkOk_by (N := ["tank", "names", "name"]) (sc := defScope sLetters) (by decide +kernel))
            (fun _ _ _ _ _ => pg_name (i := 2) scLetters.nd rfl (Or.inl rfl)) (fun _ _ _ _ _ => pts_nil)
            (fun _ _ _ _ _ => pe_tup (pa_cons (pv 2) (pa_cons (pe_cmpR op_eq (pe_call GP (by exact hr) (by rfl) Pk.g Pk.F.kp Pk.b .nil pass0 (pa_cons (pv 0) (pa_cons pe_int pa_nil))) pe_int (nomark _)) pa_nil))))), ?_⟩
    have npl := hs.nes hl
    refine ⟨_, rfl, l, rfl, ⟨_, SqL.of hl⟩, fun D hD => ?_⟩
    have d1 := Dr.start hs
    have Dp := d1.ne hD
    have nlD : l ≠ D := ne_of_none hl hD
    refine lc_list (K := K) (a := l) (xs := xs.map V.str) (fun j H4 => ∃ (T : List TRow) (cl : List Ltr), H4 D = some (.lst (T.map TRow.v)) ∧ T.map Prod.snd = cl.map ltD ∧ cl.map Prod.fst = xs.take j ∧ (∀ q ∈ T, Dat H4 q.v q.2) ∧ Dr H p (c + j) H4 ∧ H4 l = some (.lst (xs.map V.str)))
      ⟨[], [], upd_same, rfl, rfl, fun q hq => absurd hq (by simp), d1.new hD, by rw [upd_ne nlD]; exact hl⟩ (fun j H4 _ ⟨_, _, _, _, _, _, _, e⟩ => SqL.of e) ?_ ?_
    · rintro j x H4 hx ⟨T, cl, eD, eT, ecl, hT, d4, el4⟩
      rw [List.getElem?_map] at hx
      obtain ⟨y, hy, rfl⟩ := Option.map_eq_some_iff.mp hx
      have jl : j < xs.length := (List.getElem?_eq_some_iff.mp hy).1
      have kq : ∀ q ∈ T, keyable q.2 = true := fun q hq => by
        have m : q.2 ∈ cl.map ltD := eT ▸ List.mem_map_of_mem hq
        obtain ⟨x, _, hx⟩ := List.mem_map.mp m
        rw [← hx]
        rfl
      refine ⟨rfl, yes_of ⟨_, rfl, _, rfl, p, _, 2, rfl, d4.s, by omega, by decide, by decide, fun k4 o4 _ _ hp4 => ⟨rfl, (by show 2 ≤ sizeLine; decide), fun t ht => ?_⟩⟩⟩
      have d5 := d4.src hp4
      have eD5 : upd H4 p o4 D = some (.lst (T.map TRow.v)) := by rw [upd_ne Dp]; exact eD
      have el5 : upd H4 p o4 l = some (.lst (xs.map V.str)) := by rw [upd_ne npl]; exact el4
      have hT5 : ∀ q ∈ T, Dat (upd H4 p o4) q.v q.2 := fun q hq => by
        obtain ⟨zs, hz⟩ := d4.s.lst
        exact dat_upd hz (kq q hq) (hT q hq)
      generalize upd H4 p o4 = H5 at d5 eD5 el5 hT5 ht ⊢
      have nDt : D ≠ t := ne_of_none eD5 ht
      have nlt : l ≠ t := ne_of_none el5 ht
      have d6 := d5.new (o := .tup [.str y, .bl (decide (V.int k4 = V.int 0))]) ht
      have eD6 : upd H5 t (.tup [.str y, .bl (decide (V.int k4 = V.int 0))]) D = some (.lst (T.map TRow.v)) := by rw [upd_ne nDt]; exact eD5
      have lT : T.length = j := by
        rw [← List.length_map (f := Prod.snd), eT, List.length_map, ← List.length_map (f := Prod.fst), ecl, List.length_take]
        omega
      refine ⟨_, eD6, by rw [List.length_map, lT]; exact small1000 (by omega), T ++ [(t, ltD (y, decide (V.int k4 = V.int 0)))], cl ++ [(y, decide (V.int k4 = V.int 0))], by rw [upd_same, List.map_append]; rfl, by rw [List.map_append, List.map_append, eT]; rfl,
        by rw [List.map_append, ecl, take_next hy]; rfl, fun q hq => ?_, (d6.put (d1.free hD) Dp).up (by omega), by rw [upd_ne nlD, upd_ne nlt]; exact el5⟩
      rcases List.mem_append.mp hq with m | m
      · exact dat_upd eD6 (kq q m) (dat_new ht (hT5 q m))
      · cases List.mem_singleton.mp m
        exact dat_upd eD6 rfl (.tup (xs := [.str y, .bl (decide (V.int k4 = V.int 0))]) upd_same (.cons (.str _) (.cons (.bl _) .nil)))
    · rintro H4 ⟨T, cl, eD, eT, ecl, hT, d4, el4⟩
      rw [List.length_map] at ecl d4
      rw [List.take_length] at ecl
      exact q D T cl H4 (d1.free hD) eD eT ecl hT d4
theorem ok_lSome {f fP : Addr} {fd fdP : FuncData} (F : Fun K "_law_some" "_law_some" sLSome f fd) (Pk : Has K mg "_law_drop" sDrop ["tank", "many"] fP fdP) (B : Blt mg) : FnOk P w K mg base CX0 2 f fd ["tank", "names", "most"] (spLSome K) := by
  have GP : FnOk P w K mg base CX0 1 fP fdP ["tank", "many"] spPick := ok_pick Pk.F B
  refine F.ok scLSome (fun vs H Q E h => ?_) (fun cdv A outer s H vs Q E hr h => ?_)
  · obtain ⟨p, l, c, xs, m, rfl, _⟩ := h
    rfl
  · obtain ⟨p, l, c, xs, m, rfl, hs, hc, hl, nd, h1, hm, q⟩ := h
    refine ⟨_, pss_cons (ps_par (i := 3) (j := 4) (by rfl) scLSome.nd rfl rfl (by decide) rfl rfl (pa_cons (pe_callTy call_list_of (by rfl) B.list (by decide +kernel) (pa_cons (pv 1) pa_nil)) (pa_cons (pe_lst pa_nil) pa_nil)) (by rfl))
      (pss_cons (ps_for PassesOwn.never rfl (pi_range1 rfl B.range (pa_cons (pe_callB (call_min2 rfl) (by rfl) B.min (by decide +kernel) (pa_cons (pe_callB call_len_seq (by rfl) B.len (by decide +kernel) (pa_cons (pv 3) pa_nil))
            (pa_cons (pe_call GP hr rfl Pk.g Pk.F.kp Pk.b .nil pass0 (pa_cons (pv 0) (pa_cons (pe_op op_add (pv 2) pe_int) pa_nil))) pa_nil))) pa_nil)) (pg_name (i := 5) scLSome.nd rfl (.inl rfl))
        (pss_one (ps_expr (pe_bm PySem.F.plainAttrs_list PySem.F.slot_list_append PySem.F.type_list_append mt_append (pv 4) (pa_cons
          (pe_bm PySem.F.plainAttrs_list PySem.F.slot_list_pop PySem.F.type_list_pop mt_popAt (pv 3) (pa_cons (pe_call GP hr rfl Pk.g Pk.F.kp Pk.b .nil pass0 (pa_cons (pv 0) (pa_cons (pe_callB call_len_seq (by rfl) B.len (by decide +kernel) (pa_cons (pv 3) pa_nil)) pa_nil))) pa_nil)) pa_nil)))))
      (pss_one (ps_ret (pv 4)))), ?_⟩
    have d0 := Dr.start hs
    refine ⟨_, rfl, l, _, rfl, hl, fun aL hL => ⟨(by show 0 ≤ sizeLine; decide), fun aF hF => ⟨_, _, rfl, ?_⟩⟩⟩
    have Lp := d0.ne hL
    have d1 := d0.new (o := .lst (xs.map V.str)) hL
    have Fp := d1.ne hF
    have hF0 := d1.free hF
    have nLF : aL ≠ aF := ne_of_none upd_same hF
    have d2 := d1.new (o := .lst []) hF
    refine gen_heap (F := fun G => Dr H p c G ∧ G aL = some (.lst (xs.map V.str)) ∧ G aF = some (.lst [])) ⟨d2, by rw [upd_ne nLF, upd_same], upd_same⟩ (fun G ⟨dG, gL, gF⟩ => ?_)
    refine ⟨_, rfl, _, _, rfl, .inl (SqL.of gL), _, rfl, _, rfl, _, _, rfl, rfl, p, _, _, rfl, dG.s, by omega, by omega, by omega, fun r o r0 r1 hp1 => ?_⟩
    have d3 := dG.src hp1
    have eL3 : upd G p o aL = some (.lst (xs.map V.str)) := by rw [upd_ne Lp]; exact gL
    have eF3 : upd G p o aF = some (.lst ([] : List V)) := by rw [upd_ne Fp]; exact gF
    generalize upd G p o = H3 at d3 eL3 eF3 ⊢
    rw [List.length_map]
    obtain ⟨n, en, hn⟩ : ∃ n : Nat, (if (r : Int) < (xs.length : Int) then r else (xs.length : Int)) = (n : Int) ∧ n ≤ xs.length := by
      split
      · exact ⟨r.toNat, by omega, by omega⟩
      · exact ⟨xs.length, rfl, Nat.le_refl _⟩
    refine ⟨_, _, rfl, ?_⟩
    show ∃ n : Int, _
    rw [en]
    refine ⟨_, rfl, by omega, by omega, ?_⟩
    refine for_range (lo := 0) (n := n) (fun i σ H' => ∃ (L W : List Str) (o5 : Option V), σ = [some (.ref p), some (.ref l), some (.int m), some (.ref aL), some (.ref aF), o5] ∧
        H' aL = some (.lst (L.map V.str)) ∧ H' aF = some (.lst (W.map V.str)) ∧ W.length = i ∧ i ≤ n ∧ (W ++ L).Perm xs ∧ Dr H p (c + 1 + i) H') ?_ ?_ ?_
    · exact ⟨xs, [], _, rfl, eL3, eF3, rfl, Nat.zero_le _, List.Perm.refl _, d3⟩
    · rintro i σ H' hi ⟨L, W, o5, rfl, eL, eF, hW, hin, pm, d4⟩
      have len : W.length + L.length = xs.length := by rw [← List.length_append, pm.length_eq]
      refine ⟨_, rfl, .inl ⟨rfl, _, SqL.of eF⟩, _, rfl, .inl ⟨rfl, _, SqL.of eL⟩, _, rfl, _, rfl, _, _, rfl, .inl (SqL.of eL), p, _, _, rfl, d4.s, by omega, by rw [List.length_map]; omega, by rw [List.length_map]; omega, fun k o k0 k1 hp1 => ?_⟩
      rw [List.length_map] at k1
      have kl : k.toNat < L.length := by omega
      have pp := pop_perm L k.toNat kl
      have d5 := d4.src hp1
      have eL5 : upd H' p o aL = some (.lst (L.map V.str)) := by rw [upd_ne Lp]; exact eL
      have eF5 : upd H' p o aF = some (.lst (W.map V.str)) := by rw [upd_ne Fp]; exact eF
      refine ⟨aL, _, k, k.toNat, .str L[k.toNat], rfl, rfl, eL5, by omega, by omega, by rw [List.length_map]; exact seq_nat k0 k1, by rw [List.getElem?_map, List.getElem?_eq_getElem kl]; rfl, ?_⟩
      rw [map_erase]
      refine ⟨aF, _, _, rfl, rfl, by rw [upd_ne nLF.symm]; exact eF5, by rw [List.length_map]; exact small1000 (by omega), ?_⟩
      refine ⟨L.eraseIdx k.toNat, W ++ [L[k.toNat]], _, rfl, by rw [upd_ne nLF, upd_same], by rw [upd_same, List.map_append]; rfl, by rw [List.length_append, hW]; rfl, by omega, ?_, ((d5.put (d0.free hL) Lp).put hF0 Fp).up (by omega)⟩
      rw [List.append_assoc]
      exact ((List.Perm.refl W).append pp.symm).trans pm
    · rintro σ H' ⟨L, W, o5, rfl, eL, eF, hW, hin, pm, d4⟩
      have ndW : (W ++ L).Nodup := pm.nodup_iff.mpr nd
      refine ⟨_, rfl, q aF W H' (List.nodup_append.mp ndW).1 (fun y hy => pm.mem_iff.mp (List.mem_append_left _ hy)) (by omega) hF0 eF (d4.up (by omega))⟩
end
end S1

set_option Elab.async false
set_option linter.all false
set_option maxRecDepth 100000
set_option maxHeartbeats 4000000
/-! unlike names, drawn -/
namespace S1
open PySem PySem.W PySem.Spec PyProof.Rows L2
theorem app_tl (x y : Str) : (x ++ y).cps.toList = x.cps.toList ++ y.cps.toList := by
  show (x.cps ++ y.cps).toList = _
  rw [Array.toList_append]
theorem str_ext {x y : Str} (h : x.cps.toList = y.cps.toList) : x = y := by
  cases x; cases y
  congr 1
  exact Array.toList_inj.mp h
def abcN : List Nat := ("abcdefghijklmnopqrstuvwxyz" : Str).cps.toList
theorem abcN_az : ∀ c ∈ abcN, 97 ≤ c ∧ c ≤ 122 := by decide +kernel
theorem abcN_nd : abcN.Nodup := by decide +kernel
theorem abcN_len : abcN.length = 26 := by decide +kernel
theorem abc_signs : signV "abcdefghijklmnopqrstuvwxyz" = (abcN.map sg).map V.str := by
  rw [List.map_map]
  rfl
theorem nm_two {x y : Str} (h1 : 1 ≤ x.cps.size + y.cps.size) (h2 : x.cps.size + y.cps.size ≤ 8) (hx : ∀ c ∈ x.cps.toList, 97 ≤ c ∧ c ≤ 122) (hy : ∀ c ∈ y.cps.toList, 97 ≤ c ∧ c ≤ 122) : Nm (x ++ y) := by
  have e : (x ++ y).length = x.cps.size + y.cps.size := by
    show (x.cps ++ y.cps).size = _
    rw [Array.size_append]
  refine ⟨by rw [e]; exact h1, by rw [e]; exact h2, fun c hc => ?_⟩
  rw [app_tl] at hc
  rcases List.mem_append.mp hc with z | z
  · exact hx c z
  · exact hy c z
/-- a word that is put to each letter -/
structure Wd (x : Str) : Prop where
  le : x.cps.size ≤ 7
  az : ∀ c ∈ x.cps.toList, 97 ≤ c ∧ c ≤ 122
def behind (x : Str) : List Str := abcN.map fun c => x ++ sg c
def ahead (x : Str) : List Str := abcN.map fun c => sg c ++ x
/-- names to draw from -/
structure Pot (L : List Str) : Prop where
  nd : L.Nodup
  nm : ∀ x ∈ L, Nm x
  lo : 16 ≤ L.length
  hi : L.length ≤ 26
theorem sg_az {c : Nat} (h : c ∈ abcN) : ∀ d ∈ (sg c).cps.toList, 97 ≤ d ∧ d ≤ 122 := fun d hd => by
  have e : d = c := by simpa using hd
  rw [e]
  exact abcN_az c h
theorem pot_behind {x : Str} (W : Wd x) : Pot (behind x) := by
  have nd : (behind x).Nodup := by
    refine List.pairwise_map.mpr (abcN_nd.imp ?_)
    intro c d ne z
    refine ne ?_
    have e := congrArg (fun s : Str => s.cps.toList) z
    simp only [app_tl] at e
    have e2 := List.append_cancel_left e
    simpa using e2
  refine ⟨nd, fun y hy => ?_, by rw [behind, List.length_map, abcN_len]; decide, by rw [behind, List.length_map, abcN_len]; decide⟩
  · obtain ⟨c, hc, rfl⟩ := List.mem_map.mp hy
    exact nm_two (by simp) (by have := W.le; simp; omega) W.az (sg_az hc)
theorem pot_ahead {x : Str} (W : Wd x) : Pot (ahead x) := by
  have nd : (ahead x).Nodup := by
    refine List.pairwise_map.mpr (abcN_nd.imp ?_)
    intro c d ne z
    refine ne ?_
    have e := congrArg (fun s : Str => s.cps.toList) z
    simp only [app_tl] at e
    have e2 := List.append_cancel_right e
    simpa using e2
  refine ⟨nd, fun y hy => ?_, by rw [ahead, List.length_map, abcN_len]; decide, by rw [ahead, List.length_map, abcN_len]; decide⟩
  · obtain ⟨c, hc, rfl⟩ := List.mem_map.mp hy
    exact nm_two (by simp) (by have := W.le; simp; omega) (sg_az hc) W.az
def pot0 : List Str := ["a", "b", "ab", "ba", "x", "xy", "xyz", "q", "qq", "abcdefgh", "abcdefgi", "m", "z", "k", "aa", "yes"]
theorem pot_pot0 : Pot pot0 := by
  refine ⟨by decide +kernel, fun x hx => ?_, by decide +kernel, by decide +kernel⟩
  have z : (pot0.all nmB) = true := by decide +kernel
  exact nm_of (List.all_eq_true.mp z x hx)
theorem branchH {c : Prop} [Decidable c] {t u : TS} {D : Ends} {σ : L2.St} {H : Hp} (F : Hp → Prop) (hF : F H) (I : L2.St → Hp → Prop) (R : ∀ σ' H', I σ' H' → D.nx σ' H') (h1 : c → ∀ G, F G → (∀ σ' H', I σ' H' → D.nx σ' H') → t D σ G)
    (h2 : ¬ c → ∀ G, F G → (∀ σ' H', I σ' H' → D.nx σ' H') → u D σ G) : if c then t D σ H else u D σ H := by
  by_cases h : c
  · rw [if_pos h]; exact h1 h _ hF R
  · rw [if_neg h]; exact h2 h _ hF R
def spNames : Sp := fun vs H Q _ => ∃ (p : Addr) (c n : Nat), vs = [.ref p, .int n] ∧ Src H p c ∧ c ≤ 80000 ∧ n ≤ 14 ∧
  ∀ (b : Addr) (ws : List Str) (H' : Hp), ws.length = n → ws.Nodup → (∀ x ∈ ws, Nm x) → H b = none → H' b = some (.lst (ws.map V.str)) → Dr H p (c + 30) H' → Q (.ref b) H'
abbrev tLen (K : PySem.W.Frag) (i : Nat) : TE := tCB (fun xs H Q => ∃ p ys, xs = [V.ref p] ∧ (SqL K H p ys ∨ SqT K H p ys) ∧ Q (V.int ys.length) H) (tCons (tVar i) tNil)
abbrev nNames : List Str := ["tank", "many", "left", "letters", "word", "turn", "letter"]
section
variable {P : Program} {w : World} {K : PySem.W.Frag} {mg : Str → Option Value} {base : Heap}
theorem scNames : FnScope nNames ["tank", "many"] (defScope sNames) := ⟨rfl, rfl, rfl, by decide +kernel, rfl, by decide +kernel, by decide +kernel⟩
theorem ok_names {f fP : Addr} {fd fdP : FuncData} (F : Fun K "_law_names" "_law_names" sNames f fd) (Pk : Has K mg "_law_drop" sDrop ["tank", "many"] fP fdP) (B : Blt mg) : FnOk P w K mg base CX0 2 f fd ["tank", "many"] spNames := by
  have GP : FnOk P w K mg base CX0 1 fP fdP ["tank", "many"] spPick := ok_pick Pk.F B
  refine F.ok scNames (fun vs H Q E h => ?_) (fun cdv A outer s H vs Q E hr h => ?_)
  · obtain ⟨p, c, n, rfl, _⟩ := h
    rfl
  · obtain ⟨p, c, n, rfl, hs, hc, hn, q⟩ := h
    refine ⟨_, pss_cons (ps_set (i := 2) scNames.nd rfl (.inr rfl) (pe_lst (pa_cons pe_str (pa_cons pe_str (pa_cons pe_str (pa_cons pe_str (pa_cons pe_str (pa_cons pe_str (pa_cons pe_str (pa_cons pe_str (pa_cons pe_str (pa_cons pe_str
          (pa_cons pe_str (pa_cons pe_str (pa_cons pe_str (pa_cons pe_str (pa_cons pe_str (pa_cons pe_str pa_nil))))))))))))))))))
      (pss_cons (ps_if (pt_cmpR op_eq (pe_call GP hr rfl Pk.g Pk.F.kp Pk.b .nil pass0 (pa_cons (pv 0) (pa_cons pe_int pa_nil))) pe_int (nomark _))
        (pss_cons (ps_set (i := 3) scNames.nd rfl (.inr rfl) (pe_callTy (call_listStr rfl) (by rfl) B.list (by decide +kernel) (pa_cons pe_str pa_nil)))
        (pss_cons (ps_set (i := 4) scNames.nd rfl (.inr rfl) (pe_join pe_str (pe_lc (own := [("turn", 5)]) (g := gName 5) (tt := tYes) (te := tOp (rIxL K) (tVar 3) (tCall spPick [] E0 (tCons (tVar 0) (tCons (tC (V.int 26)) tNil)))) rfl scNames.nd
            (pi_range1 rfl B.range (pa_cons (pe_call GP hr rfl Pk.g Pk.F.kp Pk.b .nil pass0 (pa_cons (pv 0) (pa_cons pe_int pa_nil))) pa_nil))
            (blkOk_by (N := nNames) (sc := defScope sNames) (by decide +kernel)) (fun _ _ _ _ _ => pg_name (i := 5) scNames.nd rfl (.inl rfl)) (fun _ _ _ _ _ => pts_nil)
            (fun _ _ _ _ _ => by exact pe_ix ix_list (pv 3) (pe_call GP (by exact hr) (by rfl) Pk.g Pk.F.kp Pk.b .nil pass0 (pa_cons (pv 0) (pa_cons pe_int pa_nil))) (fun _ _ => rfl)))))
        (pss_cons (ps_set (i := 2) scNames.nd rfl (.inr rfl) (pe_lc (own := [("letter", 6)]) (g := gName 6) (tt := tYes) rfl scNames.nd (pi_list (pv 3)) (blkOk_by (N := nNames) (sc := defScope sNames) (by decide +kernel))
            (fun _ _ _ _ _ => pg_name (i := 6) scNames.nd rfl (.inl rfl)) (fun _ _ _ _ _ => pts_nil) (fun _ _ _ _ _ => pe_op op_add_str (pv 4) (pv 6))))
        (pss_one (ps_if (pt_cmpR op_eq (pe_call GP hr rfl Pk.g Pk.F.kp Pk.b .nil pass0 (pa_cons (pv 0) (pa_cons pe_int pa_nil))) pe_int (nomark _))
          (pss_one (ps_set (i := 2) scNames.nd rfl (.inr rfl) (pe_lc (own := [("letter", 6)]) (g := gName 6) (tt := tYes) rfl scNames.nd (pi_list (pv 3)) (blkOk_by (N := nNames) (sc := defScope sNames) (by decide +kernel))
            (fun _ _ _ _ _ => pg_name (i := 6) scNames.nd rfl (.inl rfl)) (fun _ _ _ _ _ => pts_nil) (fun _ _ _ _ _ => pe_op op_add_str (pv 6) (pv 4))))) pss_nil))))) pss_nil)
      (pss_one (ps_ret (pe_lc (own := [("turn", 5)]) (g := gName 5) (tt := tYes) (te := tBM K "list" rPopAt (tVar 2) (tCons (tCall spPick [] E0 (tCons (tVar 0) (tCons (tLen K 2) tNil))) tNil)) rfl scNames.nd
            (pi_range1 rfl B.range (pa_cons (pv 1) pa_nil)) (blkOk_by (N := nNames) (sc := defScope sNames) (by decide +kernel)) (fun _ _ _ _ _ => pg_name (i := 5) scNames.nd rfl (.inl rfl)) (fun _ _ _ _ _ => pts_nil)
            (fun _ _ _ _ _ => by exact pe_bm PySem.F.plainAttrs_list PySem.F.slot_list_pop PySem.F.type_list_pop mt_popAt (pv 2) (pa_cons (pe_call GP (by exact hr) (by rfl) Pk.g Pk.F.kp Pk.b .nil pass0 (pa_cons (pv 0) (pa_cons (pe_callB call_len_seq (by rfl) B.len (by decide +kernel) (pa_cons (pv 2) pa_nil)) pa_nil))) pa_nil)))))), ?_⟩
    have d0 := Dr.start hs
    refine ⟨(by show 16 ≤ sizeLine; decide), fun l0 hl0 => ?_⟩
    have d1 := d0.new (o := .lst (pot0.map V.str)) hl0
    have l0p := d0.ne hl0
    have e1 : upd H l0 (.lst (pot0.map V.str)) l0 = some (.lst (pot0.map V.str)) := upd_same
    refine ⟨_, rfl, p, _, 3, rfl, d1.s, by omega, by decide, by decide, fun r o _ _ hp1 => ⟨rfl, _, rfl, ?_⟩⟩
    have d2 := d1.src hp1
    have e2 : upd (upd H l0 (.lst (pot0.map V.str))) p o l0 = some (.lst (pot0.map V.str)) := by rw [upd_ne l0p]; exact e1
    refine branchH (fun G => Dr H p (c + 1) G ∧ G l0 = some (.lst (pot0.map V.str))) ⟨d2, e2⟩ (fun σ' H3 => ∃ (aL : Addr) (L : List Str) (o3 o4 o5 o6 : Option V), σ' = [some (.ref p), some (.int n), some (.ref aL), o3, o4, o5, o6] ∧ H aL = none ∧ H3 aL = some (.lst (L.map V.str)) ∧ Pot L ∧ Dr H p (c + 12) H3) ?_ (fun _ H2 ⟨d2, e2⟩ R => ?_) (fun _ H2 ⟨d2, e2⟩ R => ?_)
    · rintro σ' H3 ⟨aL, L, o3, o4, o5, o6, rfl, hL, eL, PL, d3⟩
      have aLp : aL ≠ p := fun z => by
        obtain ⟨xs, hx⟩ := hs.lst
        rw [z, hx] at hL
        cases hL
      refine ⟨_, rfl, _, rfl, by omega, by omega, fun D hD => ?_⟩
      have Dp := d3.ne hD
      have hD0 := d3.free hD
      have nLD : aL ≠ D := ne_of_none eL hD
      refine lc_range (lo := 0) (n := ((n : Nat) : Int).toNat) (fun i H4 => ∃ (L1 W : List Str), H4 D = some (.lst (W.map V.str)) ∧ H4 aL = some (.lst (L1.map V.str)) ∧ W.length = i ∧ (W ++ L1).Perm L ∧ Dr H p (c + 12 + i) H4) ?_ ?_ ?_
      · exact ⟨L, [], upd_same, by rw [upd_ne nLD]; exact eL, rfl, List.Perm.refl _, d3.new hD⟩
      · rintro i H4 hi ⟨L1, W, eD, eL4, hW, pm, d4⟩
        have len : W.length + L1.length = L.length := by rw [← List.length_append, pm.length_eq]
        have := PL.lo
        have := PL.hi
        refine ⟨rfl, yes_of ?_⟩
        refine ⟨_, rfl, .inl ⟨rfl, _, SqL.of eL4⟩, _, rfl, _, rfl, _, _, rfl, .inl (SqL.of eL4), p, _, _, rfl, d4.s, by omega, by rw [List.length_map]; omega, by rw [List.length_map]; omega, fun k o k0 k1 hp5 => ?_⟩
        rw [List.length_map] at k1
        have kl : k.toNat < L1.length := by omega
        have pp := pop_perm L1 k.toNat kl
        have d5 := d4.src hp5
        have eL5 : upd H4 p o aL = some (.lst (L1.map V.str)) := by rw [upd_ne aLp]; exact eL4
        have eD5 : upd H4 p o D = some (.lst (W.map V.str)) := by rw [upd_ne Dp]; exact eD
        refine ⟨aL, _, k, k.toNat, .str L1[k.toNat], rfl, rfl, eL5, by omega, by omega, by rw [List.length_map]; exact seq_nat k0 k1, by rw [List.getElem?_map, List.getElem?_eq_getElem kl]; rfl, ?_⟩
        rw [map_erase]
        refine ⟨_, by rw [upd_ne nLD.symm]; exact eD5, by rw [List.length_map]; exact small1000 (by omega), L1.eraseIdx k.toNat, W ++ [L1[k.toNat]], by rw [upd_same, List.map_append]; rfl, by rw [upd_ne nLD, upd_same], by rw [List.length_append, hW]; rfl, ?_, ((d5.put hL aLp).put hD0 Dp).up (by omega)⟩
        rw [List.append_assoc]
        exact ((List.Perm.refl W).append pp.symm).trans pm
      · rintro H4 ⟨L1, W, eD, eL4, hW, pm, d4⟩
        have ndW : (W ++ L1).Nodup := pm.nodup_iff.mpr PL.nd
        exact q D W H4 (by omega) (List.nodup_append.mp ndW).1 (fun y hy => PL.nm y (pm.mem_iff.mp (List.mem_append_left _ hy))) hD0 eD (d4.up (by omega))
    · refine ⟨_, rfl, by decide +kernel, fun aA hA => ?_⟩
      rw [abc_signs]
      have Ap := d2.ne hA
      have d3 := d2.new (o := .lst ((abcN.map sg).map V.str)) hA
      have eA : upd H2 aA (.lst ((abcN.map sg).map V.str)) aA = some (.lst ((abcN.map sg).map V.str)) := upd_same
      refine ⟨⟨_, rfl⟩, _, rfl, p, _, 8, rfl, d3.s, by omega, by decide, by decide, fun r2 o2 r20 r21 hp3 => ⟨_, rfl, by omega, by omega, fun D hD => ?_⟩⟩
      have d4 := d3.src hp3
      have eA4 : upd (upd H2 aA (.lst ((abcN.map sg).map V.str))) p o2 aA = some (.lst ((abcN.map sg).map V.str)) := by rw [upd_ne Ap]; exact eA
      generalize upd (upd H2 aA (.lst ((abcN.map sg).map V.str))) p o2 = H4 at d4 eA4 hD ⊢
      have Dp := d4.ne hD
      have hD0 := d4.free hD
      have nAD : aA ≠ D := ne_of_none eA4 hD
      refine lc_range (lo := 0) (n := r2.toNat) (fun j H5 => ∃ cs : List Nat, H5 D = some (.lst ((cs.map sg).map V.str)) ∧ cs.length = j ∧ (∀ x ∈ cs, 97 ≤ x ∧ x ≤ 122) ∧ H5 aA = some (.lst ((abcN.map sg).map V.str)) ∧ Dr H p (c + 2 + j) H5) ?_ ?_ ?_
      · exact ⟨[], upd_same, rfl, fun x hx => absurd hx (by simp), by rw [upd_ne nAD]; exact eA4, d4.new hD⟩
      · rintro j H5 hj ⟨cs, eD, hcs, az, eA5, d5⟩
        refine ⟨rfl, yes_of ?_⟩
        refine ⟨_, rfl, _, rfl, p, _, 26, rfl, d5.s, by omega, by decide, by decide, fun r4 o4 r40 r41 hp6 => ?_⟩
        have d6 := d5.src hp6
        have kl : r4.toNat < abcN.length := by rw [abcN_len]; omega
        have hv := atI_nat (xs := (abcN.map sg).map V.str) (j := r4.toNat) (v := V.str (sg abcN[r4.toNat])) (by rw [List.getElem?_map, List.getElem?_map, List.getElem?_eq_getElem kl]; rfl)
        rw [Int.toNat_of_nonneg r40] at hv
        refine ⟨aA, _, r4, _, rfl, rfl, SqL.of (by rw [upd_ne Ap]; exact eA5), hv, _, by rw [upd_ne Dp]; exact eD, by rw [List.length_map, List.length_map]; exact small1000 (by omega), cs ++ [abcN[r4.toNat]], ?_, by rw [List.length_append, hcs]; rfl, fun x hx => ?_, by rw [upd_ne nAD, upd_ne Ap]; exact eA5, (d6.put hD0 Dp).up (by omega)⟩
        · rw [upd_same, List.map_append, List.map_append]; rfl
        · rcases List.mem_append.mp hx with z | z
          · exact az x z
          · cases List.mem_singleton.mp z
            exact abcN_az _ (List.getElem_mem _)
      · rintro H5 ⟨cs, eD, hcs, az, eA5, d5⟩
        refine ⟨_, D, _, rfl, rfl, .inl (SqL.of eD), by rw [join_len]; show cs.length + _ * 0 ≤ 16777216; omega, ?_⟩
        rw [join_one]
        have W : Wd ⟨cs.toArray⟩ := ⟨by simp; omega, by simpa using az⟩
        generalize (⟨cs.toArray⟩ : Str) = x at W ⊢
        have d7 := d5.up (show c + 2 + r2.toNat ≤ c + 10 by omega)
        clear eD
        refine ⟨_, rfl, aA, rfl, ⟨_, SqL.of eA5⟩, fun D2 hD2 => ?_⟩
        have D2p := d7.ne hD2
        have hD20 := d7.free hD2
        have nA2 : aA ≠ D2 := ne_of_none eA5 hD2
        refine lc_list (K := K) (a := aA) (xs := (abcN.map sg).map V.str) (fun j H6 => H6 D2 = some (.lst ((((behind x).take j)).map V.str)) ∧ H6 aA = some (.lst ((abcN.map sg).map V.str)) ∧ Dr H p (c + 10) H6) ⟨upd_same, by rw [upd_ne nA2]; exact eA5, d7.new hD2⟩ (fun j H6 _ ⟨_, e, _⟩ => SqL.of e) ?_ ?_
        · rintro j y H6 hy ⟨eD2, eA6, d8⟩
          rw [List.getElem?_map] at hy
          obtain ⟨y1, hy1, rfl⟩ := Option.map_eq_some_iff.mp hy
          rw [List.getElem?_map] at hy1
          obtain ⟨ch, hch, rfl⟩ := Option.map_eq_some_iff.mp hy1
          have jl : j < 26 := by rw [← abcN_len]; exact (List.getElem?_eq_some_iff.mp hch).1
          refine ⟨rfl, yes_of ⟨_, rfl, _, rfl, x, sg ch, rfl, rfl, Nat.le_of_lt (small1000 (by have := W.le; show x.cps.size + 1 ≤ 1000; omega)), _, eD2, ?_, ?_, by rw [upd_ne nA2]; exact eA6, d8.put hD20 D2p⟩⟩
          · rw [List.length_map, List.length_take]; exact small1000 (by omega)
          · rw [upd_same, take_next (x := x ++ sg ch) (by rw [behind, List.getElem?_map, hch]; rfl), List.map_append]
            rfl
        · rintro H6 ⟨eD2, eA6, d8⟩
          have tk : (behind x).take ((abcN.map sg).map V.str).length = behind x := by
            rw [List.length_map, List.length_map]
            exact List.take_of_length_le (by rw [behind, List.length_map]; exact Nat.le_refl _)
          rw [tk] at eD2
          refine ⟨_, rfl, p, _, 2, rfl, d8.s, by omega, by decide, by decide, fun r7 o7 _ _ hp9 => ⟨rfl, _, rfl, ?_⟩⟩
          have d9 := d8.src hp9
          have eD9 : upd H6 p o7 D2 = some (.lst ((behind x).map V.str)) := by rw [upd_ne D2p]; exact eD2
          have eA9 : upd H6 p o7 aA = some (.lst ((abcN.map sg).map V.str)) := by rw [upd_ne Ap]; exact eA6
          generalize upd H6 p o7 = H9 at d9 eD9 eA9 ⊢
          refine ite2 (fun _ => ?_) (fun _ => ?_)
          · refine ⟨_, rfl, aA, rfl, ⟨_, SqL.of eA9⟩, fun D3 hD3 => ?_⟩
            have D3p := d9.ne hD3
            have hD30 := d9.free hD3
            have nA3 : aA ≠ D3 := ne_of_none eA9 hD3
            refine lc_list (K := K) (a := aA) (xs := (abcN.map sg).map V.str) (fun j H6 => H6 D3 = some (.lst ((((ahead x).take j)).map V.str)) ∧ H6 aA = some (.lst ((abcN.map sg).map V.str)) ∧ Dr H p (c + 11) H6) ⟨upd_same, by rw [upd_ne nA3]; exact eA9, d9.new hD3⟩ (fun j H6 _ ⟨_, e, _⟩ => SqL.of e) ?_ ?_
            · rintro j y H6 hy ⟨eD3, eA6, d8⟩
              rw [List.getElem?_map] at hy
              obtain ⟨y1, hy1, rfl⟩ := Option.map_eq_some_iff.mp hy
              rw [List.getElem?_map] at hy1
              obtain ⟨ch, hch, rfl⟩ := Option.map_eq_some_iff.mp hy1
              have jl : j < 26 := by rw [← abcN_len]; exact (List.getElem?_eq_some_iff.mp hch).1
              refine ⟨rfl, yes_of ⟨_, rfl, _, rfl, sg ch, x, rfl, rfl, Nat.le_of_lt (small1000 (by have := W.le; show 1 + x.cps.size ≤ 1000; omega)), _, eD3, ?_, ?_, by rw [upd_ne nA3]; exact eA6, d8.put hD30 D3p⟩⟩
              · rw [List.length_map, List.length_take]; exact small1000 (by omega)
              · rw [upd_same, take_next (x := sg ch ++ x) (by rw [ahead, List.getElem?_map, hch]; rfl), List.map_append]
                rfl
            · rintro H6 ⟨eD3, eA6, d8⟩
              have tk : (ahead x).take ((abcN.map sg).map V.str).length = ahead x := by
                rw [List.length_map, List.length_map]
                exact List.take_of_length_le (by rw [ahead, List.length_map]; exact Nat.le_refl _)
              rw [tk] at eD3
              exact R _ _ ⟨D3, _, _, _, _, _, rfl, hD30, eD3, pot_ahead W, d8.up (by omega)⟩
          · exact R _ _ ⟨D2, _, _, _, _, _, rfl, hD20, eD9, pot_behind W, d9.up (by omega)⟩
    · exact R _ _ ⟨l0, pot0, _, _, _, _, rfl, d0.free hl0, e2, pot_pot0, d2.up (by omega)⟩
end
end S1

set_option Elab.async false
set_option linter.all false
set_option maxRecDepth 100000
set_option maxHeartbeats 4000000
/-! picks and owns, drawn -/
namespace S1
open PySem PySem.W PySem.Spec PyProof.Rows L2
theorem for_enum {K : PySem.W.Frag} {a : Addr} {xs : List V} {g : TG} {tb : TS} {D : Ends} {σ : L2.St} {H : Hp} (Pv : Nat → L2.St → Hp → Prop) (h0 : Pv 0 σ H) (hl : ∀ i σ H, i ≤ xs.length → Pv i σ H → SqL K H a xs)
    (hs : ∀ i x σ H T, xs[i]? = some x → H T = none → Pv i σ H → g (.ref T) σ (upd H T (.tup [.int (i : Nat), x])) fun σ2 H2 => tb { D with nx := Pv (i + 1), ct := Pv (i + 1), bk := D.nx } σ2 H2) (hd : ∀ σ H, Pv xs.length σ H → D.nx σ H) :
    ∃ W : Nat → Nat → L2.St → Hp → Prop, (∃ m, W 0 m σ H) ∧ ∀ i m σ H, W i m σ H →
      ((Ite K a).stop i H ∧ D.nx σ H) ∨ ((Ite K a).go i H ∧ ∃ N : L2.St → Hp → Prop, (∀ σ' H', N σ' H' → ∃ m', m' < m ∧ W (i + 1) m' σ' H') ∧ ∀ x H', (Ite K a).yld i H x H' → g x σ H' fun σ2 H2 => tb { D with nx := N, ct := N, bk := D.nx } σ2 H2) := by
  refine ⟨fun i m σ H => m = xs.length - i ∧ i ≤ xs.length ∧ Pv i σ H, ⟨xs.length, by simp, Nat.zero_le _, h0⟩, ?_⟩
  rintro i m σ H ⟨rfl, hi, p⟩
  have q := hl i σ H hi p
  by_cases hlt : i < xs.length
  · refine .inr ⟨⟨xs, xs[i], q, by simp [hlt]⟩, Pv (i + 1), fun σ' H' p' => ⟨xs.length - (i + 1), by omega, rfl, hlt, p'⟩, fun x H' y => ?_⟩
    obtain ⟨T, z, rfl, hT, rfl, y⟩ := y
    exact hs i z σ _ T (y xs q) hT p
  · have e : i = xs.length := by omega
    subst e
    exact .inl ⟨⟨xs, q, Nat.le_refl _⟩, hd _ _ p⟩
theorem cut_drop {ws : List Str} {r : Nat} (h : r ≤ ws.length) : cutV (ws.map V.str) (some (r : Int)) none = (ws.drop r).map V.str := by
  unfold cutV
  rw [HT.sIx_nat, HT.sIx_none, List.length_map, Nat.min_eq_left h, ← List.map_drop, ← List.map_take]
  congr 1
  exact List.take_of_length_le (by rw [List.length_drop]; omega)
/-- picks and owns as of a saying -/
structure FrOk (a b m : Nat) (picks : List Str) (owns : List Own) : Prop where
  pu : picks.Pairwise tlt
  pn : ∀ x ∈ picks, Nm x
  pl : picks.length ≤ a
  ou : owns.Pairwise fun x y => tlt x.1 y.1
  on : ∀ o ∈ owns, Nm o.1 ∧ o.1 ∉ picks ∧ o.2.Pairwise tlt ∧ ∀ x ∈ o.2, x ∈ picks
  ol : owns.length ≤ b
  oc : copies owns ≤ m
/-- what a turn of _law_frame leaves as it is -/
structure Fr (H : Hp) (p b0 b1 aO : Addr) (ys zs : List Str) (T : List TRow) (c : Nat) (G : Hp) : Prop where
  d : Dr H p c G
  b : G b0 = some (.lst (ys.map V.str))
  n : G b1 = some (.lst (zs.map V.str))
  o : G aO = some (.lst (T.map TRow.v))
  t : ∀ q ∈ T, Dat G q.v q.2
  k : ∀ q ∈ T, keyable q.2 = true
  pb : b0 ≠ p
  pn : b1 ≠ p
  po : aO ≠ p
section
variable {H G : Hp} {p b0 b1 aO : Addr} {ys zs : List Str} {T : List TRow} {c c' : Nat}
theorem Fr.up (F : Fr H p b0 b1 aO ys zs T c G) (le : c ≤ c') : Fr H p b0 b1 aO ys zs T c' G := { F with d := F.d.up le }
theorem Fr.src {o : HO} (F : Fr H p b0 b1 aO ys zs T c G) (h : Src (upd G p o) p c') : Fr H p b0 b1 aO ys zs T c' (upd G p o) := by
  obtain ⟨xs, hx⟩ := F.d.s.lst
  exact ⟨F.d.src h, by rw [upd_ne F.pb]; exact F.b, by rw [upd_ne F.pn]; exact F.n, by rw [upd_ne F.po]; exact F.o, fun q hq => dat_upd hx (F.k q hq) (F.t q hq), F.k, F.pb, F.pn, F.po⟩
theorem Fr.new {D : Addr} {o : HO} (F : Fr H p b0 b1 aO ys zs T c G) (h : G D = none) : Fr H p b0 b1 aO ys zs T c (upd G D o) :=
  ⟨F.d.new h, by rw [upd_ne (ne_of_none F.b h)]; exact F.b, by rw [upd_ne (ne_of_none F.n h)]; exact F.n, by rw [upd_ne (ne_of_none F.o h)]; exact F.o, fun q hq => dat_new h (F.t q hq), F.k, F.pb, F.pn, F.po⟩
theorem Fr.put {D : Addr} {o : HO} {xs : List V} (F : Fr H p b0 b1 aO ys zs T c G) (h : H D = none) (n : D ≠ p) (nb : D ≠ b0) (nn : D ≠ b1) (no : D ≠ aO) (e : G D = some (.lst xs)) : Fr H p b0 b1 aO ys zs T c (upd G D o) :=
  ⟨F.d.put h n, by rw [upd_ne nb.symm]; exact F.b, by rw [upd_ne nn.symm]; exact F.n, by rw [upd_ne no.symm]; exact F.o, fun q hq => dat_upd e (F.k q hq) (F.t q hq), F.k, F.pb, F.pn, F.po⟩
theorem Fr.trans {G2 : Hp} (F : Fr H p b0 b1 aO ys zs T c G) (d : Dr G p c' G2) : Fr H p b0 b1 aO ys zs T c' G2 :=
  ⟨F.d.trans d, d.keep F.b F.pb, d.keep F.n F.pn, d.keep F.o F.po, fun q hq => d.dat F.d.s (F.k q hq) (F.t q hq), F.k, F.pb, F.pn, F.po⟩
end
def spFrame : Sp := fun vs H Q _ => ∃ (p : Addr) (c a b m : Nat), vs = [.ref p, .int a, .int b, .int m] ∧ Src H p c ∧ c ≤ 50000 ∧ a + b ≤ 14 ∧ b ≤ m ∧ m ≤ 1000 ∧
  ∀ (t : Addr) (v1 v2 : V) (picks : List Str) (owns : List Own) (H' : Hp), H t = none → H' t = some (.tup [v1, v2]) → Dat H' v1 (nmsD picks) → Dat H' v2 (.tuple (owns.map ownD)) → FrOk a b m picks owns → Dr H p (c + 700) H' → Q (.ref t) H'
abbrev nFrame : List Str := ["tank", "most_picks", "most_owns", "most_copies", "many", "names", "picks", "own", "room", "owns", "at", "name", "sight"]
section
variable {P : Program} {w : World} {K : PySem.W.Frag} {mg : Str → Option Value} {base : Heap}
theorem scFrame : FnScope nFrame ["tank", "most_picks", "most_owns", "most_copies"] (defScope sFrame) := ⟨rfl, rfl, rfl, by decide +kernel, rfl, by decide +kernel, by decide +kernel⟩
theorem ok_frame {f fP fN fL : Addr} {fd fdP fdN fdL : FuncData} (F : Fun K "_law_frame" "_law_frame" sFrame f fd) (Pk : Has K mg "_law_drop" sDrop ["tank", "many"] fP fdP) (Nn : Has K mg "_law_names" sNames ["tank", "many"] fN fdN)
    (Lo : Has K mg "_law_lot" sLot ["tank", "things"] fL fdL) (B : Blt mg) (en : mg "enumerate" = none) : FnOk P w K mg base CX0 3 f fd ["tank", "most_picks", "most_owns", "most_copies"] spFrame := by
  have GP : FnOk P w K mg base CX0 1 fP fdP ["tank", "many"] spPick := ok_pick Pk.F B
  have GN : FnOk P w K mg base CX0 2 fN fdN ["tank", "many"] spNames := ok_names Nn.F Pk B
  have GL : FnOk P w K mg base CX0 2 fL fdL ["tank", "things"] spLot := ok_lot Lo.F Pk B
  refine F.ok scFrame (fun vs H Q E h => ?_) (fun cdv A outer s H vs Q E hr h => ?_)
  · obtain ⟨p, c, a, b, m, rfl, _⟩ := h
    rfl
  · obtain ⟨p, c, a, b, m, rfl, hs, hc, hab, hbm, hm, q⟩ := h
    have hu : (A.deeper (envOfC "_law_frame" (defScope sFrame) s.heap.objs.size f cdv)).units + 64 < cLine := hr.units
    have hr1 := hr.mono (show 1 ≤ 2 by decide)
    refine ⟨_, pss_cons (ps_set (i := 4) scFrame.nd rfl (.inl rfl) (pe_call GP hr1 rfl Pk.g Pk.F.kp Pk.b .nil pass0 (pa_cons (pv 0) (pa_cons (pe_op op_add (pv 1) pe_int) pa_nil))))
      (pss_cons (ps_set (i := 5) scFrame.nd rfl (.inl rfl) (pe_call GN hr rfl Nn.g Nn.F.kp Nn.b .nil pass0 (pa_cons (pv 0) (pa_cons (pe_op op_add (pv 4) (pe_call GP hr1 rfl Pk.g Pk.F.kp Pk.b .nil pass0 (pa_cons (pv 0) (pa_cons (pe_op op_add (pv 2) pe_int) pa_nil)))) pa_nil))))
      (pss_cons (ps_asg (pe_tup (pa_cons (pe_callB (cr_sortW (by exact hu)) (by rfl) B.sorted (by decide +kernel) (pa_cons (pe_slice sl_list (pv 5) po_none (po_some (pv 4))) pa_nil))
          (pa_cons (pe_callB (cr_sortW (by exact hu)) (by rfl) B.sorted (by decide +kernel) (pa_cons (pe_slice sl_list (pv 5) (po_some (pv 4)) po_none) pa_nil)) (pa_cons (pv 3) (pa_cons (pe_lst pa_nil) pa_nil)))))
        (pg_tup rfl (pgs_cons (pg_name (i := 6) scFrame.nd rfl (.inl rfl)) (pgs_cons (pg_name (i := 7) scFrame.nd rfl (.inl rfl)) (pgs_cons (pg_name (i := 8) scFrame.nd rfl (.inl rfl)) (pgs_cons (pg_name (i := 9) scFrame.nd rfl (.inl rfl)) pgs_nil))))))
      (pss_cons (ps_for PassesOwn.never rfl (pi_enum (by rfl) en (pa_cons (pv 7) pa_nil)) (pg_tup rfl (pgs_cons (pg_name (i := 10) scFrame.nd rfl (.inl rfl)) (pgs_cons (pg_name (i := 11) scFrame.nd rfl (.inl rfl)) pgs_nil)))
        (pss_cons (ps_set (i := 12) scFrame.nd rfl (.inl rfl) (pe_call GL hr rfl Lo.g Lo.F.kp Lo.b .nil pass0 (pa_cons (pv 0) (pa_cons (pv 6) pa_nil))))
        (pss_cons (ps_while PassesOwn.never (pt_cmpR op_gt (pe_op op_shl pe_int (pe_callB call_len_seq (by rfl) B.len (by decide +kernel) (pa_cons (pv 12) pa_nil)))
              (pe_op op_sub (pv 8) (pe_op op_sub (pe_op op_sub (pe_callB call_len_seq (by rfl) B.len (by decide +kernel) (pa_cons (pv 7) pa_nil)) (pv 10)) pe_int)) (nomark _))
            (pss_one (ps_expr (pe_bm PySem.F.plainAttrs_list PySem.F.slot_list_pop PySem.F.type_list_pop mt_popAt (pv 12) (pa_cons (pe_call GP hr1 rfl Pk.g Pk.F.kp Pk.b .nil pass0 (pa_cons (pv 0) (pa_cons (pe_callB call_len_seq (by rfl) B.len (by decide +kernel) (pa_cons (pv 12) pa_nil)) pa_nil))) pa_nil)))))
        (pss_cons (ps_set (i := 8) scFrame.nd rfl (.inl rfl) (pe_op op_sub (pv 8) (pe_op op_shl pe_int (pe_callB call_len_seq (by rfl) B.len (by decide +kernel) (pa_cons (pv 12) pa_nil)))))
        (pss_one (ps_expr (pe_bm PySem.F.plainAttrs_list PySem.F.slot_list_append PySem.F.type_list_append mt_append (pv 9) (pa_cons (pe_tup (pa_cons (pv 11) (pa_cons (pe_tupleOf rfl B.tuple (pv 12)) pa_nil))) pa_nil))))))))
      (pss_one (ps_ret (pe_tup (pa_cons (pe_tupleOf rfl B.tuple (pv 6)) (pa_cons (pe_tupleOf rfl B.tuple (pv 9)) pa_nil)))))))), ?_⟩
    have d0 := Dr.start hs
    refine ⟨_, rfl, _, rfl, _, _, rfl, rfl, p, _, _, rfl, hs, by omega, by omega, by omega, fun r o r0 r1 hp1 => ?_⟩
    have d1 := d0.src hp1
    refine ⟨_, rfl, _, rfl, _, rfl, _, rfl, _, _, rfl, rfl, p, _, _, rfl, d1.s, by omega, by omega, by omega, fun r2 o2 r20 r21 hp2 => ?_⟩
    have d2 := d1.src hp2
    obtain ⟨k, rfl⟩ : ∃ k : Nat, r = (k : Int) := ⟨r.toNat, by omega⟩
    obtain ⟨k2, rfl⟩ : ∃ k : Nat, r2 = (k : Int) := ⟨r2.toNat, by omega⟩
    generalize upd (upd H p o) p o2 = H2 at d2 ⊢
    refine ⟨_, _, rfl, rfl, p, _, k + k2, rfl, d2.s, by omega, by omega, fun l ws H3 wl nd nm hl el d3' => ?_⟩
    have d3 := d2.trans d3'
    have npl := d2.ne hl
    refine ⟨_, rfl, _, rfl, k, rfl, l, _, rfl, SqL.of el, fun n0 hn0 => ⟨n0, ws.take k, rfl, SqL.of (by rw [cut_take]; exact upd_same), fun ys b0 pm up hb0 => ?_⟩⟩
    rw [cut_take] at hb0 ⊢
    have d4 := d3.new (o := .lst ((ws.take k).map V.str)) hn0
    have el4 : upd H3 n0 (.lst ((ws.take k).map V.str)) l = some (.lst (ws.map V.str)) := by rw [upd_ne (ne_of_none el hn0)]; exact el
    have d5 := d4.new (o := .lst (ys.map V.str)) hb0
    have el5 : upd (upd H3 n0 (.lst ((ws.take k).map V.str))) b0 (.lst (ys.map V.str)) l = some (.lst (ws.map V.str)) := by rw [upd_ne (ne_of_none el4 hb0)]; exact el4
    have b0p := d4.ne hb0
    have eb5 : upd (upd H3 n0 (.lst ((ws.take k).map V.str))) b0 (.lst (ys.map V.str)) b0 = some (.lst (ys.map V.str)) := upd_same
    generalize upd (upd H3 n0 (.lst ((ws.take k).map V.str))) b0 (.lst (ys.map V.str)) = H5 at d5 el5 eb5 ⊢
    refine ⟨_, rfl, _, rfl, k, rfl, l, _, rfl, SqL.of el5, fun n1 hn1 => ⟨n1, ws.drop k, rfl, SqL.of (by rw [cut_drop (by omega)]; exact upd_same), fun zs b1 pm1 up1 hb1 => ?_⟩⟩
    rw [cut_drop (by omega)] at hb1 ⊢
    have d6 := d5.new (o := .lst ((ws.drop k).map V.str)) hn1
    have eb6 : upd H5 n1 (.lst ((ws.drop k).map V.str)) b0 = some (.lst (ys.map V.str)) := by rw [upd_ne (ne_of_none eb5 hn1)]; exact eb5
    have d7 := d6.new (o := .lst (zs.map V.str)) hb1
    have b1p := d6.ne hb1
    have eb7 : upd (upd H5 n1 (.lst ((ws.drop k).map V.str))) b1 (.lst (zs.map V.str)) b0 = some (.lst (ys.map V.str)) := by rw [upd_ne (ne_of_none eb6 hb1)]; exact eb6
    have en7 : upd (upd H5 n1 (.lst ((ws.drop k).map V.str))) b1 (.lst (zs.map V.str)) b1 = some (.lst (zs.map V.str)) := upd_same
    generalize upd (upd H5 n1 (.lst ((ws.drop k).map V.str))) b1 (.lst (zs.map V.str)) = H7 at d7 eb7 en7 ⊢
    refine ⟨_, rfl, (by show 0 ≤ sizeLine; decide), fun aO hO => ⟨(by show 4 ≤ sizeLine; decide), fun t ht => ?_⟩⟩
    have d8 := d7.new (o := .lst []) hO
    have aOp := d7.ne hO
    have hO0 := d7.free hO
    have eb8 : upd H7 aO (.lst []) b0 = some (.lst (ys.map V.str)) := by rw [upd_ne (ne_of_none eb7 hO)]; exact eb7
    have en8 : upd H7 aO (.lst []) b1 = some (.lst (zs.map V.str)) := by rw [upd_ne (ne_of_none en7 hO)]; exact en7
    have n0O : b0 ≠ aO := ne_of_none eb7 hO
    have n1O : b1 ≠ aO := ne_of_none en7 hO
    have F8 : Fr H p b0 b1 aO ys zs [] (c + 32) (upd H7 aO (.lst [])) := ⟨d8, eb8, en8, upd_same, fun q hq => absurd hq (by simp), fun q hq => absurd hq (by simp), b0p, b1p, aOp⟩
    have F9 := F8.new (o := .tup [.ref b0, .ref b1, .int (m : Nat), .ref aO]) ht
    refine ⟨t, _, rfl, SqT.of upd_same, rfl, _, _, rfl, _, _, rfl, _, _, rfl, _, _, rfl, rfl, ?_⟩
    refine ⟨_, rfl, b1, _, rfl, SqL.of F9.n, ?_⟩
    have ysl : ys.length = k := by rw [pm.length_eq, List.length_take]; omega
    have zsl : zs.length = k2 := by rw [pm1.length_eq, List.length_drop]; omega
    refine for_enum (K := K) (a := b1) (xs := zs.map V.str) (fun i σ H' => ∃ (os : List Own) (T : List TRow) (room : Nat) (o10 o11 o12 : Option V), σ = [some (.ref p), some (.int a), some (.int b), some (.int m), some (.int k), some (.ref l), some (.ref b0), some (.ref b1), some (.int (room : Int)), some (.ref aO), o10, o11, o12] ∧
      T.map Prod.snd = os.map ownD ∧ copies os + room = m ∧ os.map Prod.fst = zs.take i ∧ (∀ o ∈ os, o.2.Sublist ys) ∧ k2 ≤ room + i ∧ Fr H p b0 b1 aO ys zs T (c + 32 + 40 * i) H') ?_ (fun i σ H' _ ⟨_, _, _, _, _, _, _, _, _, _, _, _, F⟩ => SqL.of F.n) ?_ ?_
    · exact ⟨[], [], m, _, _, _, rfl, rfl, by show 0 + m = m; omega, rfl, fun o ho => absurd ho (by simp), by omega, F9⟩
    · rintro i x σ H' T0 hx hT0 ⟨os, T, room, o10, o11, o12, rfl, eT, hroom, hfst, hsg, hrm, F0⟩
      rw [List.getElem?_map] at hx
      obtain ⟨u, hu2, rfl⟩ := Option.map_eq_some_iff.mp hx
      have il : i < zs.length := (List.getElem?_eq_some_iff.mp hu2).1
      have F1 := F0.new (o := .tup [.int (i : Nat), .str u]) hT0
      refine ⟨T0, _, rfl, SqT.of upd_same, rfl, _, _, rfl, _, _, rfl, rfl, ?_⟩
      generalize upd H' T0 (.tup [.int (i : Nat), .str u]) = H1 at F1 ⊢
      refine ⟨_, rfl, _, rfl, p, b0, _, ys, rfl, F1.d.s, by omega, F1.b, by omega, fun D sg H2 sub hD eD d2' => ?_⟩
      have F2 := F1.trans d2'
      have hD0 := F1.d.free hD
      have Dp := F1.d.ne hD
      have Db : D ≠ b0 := (ne_of_none F1.b hD).symm
      have Dn : D ≠ b1 := (ne_of_none F1.n hD).symm
      have Do : D ≠ aO := (ne_of_none F1.o hD).symm
      refine ⟨fun m' σ6 H6 => ∃ sg6 : List Str, σ6 = [some (.ref p), some (.int a), some (.int b), some (.int m), some (.int k), some (.ref l), some (.ref b0), some (.ref b1), some (.int (room : Int)), some (.ref aO), some (.int (i : Nat)), some (.str u), some (.ref D)] ∧ m' = sg6.length ∧ H6 D = some (.lst (sg6.map V.str)) ∧ sg6.Sublist ys ∧
        Fr H p b0 b1 aO ys zs T (c + 32 + 40 * i + 16 + (14 - sg6.length)) H6, ⟨_, sg, rfl, rfl, eD, sub, F2.up (by have := sub.length_le; omega)⟩, ?_⟩
      rintro m' σ6 H6 ⟨sg6, rfl, rfl, eD6, sub6, F6⟩
      have l6 : sg6.length ≤ 14 := by have := sub6.length_le; omega
      refine ⟨_, rfl, _, _, rfl, .inl (SqL.of eD6), _, _, rfl, rfl, ⟨by omega, by rw [List.length_map]; omega, by decide⟩, _, rfl, _, rfl, _, _, rfl, .inl (SqL.of F6.n), _, rfl, _, _, rfl, rfl, _, _, rfl, rfl, _, _, rfl, rfl, _, _, rfl, rfl, _, rfl, ?_⟩
      have key : ((1 : Int) * 2 ^ ((sg6.map V.str).length : Int).toNat) = ((2 ^ sg6.length : Nat) : Int) := by
        rw [List.length_map, Int.toNat_natCast, Int.one_mul]
        push_cast
        rfl
      refine ite2 (fun hgt => ?_) (fun hle => ?_)
      · have hgt2 := of_decide_eq_true hgt
        rw [key, List.length_map, zsl] at hgt2
        have lp : 0 < sg6.length := by
          rcases Nat.eq_zero_or_pos sg6.length with e | e
          · rw [e] at hgt2
            simp only [Nat.pow_zero] at hgt2
            omega
          · exact e
        refine ⟨fun σ8 H8 => ∃ sg8 : List Str, σ8 = [some (.ref p), some (.int a), some (.int b), some (.int m), some (.int k), some (.ref l), some (.ref b0), some (.ref b1), some (.int (room : Int)), some (.ref aO), some (.int (i : Nat)), some (.str u), some (.ref D)] ∧ sg8.length + 1 = sg6.length ∧ H8 D = some (.lst (sg8.map V.str)) ∧ sg8.Sublist ys ∧
          Fr H p b0 b1 aO ys zs T (c + 32 + 40 * i + 16 + (14 - sg8.length)) H8, fun σ8 H8 ⟨sg8, y1, y2, y3, y4, y5⟩ => ⟨sg8.length, by omega, sg8, y1, rfl, y3, y4, y5⟩, ?_⟩
        refine ⟨_, rfl, .inl ⟨rfl, _, SqL.of eD6⟩, _, rfl, _, rfl, _, _, rfl, .inl (SqL.of eD6), p, _, _, rfl, F6.d.s, by omega, by rw [List.length_map]; omega, by rw [List.length_map]; omega, fun k9 o9 k90 k91 hp9 => ?_⟩
        rw [List.length_map] at k91
        have kl : k9.toNat < sg6.length := by omega
        have eD9 : upd H6 p o9 D = some (.lst (sg6.map V.str)) := by rw [upd_ne Dp]; exact eD6
        have lenE : (sg6.eraseIdx k9.toNat).length + 1 = sg6.length := by
          rw [List.length_eraseIdx, if_pos kl]
          omega
        refine ⟨D, _, k9, k9.toNat, .str sg6[k9.toNat], rfl, rfl, eD9, by omega, by omega, by rw [List.length_map]; exact seq_nat k90 k91, by rw [List.getElem?_map, List.getElem?_eq_getElem kl]; rfl, ?_⟩
        rw [map_erase]
        exact ⟨sg6.eraseIdx k9.toNat, rfl, lenE, upd_same, (List.eraseIdx_sublist _ _).trans sub6, ((F6.src hp9).put hD0 Dp Db Dn Do eD9).up (by omega)⟩
      · have hle2 : ¬ _ := fun y => hle (decide_eq_true y)
        rw [key, List.length_map, zsl] at hle2
        have fit : 2 ^ sg6.length ≤ room := by omega
        have rest : k2 ≤ room - 2 ^ sg6.length + (i + 1) := by omega
        refine ⟨_, rfl, _, rfl, _, _, rfl, .inl (SqL.of eD6), _, _, rfl, rfl, ⟨by omega, by rw [List.length_map]; omega, by decide⟩, _, _, rfl, rfl, ?_⟩
        have er : (room : Int) - 1 * 2 ^ ((sg6.map V.str).length : Int).toNat = ((room - 2 ^ sg6.length : Nat) : Int) := by
          rw [key]
          omega
        refine ⟨_, rfl, .inl ⟨rfl, _, SqL.of F6.o⟩, _, rfl, _, rfl, .inl ⟨D, _, rfl, SqL.of eD6, fun t1 ht1 => ⟨(by show 2 ≤ sizeLine; decide), fun t2 ht2 => ?_⟩⟩⟩
        have F7 := F6.new (o := .tup (sg6.map V.str)) ht1
        have F8 := F7.new (o := .tup [.str u, .ref t1]) ht2
        have t12 : t1 ≠ t2 := ne_of_none upd_same ht2
        have e1 : upd (upd H6 t1 (.tup (sg6.map V.str))) t2 (.tup [.str u, .ref t1]) t1 = some (.tup (sg6.map V.str)) := by rw [upd_ne t12, upd_same]
        have e2' : upd (upd H6 t1 (.tup (sg6.map V.str))) t2 (.tup [.str u, .ref t1]) t2 = some (.tup [.str u, .ref t1]) := upd_same
        generalize upd (upd H6 t1 (.tup (sg6.map V.str))) t2 (.tup [.str u, .ref t1]) = H8 at F8 e1 e2' ⊢
        have lenT : T.length = i := by
          rw [← List.length_map (f := Prod.snd), eT, List.length_map, ← List.length_map (f := Prod.fst), hfst, List.length_take]
          omega
        refine ⟨aO, _, _, rfl, rfl, F8.o, by rw [List.length_map, lenT]; exact small1000 (by omega), ?_⟩
        refine ⟨os ++ [(u, sg6)], T ++ [(t2, ownD (u, sg6))], room - 2 ^ sg6.length, _, _, _, by rw [← er]; rfl, by rw [List.map_append, List.map_append, eT]; rfl, by rw [copies_snoc]; show copies os + 2 ^ sg6.length + _ = m; omega,
          by rw [List.map_append, hfst, take_next hu2]; rfl, fun o ho => ?_, rest, ?_⟩
        · rcases List.mem_append.mp ho with y | y
          · exact hsg o y
          · cases List.mem_singleton.mp y
            exact sub6
        · have F9 := F8.up (show _ ≤ c + 32 + 40 * (i + 1) by omega)
          refine ⟨F9.d.put hO0 aOp, by rw [upd_ne n0O]; exact F9.b, by rw [upd_ne n1O]; exact F9.n, by rw [upd_same, List.map_append]; rfl, fun q hq => ?_, fun q hq => ?_, b0p, b1p, aOp⟩
          · rcases List.mem_append.mp hq with y | y
            · exact dat_upd F8.o (F8.k q y) (F8.t q y)
            · cases List.mem_singleton.mp y
              refine dat_upd F8.o (keyable_own _) ?_
              exact .tup e2' (.cons (.str u) (.cons (.tup e1 (dats_strs sg6)) .nil))
          · rcases List.mem_append.mp hq with y | y
            · exact F8.k q y
            · cases List.mem_singleton.mp y
              exact keyable_own _
    · rintro σ H' ⟨os, T, room, o10, o11, o12, rfl, eT, hroom, hfst, hsg, hrm, F0⟩
      rw [List.length_map] at hfst F0
      rw [List.take_length] at hfst
      refine ⟨_, rfl, .inl ⟨b0, _, rfl, SqL.of F0.b, fun t1 ht1 => ?_⟩⟩
      have F1 := F0.new (o := .tup (ys.map V.str)) ht1
      refine ⟨_, rfl, .inl ⟨aO, _, rfl, SqL.of F1.o, fun t2 ht2 => ⟨(by show 2 ≤ sizeLine; decide), fun t3 ht3 => ?_⟩⟩⟩
      have F2 := F1.new (o := .tup (T.map TRow.v)) ht2
      have F3 := F2.new (o := .tup [.ref t1, .ref t2]) ht3
      have e1 : upd H' t1 (.tup (ys.map V.str)) t1 = some (.tup (ys.map V.str)) := upd_same
      have S2 := same_new (o := .tup (T.map TRow.v)) ht2
      have S3 := same_new (o := .tup [.ref t1, .ref t2]) ht3
      have e2' := S3 _ _ (show upd (upd H' t1 (.tup (ys.map V.str))) t2 (.tup (T.map TRow.v)) t2 = some (.tup (T.map TRow.v)) from upd_same)
      have e1' := S3 _ _ (S2 _ _ e1)
      refine q t3 (.ref t1) (.ref t2) ys os _ (F2.d.free ht3) upd_same (.tup e1' (dats_strs ys)) ?_ ?_ (F3.d.up (by omega))
      · rw [← eT]
        exact .tup e2' (dats_rows F3.t)
      · have ndT : (ws.take k).Nodup := nd.sublist (List.take_sublist _ _)
        have ndD : (ws.drop k).Nodup := nd.sublist (List.drop_sublist _ _)
        have dis : ∀ x ∈ ws.take k, ∀ y ∈ ws.drop k, x ≠ y := by
          have z : (ws.take k ++ ws.drop k).Nodup := by rw [List.take_append_drop]; exact nd
          exact (List.nodup_append.mp z).2.2
        have upY := up ndT
        have upZ := up1 ndD
        have mz : ∀ o ∈ os, o.1 ∈ zs := fun o ho => hfst ▸ List.mem_map_of_mem ho
        refine ⟨upY, fun x hx => nm x (List.take_subset _ _ (pm.mem_iff.mp hx)), by omega, ?_, fun o ho => ⟨nm _ (List.drop_subset _ _ (pm1.mem_iff.mp (mz o ho))), fun h' => dis _ (pm.mem_iff.mp h') _ (pm1.mem_iff.mp (mz o ho)) rfl, upY.sublist (hsg o ho), fun x hx => (hsg o ho).subset hx⟩, ?_, by omega⟩
        · rw [← hfst] at upZ
          exact List.pairwise_map.mp upZ
        · rw [← List.length_map (f := Prod.fst), hfst]
          omega
end
end S1

set_option Elab.async false
set_option linter.all false
set_option maxRecDepth 100000
set_option maxHeartbeats 4000000
/-! < and == of data; what is_truth, is_tuple, is_pair, is_rising tell of good ones -/
namespace S1
open PySem PySem.W PySem.Spec PyProof.Rows L2
section
variable {X : Cx}
def rLtD : R2 := fun x y H Q => ∃ d e, Dat H x d ∧ Dat H y e ∧ alike d e = true ∧ d ≠ .none ∧ d.depth ≤ 8 ∧ Q (.bl (dataLt d e)) H
theorem op_ltD (hu : X.A.units + 64 < cLine) : OpR X (compareOp .Lt) rLtD := by
  intro pins s σ H x y v u Q I rx ry h
  obtain ⟨d, e, D1, D2, al, ne, dp, q⟩ := h
  obtain ⟨as, R1⟩ := reads_of_dat I.hok D1 rx
  obtain ⟨bs, R2⟩ := reads_of_dat I.hok D2 ry
  exact rcLt_alike d e X.A s v u as bs R1 R2 al ne (by have := Nat.min_le_left d.depth e.depth; omega) X.prog X.w X.xe _ ⟨.bl (dataLt d e), H, I, rfl, q⟩
def rEqD : R2 := fun x y H Q => ∃ d e, Dat H x d ∧ Dat H y e ∧ alike d e = true ∧ d.depth ≤ 8 ∧ Q (.bl (PyData.eqv d e)) H
end
/-! ### the small questions -/
def spIsTruth : Sp := fun vs H Q _ => ∃ b : Bool, vs = [.bl b] ∧ Q (.bl true) H
def spIsTuple : Sp := fun vs H Q _ => ∃ (a : Addr) (xs : List V) (n : Int), vs = [.ref a, .int n] ∧ Rd H a (.tup xs) ∧ (xs.length : Int) ≤ n ∧ Q (.bl true) H
def spIsPair : Sp := fun vs H Q _ => ∃ (a : Addr) (x y : V), vs = [.ref a] ∧ H a = some (.tup [x, y]) ∧ Q (.bl true) H
/-- each one below the next -/
def Rise : List PyData → Prop
  | [] => True
  | [_] => True
  | x :: y :: r => (alike x y = true ∧ x ≠ .none ∧ x.depth ≤ 8 ∧ dataLt x y = true) ∧ Rise (y :: r)
theorem Rise.at_ : ∀ {ds : List PyData}, Rise ds → ∀ (k : Nat) (x y : PyData), ds[k]? = some x → ds[k + 1]? = some y → alike x y = true ∧ x ≠ .none ∧ x.depth ≤ 8 ∧ dataLt x y = true
  | [], _, _, _, _, h, _ => by simp at h
  | [_], _, k, _, _, _, h => by simp at h
  | a :: b :: r, R, 0, x, y, h1, h2 => by
    cases (show some a = some x from h1)
    cases (show some b = some y from h2)
    exact R.1
  | a :: b :: r, R, k + 1, x, y, h1, h2 => Rise.at_ R.2 k x y h1 h2
theorem rise_of {α : Type} {f : α → PyData} (al : ∀ x y, alike (f x) (f y) = true) (nn : ∀ x, f x ≠ .none) (dp : ∀ x, (f x).depth ≤ 8) : ∀ {l : List α}, (l.Pairwise fun x y => dataLt (f x) (f y) = true) → Rise (l.map f)
  | [], _ => True.intro
  | [_], _ => True.intro
  | x :: y :: l, h => by
    obtain ⟨h1, h2⟩ := List.pairwise_cons.mp h
    exact ⟨⟨al x y, nn x, dp x, h1 y List.mem_cons_self⟩, rise_of al nn dp h2⟩
theorem rise_strs {l : List Str} (h : l.Pairwise tlt) : Rise (l.map PyData.str) := rise_of (f := PyData.str) (fun _ _ => by simp [alike]) (fun _ z => nomatch z) (fun _ => Nat.zero_le _) (h.imp fun {x y} z => by
  rw [dataLt_str]
  exact decide_eq_true z)
theorem same_tup {K : PySem.W.Frag} {H H' : Hp} {a : Addr} {xs : List V} (S : Same H H') (h : SqT K H a xs) : SqT K H' a xs := by
  rcases h with h | h
  · refine .inl ?_
    rcases h with h | ⟨o, h⟩
    · exact .inl (S _ _ h)
    · exact .inr ⟨o, S _ _ h⟩
  · exact .inr h
theorem same_sq {K : PySem.W.Frag} {H H' : Hp} {a : Addr} {xs : List V} (S : Same H H') (h : SqL K H a xs ∨ SqT K H a xs) : SqL K H' a xs ∨ SqT K H' a xs := h.elim (fun h => .inl (S.seq h)) fun h => .inr (same_tup S h)
theorem ix_any {K : PySem.W.Frag} {H : Hp} {a : Addr} {xs : List V} {i : Int} {v : V} {Q : VK} (h : SqL K H a xs ∨ SqT K H a xs) (e : atI xs i = some v) (q : Q v H) : rIx K (.ref a) (.int i) H Q :=
  h.elim (fun h => .inl ⟨a, xs, i, v, rfl, rfl, h, e, q⟩) fun h => .inr (.inl ⟨a, xs, i, v, rfl, rfl, h, e, q⟩)
def spIsRising (K : PySem.W.Frag) : Sp := fun vs H Q _ => ∃ (a : Addr) (xs : List V) (ds : List PyData), vs = [.ref a] ∧ (SqL K H a xs ∨ SqT K H a xs) ∧ DatAll H xs ds ∧ Rise ds ∧ ds.length ≤ 1000 ∧ ∀ H', Same H H' → Q (.bl true) H'
theorem dats_get {H : Hp} : ∀ {xs : List V} {ds : List PyData}, DatAll H xs ds → ∀ (k : Nat) (d : PyData), ds[k]? = some d → ∃ x, xs[k]? = some x ∧ Dat H x d
  | _, _, .nil, _, _, h => by simp at h
  | _, _, .cons (v := v) h t, 0, d, e => by
    cases (show some _ = some d from e)
    exact ⟨v, rfl, h⟩
  | _, _, .cons h t, k + 1, d, e => dats_get t k d e
section
variable {P : Program} {w : World} {K : PySem.W.Frag} {mg : Str → Option Value} {base : Heap}
theorem scIsTruth : FnScope ["value"] ["value"] (defScope sIsTruth) := ⟨rfl, rfl, rfl, by decide +kernel, rfl, by decide +kernel, by decide +kernel⟩
theorem scIsTuple : FnScope ["value", "most"] ["value", "most"] (defScope sIsTuple) := ⟨rfl, rfl, rfl, by decide +kernel, rfl, by decide +kernel, by decide +kernel⟩
theorem scIsPair : FnScope ["value"] ["value"] (defScope sIsPair) := ⟨rfl, rfl, rfl, by decide +kernel, rfl, by decide +kernel, by decide +kernel⟩
theorem scIsRising : FnScope ["parts", "k"] ["parts"] (defScope sIsRising) := ⟨rfl, rfl, rfl, by decide +kernel, rfl, by decide +kernel, by decide +kernel⟩
theorem ok_isTruth {f : Addr} {fd : FuncData} (F : Fun K "is_truth" "is_truth" sIsTruth f fd) : FnOk P w K mg base CX0 1 f fd ["value"] spIsTruth := by
  refine F.ok scIsTruth (fun vs H Q E h => ?_) (fun cdv A outer s H vs Q E hr h => ?_)
  · obtain ⟨b, rfl, _⟩ := h
    rfl
  · obtain ⟨b, rfl, q⟩ := h
    refine ⟨_, pss_one (ps_ret (pe_or (pe_cmpR op_is_bl (pv 0) pe_bl (nomark _)) (pe_one (pe_cmpR op_is_bl (pv 0) pe_bl (nomark _))))), ?_⟩
    refine ⟨_, rfl, b, true, rfl, rfl, _, rfl, ?_⟩
    cases b with
    | true => exact q
    | false => exact ⟨_, rfl, false, false, rfl, rfl, q⟩
theorem ty_rd {H : Hp} {a : Addr} {xs : List V} (h : Rd H a (.tup xs)) : TyX K H (.ref a) (.type "tuple") := h.elim (fun e => .base (.tup e)) fun ⟨_, e⟩ => .fTuple e
theorem ok_isTuple {f : Addr} {fd : FuncData} (F : Fun K "is_tuple" "is_tuple" sIsTuple f fd) (B : Blt mg) : FnOk P w K mg base CX0 1 f fd ["value", "most"] spIsTuple := by
  refine F.ok scIsTuple (fun vs H Q E h => ?_) (fun cdv A outer s H vs Q E hr h => ?_)
  · obtain ⟨a, xs, n, rfl, _⟩ := h
    rfl
  · obtain ⟨a, xs, n, rfl, e, le, q⟩ := h
    refine ⟨_, pss_one (ps_ret (pe_and (pe_callB call_isi (by rfl) B.isi (by decide +kernel) (pa_cons (pv 0) (pa_cons (pe_bltn (v := V.ty "tuple") (by rfl) B.tuple (by decide +kernel) rfl) pa_nil)))
      (pe_one (pe_cmpR op_le (pe_callB call_len_seq (by rfl) B.len (by decide +kernel) (pa_cons (pv 0) pa_nil)) (pv 1) (nomark _))))), ?_⟩
    refine ⟨_, rfl, _, _, _, _, true, rfl, .ty _, ty_rd e, kit_ty (by decide +kernel), true, rfl, ?_⟩
    show if true = true then _ else _
    rw [if_pos rfl]
    refine ⟨_, rfl, _, _, rfl, .inr (.inl e), _, rfl, _, _, rfl, rfl, ?_⟩
    show Q (.bl (decide ((xs.length : Int) ≤ n))) H
    rw [decide_eq_true le]
    exact q
theorem ok_isPair {f : Addr} {fd : FuncData} (F : Fun K "is_pair" "is_pair" sIsPair f fd) (B : Blt mg) : FnOk P w K mg base CX0 1 f fd ["value"] spIsPair := by
  refine F.ok scIsPair (fun vs H Q E h => ?_) (fun cdv A outer s H vs Q E hr h => ?_)
  · obtain ⟨a, x, y, rfl, _⟩ := h
    rfl
  · obtain ⟨a, x, y, rfl, e, q⟩ := h
    refine ⟨_, pss_one (ps_ret (pe_and (pe_callB call_isi (by rfl) B.isi (by decide +kernel) (pa_cons (pv 0) (pa_cons (pe_bltn (v := V.ty "tuple") (by rfl) B.tuple (by decide +kernel) rfl) pa_nil)))
      (pe_one (pe_cmpR op_eq (pe_callB call_len_seq (by rfl) B.len (by decide +kernel) (pa_cons (pv 0) pa_nil)) pe_int (nomark _))))), ?_⟩
    refine ⟨_, rfl, _, _, _, _, true, rfl, .ty _, .base (.tup e), kit_ty (by decide +kernel), true, rfl, ?_⟩
    show if true = true then _ else _
    rw [if_pos rfl]
    exact ⟨_, rfl, _, _, rfl, .inr (SqT.of e), rfl, q⟩
theorem ok_isRising {f : Addr} {fd : FuncData} (F : Fun K "is_rising" "is_rising" sIsRising f fd) (B : Blt mg) : FnOk P w K mg base CX0 1 f fd ["parts"] (spIsRising K) := by
  refine F.ok scIsRising (fun vs H Q E h => ?_) (fun cdv A outer s H vs Q E hr h => ?_)
  · obtain ⟨a, xs, ds, rfl, _⟩ := h
    rfl
  · obtain ⟨a, xs, ds, rfl, sq, D, R, len, q⟩ := h
    have hu : (A.deeper (envOfC "is_rising" (defScope sIsRising) s.heap.objs.size f cdv)).units + 64 < cLine := hr.units
    refine ⟨_, pss_one (ps_ret (pe_callB (cr_all rfl) (by rfl) B.all (by decide +kernel) (pa_cons (pe_lc (own := [("k", 1)]) (g := gName 1) (tt := tYes) (te := tOp rLtD (tOp (rIx K) (tVar 0) (tVar 1)) (tOp (rIx K) (tVar 0) (tOp (rI0 fun i j => V.int (i + j)) (tVar 1) (tC (V.int 1))))) rfl scIsRising.nd (pi_range1 rfl B.range (pa_cons (pe_op op_sub (pe_callB call_len_seq (by rfl) B.len (by decide +kernel) (pa_cons (pv 0) pa_nil)) pe_int) pa_nil))
      (blkOk_by (N := ["parts", "k"]) (sc := defScope sIsRising) (by decide +kernel)) (fun _ _ _ _ _ => pg_name (i := 1) scIsRising.nd rfl (Or.inl rfl)) (fun _ _ _ _ _ => pts_nil)
      (fun _ _ _ _ _ => by exact pe_cmpR (op_ltD (by exact hu)) (pe_ix ix_seq (pv 0) (pv 1) (fun _ _ => rfl)) (pe_ix ix_seq (pv 0) (pe_op op_add (pv 1) pe_int) (fun _ _ => rfl)) (nomark _))) pa_nil))), ?_⟩
    have lx : xs.length = ds.length := D.len
    refine ⟨_, rfl, _, _, rfl, sq, _, _, rfl, rfl, _, rfl, by omega, by omega, fun D0 hD0 => ?_⟩
    refine lc_range (lo := 0) (n := ((xs.length : Int) - 1).toNat) (fun j H4 => H4 D0 = some (.lst ((List.replicate j true).map V.bl)) ∧ Same H H4) ⟨upd_same, same_new hD0⟩ ?_ ?_
    · rintro j H4 hj ⟨eD, S⟩
      obtain ⟨x, hx⟩ : ∃ x, ds[j]? = some x := ⟨_, List.getElem?_eq_getElem (by omega)⟩
      obtain ⟨y, hy⟩ : ∃ y, ds[j + 1]? = some y := ⟨_, List.getElem?_eq_getElem (by omega)⟩
      obtain ⟨u, hu1, Du⟩ := dats_get D j x hx
      obtain ⟨v, hv1, Dv⟩ := dats_get D (j + 1) y hy
      obtain ⟨al, nn, dp, lt⟩ := R.at_ j x y hx hy
      refine ⟨rfl, yes_of ?_⟩
      refine ⟨_, rfl, _, rfl, ix_any (same_sq S sq) (by rw [Int.zero_add]; exact atI_nat hu1) ⟨_, rfl, _, rfl, _, _, rfl, rfl, ix_any (same_sq S sq) (by rw [Int.zero_add]; exact atI_nat hv1) ?_⟩⟩
      refine ⟨x, y, Du.same S, Dv.same S, al, nn, dp, _, eD, ?_, ?_, ?_⟩
      · rw [List.length_map, List.length_replicate]
        exact small1000 (by omega)
      · rw [upd_same, lt, List.replicate_succ', List.map_append]
        rfl
      · exact same_upd S hD0
    · rintro H4 ⟨eD, S⟩
      refine ⟨D0, _, rfl, SqL.of eD, ?_⟩
      have e : (List.replicate ((xs.length : Int) - 1).toNat true).all id = true := by
        rw [List.all_eq_true]
        exact fun b hb => (List.mem_replicate.mp hb).2
      show Q (.bl _) H4
      rw [e]
      exact q H4 S
end
end S1

set_option Elab.async false
set_option linter.all false
set_option maxRecDepth 100000
set_option maxHeartbeats 4000000
/-! all([.. for ..]) where each one is True -/
namespace S1
open PySem PySem.W PySem.Spec PyProof.Rows L2
abbrev trues (n : Nat) : HO := .lst ((List.replicate n true).map V.bl)
theorem trues_next {H : Hp} {D : Addr} {n : Nat} (e : H D = some (trues n)) : upd H D (.lst ((List.replicate n true).map V.bl ++ [V.bl true])) D = some (trues (n + 1)) := by
  rw [upd_same]
  show some _ = some (HO.lst ((List.replicate (n + 1) true).map V.bl))
  rw [List.replicate_succ', List.map_append]
  rfl
theorem trues_all (n : Nat) : (List.replicate n true).all id = true := by
  rw [List.all_eq_true]
  exact fun b hb => (List.mem_replicate.mp hb).2
section
variable {K : PySem.W.Frag} {g : TG} {te : TE} {vs : List Nat} {σ : L2.St} {H : Hp} {D : Addr} {Qd : Hp → Prop}
theorem lc_allT {a : Addr} {xs : List V} (sq : SqT K H a xs) (hD : H D = none) (len : xs.length ≤ 1000)
    (step : ∀ (i : Nat) (x : V) (H4 : Hp) (Qe : VK), xs[i]? = some x → Same H H4 → (∀ H5, Same H4 H5 → Qe (.bl true) H5) → g x (wipe σ vs) H4 fun σ2 H2 => wipe σ2 vs = wipe σ vs ∧ te σ2 H2 Qe)
    (gm : ∀ x σ1 H1 (A B : L2.St → Hp → Prop), (∀ σ2 H2, A σ2 H2 → B σ2 H2) → g x σ1 H1 A → g x σ1 H1 B)
    (hd : ∀ H5, H5 D = some (trues xs.length) → Same H H5 → Qd H5) :
    ∃ W : Nat → Nat → Hp → Prop, (∃ m, W 0 m (upd H D (.lst []))) ∧ ∀ i m H, W i m H →
      ((Itt K a).stop i H ∧ Qd H) ∨ ((Itt K a).go i H ∧ ∃ Nx : Hp → Prop, (∀ H', Nx H' → ∃ m', m' < m ∧ W (i + 1) m' H') ∧ ∀ x H', (Itt K a).yld i H x H' → g x (wipe σ vs) H' fun σ2 H2 => wipe σ2 vs = wipe σ vs ∧ tYes σ2 H2 fun b H3 =>
        if b = true then te σ2 H3 fun y H4 => ∃ acc, H4 D = some (.lst acc) ∧ acc.length < sizeLine ∧ Nx (upd H4 D (.lst (acc ++ [y]))) else Nx H3) := by
  refine lc_tup (K := K) (a := a) (xs := xs) (fun j H4 => H4 D = some (trues j) ∧ Same H H4) ⟨upd_same, same_new hD⟩ (fun i H4 _ h => same_tup h.2 sq) (fun i x H4 hx h => ?_) (fun H5 h => hd H5 h.1 h.2)
  have il : i < xs.length := (List.getElem?_eq_some_iff.mp hx).1
  refine gm x _ _ _ _ (fun σ2 H2 z => ⟨z.1, yes_of z.2⟩) (step i x H4 _ hx h.2 fun H5 S5 => ?_)
  have e5 := S5 _ _ h.1
  exact ⟨_, e5, by rw [List.length_map, List.length_replicate]; exact small1000 (by omega), trues_next e5, same_upd (h.2.trans S5) hD⟩
theorem lc_allL {a : Addr} {xs : List V} (sq : SqL K H a xs) (hD : H D = none) (len : xs.length ≤ 1000)
    (step : ∀ (i : Nat) (x : V) (H4 : Hp) (Qe : VK), xs[i]? = some x → Same H H4 → (∀ H5, Same H4 H5 → Qe (.bl true) H5) → g x (wipe σ vs) H4 fun σ2 H2 => wipe σ2 vs = wipe σ vs ∧ te σ2 H2 Qe)
    (gm : ∀ x σ1 H1 (A B : L2.St → Hp → Prop), (∀ σ2 H2, A σ2 H2 → B σ2 H2) → g x σ1 H1 A → g x σ1 H1 B)
    (hd : ∀ H5, H5 D = some (trues xs.length) → Same H H5 → Qd H5) :
    ∃ W : Nat → Nat → Hp → Prop, (∃ m, W 0 m (upd H D (.lst []))) ∧ ∀ i m H, W i m H →
      ((Itl K a).stop i H ∧ Qd H) ∨ ((Itl K a).go i H ∧ ∃ Nx : Hp → Prop, (∀ H', Nx H' → ∃ m', m' < m ∧ W (i + 1) m' H') ∧ ∀ x H', (Itl K a).yld i H x H' → g x (wipe σ vs) H' fun σ2 H2 => wipe σ2 vs = wipe σ vs ∧ tYes σ2 H2 fun b H3 =>
        if b = true then te σ2 H3 fun y H4 => ∃ acc, H4 D = some (.lst acc) ∧ acc.length < sizeLine ∧ Nx (upd H4 D (.lst (acc ++ [y]))) else Nx H3) := by
  refine lc_list (K := K) (a := a) (xs := xs) (fun j H4 => H4 D = some (trues j) ∧ Same H H4) ⟨upd_same, same_new hD⟩ (fun i H4 _ h => h.2.seq sq) (fun i x H4 hx h => ?_) (fun H5 h => hd H5 h.1 h.2)
  have il : i < xs.length := (List.getElem?_eq_some_iff.mp hx).1
  refine gm x _ _ _ _ (fun σ2 H2 z => ⟨z.1, yes_of z.2⟩) (step i x H4 _ hx h.2 fun H5 S5 => ?_)
  have e5 := S5 _ _ h.1
  exact ⟨_, e5, by rw [List.length_map, List.length_replicate]; exact small1000 (by omega), trues_next e5, same_upd (h.2.trans S5) hD⟩
theorem lc_allS {x : Str} (hD : H D = none) (len : x.cps.size ≤ 1000)
    (step : ∀ (c : Nat) (H4 : Hp) (Qe : VK), c ∈ x.cps.toList → Same H H4 → (∀ H5, Same H4 H5 → Qe (.bl true) H5) → g (.str ⟨#[c]⟩) (wipe σ vs) H4 fun σ2 H2 => wipe σ2 vs = wipe σ vs ∧ te σ2 H2 Qe)
    (gm : ∀ x σ1 H1 (A B : L2.St → Hp → Prop), (∀ σ2 H2, A σ2 H2 → B σ2 H2) → g x σ1 H1 A → g x σ1 H1 B)
    (hd : ∀ H5, H5 D = some (trues x.cps.size) → Same H H5 → Qd H5) :
    ∃ W : Nat → Nat → Hp → Prop, (∃ m, W 0 m (upd H D (.lst []))) ∧ ∀ i m H, W i m H →
      ((Its x).stop i H ∧ Qd H) ∨ ((Its x).go i H ∧ ∃ Nx : Hp → Prop, (∀ H', Nx H' → ∃ m', m' < m ∧ W (i + 1) m' H') ∧ ∀ y H', (Its x).yld i H y H' → g y (wipe σ vs) H' fun σ2 H2 => wipe σ2 vs = wipe σ vs ∧ tYes σ2 H2 fun b H3 =>
        if b = true then te σ2 H3 fun y H4 => ∃ acc, H4 D = some (.lst acc) ∧ acc.length < sizeLine ∧ Nx (upd H4 D (.lst (acc ++ [y]))) else Nx H3) := by
  refine ⟨fun i m H4 => m = x.cps.size - i ∧ i ≤ x.cps.size ∧ H4 D = some (trues i) ∧ Same H H4, ⟨_, rfl, Nat.zero_le _, upd_same, same_new hD⟩, ?_⟩
  rintro i m H4 ⟨rfl, hi, e4, S4⟩
  by_cases il : i < x.cps.size
  · refine .inr ⟨il, fun H5 => i + 1 ≤ x.cps.size ∧ H5 D = some (trues (i + 1)) ∧ Same H H5, fun H5 z => ⟨x.cps.size - (i + 1), by omega, rfl, z.1, z.2⟩, ?_⟩
    rintro y H' ⟨rfl, c, hc, rfl⟩
    have mc : c ∈ x.cps.toList := List.mem_of_getElem? (by rw [Array.getElem?_toList]; exact hc)
    refine gm _ _ _ _ _ (fun σ2 H2 z => ⟨z.1, yes_of z.2⟩) (step c _ _ mc S4 fun H5 S5 => ?_)
    have e5 := S5 _ _ e4
    exact ⟨_, e5, by rw [List.length_map, List.length_replicate]; exact small1000 (by omega), il, trues_next e5, same_upd (S4.trans S5) hD⟩
  · have e : i = x.cps.size := by omega
    subst e
    exact .inl ⟨Nat.le_refl _, hd H4 e4 S4⟩
end
theorem gName_mono {i : Nat} : ∀ (x : V) (σ1 : L2.St) (H1 : Hp) (A B : L2.St → Hp → Prop), (∀ σ2 H2, A σ2 H2 → B σ2 H2) → gName i x σ1 H1 A → gName i x σ1 H1 B := fun x σ1 H1 A B h z => h _ _ z
end S1

set_option Elab.async false
set_option linter.all false
set_option maxRecDepth 100000
set_option maxHeartbeats 4000000
/-! names, letters, clauses: told to be such -/
namespace S1
open PySem PySem.W PySem.Spec PyProof.Rows L2
/-- the numbers at the head of the program -/
structure Cst (mg : Str → Option Value) : Prop where
  small : ∃ t, mg "SMALL" = some (.str "abcdefghijklmnopqrstuvwxyz" t)
  signs : ∃ t, mg "MOST_SIGNS" = some (.int 8 t)
  picks : ∃ t, mg "MOST_PICKS" = some (.int 6 t)
  owns : ∃ t, mg "MOST_OWNS" = some (.int 8 t)
  clauses : ∃ t, mg "MOST_CLAUSES" = some (.int 40 t)
  copies : ∃ t, mg "MOST_COPIES" = some (.int 120 t)
theorem abc_mem {c : Nat} (h : 97 ≤ c ∧ c ≤ 122) : c ∈ ("abcdefghijklmnopqrstuvwxyz" : Str).cps.toList := by
  have z : ∀ k, k < 123 → 97 ≤ k → k ∈ ("abcdefghijklmnopqrstuvwxyz" : Str).cps.toList := by decide +kernel
  exact z c (by omega) h.1
def spIsName : Sp := fun vs H Q _ => ∃ x : Str, vs = [.str x] ∧ Nm x ∧ ∀ H', Same H H' → Q (.bl true) H'
def spIsLetter : Sp := fun vs H Q _ => ∃ (v : V) (l : Ltr), vs = [v] ∧ Dat H v (ltD l) ∧ Nm l.1 ∧ ∀ H', Same H H' → Q (.bl true) H'
section
variable {P : Program} {w : World} {K : PySem.W.Frag} {mg : Str → Option Value} {base : Heap}
theorem scIsName : FnScope ["value", "sign"] ["value"] (defScope sIsName) := ⟨rfl, rfl, rfl, by decide +kernel, rfl, by decide +kernel, by decide +kernel⟩
theorem scIsLetter : FnScope ["value"] ["value"] (defScope sIsLetter) := ⟨rfl, rfl, rfl, by decide +kernel, rfl, by decide +kernel, by decide +kernel⟩
theorem ok_isName {f : Addr} {fd : FuncData} (F : Fun K "is_name" "is_name" sIsName f fd) (B : Blt mg) (C : Cst mg) : FnOk P w K mg base CX0 1 f fd ["value"] spIsName := by
  obtain ⟨t1, c1⟩ := C.small
  obtain ⟨t2, c2⟩ := C.signs
  refine F.ok scIsName (fun vs H Q E h => ?_) (fun cdv A outer s H vs Q E hr h => ?_)
  · obtain ⟨x, rfl, _⟩ := h
    rfl
  · obtain ⟨x, rfl, nx, q⟩ := h
    refine ⟨_, pss_cons (ps_if (PW.pt (pw_or (pt_not (pt_val (pe_callB call_isi (by rfl) B.isi (by decide +kernel) (pa_cons (pv 0) (pa_cons (pe_bltn (v := V.ty "str") (by rfl) B.str (by decide +kernel) rfl) pa_nil)))))
        (pw_or1 (pt_not (pt_chain op_le op_le pe_int (pe_callB call_len_str (by rfl) B.len (by decide +kernel) (pa_cons (pv 0) pa_nil)) (pe_glob (v := V.int 8) rfl c2 ⟨_, rfl⟩)))))) (pss_one (ps_ret pe_bl)) pss_nil)
      (pss_one (ps_ret (pe_callB (cr_all rfl) (by rfl) B.all (by decide +kernel) (pa_cons (pe_lc (own := [("sign", 1)]) (g := gName 1) (tt := tYes) rfl scIsName.nd (pi_str (pv 0))
        (blkOk_by (N := ["value", "sign"]) (sc := defScope sIsName) (by decide +kernel)) (fun _ _ _ _ _ => pg_name (i := 1) scIsName.nd rfl (Or.inl rfl)) (fun _ _ _ _ _ => pts_nil)
        (fun _ _ _ _ _ => pe_cmpR op_in_sign (pv 1) (pe_glob (v := V.str "abcdefghijklmnopqrstuvwxyz") rfl c1 ⟨_, rfl⟩) (by with_unfolding_all rfl))) pa_nil)))), ?_⟩
    have len : x.length ≤ sizeLine := Nat.le_of_lt (small1000 (by have := nx.hi; omega))
    refine ⟨_, rfl, _, _, _, _, true, rfl, .ty _, .base (.str x), kit_ty (by decide +kernel), true, rfl, ?_⟩
    show if (!true) = true then _ else _
    rw [if_neg (by decide)]
    refine ⟨_, rfl, x, rfl, len, _, _, rfl, rfl, _, rfl, ?_⟩
    have l1 : (1 : Int) ≤ (x.length : Int) := by have := nx.lo; omega
    have l8 : (x.length : Int) ≤ 8 := by have := nx.hi; omega
    refine ite2 (fun _ => ?_) (fun h => absurd (decide_eq_true l1) h)
    refine ⟨_, _, rfl, rfl, _, rfl, ?_⟩
    rw [show decide ((x.length : Int) ≤ 8) = true from decide_eq_true l8]
    show if (!true) = true then _ else _
    rw [if_neg (by decide)]
    refine ⟨_, rfl, x, rfl, fun D hD => ?_⟩
    refine lc_allS hD (by have := nx.hi; show x.length ≤ 1000; omega) (fun c H4 Qe mc S4 k => ?_) gName_mono (fun H5 e5 S5 => ?_)
    · refine ⟨rfl, _, rfl, c, _, rfl, rfl, ?_⟩
      show Qe (.bl (decide _)) H4
      rw [decide_eq_true (abc_mem (nx.az c mc))]
      exact k H4 (Same.refl _)
    · refine ⟨D, _, rfl, SqL.of e5, ?_⟩
      show Q (.bl _) H5
      rw [trues_all]
      exact q H5 S5
theorem ok_isLetter {f fP fN fT : Addr} {fd fdP fdN fdT : FuncData} (F : Fun K "is_letter" "is_letter" sIsLetter f fd) (Pr : Has K mg "is_pair" sIsPair ["value"] fP fdP) (Nn : Has K mg "is_name" sIsName ["value"] fN fdN) (Tr : Has K mg "is_truth" sIsTruth ["value"] fT fdT)
    (B : Blt mg) (C : Cst mg) : FnOk P w K mg base CX0 2 f fd ["value"] spIsLetter := by
  have GP : FnOk P w K mg base CX0 1 fP fdP ["value"] spIsPair := ok_isPair Pr.F B
  have GN : FnOk P w K mg base CX0 1 fN fdN ["value"] spIsName := ok_isName Nn.F B C
  have GT : FnOk P w K mg base CX0 1 fT fdT ["value"] spIsTruth := ok_isTruth Tr.F
  refine F.ok scIsLetter (fun vs H Q E h => ?_) (fun cdv A outer s H vs Q E hr h => ?_)
  · obtain ⟨v, l, rfl, _⟩ := h
    rfl
  · obtain ⟨v, l, rfl, D, nl, q⟩ := h
    refine ⟨_, pss_one (ps_ret (pe_and (pe_call GP hr rfl Pr.g Pr.F.kp Pr.b .nil pass0 (pa_cons (pv 0) pa_nil)) (pe_and (pe_call GN hr rfl Nn.g Nn.F.kp Nn.b .nil pass0 (pa_cons (pe_ix ix_tup (pv 0) pe_int (fun _ _ => rfl)) pa_nil))
      (pe_one (pe_call GT hr rfl Tr.g Tr.F.kp Tr.b .nil pass0 (pa_cons (pe_ix ix_tup (pv 0) pe_int (fun _ _ => rfl)) pa_nil)))))), ?_⟩
    have D2 : Dat H v (.tuple [.str l.1, .bool l.2]) := D
    cases D2 with
    | @tup a _ _ e h =>
      cases h with
      | cons h1 h =>
        cases h1
        cases h with
        | cons h2 h =>
          cases h2
          cases h
          refine ⟨_, rfl, a, _, _, rfl, e, true, rfl, ?_⟩
          show if true = true then _ else _
          rw [if_pos rfl]
          refine ⟨_, rfl, a, _, 0, _, rfl, rfl, SqT.of e, rfl, l.1, rfl, nl, fun H' S => ⟨true, rfl, ?_⟩⟩
          show if true = true then _ else _
          rw [if_pos rfl]
          exact ⟨_, rfl, a, _, 1, _, rfl, rfl, SqT.of (S _ _ e), rfl, l.2, rfl, q H' S⟩
end
end S1

set_option Elab.async false
set_option linter.all false
set_option maxRecDepth 100000
set_option maxHeartbeats 4000000
/-! clauses of any names, rows of names, rows of truths: told to be such -/
namespace S1
open PySem PySem.W PySem.Spec PyProof.Rows L2
section
variable {K : PySem.W.Frag} {g : TG} {te : TE} {vs : List Nat} {σ : L2.St} {H : Hp} {D : Addr} {Qd : Hp → Prop}
/-- [f(x) for x in a tuple], what it gives known one by one -/
theorem lc_mapT {a : Addr} {xs ys : List V} (sq : SqT K H a xs) (hD : H D = none) (ly : ys.length = xs.length) (len : xs.length ≤ 1000)
    (step : ∀ (i : Nat) (x y : V) (H4 : Hp) (Qe : VK), xs[i]? = some x → ys[i]? = some y → Same H H4 → (∀ H5, Same H4 H5 → Qe y H5) → g x (wipe σ vs) H4 fun σ2 H2 => wipe σ2 vs = wipe σ vs ∧ te σ2 H2 Qe)
    (gm : ∀ x σ1 H1 (A B : L2.St → Hp → Prop), (∀ σ2 H2, A σ2 H2 → B σ2 H2) → g x σ1 H1 A → g x σ1 H1 B)
    (hd : ∀ H5, H5 D = some (.lst ys) → Same H H5 → Qd H5) :
    ∃ W : Nat → Nat → Hp → Prop, (∃ m, W 0 m (upd H D (.lst []))) ∧ ∀ i m H, W i m H →
      ((Itt K a).stop i H ∧ Qd H) ∨ ((Itt K a).go i H ∧ ∃ Nx : Hp → Prop, (∀ H', Nx H' → ∃ m', m' < m ∧ W (i + 1) m' H') ∧ ∀ x H', (Itt K a).yld i H x H' → g x (wipe σ vs) H' fun σ2 H2 => wipe σ2 vs = wipe σ vs ∧ tYes σ2 H2 fun b H3 =>
        if b = true then te σ2 H3 fun y H4 => ∃ acc, H4 D = some (.lst acc) ∧ acc.length < sizeLine ∧ Nx (upd H4 D (.lst (acc ++ [y]))) else Nx H3) := by
  refine lc_tup (K := K) (a := a) (xs := xs) (fun j H4 => H4 D = some (.lst (ys.take j)) ∧ Same H H4) ⟨by rw [upd_same, List.take_zero], same_new hD⟩ (fun i H4 _ h => same_tup h.2 sq) (fun i x H4 hx h => ?_) (fun H5 h => hd H5 (by rw [h.1, ← ly, List.take_length]) h.2)
  have il : i < xs.length := (List.getElem?_eq_some_iff.mp hx).1
  obtain ⟨y, hy⟩ : ∃ y, ys[i]? = some y := ⟨_, List.getElem?_eq_getElem (by omega)⟩
  refine gm x _ _ _ _ (fun σ2 H2 z => ⟨z.1, yes_of z.2⟩) (step i x y H4 _ hx hy h.2 fun H5 S5 => ?_)
  have e5 := S5 _ _ h.1
  exact ⟨_, e5, by rw [List.length_take]; exact small1000 (by omega), by rw [upd_same, take_next hy], same_upd (h.2.trans S5) hD⟩
end
def blsD (bs : List Bool) : PyData := .tuple (bs.map .bool)
def spIsAnyClause : Sp := fun vs H Q _ => ∃ (v : V) (cl : List Ltr), vs = [v] ∧ Dat H v (clD cl) ∧ (cl.Pairwise fun a b => tlt a.1 b.1) ∧ (∀ l ∈ cl, Nm l.1) ∧ cl.length ≤ 1000 ∧ ∀ H', Same H H' → Q (.bl true) H'
def spAreNames : Sp := fun vs H Q _ => ∃ (v : V) (xs : List Str) (n : Int), vs = [v, .int n] ∧ Dat H v (nmsD xs) ∧ xs.Pairwise tlt ∧ (∀ x ∈ xs, Nm x) ∧ (xs.length : Int) ≤ n ∧ xs.length ≤ 1000 ∧ ∀ H', Same H H' → Q (.bl true) H'
def spAreTruths : Sp := fun vs H Q _ => ∃ (v : V) (bs : List Bool), vs = [v, .int bs.length] ∧ Dat H v (blsD bs) ∧ bs.length ≤ 1000 ∧ ∀ H', Same H H' → Q (.bl true) H'
theorem dat_tup {H : Hp} {v : V} {ds : List PyData} (D : Dat H v (.tuple ds)) : ∃ a xs, v = .ref a ∧ H a = some (.tup xs) ∧ DatAll H xs ds := by
  cases D with
  | tup e h => exact ⟨_, _, rfl, e, h⟩
theorem dats_strs_eq {H : Hp} : ∀ {xs : List V} {l : List Str}, DatAll H xs (l.map PyData.str) → xs = l.map V.str
  | _, [], h => by cases h; rfl
  | _, x :: l, h => by
    cases h with
    | cons a b =>
      cases a
      rw [dats_strs_eq b, List.map_cons]
theorem dats_bls_eq {H : Hp} : ∀ {xs : List V} {l : List Bool}, DatAll H xs (l.map PyData.bool) → xs = l.map V.bl
  | _, [], h => by cases h; rfl
  | _, x :: l, h => by
    cases h with
    | cons a b =>
      cases a
      rw [dats_bls_eq b, List.map_cons]
theorem dats_get' {H : Hp} : ∀ {xs : List V} {ds : List PyData}, DatAll H xs ds → ∀ (k : Nat) (x : V), xs[k]? = some x → ∃ d, ds[k]? = some d ∧ Dat H x d
  | _, _, .nil, _, _, h => by simp at h
  | _, _, .cons (d := d) h t, 0, x, e => by
    cases (show some _ = some x from e)
    exact ⟨d, rfl, h⟩
  | _, _, .cons h t, k + 1, x, e => dats_get' t k x e
theorem ltr_row {H : Hp} {x : V} {l : Ltr} (D : Dat H x (ltD l)) : ∃ b, x = .ref b ∧ H b = some (.tup [.str l.1, .bl l.2]) := by
  obtain ⟨b, xs, rfl, e, h⟩ := dat_tup (ds := [.str l.1, .bool l.2]) D
  cases h with
  | cons h1 h =>
    cases h1
    cases h with
    | cons h2 h =>
      cases h2
      cases h
      exact ⟨b, rfl, e⟩
theorem get_map {α : Type} {f : α → PyData} {l : List α} {i : Nat} {d : PyData} (h : (l.map f)[i]? = some d) : ∃ x, l[i]? = some x ∧ d = f x := by
  rw [List.getElem?_map] at h
  obtain ⟨x, hx, e⟩ := Option.map_eq_some_iff.mp h
  exact ⟨x, hx, e.symm⟩
section
variable {P : Program} {w : World} {K : PySem.W.Frag} {mg : Str → Option Value} {base : Heap}
theorem scIsAnyClause : FnScope ["value", "part", "letter"] ["value"] (defScope sIsAnyClause) := ⟨rfl, rfl, rfl, by decide +kernel, rfl, by decide +kernel, by decide +kernel⟩
theorem scAreNames : FnScope ["value", "most", "part"] ["value", "most"] (defScope sAreNames) := ⟨rfl, rfl, rfl, by decide +kernel, rfl, by decide +kernel, by decide +kernel⟩
theorem ok_isAnyClause {f fL fR : Addr} {fd fdL fdR : FuncData} (F : Fun K "is_any_clause" "is_any_clause" sIsAnyClause f fd) (Le : Has K mg "is_letter" sIsLetter ["value"] fL fdL) (GL : FnOk P w K mg base CX0 2 fL fdL ["value"] spIsLetter)
    (Ri : Has K mg "is_rising" sIsRising ["parts"] fR fdR) (B : Blt mg) : FnOk P w K mg base CX0 3 f fd ["value"] spIsAnyClause := by
  have GR : FnOk P w K mg base CX0 1 fR fdR ["parts"] (spIsRising K) := ok_isRising Ri.F B
  refine F.ok scIsAnyClause (fun vs H Q E h => ?_) (fun cdv A outer s H vs Q E hr h => ?_)
  · obtain ⟨v, cl, rfl, _⟩ := h
    rfl
  · obtain ⟨v, cl, rfl, D, up, nm, len, q⟩ := h
    have hr1 := hr.mono (show 1 ≤ 2 by decide)
    refine ⟨_, pss_cons (ps_if (PW.pt (pw_or (pt_not (pt_val (pe_callB call_isi (by rfl) B.isi (by decide +kernel) (pa_cons (pv 0) (pa_cons (pe_bltn (v := V.ty "tuple") (by rfl) B.tuple (by decide +kernel) rfl) pa_nil)))))
        (pw_or1 (pt_not (pt_val (pe_callB (cr_all rfl) (by rfl) B.all (by decide +kernel) (pa_cons (pe_lc (own := [("part", 1)]) (g := gName 1) (tt := tYes) rfl scIsAnyClause.nd (pi_tup (pv 0))
          (blkOk_by (N := ["value", "part", "letter"]) (sc := defScope sIsAnyClause) (by decide +kernel)) (fun _ _ _ _ _ => pg_name (i := 1) scIsAnyClause.nd rfl (Or.inl rfl)) (fun _ _ _ _ _ => pts_nil)
          (fun _ _ _ _ _ => pe_call GL (by exact hr) (by rfl) Le.g Le.F.kp Le.b .nil pass0 (pa_cons (pv 1) pa_nil))) pa_nil))))))) (pss_one (ps_ret pe_bl)) pss_nil)
      (pss_one (ps_ret (pe_call GR hr1 rfl Ri.g Ri.F.kp Ri.b .nil pass0 (pa_cons (pe_lc (own := [("letter", 2)]) (g := gName 2) (tt := tYes) (te := tOp (rIxT K) (tVar 2) (tC (V.int 0))) rfl scIsAnyClause.nd (pi_tup (pv 0))
          (blkOk_by (N := ["value", "part", "letter"]) (sc := defScope sIsAnyClause) (by decide +kernel)) (fun _ _ _ _ _ => pg_name (i := 2) scIsAnyClause.nd rfl (Or.inl rfl)) (fun _ _ _ _ _ => pts_nil)
          (fun _ _ _ _ _ => by exact pe_ix ix_tup (pv 2) pe_int (fun _ _ => rfl))) pa_nil)))), ?_⟩
    obtain ⟨a, xs, rfl, e, Da⟩ := dat_tup (ds := cl.map ltD) D
    have lx : xs.length = cl.length := by rw [Da.len, List.length_map]
    refine ⟨_, rfl, _, _, _, _, true, rfl, .ty _, .base (.tup e), kit_ty (by decide +kernel), true, rfl, ?_⟩
    show if (!true) = true then _ else _
    rw [if_neg (by decide)]
    refine ⟨_, rfl, a, rfl, ⟨_, SqT.of e⟩, fun D0 hD0 => lc_allT (K := K) (SqT.of e) hD0 (by omega) (fun i x H4 Qe hx S4 k => ?_) gName_mono (fun H5 e5 S5 => ?_)⟩
    · obtain ⟨d, hd, Dx⟩ := dats_get' Da i x hx
      obtain ⟨l, hl, rfl⟩ := get_map hd
      exact ⟨rfl, _, rfl, x, l, rfl, Dx.same S4, nm l (List.mem_of_getElem? hl), k⟩
    · refine ⟨D0, _, rfl, SqL.of e5, _, rfl, ?_⟩
      rw [trues_all]
      show if (!true) = true then _ else _
      rw [if_neg (by decide)]
      refine ⟨_, rfl, a, rfl, ⟨_, SqT.of (S5 _ _ e)⟩, fun D1 hD1 => lc_mapT (K := K) (ys := (cl.map Prod.fst).map V.str) (SqT.of (S5 _ _ e)) hD1 (by rw [List.length_map, List.length_map, lx]) (by omega) (fun i x y H4 Qe hx hy S4 k => ?_) gName_mono (fun H6 e6 S6 => ?_)⟩
      · obtain ⟨d, hd, Dx⟩ := dats_get' Da i x hx
        obtain ⟨l, hl, rfl⟩ := get_map hd
        obtain ⟨b, rfl, eb⟩ := ltr_row Dx
        have ey : y = V.str l.1 := by
          rw [List.getElem?_map, List.getElem?_map, hl] at hy
          exact (Option.some.inj hy).symm
        rw [ey] at k
        exact ⟨rfl, _, rfl, b, _, 0, _, rfl, rfl, SqT.of (S4 _ _ (S5 _ _ eb)), rfl, k H4 (Same.refl _)⟩
      · exact ⟨D1, _, _, rfl, .inl (SqL.of e6), dats_strs (cl.map Prod.fst), rise_strs (List.pairwise_map.mpr up), by rw [List.length_map, List.length_map]; exact len, fun H' S => q H' ((S5.trans S6).trans S)⟩
theorem ok_areNames {f fU fN fR : Addr} {fd fdU fdN fdR : FuncData} (F : Fun K "are_names" "are_names" sAreNames f fd) (Tu : Has K mg "is_tuple" sIsTuple ["value", "most"] fU fdU) (Nn : Has K mg "is_name" sIsName ["value"] fN fdN)
    (Ri : Has K mg "is_rising" sIsRising ["parts"] fR fdR) (B : Blt mg) (C : Cst mg) : FnOk P w K mg base CX0 2 f fd ["value", "most"] spAreNames := by
  have GU : FnOk P w K mg base CX0 1 fU fdU ["value", "most"] spIsTuple := ok_isTuple Tu.F B
  have GN : FnOk P w K mg base CX0 1 fN fdN ["value"] spIsName := ok_isName Nn.F B C
  have GR : FnOk P w K mg base CX0 1 fR fdR ["parts"] (spIsRising K) := ok_isRising Ri.F B
  refine F.ok scAreNames (fun vs H Q E h => ?_) (fun cdv A outer s H vs Q E hr h => ?_)
  · obtain ⟨v, xs, n, rfl, _⟩ := h
    rfl
  · obtain ⟨v, xs, n, rfl, D, up, nm, le, len, q⟩ := h
    refine ⟨_, pss_cons (ps_if (PW.pt (pw_or (pt_not (pt_val (pe_call GU hr rfl Tu.g Tu.F.kp Tu.b .nil pass0 (pa_cons (pv 0) (pa_cons (pv 1) pa_nil)))))
        (pw_or1 (pt_not (pt_val (pe_callB (cr_all rfl) (by rfl) B.all (by decide +kernel) (pa_cons (pe_lc (own := [("part", 2)]) (g := gName 2) (tt := tYes) rfl scAreNames.nd (pi_tup (pv 0))
          (blkOk_by (N := ["value", "most", "part"]) (sc := defScope sAreNames) (by decide +kernel)) (fun _ _ _ _ _ => pg_name (i := 2) scAreNames.nd rfl (Or.inl rfl)) (fun _ _ _ _ _ => pts_nil)
          (fun _ _ _ _ _ => pe_call GN (by exact hr) (by rfl) Nn.g Nn.F.kp Nn.b .nil pass0 (pa_cons (pv 2) pa_nil))) pa_nil))))))) (pss_one (ps_ret pe_bl)) pss_nil)
      (pss_one (ps_ret (pe_call GR hr rfl Ri.g Ri.F.kp Ri.b .nil pass0 (pa_cons (pv 0) pa_nil)))), ?_⟩
    obtain ⟨a, us, rfl, e, Da⟩ := dat_tup (ds := xs.map PyData.str) D
    have eu := dats_strs_eq Da
    subst eu
    refine ⟨_, rfl, _, rfl, a, _, n, rfl, .inl e, by rw [List.length_map]; exact le, true, rfl, ?_⟩
    show if (!true) = true then _ else _
    rw [if_neg (by decide)]
    refine ⟨_, rfl, a, rfl, ⟨_, SqT.of e⟩, fun D0 hD0 => lc_allT (K := K) (SqT.of e) hD0 (by rw [List.length_map]; exact len) (fun i x H4 Qe hx S4 k => ?_) gName_mono (fun H5 e5 S5 => ?_)⟩
    · rw [List.getElem?_map] at hx
      obtain ⟨y, hy, rfl⟩ := Option.map_eq_some_iff.mp hx
      exact ⟨rfl, _, rfl, y, rfl, nm y (List.mem_of_getElem? hy), k⟩
    · refine ⟨D0, _, rfl, SqL.of e5, _, rfl, ?_⟩
      rw [trues_all]
      show if (!true) = true then _ else _
      rw [if_neg (by decide)]
      exact ⟨_, rfl, a, _, _, rfl, .inr (SqT.of (S5 _ _ e)), dats_strs xs, rise_strs up, by rw [List.length_map]; exact len, fun H' S => q H' (S5.trans S)⟩
end
end S1

set_option Elab.async false
set_option linter.all false
set_option maxRecDepth 100000
set_option maxHeartbeats 4000000
/-! clauses, drawn -/
namespace S1
open PySem PySem.W PySem.Spec PyProof.Rows L2
/-- a list of letters -/
structure Lt (D : Addr) (cl : List Ltr) (G : Hp) : Prop where
  ex : ∃ T : List TRow, G D = some (.lst (T.map TRow.v)) ∧ T.map Prod.snd = cl.map ltD ∧ ∀ q ∈ T, Dat G q.v q.2
theorem keys_lt {T : List TRow} {cl : List Ltr} (e : T.map Prod.snd = cl.map ltD) : ∀ q ∈ T, keyable q.2 = true := fun q hq => by
  have m : q.2 ∈ cl.map ltD := e ▸ List.mem_map_of_mem hq
  obtain ⟨x, _, hx⟩ := List.mem_map.mp m
  rw [← hx]
  rfl
section
variable {D p t : Addr} {cl : List Ltr} {G G2 : Hp} {c c0 : Nat} {o : HO}
theorem Lt.dr (h : Lt D cl G) (d : Dr G p c G2) (hs : Src G p c0) (n : D ≠ p) : Lt D cl G2 := by
  obtain ⟨T, e, e2, hT⟩ := h.ex
  exact ⟨T, d.keep e n, e2, fun q hq => d.dat hs (keys_lt e2 q hq) (hT q hq)⟩
theorem Lt.same (h : Lt D cl G) (S : Same G G2) : Lt D cl G2 := by
  obtain ⟨T, e, e2, hT⟩ := h.ex
  exact ⟨T, S _ _ e, e2, fun q hq => (hT q hq).same S⟩
theorem Lt.new (h : Lt D cl G) (ht : G t = none) : Lt D cl (upd G t o) := h.same (same_new ht)
theorem Lt.len (h : Lt D cl G) : ∃ xs, G D = some (.lst xs) ∧ xs.length = cl.length := by
  obtain ⟨T, e, e2, _⟩ := h.ex
  exact ⟨_, e, by rw [List.length_map, ← List.length_map (f := Prod.snd), e2, List.length_map]⟩
/-- a letter more behind -/
theorem Lt.push {x : Str} {b : Bool} {xs : List V} (h : Lt D cl G) (eD : G D = some (.lst xs)) (et : G t = some (.tup [.str x, .bl b])) : Lt D (cl ++ [(x, b)]) (upd G D (.lst (xs ++ [.ref t]))) := by
  obtain ⟨T, e, e2, hT⟩ := h.ex
  rw [e] at eD
  cases eD
  refine ⟨T ++ [(t, ltD (x, b))], by rw [upd_same, List.map_append]; rfl, by rw [List.map_append, List.map_append, e2]; rfl, fun q hq => ?_⟩
  rcases List.mem_append.mp hq with m | m
  · exact dat_upd e (keys_lt e2 q m) (hT q m)
  · cases List.mem_singleton.mp m
    refine dat_upd e rfl (.tup (xs := [.str x, .bl b]) et (.cons (.str _) (.cons (.bl _) .nil)))
theorem Lt.cat {D2 : Addr} {cl2 : List Ltr} {xs ys : List V} (h : Lt D cl G) (h2 : Lt D2 cl2 G) (e1 : G D = some (.lst xs)) (e2 : G D2 = some (.lst ys)) (ht : G t = none) : Lt t (cl ++ cl2) (upd G t (.lst (xs ++ ys))) := by
  obtain ⟨T, f1, g1, h1⟩ := h.ex
  obtain ⟨T2, f2, g2, h2⟩ := h2.ex
  rw [f1] at e1
  rw [f2] at e2
  cases e1
  cases e2
  refine ⟨T ++ T2, by rw [upd_same, List.map_append], by rw [List.map_append, List.map_append, g1, g2], fun q hq => ?_⟩
  rcases List.mem_append.mp hq with m | m
  · exact dat_new ht (h1 q m)
  · exact dat_new ht (h2 q m)
end
theorem cut_drop' {ws : List Str} {r : Nat} : cutV (ws.map V.str) (some (r : Int)) none = (ws.drop r).map V.str := by
  rcases Nat.le_total r ws.length with h | h
  · exact cut_drop h
  · unfold cutV
    rw [HT.sIx_nat, HT.sIx_none, List.length_map, Nat.min_eq_right h, List.drop_eq_nil_of_le h, List.drop_eq_nil_of_le (by rw [List.length_map]; exact Nat.le_refl _)]
    simp
theorem min_nat {x : Int} {N : Nat} (h : 0 ≤ x) : ∃ n : Nat, (if x < (N : Int) then x else (N : Int)) = (n : Int) ∧ n ≤ N := by
  split
  · exact ⟨x.toNat, by omega, by omega⟩
  · exact ⟨N, rfl, Nat.le_refl _⟩
theorem gPair_mono {K : PySem.W.Frag} {i j : Nat} : ∀ (x : V) (σ1 : L2.St) (H1 : Hp) (A B : L2.St → Hp → Prop), (∀ σ2 H2, A σ2 H2 → B σ2 H2) → gTup K 2 (gCons (gName i) (gCons (gName j) gNil)) x σ1 H1 A → gTup K 2 (gCons (gName i) (gCons (gName j) gNil)) x σ1 H1 B := by
  rintro x σ1 H1 A B h ⟨a, xs, e1, e2, e3, v, r, e4, v2, r2, e5, e6, z⟩
  exact ⟨a, xs, e1, e2, e3, v, r, e4, v2, r2, e5, e6, h _ _ z⟩
def spCl : Sp := fun vs H Q _ => ∃ (p : Addr) (c a b m : Nat) (v1 v2 : V) (picks : List Str) (owns : List Own), vs = [.ref p, v1, v2] ∧ Src H p c ∧ c ≤ 60000 ∧ Dat H v1 (nmsD picks) ∧ Dat H v2 (.tuple (owns.map ownD)) ∧ FrOk a b m picks owns ∧ a + b ≤ 14 ∧
  ∀ (v : V) (cl : List Ltr) (H' : Hp), Dat H' v (clD cl) → ClOk (picks ++ owns.map Prod.fst) cl → Dr H p (c + 100) H' → Q v H'
/-- the names of owns, one by one -/
theorem own_names {H : Hp} {us : List V} {owns : List Own} (D : DatAll H us (owns.map ownD)) {i : Nat} {x : V} (hx : us[i]? = some x) : ∃ (o : Own) (t t' : Addr), owns[i]? = some o ∧ x = .ref t ∧ H t = some (.tup [.str o.1, .ref t']) := by
  obtain ⟨d, hd, Dx⟩ := dats_get' D i x hx
  obtain ⟨o, ho, rfl⟩ := get_map hd
  obtain ⟨t, rfl⟩ := tuple_ref (ds := [.str o.1, nmsD o.2]) Dx
  obtain ⟨t', g1, g2⟩ := own_row (q := (t, ownD o)) rfl Dx
  exact ⟨o, t, t', ho, rfl, g1⟩
/-- [name for name, sight in owns] -/
theorem lc_names {K : PySem.W.Frag} {σ : L2.St} {H : Hp} {D b : Addr} {us : List V} {owns : List Own} {Qd : Hp → Prop} {i j : Nat} {ws : List Nat} (eb : H b = some (.tup us)) (Db : DatAll H us (owns.map ownD)) (hD : H D = none) (len : owns.length ≤ 1000)
    (hw : ∀ (x y : V), wipe (((wipe σ ws).set i (some x)).set j (some y)) ws = wipe σ ws) (hi : ∀ (x y : V), (((wipe σ ws).set i (some x)).set j (some y))[i]? = some (some x))
    (hd : ∀ H5, H5 D = some (.lst ((owns.map Prod.fst).map V.str)) → Same H H5 → Qd H5) :
    ∃ W : Nat → Nat → Hp → Prop, (∃ m, W 0 m (upd H D (.lst []))) ∧ ∀ n m H, W n m H →
      ((Itt K b).stop n H ∧ Qd H) ∨ ((Itt K b).go n H ∧ ∃ Nx : Hp → Prop, (∀ H', Nx H' → ∃ m', m' < m ∧ W (n + 1) m' H') ∧ ∀ x H', (Itt K b).yld n H x H' → gTup K 2 (gCons (gName i) (gCons (gName j) gNil)) x (wipe σ ws) H' fun σ2 H2 => wipe σ2 ws = wipe σ ws ∧ tYes σ2 H2 fun b H3 =>
        if b = true then tVar i σ2 H3 fun y H4 => ∃ acc, H4 D = some (.lst acc) ∧ acc.length < sizeLine ∧ Nx (upd H4 D (.lst (acc ++ [y]))) else Nx H3) := by
  have lu : us.length = owns.length := by rw [Db.len, List.length_map]
  refine lc_mapT (K := K) (ys := (owns.map Prod.fst).map V.str) (SqT.of eb) hD (by rw [List.length_map, List.length_map, lu]) (by omega) (fun n x y H4 Qe hx hy S4 k => ?_) gPair_mono hd
  obtain ⟨o, t, t', ho, rfl, g1⟩ := own_names Db hx
  have ey : y = V.str o.1 := by
    rw [List.getElem?_map, List.getElem?_map, ho] at hy
    exact (Option.some.inj hy).symm
  rw [ey] at k
  exact ⟨t, _, rfl, SqT.of (S4 _ _ g1), rfl, _, _, rfl, _, _, rfl, rfl, hw _ _, _, hi _ _, k H4 (Same.refl _)⟩
section
variable {P : Program} {w : World} {K : PySem.W.Frag} {mg : Str → Option Value} {base : Heap}
theorem scAnyCl : FnScope ["tank", "picks", "owns", "names", "name", "sight"] ["tank", "picks", "owns"] (defScope sAnyCl) := ⟨rfl, rfl, rfl, by decide +kernel, rfl, by decide +kernel, by decide +kernel⟩
theorem scPlainCl : FnScope ["tank", "picks", "owns", "own", "letters", "name", "sight"] ["tank", "picks", "owns"] (defScope sPlainCl) := ⟨rfl, rfl, rfl, by decide +kernel, rfl, by decide +kernel, by decide +kernel⟩
theorem scTwosCl : FnScope ["tank", "picks", "owns", "left", "own", "some", "name", "sight", "turn"] ["tank", "picks", "owns"] (defScope sTwosCl) := ⟨rfl, rfl, rfl, by decide +kernel, rfl, by decide +kernel, by decide +kernel⟩
theorem FrOk.nd {a b m : Nat} {picks : List Str} {owns : List Own} (h : FrOk a b m picks owns) : (picks ++ owns.map Prod.fst).Nodup := by
  have nt : ∀ {xs : List Str}, xs.Pairwise tlt → xs.Nodup := fun h => List.Pairwise.imp (fun {a b} z => fun e : a = b => by
    rw [e] at z
    exact absurd z (by unfold tlt; exact List.lt_irrefl _)) h
  refine List.nodup_append.mpr ⟨nt h.pu, nt (List.pairwise_map.mpr h.ou), fun x hx y hy e => ?_⟩
  obtain ⟨o, ho, rfl⟩ := List.mem_map.mp hy
  exact (h.on o ho).2.1 (e ▸ hx)
theorem FrOk.len {a b m : Nat} {picks : List Str} {owns : List Own} (h : FrOk a b m picks owns) : (picks ++ owns.map Prod.fst).length ≤ a + b := by
  have := h.pl
  have := h.ol
  rw [List.length_append, List.length_map]
  omega
theorem ok_anyCl {f fP fL fS : Addr} {fd fdP fdL fdS : FuncData} (F : Fun K "_law_any_clause" "_law_any_clause" sAnyCl f fd) (Pk : Has K mg "_law_drop" sDrop ["tank", "many"] fP fdP) (Le : Has K mg "_law_letters" sLetters ["tank", "names"] fL fdL)
    (So : Has K mg "_law_some" sLSome ["tank", "names", "most"] fS fdS) (B : Blt mg) : FnOk P w K mg base CX0 3 f fd ["tank", "picks", "owns"] spCl := by
  have GL : FnOk P w K mg base CX0 2 fL fdL ["tank", "names"] spLetters := ok_letters Le.F Pk B
  have GS : FnOk P w K mg base CX0 2 fS fdS ["tank", "names", "most"] (spLSome K) := ok_lSome So.F Pk B
  refine F.ok scAnyCl (fun vs H Q E h => ?_) (fun cdv A outer s H vs Q E hr h => ?_)
  · obtain ⟨p, c, a, b, m, v1, v2, picks, owns, rfl, _⟩ := h
    rfl
  · obtain ⟨p, c, a, b, m, v1, v2, picks, owns, rfl, hs, hc, D1, D2, ok, hab, q⟩ := h
    have hu : (A.deeper (envOfC "_law_any_clause" (defScope sAnyCl) s.heap.objs.size f cdv)).units + 64 < cLine := hr.units
    refine ⟨_, pss_cons (ps_set (i := 3) scAnyCl.nd rfl (.inl rfl) (pe_op op_cat (pe_callTy call_list_of (by rfl) B.list (by decide +kernel) (pa_cons (pv 1) pa_nil))
        (pe_lc (own := [("name", 4), ("sight", 5)]) (g := gTup K 2 (gCons (gName 4) (gCons (gName 5) gNil))) (tt := tYes) (te := tVar 4) rfl scAnyCl.nd (pi_tup (pv 2)) (blkOk_by (N := ["tank", "picks", "owns", "names", "name", "sight"]) (sc := defScope sAnyCl) (by decide +kernel))
          (fun _ _ _ _ _ => by exact pg_tup rfl (pgs_cons (pg_name (i := 4) scAnyCl.nd rfl (.inl rfl)) (pgs_cons (pg_name (i := 5) scAnyCl.nd rfl (.inl rfl)) pgs_nil))) (fun _ _ _ _ _ => pts_nil) (fun _ _ _ _ _ => pv 4))))
      (pss_one (ps_ret (pe_tupleOf rfl B.tuple (pe_callB (cr_sortL (by exact hu)) (by rfl) B.sorted (by decide +kernel) (pa_cons (pe_call GL hr rfl Le.g Le.F.kp Le.b .nil pass0 (pa_cons (pv 0)
        (pa_cons (pe_call GS hr rfl So.g So.F.kp So.b .nil pass0 (pa_cons (pv 0) (pa_cons (pv 3) (pa_cons pe_int pa_nil)))) pa_nil))) pa_nil))))), ?_⟩
    have d0 := Dr.start hs
    obtain ⟨a1, ps, rfl, e1, Dp⟩ := dat_tup (ds := picks.map PyData.str) D1
    cases dats_strs_eq Dp
    obtain ⟨a2, us, rfl, e2, Do⟩ := dat_tup D2
    have ol := ok.ol
    have pl := ok.pl
    refine ⟨_, rfl, a1, _, rfl, .inr (SqT.of e1), fun l0 hl0 => ?_⟩
    have d1 := d0.new (o := .lst (picks.map V.str)) hl0
    have S1 := same_new (o := .lst (picks.map V.str)) hl0
    have el : upd H l0 (.lst (picks.map V.str)) l0 = some (.lst (picks.map V.str)) := upd_same
    refine ⟨_, rfl, a2, rfl, ⟨_, SqT.of (S1 _ _ e2)⟩, fun D hD => ?_⟩
    refine lc_names (K := K) (S1 _ _ e2) (DatAll.same S1 Do) hD (by omega) (fun _ _ => rfl) (fun _ _ => rfl) fun H5 eD S5 => ?_
    have d5 := d1.same S5
    refine ⟨_, _, _, _, rfl, rfl, S5 _ _ el, eD, ?_, fun l hl => ?_⟩
    · rw [List.length_map, List.length_map, List.length_map]
      exact Nat.le_of_lt (small1000 (by omega))
    · have d6 := d5.new (o := .lst (picks.map V.str ++ (owns.map Prod.fst).map V.str)) hl
      have e6 : upd H5 l (.lst (picks.map V.str ++ (owns.map Prod.fst).map V.str)) l = some (.lst ((picks ++ owns.map Prod.fst).map V.str)) := by rw [upd_same, List.map_append]
      generalize upd H5 l (.lst (picks.map V.str ++ (owns.map Prod.fst).map V.str)) = H6 at d6 e6 ⊢
      have ln := ok.len
      refine ⟨_, rfl, _, rfl, _, rfl, p, l, c, _, 14, rfl, d6.s, by omega, .inl (SqL.of e6), ok.nd, by omega, by decide, fun b7 ys H7 ndy suby leny hb7 eb7 d7 => ?_⟩
      refine ⟨p, b7, _, ys, rfl, d7.s, by omega, eb7, by omega, fun b8 T cl H8 hb8 eb8 eT ecl hT d8 => ?_⟩
      have ndc : (cl.map Prod.fst).Nodup := by rw [ecl]; exact ndy
      refine ⟨b8, T, rfl, SqL.of eb8, hT, sorty_of eT alike_lt (fun x => ⟨_, rfl⟩) (fun x => by have := depth_lt x; omega), fun T' b9 pm _ up hb9 => .inl ⟨b9, _, rfl, SqL.of upd_same, fun t ht => ?_⟩⟩
      obtain ⟨cl', p2, e9, up2⟩ := letters_back pm eT ndc up
      have d9 := ((d6.trans d7).trans d8).new (o := .lst (T'.map TRow.v)) hb9
      refine q _ cl' _ (.tup upd_same ?_) ⟨up2, fun l hl => ?_⟩ ((d9.new ht).up (by omega))
      · rw [← e9]
        exact dats_rows fun r hr => dat_new ht (dat_new hb9 (hT r (pm.mem_iff.mp hr)))
      · refine suby _ ?_
        rw [← ecl]
        exact List.mem_map_of_mem (p2.mem_iff.mp hl)
theorem ok_twosCl {f fP fL fS : Addr} {fd fdP fdL fdS : FuncData} (F : Fun K "_law_twos_clause" "_law_twos_clause" sTwosCl f fd) (Pk : Has K mg "_law_drop" sDrop ["tank", "many"] fP fdP) (Le : Has K mg "_law_letters" sLetters ["tank", "names"] fL fdL)
    (So : Has K mg "_law_some" sLSome ["tank", "names", "most"] fS fdS) (B : Blt mg) : FnOk P w K mg base CX0 3 f fd ["tank", "picks", "owns"] spCl := by
  have GP : FnOk P w K mg base CX0 1 fP fdP ["tank", "many"] spPick := ok_pick Pk.F B
  have GL : FnOk P w K mg base CX0 2 fL fdL ["tank", "names"] spLetters := ok_letters Le.F Pk B
  have GS : FnOk P w K mg base CX0 2 fS fdS ["tank", "names", "most"] (spLSome K) := ok_lSome So.F Pk B
  refine F.ok scTwosCl (fun vs H Q E h => ?_) (fun cdv A outer s H vs Q E hr h => ?_)
  · obtain ⟨p, c, a, b, m, v1, v2, picks, owns, rfl, _⟩ := h
    rfl
  · obtain ⟨p, c, a, b, m, v1, v2, picks, owns, rfl, hs, hc, D1, D2, ok, hab, q⟩ := h
    have hu : (A.deeper (envOfC "_law_twos_clause" (defScope sTwosCl) s.heap.objs.size f cdv)).units + 64 < cLine := hr.units
    have hr1 := hr.mono (show 1 ≤ 2 by decide)
    refine ⟨_, pss_cons (ps_set (i := 3) scTwosCl.nd rfl (.inr rfl) (pe_lc (own := [("name", 6), ("sight", 7)]) (g := gTup K 2 (gCons (gName 6) (gCons (gName 7) gNil))) (tt := tYes) (te := tVar 6) rfl scTwosCl.nd (pi_tup (pv 2)) (blkOk_by (N := ["tank", "picks", "owns", "left", "own", "some", "name", "sight", "turn"]) (sc := defScope sTwosCl) (by decide +kernel))
          (fun _ _ _ _ _ => by exact pg_tup rfl (pgs_cons (pg_name (i := 6) scTwosCl.nd rfl (.inl rfl)) (pgs_cons (pg_name (i := 7) scTwosCl.nd rfl (.inl rfl)) pgs_nil))) (fun _ _ _ _ _ => pts_nil) (fun _ _ _ _ _ => pv 6)))
      (pss_cons (ps_setLc (i := 4) (own := [("turn", 8)]) (g := gName 8) (tt := tYes) (te := tBM K "list" rPopAt (tVar 3) (tCons (tCall spPick [] E0 (tCons (tVar 0) (tCons (tLen K 3) tNil))) tNil)) rfl scTwosCl.nd rfl rfl (sw_true rfl rfl rfl (by decide +kernel))
          (pi_range1 rfl B.range (pa_cons (pe_callB (call_min2 rfl) (by rfl) B.min (by decide +kernel) (pa_cons (pe_callB call_len_seq (by rfl) B.len (by decide +kernel) (pa_cons (pv 3) pa_nil))
            (pa_cons (pe_op op_add pe_int (pe_callB (call_min2 rfl) (by rfl) B.min (by decide +kernel) (pa_cons pe_int (pa_cons (pe_call GP hr1 rfl Pk.g Pk.F.kp Pk.b .nil pass0 (pa_cons (pv 0) (pa_cons pe_int pa_nil))) pa_nil)))) pa_nil))) pa_nil))
          (blkOk_by (N := ["tank", "picks", "owns", "left", "own", "some", "name", "sight", "turn"]) (sc := defScope sTwosCl) (by decide +kernel)) (fun _ _ _ _ _ => pg_name (i := 8) scTwosCl.nd rfl (Or.inl rfl)) (fun _ _ _ _ _ => pts_nil)
          (fun _ _ _ _ _ => by exact pe_bm PySem.F.plainAttrs_list PySem.F.slot_list_pop PySem.F.type_list_pop mt_popAt (pv 3) (pa_cons (pe_call GP (by exact hr1) (by rfl) Pk.g Pk.F.kp Pk.b .nil pass0 (pa_cons (pv 0) (pa_cons (pe_callB call_len_seq (by rfl) B.len (by decide +kernel) (pa_cons (pv 3) pa_nil)) pa_nil))) pa_nil)))
      (pss_cons (ps_set (i := 5) scTwosCl.nd rfl (.inl rfl) (pe_call GS hr rfl So.g So.F.kp So.b .nil pass0 (pa_cons (pv 0) (pa_cons (pv 1) (pa_cons (pe_op op_add pe_int (pe_op op_mul pe_int (pe_call GP hr1 rfl Pk.g Pk.F.kp Pk.b .nil pass0 (pa_cons (pv 0) (pa_cons pe_int pa_nil))))) pa_nil)))))
      (pss_one (ps_ret (pe_tupleOf rfl B.tuple (pe_callB (cr_sortL (by exact hu)) (by rfl) B.sorted (by decide +kernel) (pa_cons (pe_op op_cat (pe_call GL hr rfl Le.g Le.F.kp Le.b .nil pass0 (pa_cons (pv 0) (pa_cons (pv 5) pa_nil)))
        (pe_call GL hr rfl Le.g Le.F.kp Le.b .nil pass0 (pa_cons (pv 0) (pa_cons (pv 4) pa_nil)))) pa_nil))))))), ?_⟩
    have d0 := Dr.start hs
    obtain ⟨a1, ps, rfl, e1, Dp⟩ := dat_tup (ds := picks.map PyData.str) D1
    cases dats_strs_eq Dp
    obtain ⟨a2, us, rfl, e2, Do⟩ := dat_tup D2
    have ol := ok.ol
    have pl := ok.pl
    have a1p : a1 ≠ p := fun z => by
      obtain ⟨xs, hx⟩ := hs.lst
      rw [z, hx] at e1
      cases e1
    refine ⟨_, rfl, a2, rfl, ⟨_, SqT.of e2⟩, fun aL hL => ?_⟩
    refine lc_names (K := K) e2 Do hL (by omega) (fun _ _ => rfl) (fun _ _ => rfl) fun H5 eL S5 => ?_
    have d5 := d0.same S5
    have Lp := d0.ne hL
    have e15 := S5 _ _ e1
    refine ⟨_, rfl, _, _, rfl, .inl (SqL.of eL), _, rfl, p, _, 5, rfl, d5.s, by omega, by decide, by decide, fun r o r0 r1 hp6 => ⟨_, _, rfl, _, _, rfl, rfl, _, _, rfl, ?_⟩⟩
    have d6 := d5.src hp6
    have eL6 : upd H5 p o aL = some (.lst ((owns.map Prod.fst).map V.str)) := by rw [upd_ne Lp]; exact eL
    have e16 : upd H5 p o a1 = some (.tup (picks.map V.str)) := by rw [upd_ne a1p]; exact e15
    generalize upd H5 p o = H6 at d6 eL6 e16 ⊢
    rw [List.length_map, List.length_map]
    obtain ⟨n, en, hn⟩ := min_nat (x := 1 + (if r < 1 then r else 1)) (N := owns.length) (by split <;> omega)
    show ∃ n : Int, _
    rw [en]
    refine ⟨_, rfl, by omega, by omega, fun D hD => ?_⟩
    have hD0 := d6.free hD
    have Dp := d6.ne hD
    have nLD : aL ≠ D := ne_of_none eL6 hD
    have n1D : a1 ≠ D := ne_of_none e16 hD
    have d6n := d6.new (o := .lst []) hD
    refine lc_range (lo := 0) (n := ((n : Nat) : Int).toNat) (fun i H4 => ∃ (L W : List Str), H4 D = some (.lst (W.map V.str)) ∧ H4 aL = some (.lst (L.map V.str)) ∧ W.length = i ∧ (W ++ L).Perm (owns.map Prod.fst) ∧ Dr H p (c + 1 + i) H4 ∧ H4 a1 = some (.tup (picks.map V.str))) ?_ ?_ ?_
    · exact ⟨owns.map Prod.fst, [], upd_same, by rw [upd_ne nLD]; exact eL6, rfl, List.Perm.refl _, d6n, by rw [upd_ne n1D]; exact e16⟩
    · rintro i H4 hi ⟨L, W, eD, eL4, hW, pm, d4, e14⟩
      have len : W.length + L.length = owns.length := by rw [← List.length_append, pm.length_eq, List.length_map]
      refine ⟨rfl, yes_of ?_⟩
      refine ⟨_, rfl, .inl ⟨rfl, _, SqL.of eL4⟩, _, rfl, _, rfl, _, _, rfl, .inl (SqL.of eL4), p, _, _, rfl, d4.s, by omega, by rw [List.length_map]; omega, by rw [List.length_map]; omega, fun k o k0 k1 hp5 => ?_⟩
      rw [List.length_map] at k1
      have kl : k.toNat < L.length := by omega
      have pp := pop_perm L k.toNat kl
      have d7 := d4.src hp5
      have eL5 : upd H4 p o aL = some (.lst (L.map V.str)) := by rw [upd_ne Lp]; exact eL4
      have eD5 : upd H4 p o D = some (.lst (W.map V.str)) := by rw [upd_ne Dp]; exact eD
      have e17 : upd H4 p o a1 = some (.tup (picks.map V.str)) := by rw [upd_ne a1p]; exact e14
      have n1L : a1 ≠ aL := fun z => by
        rw [z, eL5] at e17
        cases e17
      refine ⟨aL, _, k, k.toNat, .str L[k.toNat], rfl, rfl, eL5, by omega, by omega, by rw [List.length_map]; exact seq_nat k0 k1, by rw [List.getElem?_map, List.getElem?_eq_getElem kl]; rfl, ?_⟩
      rw [map_erase]
      refine ⟨_, by rw [upd_ne nLD.symm]; exact eD5, by rw [List.length_map]; exact small1000 (by omega), L.eraseIdx k.toNat, W ++ [L[k.toNat]], by rw [upd_same, List.map_append]; rfl, by rw [upd_ne nLD, upd_same], by rw [List.length_append, hW]; rfl, ?_, ((d7.put hL Lp).put hD0 Dp).up (by omega), by rw [upd_ne n1D, upd_ne n1L]; exact e17⟩
      rw [List.append_assoc]
      exact ((List.Perm.refl W).append pp.symm).trans pm
    · rintro H4 ⟨L, W, eD, eL4, hW, pm, d4, e14⟩
      have ndA := ok.nd
      obtain ⟨ndP, ndO, dis⟩ := List.nodup_append.mp ndA
      have ndWL : (W ++ L).Nodup := pm.nodup_iff.mpr ndO
      have ndW := (List.nodup_append.mp ndWL).1
      have subW : ∀ y ∈ W, y ∈ owns.map Prod.fst := fun y hy => pm.mem_iff.mp (List.mem_append_left _ hy)
      refine ⟨_, rfl, _, rfl, _, rfl, p, _, 2, rfl, d4.s, by omega, by decide, by decide, fun r8 o8 r80 r81 hp8 => ⟨_, _, rfl, rfl, .inl ⟨by decide, by decide⟩, _, _, rfl, rfl, ?_⟩⟩
      have d8 := d4.src hp8
      have eD8 : upd H4 p o8 D = some (.lst (W.map V.str)) := by rw [upd_ne Dp]; exact eD
      have e18 : upd H4 p o8 a1 = some (.tup (picks.map V.str)) := by rw [upd_ne a1p]; exact e14
      generalize upd H4 p o8 = H8 at d8 eD8 e18 ⊢
      obtain ⟨k8, e8k⟩ : ∃ k : Nat, (3 : Int) + 3 * r8 = (k : Int) ∧ k ≤ 1000 := ⟨(3 + 3 * r8).toNat, by omega, by omega⟩
      refine ⟨p, a1, _, picks, k8, by rw [← e8k.1]; rfl, d8.s, by omega, .inr (SqT.of e18), ndP, by omega, e8k.2, fun b9 ys H9 ndy suby leny hb9 eb9 d9' => ?_⟩
      have d9 := d8.trans d9'
      have eD9 := d9'.keep eD8 Dp
      have b9p := d8.ne hb9
      refine ⟨_, rfl, _, rfl, p, b9, _, ys, rfl, d9.s, by omega, eb9, by omega, fun bA TA clA HA hbA ebA eTA eclA hTA dA' => ?_⟩
      have dA := d9.trans dA'
      have LA : Lt bA clA HA := ⟨TA, ebA, eTA, hTA⟩
      have bAp := d9.ne hbA
      have Wl : W.length ≤ owns.length := by
        have z : W.length + L.length = owns.length := by rw [← List.length_append, pm.length_eq, List.length_map]
        omega
      refine ⟨_, rfl, _, rfl, p, D, _, W, rfl, dA.s, by omega, dA'.keep eD9 Dp, by omega, fun bB TB clB HB hbB ebB eTB eclB hTB dB' => ?_⟩
      have dB := dA.trans dB'
      have LB : Lt bB clB HB := ⟨TB, ebB, eTB, hTB⟩
      have LA2 := LA.dr dB' dA.s bAp
      obtain ⟨xsA, exA, lenA⟩ := LA2.len
      obtain ⟨xsB, exB, lenB⟩ := LB.len
      have lA : clA.length = ys.length := by rw [← List.length_map (f := Prod.fst), eclA]
      have lB : clB.length = W.length := by rw [← List.length_map (f := Prod.fst), eclB]
      refine ⟨_, _, _, _, rfl, rfl, exA, exB, Nat.le_of_lt (small1000 (by omega)), fun l hl => ?_⟩
      have LC := Lt.cat LA2 LB exA exB hl
      have dC := dB.new (o := .lst (xsA ++ xsB)) hl
      obtain ⟨T, eT, eTc, hT⟩ := LC.ex
      have ndc : ((clA ++ clB).map Prod.fst).Nodup := by
        rw [List.map_append, eclA, eclB]
        exact List.nodup_append.mpr ⟨ndy, ndW, fun x hx y hy => dis x (suby x hx) y (subW y hy)⟩
      refine ⟨l, T, rfl, SqL.of eT, hT, sorty_of eTc alike_lt (fun x => ⟨_, rfl⟩) (fun x => by have := depth_lt x; omega), fun T' bE pmE _ upE hbE => .inl ⟨bE, _, rfl, SqL.of upd_same, fun t ht => ?_⟩⟩
      obtain ⟨cl', p2, eE, up2⟩ := letters_back pmE eTc ndc upE
      have dE := dC.new (o := .lst (T'.map TRow.v)) hbE
      refine q _ cl' _ (.tup upd_same ?_) ⟨up2, fun l hl => ?_⟩ ((dE.new ht).up (by omega))
      · rw [← eE]
        exact dats_rows fun r hr => dat_new ht (dat_new hbE (hT r (pmE.mem_iff.mp hr)))
      · have z : l.1 ∈ (clA ++ clB).map Prod.fst := List.mem_map_of_mem (p2.mem_iff.mp hl)
        rw [List.map_append, eclA, eclB] at z
        rcases List.mem_append.mp z with z | z
        · exact List.mem_append_left _ (suby _ z)
        · exact List.mem_append_right _ (subW _ z)
end
end S1

set_option Elab.async false
set_option linter.all false
set_option maxRecDepth 100000
set_option maxHeartbeats 4000000
/-! clauses with at most one letter of an own that is True, drawn -/
namespace S1
open PySem PySem.W PySem.Spec PyProof.Rows L2
section
variable {P : Program} {w : World} {K : PySem.W.Frag} {mg : Str → Option Value} {base : Heap}
abbrev nPl : List Str := ["tank", "picks", "owns", "own", "letters", "name", "sight"]
theorem ok_plainCl {f fP fL fS : Addr} {fd fdP fdL fdS : FuncData} (F : Fun K "_law_plain_clause" "_law_plain_clause" sPlainCl f fd) (Pk : Has K mg "_law_drop" sDrop ["tank", "many"] fP fdP) (Le : Has K mg "_law_letters" sLetters ["tank", "names"] fL fdL)
    (So : Has K mg "_law_some" sLSome ["tank", "names", "most"] fS fdS) (B : Blt mg) : FnOk P w K mg base CX0 3 f fd ["tank", "picks", "owns"] spCl := by
  have GP : FnOk P w K mg base CX0 1 fP fdP ["tank", "many"] spPick := ok_pick Pk.F B
  have GL : FnOk P w K mg base CX0 2 fL fdL ["tank", "names"] spLetters := ok_letters Le.F Pk B
  have GS : FnOk P w K mg base CX0 2 fS fdS ["tank", "names", "most"] (spLSome K) := ok_lSome So.F Pk B
  refine F.ok scPlainCl (fun vs H Q E h => ?_) (fun cdv A outer s H vs Q E hr h => ?_)
  · obtain ⟨p, c, a, b, m, v1, v2, picks, owns, rfl, _⟩ := h
    rfl
  · obtain ⟨p, c, a, b, m, v1, v2, picks, owns, rfl, hs, hc, D1, D2, ok, hab, q⟩ := h
    have hu : (A.deeper (envOfC "_law_plain_clause" (defScope sPlainCl) s.heap.objs.size f cdv)).units + 64 < cLine := hr.units
    have hr1 := hr.mono (show 1 ≤ 2 by decide)
    refine ⟨_, pss_cons (ps_set (i := 3) scPlainCl.nd rfl (.inl rfl) (pe_call GS hr rfl So.g So.F.kp So.b .nil pass0 (pa_cons (pv 0)
        (pa_cons (pe_lc (own := [("name", 5), ("sight", 6)]) (g := gTup K 2 (gCons (gName 5) (gCons (gName 6) gNil))) (tt := tYes) (te := tVar 5) rfl scPlainCl.nd (pi_tup (pv 2)) (blkOk_by (N := nPl) (sc := defScope sPlainCl) (by decide +kernel))
          (fun _ _ _ _ _ => by exact pg_tup rfl (pgs_cons (pg_name (i := 5) scPlainCl.nd rfl (.inl rfl)) (pgs_cons (pg_name (i := 6) scPlainCl.nd rfl (.inl rfl)) pgs_nil))) (fun _ _ _ _ _ => pts_nil) (fun _ _ _ _ _ => pv 5))
        (pa_cons (pe_op op_add pe_int (pe_op op_mul pe_int (pe_callTy call_int1 (by rfl) B.int (by decide +kernel) (pa_cons (pe_cmpR op_eq (pe_call GP hr1 rfl Pk.g Pk.F.kp Pk.b .nil pass0 (pa_cons (pv 0) (pa_cons pe_int pa_nil))) pe_int (nomark _)) pa_nil)))) pa_nil)))))
      (pss_cons (ps_set (i := 4) scPlainCl.nd rfl (.inl rfl) (pe_call GL hr rfl Le.g Le.F.kp Le.b .nil pass0 (pa_cons (pv 0) (pa_cons (pe_call GS hr rfl So.g So.F.kp So.b .nil pass0 (pa_cons (pv 0) (pa_cons (pv 1)
        (pa_cons (pe_op op_add pe_int (pe_op op_mul pe_int (pe_call GP hr1 rfl Pk.g Pk.F.kp Pk.b .nil pass0 (pa_cons (pv 0) (pa_cons pe_int pa_nil))))) pa_nil)))) pa_nil))))
      (pss_cons (ps_set (i := 4) scPlainCl.nd rfl (.inl rfl) (pe_op op_cat (pv 4) (pe_lc (own := [("name", 5)]) (g := gName 5) (tt := tYes) (te := tTup (tCons (tVar 5) (tCons (tC (V.bl false)) tNil))) rfl scPlainCl.nd (pi_list (pe_slice sl_list (pv 3) (po_some pe_int) po_none)) (blkOk_by (N := nPl) (sc := defScope sPlainCl) (by decide +kernel))
          (fun _ _ _ _ _ => pg_name (i := 5) scPlainCl.nd rfl (Or.inl rfl)) (fun _ _ _ _ _ => pts_nil) (fun _ _ _ _ _ => by exact pe_tup (pa_cons (pv 5) (pa_cons pe_bl pa_nil))))))
      (pss_one (ps_ret (pe_tupleOf rfl B.tuple (pe_callB (cr_sortL (by exact hu)) (by rfl) B.sorted (by decide +kernel) (pa_cons (pe_op op_cat (pv 4) (pe_lc (own := [("name", 5)]) (g := gName 5) (tt := tYes)
          (te := tTup (tCons (tVar 5) (tCons (tOp (rI0 fun i j => V.bl (decide (i > j))) (tCall spPick [] E0 (tCons (tVar 0) (tCons (tC (V.int 3)) tNil))) (tC (V.int 0))) tNil))) rfl scPlainCl.nd (pi_list (pe_slice sl_list (pv 3) po_none (po_some pe_int))) (blkOk_by (N := nPl) (sc := defScope sPlainCl) (by decide +kernel))
          (fun _ _ _ _ _ => pg_name (i := 5) scPlainCl.nd rfl (Or.inl rfl)) (fun _ _ _ _ _ => pts_nil)
          (fun _ _ _ _ _ => by exact pe_tup (pa_cons (pv 5) (pa_cons (pe_cmpR op_gt (pe_call GP (by exact hr1) (by rfl) Pk.g Pk.F.kp Pk.b .nil pass0 (pa_cons (pv 0) (pa_cons pe_int pa_nil))) pe_int (nomark _)) pa_nil))))) pa_nil))))))), ?_⟩
    have d0 := Dr.start hs
    obtain ⟨a1, ps, rfl, e1, Dp⟩ := dat_tup (ds := picks.map PyData.str) D1
    cases dats_strs_eq Dp
    obtain ⟨a2, us, rfl, e2, Do⟩ := dat_tup D2
    have ol := ok.ol
    have pl := ok.pl
    have ndA := ok.nd
    obtain ⟨ndP, ndO, dis⟩ := List.nodup_append.mp ndA
    have a1p : a1 ≠ p := fun z => by
      obtain ⟨xs, hx⟩ := hs.lst
      rw [z, hx] at e1
      cases e1
    refine ⟨_, rfl, _, rfl, a2, rfl, ⟨_, SqT.of e2⟩, fun aL hL => ?_⟩
    refine lc_names (K := K) e2 Do hL (by omega) (fun _ _ => rfl) (fun _ _ => rfl) fun H5 eL S5 => ?_
    have d5 := d0.same S5
    have Lp := d0.ne hL
    have e15 := S5 _ _ e1
    refine ⟨_, rfl, p, _, 3, rfl, d5.s, by omega, by decide, by decide, fun r o r0 r1 hp6 => ⟨rfl, .inr ⟨_, rfl, _, _, rfl, rfl, .inl ⟨by decide, by decide⟩, _, _, rfl, rfl, ?_⟩⟩⟩
    have d6 := d5.src hp6
    have eL6 : upd H5 p o aL = some (.lst ((owns.map Prod.fst).map V.str)) := by rw [upd_ne Lp]; exact eL
    have e16 : upd H5 p o a1 = some (.tup (picks.map V.str)) := by rw [upd_ne a1p]; exact e15
    generalize upd H5 p o = H6 at d6 eL6 e16 ⊢
    have lO : (owns.map Prod.fst).length = owns.length := List.length_map ..
    obtain ⟨k6, e6k, l6k⟩ : ∃ k : Nat, (4 : Int) + 4 * (if decide (V.int r = V.int 0) = true then 1 else 0) = (k : Int) ∧ k ≤ 1000 := by
      split
      · exact ⟨8, rfl, by decide⟩
      · exact ⟨4, rfl, by decide⟩
    refine ⟨p, aL, _, owns.map Prod.fst, k6, by rw [← e6k]; rfl, d6.s, by omega, .inl (SqL.of eL6), ndO, by omega, l6k, fun bO own H7 ndo subo leno hbO ebO d7' => ?_⟩
    have d7 := d6.trans d7'
    have e17 := d7'.keep e16 a1p
    have bOp := d6.ne hbO
    refine ⟨_, rfl, _, rfl, _, rfl, _, rfl, p, _, 2, rfl, d7.s, by omega, by decide, by decide, fun r8 o8 r80 r81 hp8 => ⟨_, _, rfl, rfl, .inl ⟨by decide, by decide⟩, _, _, rfl, rfl, ?_⟩⟩
    have d8 := d7.src hp8
    have eO8 : upd H7 p o8 bO = some (.lst (own.map V.str)) := by rw [upd_ne bOp]; exact ebO
    have e18 : upd H7 p o8 a1 = some (.tup (picks.map V.str)) := by rw [upd_ne a1p]; exact e17
    generalize upd H7 p o8 = H8 at d8 eO8 e18 ⊢
    obtain ⟨k8, e8k⟩ : ∃ k : Nat, (3 : Int) + 3 * r8 = (k : Int) ∧ k ≤ 1000 := ⟨(3 + 3 * r8).toNat, by omega, by omega⟩
    refine ⟨p, a1, _, picks, k8, by rw [← e8k.1]; rfl, d8.s, by omega, .inr (SqT.of e18), ndP, by omega, e8k.2, fun b9 ys H9 ndy suby leny hb9 eb9 d9' => ?_⟩
    have d9 := d8.trans d9'
    have eO9 := d9'.keep eO8 bOp
    refine ⟨p, b9, _, ys, rfl, d9.s, by omega, eb9, by omega, fun bA TA clA HA hbA ebA eTA eclA hTA dA' => ?_⟩
    have dA := d9.trans dA'
    have LA : Lt bA clA HA := ⟨TA, ebA, eTA, hTA⟩
    have eOA := dA'.keep eO9 bOp
    have lA : clA.length = ys.length := by rw [← List.length_map (f := Prod.fst), eclA]
    -- letters + [(name, False) for name in own[1:]]
    refine ⟨_, rfl, _, rfl, (1 : Nat), rfl, bO, _, rfl, SqL.of eOA, fun n1 hn1 => ?_⟩
    rw [cut_drop'] at *
    have dn := dA.new (o := .lst ((own.drop 1).map V.str)) hn1
    have Ln := LA.new (o := .lst ((own.drop 1).map V.str)) hn1
    have en : upd HA n1 (.lst ((own.drop 1).map V.str)) n1 = some (.lst ((own.drop 1).map V.str)) := upd_same
    have eOn : upd HA n1 (.lst ((own.drop 1).map V.str)) bO = some (.lst (own.map V.str)) := by rw [upd_ne (ne_of_none eOA hn1)]; exact eOA
    refine ⟨n1, rfl, ⟨_, SqL.of en⟩, fun D hD => ?_⟩
    have dn2 := dn.up (show _ ≤ c + 40 by omega)
    have nAD : bA ≠ D := ne_of_none (Ln.len.choose_spec.1) hD
    have n1D : n1 ≠ D := ne_of_none en hD
    have nOD : bO ≠ D := ne_of_none eOn hD
    have hD0 := dn2.free hD
    have Dp := dn2.ne hD
    have ld : (own.drop 1).length ≤ 14 := by rw [List.length_drop]; omega
    refine lc_list (K := K) (a := n1) (xs := (own.drop 1).map V.str) (fun j H4 => Lt D (((own.drop 1).take j).map fun x => (x, false)) H4 ∧ Lt bA clA H4 ∧ Dr H p (c + 40) H4 ∧ H4 n1 = some (.lst ((own.drop 1).map V.str)) ∧ H4 bO = some (.lst (own.map V.str)))
      ⟨⟨[], upd_same, rfl, fun q hq => absurd hq (by simp)⟩, Ln.new hD, dn2.new hD, by rw [upd_ne n1D]; exact en, by rw [upd_ne nOD]; exact eOn⟩ (fun j H4 _ ⟨_, _, _, e, _⟩ => SqL.of e) ?_ ?_
    · rintro j x H4 hx ⟨LD, LA4, d4, en4, eO4⟩
      rw [List.getElem?_map] at hx
      obtain ⟨y, hy, rfl⟩ := Option.map_eq_some_iff.mp hx
      have jl : j < (own.drop 1).length := (List.getElem?_eq_some_iff.mp hy).1
      refine ⟨rfl, yes_of ⟨_, rfl, (by show 2 ≤ sizeLine; decide), fun t ht => ?_⟩⟩
      have LD5 := LD.new (o := .tup [.str y, .bl false]) ht
      have LA5 := LA4.new (o := .tup [.str y, .bl false]) ht
      obtain ⟨xs, ex, lx⟩ := LD5.len
      have et : upd H4 t (.tup [.str y, .bl false]) t = some (.tup [.str y, .bl false]) := upd_same
      have LD6 := LD5.push ex et
      obtain ⟨xsA, exA, _⟩ := LA5.len
      have d5 := (d4.new (o := .tup [.str y, .bl false]) ht).put (o := .lst (xs ++ [.ref t])) hD0 Dp
      refine ⟨_, ex, by rw [lx, List.length_map, List.length_take]; exact small1000 (by omega), ?_, ⟨?_⟩, d5, by rw [upd_ne n1D, upd_ne (ne_of_none en4 ht)]; exact en4, by rw [upd_ne nOD, upd_ne (ne_of_none eO4 ht)]; exact eO4⟩
      · rw [take_next hy, List.map_append]
        exact LD6
      · obtain ⟨T, f1, f2, f3⟩ := LA5.ex
        exact ⟨T, by rw [upd_ne nAD]; exact f1, f2, fun q hq => dat_upd ex (keys_lt f2 q hq) (f3 q hq)⟩
    · rintro H4 ⟨LD, LA4, d4, en4, eO4⟩
      rw [List.length_map, List.take_length] at LD
      obtain ⟨xsA, exA, lenA⟩ := LA4.len
      obtain ⟨xsB, exB, lenB⟩ := LD.len
      rw [List.length_map] at lenB
      refine ⟨_, _, _, _, rfl, rfl, exA, exB, Nat.le_of_lt (small1000 (by omega)), fun l hl => ?_⟩
      have LC := Lt.cat LA4 LD exA exB hl
      have dC := d4.new (o := .lst (xsA ++ xsB)) hl
      have eOC : upd H4 l (.lst (xsA ++ xsB)) bO = some (.lst (own.map V.str)) := by rw [upd_ne (ne_of_none eO4 hl)]; exact eO4
      generalize upd H4 l (.lst (xsA ++ xsB)) = HC at LC dC eOC ⊢
      refine ⟨_, rfl, _, rfl, (1 : Nat), rfl, bO, _, rfl, SqL.of eOC, fun n2 hn2 => ?_⟩
      rw [cut_take] at *
      have dM := dC.new (o := .lst ((own.take 1).map V.str)) hn2
      have LM := LC.new (o := .lst ((own.take 1).map V.str)) hn2
      have eM : upd HC n2 (.lst ((own.take 1).map V.str)) n2 = some (.lst ((own.take 1).map V.str)) := upd_same
      generalize upd HC n2 (.lst ((own.take 1).map V.str)) = HM at dM LM eM ⊢
      refine ⟨n2, rfl, ⟨_, SqL.of eM⟩, fun D2 hD2 => ?_⟩
      have nlD2 : l ≠ D2 := ne_of_none (LM.len.choose_spec.1) hD2
      have n2D2 : n2 ≠ D2 := ne_of_none eM hD2
      have hD20 := dM.free hD2
      have D2p := dM.ne hD2
      have n2p : n2 ≠ p := dC.ne hn2
      have lp : l ≠ p := d4.ne hl
      have lt1 : (own.take 1).length ≤ 1 := List.length_take_le _ _
      refine lc_list (K := K) (a := n2) (xs := (own.take 1).map V.str) (fun j H5 => ∃ cl2 : List Ltr, cl2.map Prod.fst = (own.take 1).take j ∧ Lt D2 cl2 H5 ∧ Lt l (clA ++ (own.drop 1).map fun x => (x, false)) H5 ∧ Dr H p (c + 40 + j) H5 ∧ H5 n2 = some (.lst ((own.take 1).map V.str)))
        ⟨[], rfl, ⟨[], upd_same, rfl, fun q hq => absurd hq (by simp)⟩, LM.new hD2, dM.new hD2, by rw [upd_ne n2D2]; exact eM⟩ (fun j H4 _ ⟨_, _, _, _, _, e⟩ => SqL.of e) ?_ ?_
      · rintro j x H5 hx ⟨cl2, ecl, LD5, Ll5, d5, en5⟩
        rw [List.getElem?_map] at hx
        obtain ⟨y, hy, rfl⟩ := Option.map_eq_some_iff.mp hx
        have jl : j < (own.take 1).length := (List.getElem?_eq_some_iff.mp hy).1
        refine ⟨rfl, yes_of ⟨_, rfl, _, rfl, p, _, 3, rfl, d5.s, by omega, by decide, by decide, fun k6 o6 _ _ hp6 => ⟨_, _, rfl, rfl, (by show 2 ≤ sizeLine; decide), fun t ht => ?_⟩⟩⟩
        have d6 := d5.src hp6
        have LD6 := LD5.dr ((Dr.start d5.s).src hp6) d5.s D2p
        have Ll6 := Ll5.dr ((Dr.start d5.s).src hp6) d5.s lp
        have en6 : upd H5 p o6 n2 = some (.lst ((own.take 1).map V.str)) := by rw [upd_ne n2p]; exact en5
        generalize upd H5 p o6 = H6 at d6 LD6 Ll6 en6 ht ⊢
        have LD7 := LD6.new (o := .tup [.str y, .bl (decide (k6 > 0))]) ht
        have Ll7 := Ll6.new (o := .tup [.str y, .bl (decide (k6 > 0))]) ht
        have d7 := d6.new (o := .tup [.str y, .bl (decide (k6 > 0))]) ht
        have en7 : upd H6 t (.tup [.str y, .bl (decide (k6 > 0))]) n2 = some (.lst ((own.take 1).map V.str)) := by rw [upd_ne (ne_of_none en6 ht)]; exact en6
        have et : upd H6 t (.tup [.str y, .bl (decide (k6 > 0))]) t = some (.tup [.str y, .bl (decide (k6 > 0))]) := upd_same
        generalize upd H6 t (.tup [.str y, .bl (decide (k6 > 0))]) = H7 at LD7 Ll7 d7 en7 et ⊢
        obtain ⟨xs, ex, lx⟩ := LD7.len
        have LD8 := LD7.push ex et
        have lc2 : cl2.length ≤ 1 := by
          rw [← List.length_map (f := Prod.fst), ecl, List.length_take]
          omega
        refine ⟨_, ex, by rw [lx]; exact small1000 (by omega), cl2 ++ [(y, decide (k6 > 0))], by rw [List.map_append, ecl, take_next hy]; rfl, LD8, ⟨?_⟩, (d7.put hD20 D2p).up (by omega), by rw [upd_ne n2D2]; exact en7⟩
        obtain ⟨T, f1, f2, f3⟩ := Ll7.ex
        exact ⟨T, by rw [upd_ne nlD2]; exact f1, f2, fun q hq => dat_upd ex (keys_lt f2 q hq) (f3 q hq)⟩
      · rintro H5 ⟨cl2, ecl, LD5, Ll5, d5, en5⟩
        rw [List.length_map, List.take_length] at ecl
        rw [List.length_map] at d5
        obtain ⟨xsL, exL, lenL⟩ := Ll5.len
        obtain ⟨xsD, exD, lenD⟩ := LD5.len
        have l2 : cl2.length ≤ 1 := by rw [← List.length_map (f := Prod.fst), ecl]; exact lt1
        rw [List.length_append, List.length_map] at lenL
        refine ⟨_, _, _, _, rfl, rfl, exL, exD, Nat.le_of_lt (small1000 (by omega)), fun l9 hl9 => ?_⟩
        have L9 := Lt.cat Ll5 LD5 exL exD hl9
        have d9z := d5.new (o := .lst (xsL ++ xsD)) hl9
        obtain ⟨T, eT, eTc, hT⟩ := L9.ex
        have names : ((clA ++ (own.drop 1).map fun x => (x, false)) ++ cl2).map Prod.fst = ys ++ own.drop 1 ++ own.take 1 := by
          rw [List.map_append, List.map_append, eclA, ecl, List.map_map]
          congr 2
          exact List.map_id _
        have pmO : (own.drop 1 ++ own.take 1).Perm own := by
          have z : (own.take 1 ++ own.drop 1) = own := List.take_append_drop _ _
          exact (List.perm_append_comm).trans (.of_eq z)
        have ndc : (((clA ++ (own.drop 1).map fun x => (x, false)) ++ cl2).map Prod.fst).Nodup := by
          rw [names, List.append_assoc]
          exact List.nodup_append.mpr ⟨ndy, pmO.nodup_iff.mpr ndo, fun x hx y hy => dis x (suby x hx) y (subo y (pmO.mem_iff.mp hy))⟩
        refine ⟨l9, T, rfl, SqL.of eT, hT, sorty_of eTc alike_lt (fun x => ⟨_, rfl⟩) (fun x => by have := depth_lt x; omega), fun T' bE pmE _ upE hbE => .inl ⟨bE, _, rfl, SqL.of upd_same, fun t ht => ?_⟩⟩
        obtain ⟨cl', p2, eE, up2⟩ := letters_back pmE eTc ndc upE
        have dE := d9z.new (o := .lst (T'.map TRow.v)) hbE
        refine q _ cl' _ (.tup upd_same ?_) ⟨up2, fun l hl => ?_⟩ ((dE.new ht).up (by omega))
        · rw [← eE]
          exact dats_rows fun r hr => dat_new ht (dat_new hbE (hT r (pmE.mem_iff.mp hr)))
        · have z : l.1 ∈ ((clA ++ (own.drop 1).map fun x => (x, false)) ++ cl2).map Prod.fst := List.mem_map_of_mem (p2.mem_iff.mp hl)
          rw [names, List.append_assoc] at z
          rcases List.mem_append.mp z with z | z
          · exact List.mem_append_left _ (suby _ z)
          · exact List.mem_append_right _ (subo _ (pmO.mem_iff.mp z))
end
end S1

set_option Elab.async false
set_option linter.all false
set_option maxRecDepth 100000
set_option maxHeartbeats 4000000
/-! the clauses of a saying, drawn -/
namespace S1
open PySem PySem.W PySem.Spec PyProof.Rows L2
section
variable {X : Cx}
def rNeP : R2 := fun x y H Q => ∃ d e, Dat H x d ∧ Dat H y e ∧ d.plain = true ∧ e.plain = true ∧ d.depth ≤ 8 ∧ Q (.bl (!PyData.eqv d e)) H
theorem op_neP (hu : X.A.units + 64 < cLine) : OpR X (compareOp .NotEq) rNeP := by
  intro pins s σ H x y v u Q I rx ry h
  obtain ⟨d, e, D1, D2, p1, p2, dp, q⟩ := h
  obtain ⟨as, R1⟩ := reads_of_dat I.hok D1 rx
  obtain ⟨bs, R2⟩ := reads_of_dat I.hok D2 ry
  exact PySem.SeqAt.ne_plain R1 R2 p1 p2 (by have := Nat.min_le_left d.depth e.depth; omega) ⟨.bl _, H, I, rfl, q⟩
end
theorem plains_map {α : Type} (f : α → PyData) (h : ∀ x, (f x).plain = true) : ∀ l : List α, PyData.plainAll (l.map f) = true
  | [] => rfl
  | x :: l => by rw [List.map_cons, PyData.plainAll, h x, plains_map f h l]; rfl
theorem plain_cl (cl : List Ltr) : (clD cl).plain = true := plains_map ltD (fun _ => rfl) cl
/-- a list of clauses -/
structure Cs (ws : List Str) (D : Addr) (cls : List (List Ltr)) (G : Hp) : Prop where
  ex : ∃ T : List TRow, G D = some (.lst (T.map TRow.v)) ∧ T.map Prod.snd = cls.map clD ∧ ∀ q ∈ T, Dat G q.v q.2
  ok : ∀ cl ∈ cls, ClOk ws cl
theorem keys_cl {T : List TRow} {cls : List (List Ltr)} (e : T.map Prod.snd = cls.map clD) : ∀ q ∈ T, keyable q.2 = true := fun q hq => by
  have m : q.2 ∈ cls.map clD := e ▸ List.mem_map_of_mem hq
  obtain ⟨x, _, hx⟩ := List.mem_map.mp m
  rw [← hx]
  exact keyable_cl x
section
variable {D p t : Addr} {cls : List (List Ltr)} {G G2 : Hp} {c c0 : Nat} {o : HO} {ws : List Str}
theorem Cs.dr (h : Cs ws D cls G) (d : Dr G p c G2) (hs : Src G p c0) (n : D ≠ p) : Cs ws D cls G2 := by
  obtain ⟨T, e, e2, hT⟩ := h.ex
  exact ⟨⟨T, d.keep e n, e2, fun q hq => d.dat hs (keys_cl e2 q hq) (hT q hq)⟩, h.ok⟩
theorem Cs.new (h : Cs ws D cls G) (ht : G t = none) : Cs ws D cls (upd G t o) := by
  obtain ⟨T, e, e2, hT⟩ := h.ex
  exact ⟨⟨T, by rw [upd_ne (ne_of_none e ht)]; exact e, e2, fun q hq => dat_new ht (hT q hq)⟩, h.ok⟩
theorem Cs.len (h : Cs ws D cls G) : ∃ xs, G D = some (.lst xs) ∧ xs.length = cls.length := by
  obtain ⟨T, e, e2, _⟩ := h.ex
  exact ⟨_, e, by rw [List.length_map, ← List.length_map (f := Prod.snd), e2, List.length_map]⟩
theorem Cs.push {v : V} {cl : List Ltr} {xs : List V} (h : Cs ws D cls G) (eD : G D = some (.lst xs)) (Dv : Dat G v (clD cl)) (ck : ClOk ws cl) : Cs ws D (cls ++ [cl]) (upd G D (.lst (xs ++ [v]))) := by
  obtain ⟨T, e, e2, hT⟩ := h.ex
  rw [e] at eD
  cases eD
  obtain ⟨t, rfl⟩ := tuple_ref (ds := cl.map ltD) Dv
  refine ⟨⟨T ++ [(t, clD cl)], by rw [upd_same, List.map_append]; rfl, by rw [List.map_append, List.map_append, e2]; rfl, fun q hq => ?_⟩, fun cl' h' => ?_⟩
  · rcases List.mem_append.mp hq with m | m
    · exact dat_upd e (keys_cl e2 q m) (hT q m)
    · cases List.mem_singleton.mp m
      exact dat_upd e (keyable_cl cl) Dv
  · rcases List.mem_append.mp h' with y | y
    · exact h.ok cl' y
    · cases List.mem_singleton.mp y
      exact ck
theorem Cs.set {v : V} {cl : List Ltr} {xs : List V} {j : Nat} (h : Cs ws D cls G) (eD : G D = some (.lst xs)) (Dv : Dat G v (clD cl)) (ck : ClOk ws cl) : Cs ws D (cls.set j cl) (upd G D (.lst (xs.set j v))) := by
  obtain ⟨T, e, e2, hT⟩ := h.ex
  rw [e] at eD
  cases eD
  obtain ⟨t, rfl⟩ := tuple_ref (ds := cl.map ltD) Dv
  refine ⟨⟨T.set j (t, clD cl), by rw [upd_same, List.map_set], by rw [List.map_set, List.map_set, e2], fun q hq => ?_⟩, fun cl' h' => ?_⟩
  · rcases List.mem_or_eq_of_mem_set hq with m | m
    · exact dat_upd e (keys_cl e2 q m) (hT q m)
    · rw [m]
      exact dat_upd e (keyable_cl cl) Dv
  · rcases List.mem_or_eq_of_mem_set h' with y | y
    · exact h.ok cl' y
    · rw [y]
      exact ck
end
def spClauses : Sp := fun vs H Q _ => ∃ (p : Addr) (c a b m : Nat) (v1 v2 : V) (picks : List Str) (owns : List Own), vs = [.ref p, v1, v2] ∧ Src H p c ∧ c ≤ 30000 ∧ Dat H v1 (nmsD picks) ∧ Dat H v2 (.tuple (owns.map ownD)) ∧ FrOk a b m picks owns ∧ a + b ≤ 14 ∧
  ∀ (v : V) (cls : List (List Ltr)) (H' : Hp), Dat H' v (.tuple (cls.map clD)) → (∀ cl ∈ cls, ClOk (picks ++ owns.map Prod.fst) cl) → (cls.Pairwise fun x y => dataLt (clD x) (clD y) = true) → cls.length ≤ 40 → Dr H p (c + 6000) H' → Q v H'
abbrev nCls : List Str := ["tank", "picks", "owns", "kind", "found", "turn"]
section
variable {P : Program} {w : World} {K : PySem.W.Frag} {mg : Str → Option Value} {base : Heap}
theorem scClauses : FnScope nCls ["tank", "picks", "owns"] (defScope sClauses) := ⟨rfl, rfl, rfl, by decide +kernel, rfl, by decide +kernel, by decide +kernel⟩
theorem ok_clauses {f fP fQ fA fN fT : Addr} {fd fdP fdQ fdA fdN fdT : FuncData} (F : Fun K "_law_clauses" "_law_clauses" sClauses f fd) (Pk : Has K mg "_law_drop" sDrop ["tank", "many"] fP fdP) (Lp : Has K mg "_law_pick" sLPick ["tank", "things"] fQ fdQ)
    (An : Has K mg "_law_any_clause" sAnyCl ["tank", "picks", "owns"] fA fdA) (Pn : Has K mg "_law_plain_clause" sPlainCl ["tank", "picks", "owns"] fN fdN) (Tw : Has K mg "_law_twos_clause" sTwosCl ["tank", "picks", "owns"] fT fdT)
    (GA : FnOk P w K mg base CX0 3 fA fdA ["tank", "picks", "owns"] spCl) (GN : FnOk P w K mg base CX0 3 fN fdN ["tank", "picks", "owns"] spCl) (GT : FnOk P w K mg base CX0 3 fT fdT ["tank", "picks", "owns"] spCl) (B : Blt mg) :
    FnOk P w K mg base CX0 4 f fd ["tank", "picks", "owns"] spClauses := by
  have GP : FnOk P w K mg base CX0 1 fP fdP ["tank", "many"] spPick := ok_pick Pk.F B
  have GQ : FnOk P w K mg base CX0 2 fQ fdQ ["tank", "things"] spLPick := ok_lPick Lp.F Pk B
  refine F.ok scClauses (fun vs H Q E h => ?_) (fun cdv A outer s H vs Q E hr h => ?_)
  · obtain ⟨p, c, a, b, m, v1, v2, picks, owns, rfl, _⟩ := h
    rfl
  · obtain ⟨p, c, a, b, m, v1, v2, picks, owns, rfl, hs, hc, D1, D2, ok, hab, q⟩ := h
    have hu : (A.deeper (envOfC "_law_clauses" (defScope sClauses) s.heap.objs.size f cdv)).units + 64 < cLine := hr.units
    have hr1 := hr.mono (show 1 ≤ 3 by decide)
    have hr2 := hr.mono (show 2 ≤ 3 by decide)
    refine ⟨_, pss_cons (ps_par (i := 3) (j := 4) (by rfl) scClauses.nd rfl rfl (by decide) rfl rfl (pa_cons (pe_call GP hr1 rfl Pk.g Pk.F.kp Pk.b .nil pass0 (pa_cons (pv 0) (pa_cons pe_int pa_nil))) (pa_cons (pe_lst pa_nil) pa_nil)) (by rfl))
      (pss_cons (ps_for PassesOwn.never rfl (pi_range1 rfl B.range (pa_cons (pe_call GQ hr2 rfl Lp.g Lp.F.kp Lp.b .nil pass0 (pa_cons (pv 0) (pa_cons (pe_lst (pa_cons pe_int (pa_cons pe_int (pa_cons pe_int (pa_cons pe_int (pa_cons pe_int pa_nil)))))) pa_nil))) pa_nil)) (pg_name (i := 5) scClauses.nd rfl (.inl rfl))
        (pss_one (ps_if (pt_cmpR op_eq (pv 3) pe_int (nomark _))
          (pss_one (ps_expr (pe_bm PySem.F.plainAttrs_list PySem.F.slot_list_append PySem.F.type_list_append mt_append (pv 4) (pa_cons (pe_call GA hr rfl An.g An.F.kp An.b .nil pass0 (pa_cons (pv 0) (pa_cons (pv 1) (pa_cons (pv 2) pa_nil)))) pa_nil))))
          (pss_one (ps_if (PW.pt (pw_or (pt_cmpR op_eq (pv 3) pe_int (nomark _)) (pw_or1 (pt_cmpR op_eq (pe_callB call_len_seq (by rfl) B.len (by decide +kernel) (pa_cons (pv 2) pa_nil)) pe_int (nomark _)))))
            (pss_one (ps_expr (pe_bm PySem.F.plainAttrs_list PySem.F.slot_list_append PySem.F.type_list_append mt_append (pv 4) (pa_cons (pe_call GN hr rfl Pn.g Pn.F.kp Pn.b .nil pass0 (pa_cons (pv 0) (pa_cons (pv 1) (pa_cons (pv 2) pa_nil)))) pa_nil))))
            (pss_one (ps_expr (pe_bm PySem.F.plainAttrs_list PySem.F.slot_list_append PySem.F.type_list_append mt_append (pv 4) (pa_cons (pe_call GT hr rfl Tw.g Tw.F.kp Tw.b .nil pass0 (pa_cons (pv 0) (pa_cons (pv 1) (pa_cons (pv 2) pa_nil)))) pa_nil)))))))))
      (pss_cons (ps_for PassesOwn.never rfl (pi_range1 rfl B.range (pa_cons (pe_call GQ hr2 rfl Lp.g Lp.F.kp Lp.b .nil pass0 (pa_cons (pv 0) (pa_cons (pe_lst (pa_cons pe_int (pa_cons pe_int (pa_cons pe_int (pa_cons pe_int pa_nil))))) pa_nil))) pa_nil)) (pg_name (i := 5) scClauses.nd rfl (.inl rfl))
        (pss_one (ps_if (pt_cmpR (op_neP (by exact hu)) (pv 4) (pe_lst pa_nil) (nomark _))
          (pss_one (ps_asg (pe_call GA hr rfl An.g An.F.kp An.b .nil pass0 (pa_cons (pv 0) (pa_cons (pv 1) (pa_cons (pv 2) pa_nil))))
            (pg_sub (pv 4) (pe_call GP hr1 rfl Pk.g Pk.F.kp Pk.b .nil pass0 (pa_cons (pv 0) (pa_cons (pe_callB call_len_seq (by rfl) B.len (by decide +kernel) (pa_cons (pv 4) pa_nil)) pa_nil))) set_list))) pss_nil)))
      (pss_one (ps_ret (pe_tupleOf rfl B.tuple (pe_callB (cr_sortN rfl (by exact hu)) (by rfl) B.sorted (by decide +kernel) (pa_cons (pe_callTy (cr_setN rfl (by exact hu)) (by rfl) B.set (by decide +kernel) (pa_cons (pv 4) pa_nil)) pa_nil))))))), ?_⟩
    have d0 := Dr.start hs
    have k1 : keyable (nmsD picks) = true := keyable_nms picks
    have k2 : keyable (.tuple (owns.map ownD)) = true := by
      show keyables (owns.map ownD) = true
      exact keyables_map ownD keyable_own owns
    obtain ⟨a2, rfl⟩ := tuple_ref D2
    refine ⟨_, rfl, p, _, 4, rfl, hs, by omega, by decide, by decide, fun r o r0 r1 hp1 => ⟨(by show 0 ≤ sizeLine; decide), fun aF hF => ⟨_, _, rfl, ?_⟩⟩⟩
    have d1 := d0.src hp1
    have d2 := d1.new (o := .lst []) hF
    have hF0 := d1.free hF
    have Fp := d1.ne hF
    have C2 : Cs (picks ++ owns.map Prod.fst) aF [] (upd (upd H p o) aF (.lst [])) := ⟨⟨[], upd_same, rfl, fun q hq => absurd hq (by simp)⟩, fun cl h => absurd h (by simp)⟩
    refine gen_heap (F := fun G => Dr H p (c + 1) G ∧ Cs (picks ++ owns.map Prod.fst) aF [] G) ⟨d2, C2⟩ (fun G ⟨dG, CG⟩ => ?_)
    refine ⟨_, rfl, (by show 5 ≤ sizeLine; decide), fun l5 hl5 => ?_⟩
    have d3 := dG.new (o := .lst ([0, 1, 3, 12, 40].map V.int)) hl5
    have C3 := CG.new (o := .lst ([0, 1, 3, 12, 40].map V.int)) hl5
    refine ⟨p, l5, _, [0, 1, 3, 12, 40], rfl, d3.s, by omega, upd_same, dG.ne hl5, by decide, by decide, fun i5 o5 hi5 hp4 => ?_⟩
    have d4 := d3.src hp4
    have C4 := C3.dr ((Dr.start d3.s).src hp4) d3.s Fp
    have b5 : 0 ≤ i5 ∧ i5 ≤ 40 := by
      simp only [List.mem_cons, List.not_mem_nil, or_false] at hi5
      rcases hi5 with h | h | h | h | h <;> subst h <;> decide
    refine ⟨i5, rfl, by omega, by omega, ?_⟩
    refine for_range (lo := 0) (n := i5.toNat) (fun i σ H' => ∃ (cls : List (List Ltr)) (o5 : Option V), σ = [some (.ref p), some v1, some (.ref a2), some (.int r), some (.ref aF), o5] ∧
      Cs (picks ++ owns.map Prod.fst) aF cls H' ∧ cls.length = i ∧ Dr H p (c + 2 + 101 * i) H') ?_ ?_ ?_
    · exact ⟨[], _, rfl, C4, rfl, d4⟩
    · rintro i σ H' hi ⟨cls, o5, rfl, C5, lc, d5⟩
      have D15 := d5.dat hs k1 D1
      have D25 := d5.dat hs k2 D2
      obtain ⟨xs5, ex5, _⟩ := C5.len
      have fin : ∀ (v : V) (cl : List Ltr) (H6 : Hp), Dat H6 v (clD cl) → ClOk (picks ++ owns.map Prod.fst) cl → Dr H' p (c + 2 + 101 * i + 100) H6 →
          ∃ (l : Addr) (xs : List V) (y : V), V.ref aF = .ref l ∧ [v] = [y] ∧ H6 l = some (.lst xs) ∧ xs.length < sizeLine ∧ ∃ (cls : List (List Ltr)) (o5' : Option V), ([some (.ref p), some v1, some (.ref a2), some (.int r), some (.ref aF), some (.int (0 + (i : Int)))] : L2.St) = [some (.ref p), some v1, some (.ref a2), some (.int r), some (.ref aF), o5'] ∧
            Cs (picks ++ owns.map Prod.fst) aF cls (upd H6 l (.lst (xs ++ [y]))) ∧ cls.length = i + 1 ∧ Dr H p (c + 2 + 101 * (i + 1)) (upd H6 l (.lst (xs ++ [y]))) := fun v cl H6 Dv ck d6 => by
        have C6 := C5.dr d6 d5.s Fp
        obtain ⟨xs, ex, lx⟩ := C6.len
        exact ⟨aF, xs, v, rfl, rfl, ex, by rw [lx]; exact small1000 (by omega), cls ++ [cl], _, rfl, C6.push ex Dv ck, by rw [List.length_append, lc]; rfl, ((d5.trans d6).put hF0 Fp).up (by omega)⟩
      refine ⟨_, rfl, rfl, _, rfl, ?_⟩
      refine ite2 (fun _ => ?_) (fun _ => ?_)
      · exact ⟨_, rfl, .inl ⟨rfl, _, SqL.of ex5⟩, _, rfl, _, rfl, _, rfl, p, _, a, b, m, v1, .ref a2, picks, owns, rfl, d5.s, by omega, D15, D25, ok, hab, fin⟩
      · obtain ⟨b2, us, e2, eb2, _⟩ := dat_tup D25
        cases e2
        refine ⟨_, rfl, rfl, _, rfl, ?_⟩
        refine or_split (R := fun H7 => H7 = H') (fun H7 e7 => ?_) (fun _ k => k _ rfl) (fun _ k => ?_)
        · subst e7
          show if true = true then _ else _
          rw [if_pos rfl]
          exact ⟨_, rfl, .inl ⟨rfl, _, SqL.of ex5⟩, _, rfl, _, rfl, _, rfl, p, _, a, b, m, v1, .ref a2, picks, owns, rfl, d5.s, by omega, D15, D25, ok, hab, fin⟩
        · refine ⟨_, rfl, _, _, rfl, .inr (SqT.of eb2), rfl, _, rfl, ?_⟩
          by_cases hz : decide (V.int (us.length : Int) = V.int 0) = true
          · have z := k _ rfl
            show if decide (V.int (us.length : Int) = V.int 0) = true then _ else _
            rw [hz]
            exact z
          · show if decide (V.int (us.length : Int) = V.int 0) = true then _ else _
            rw [if_neg hz]
            exact ⟨_, rfl, .inl ⟨rfl, _, SqL.of ex5⟩, _, rfl, _, rfl, _, rfl, p, _, a, b, m, v1, .ref a2, picks, owns, rfl, d5.s, by omega, D15, D25, ok, hab, fin⟩
    · rintro σ H' ⟨cls, o5, rfl, C5, lc, d5⟩
      refine ⟨_, rfl, (by show 4 ≤ sizeLine; decide), fun l6 hl6 => ?_⟩
      have d6 := d5.new (o := .lst ([0, 0, 1, 2].map V.int)) hl6
      have C6 := C5.new (o := .lst ([0, 0, 1, 2].map V.int)) hl6
      refine ⟨p, l6, _, [0, 0, 1, 2], rfl, d6.s, by omega, upd_same, d5.ne hl6, by decide, by decide, fun i7 o7 hi7 hp7 => ?_⟩
      have d7 := d6.src hp7
      have C7 := C6.dr ((Dr.start d6.s).src hp7) d6.s Fp
      have b7 : 0 ≤ i7 ∧ i7 ≤ 2 := by
        simp only [List.mem_cons, List.not_mem_nil, or_false] at hi7
        rcases hi7 with h | h | h | h <;> subst h <;> decide
      refine ⟨i7, rfl, by omega, by omega, ?_⟩
      refine for_range (lo := 0) (n := i7.toNat) (fun i σ H' => ∃ (cls : List (List Ltr)) (o5 : Option V), σ = [some (.ref p), some v1, some (.ref a2), some (.int r), some (.ref aF), o5] ∧
        Cs (picks ++ owns.map Prod.fst) aF cls H' ∧ cls.length ≤ 40 ∧ Dr H p (c + 4500 + 102 * i) H') ?_ ?_ ?_
      · exact ⟨cls, _, rfl, C7, by omega, d7.up (by omega)⟩
      · rintro i σ H' hi ⟨cls, o5, rfl, C5, lc, d5⟩
        refine ⟨_, rfl, (by show 0 ≤ sizeLine; decide), fun l8 hl8 => ?_⟩
        have d8 := d5.new (o := .lst []) hl8
        have C8 := C5.new (o := .lst []) hl8
        have el8 : upd H' l8 (.lst []) l8 = some (.lst []) := upd_same
        generalize upd H' l8 (.lst []) = H8 at d8 C8 el8 ⊢
        obtain ⟨T, e8, e82, hT8⟩ := C8.ex
        refine ⟨.list (cls.map clD), .list [], by rw [← e82]; exact .lst e8 (dats_rows hT8), .lst el8 .nil, plains_map clD plain_cl cls, rfl, ?_, _, rfl, ?_⟩
        · have := depths_map clD 2 depth_cl cls
          simp only [PyData.depth]
          omega
        · refine ite2 (fun hne => ?_) (fun _ => ?_)
          · have ne0 : 0 < cls.length := by
              cases cls with
              | nil => exact absurd hne (by decide +kernel)
              | cons _ _ => exact Nat.succ_pos _
            refine ⟨_, rfl, _, rfl, _, rfl, p, _, a, b, m, v1, .ref a2, picks, owns, rfl, d8.s, by omega, d8.dat hs k1 D1, d8.dat hs k2 D2, ok, hab, fun v cl H9 Dv ck d9 => ?_⟩
            have C9 := C8.dr d9 d8.s Fp
            obtain ⟨xs, ex, lx⟩ := C9.len
            refine ⟨_, rfl, _, rfl, _, rfl, _, _, rfl, .inl (SqL.of ex), p, _, _, rfl, d9.s, by omega, by omega, by omega, fun k o9 k0 k1' hpA => ?_⟩
            have dA := (d8.trans d9).src hpA
            have CA := C9.dr ((Dr.start d9.s).src hpA) d9.s Fp
            have exA : upd H9 p o9 aF = some (.lst xs) := by rw [upd_ne Fp]; exact ex
            have DvA : Dat (upd H9 p o9) v (clD cl) := ((Dr.start d9.s).src hpA).dat d9.s (keyable_cl cl) Dv
            refine ⟨aF, xs, k, k.toNat, rfl, rfl, exA, ?_, cls.set k.toNat cl, _, rfl, CA.set exA DvA ck, by rw [List.length_set]; exact lc, (dA.put hF0 Fp).up (by omega)⟩
            unfold ixN
            rw [if_pos k0, if_pos k1']
          · exact ⟨cls, _, rfl, C8, lc, d8.up (by omega)⟩
      · rintro σ H' ⟨cls, o5, rfl, C5, lc, d5⟩
        obtain ⟨T, eT, eTc, hT⟩ := C5.ex
        have soC : Sorty T := sorty_of eTc alike_cl (fun x => ⟨_, rfl⟩) (fun x => by have := depth_cl x; omega)
        have kC := keys_cl eTc
        have lT : T.length = cls.length := by rw [← List.length_map (f := Prod.snd), eTc, List.length_map]
        refine ⟨_, rfl, aF, T, rfl, SqL.of eT, hT, soC, kC, by omega, fun aS T2 hS sub2 all2 nd2 => ?_⟩
        have d8 := d5.new (o := SetNO w aS (T2.map TRow.n)) hS
        refine ⟨aS, T2, rfl, upd_same, fun q hq => (hT q (sub2 q hq)).same (same_new hS), soC.sub sub2, fun q hq => kC q (sub2 q hq), fun T3 b3 pm3 up3 hb3 => .inl ⟨b3, _, rfl, SqL.of upd_same, fun t3 ht3 => ?_⟩⟩
        have inC : ∀ d' ∈ T3.map Prod.snd, d' ∈ cls.map clD := fun d' h' => by
          obtain ⟨y, hy, rfl⟩ := List.mem_map.mp h'
          rw [← eTc]
          exact List.mem_map_of_mem (sub2 y (pm3.mem_iff.mp hy))
        obtain ⟨cls', ec, subc⟩ := sub_back (f := clD) (m := cls) (T3.map Prod.snd) inC
        have lenC : cls'.length ≤ 40 := by
          have y1 : T2.length ≤ T.length := by
            have y := nodup_le (m := T.map Prod.snd) nd2 fun x hx => by
              obtain ⟨q', hq', rfl⟩ := List.mem_map.mp hx
              exact List.mem_map_of_mem (sub2 q' hq')
            rwa [List.length_map, List.length_map] at y
          have y2 : cls'.length = T3.length := by rw [← List.length_map (f := clD), ← ec, List.length_map]
          rw [y2, pm3.length_eq]
          omega
        have upc : cls'.Pairwise fun x y => dataLt (clD x) (clD y) = true := by
          have y : (T3.map Prod.snd).Pairwise fun d e => dataLt d e = true := List.pairwise_map.mpr up3
          rw [ec] at y
          exact List.pairwise_map.mp y
        refine q _ cls' _ (.tup upd_same ?_) (fun cl h => C5.ok cl (subc cl h)) upc lenC (((d8.new hb3).new ht3).up (by omega))
        rw [← ec]
        exact dats_rows fun q' hq' => dat_new ht3 (dat_new hb3 ((hT q' (sub2 q' (pm3.mem_iff.mp hq'))).same (same_new hS)))
end
end S1

set_option Elab.async false
set_option linter.all false
set_option maxRecDepth 100000
set_option maxHeartbeats 4000000
/-! sights, owns, clauses of a saying: told to be such -/
namespace S1
open PySem PySem.W PySem.Spec PyProof.Rows L2
/-- a def is there, and is as promised -/
def Good (P : Program) (w : World) (K : PySem.W.Frag) (mg : Str → Option Value) (base : Heap) (k : Nat) (x : Str) (st : Stmt) (ps : List Str) (sp : Sp) : Prop :=
  ∃ (f : Addr) (fd : FuncData), Has K mg x st ps f fd ∧ FnOk P w K mg base CX0 k f fd ps sp
/-- a def is there -/
def There (K : PySem.W.Frag) (mg : Str → Option Value) (x : Str) (st : Stmt) (ps : List Str) : Prop := ∃ (f : Addr) (fd : FuncData), Has K mg x st ps f fd
structure Shp (K : PySem.W.Frag) (mg : Str → Option Value) : Prop where
  isTruth : There K mg "is_truth" sIsTruth ["value"]
  isTuple : There K mg "is_tuple" sIsTuple ["value", "most"]
  isPair : There K mg "is_pair" sIsPair ["value"]
  isRising : There K mg "is_rising" sIsRising ["parts"]
  isName : There K mg "is_name" sIsName ["value"]
  isLetter : There K mg "is_letter" sIsLetter ["value"]
  isAnyClause : There K mg "is_any_clause" sIsAnyClause ["value"]
  areNames : There K mg "are_names" sAreNames ["value", "most"]
  isSight : There K mg "is_sight" sIsSight ["value", "picks"]
  isOwn : There K mg "is_own" sIsOwn ["value", "picks"]
  areOwns : There K mg "are_owns" sAreOwns ["value", "picks"]
  isClauseOver : There K mg "is_clause_over" sIsClauseOver ["value", "names"]
  areClauses : There K mg "are_clauses" sAreClauses ["value", "names"]
  namesOf : There K mg "names_of" sNamesOf ["picks", "owns"]
  fitsSaying : There K mg "fits_saying" sFitsSaying ["value"]
/-- all that the text is made of, as far as these defs go -/
structure Env1 (K : PySem.W.Frag) (mg : Str → Option Value) : Prop where
  B : Blt mg
  C : Cst mg
  Y : Shp K mg
def spIsSight : Sp := fun vs H Q _ => ∃ (v u : V) (s ps : List Str), vs = [v, u] ∧ Dat H v (nmsD s) ∧ Dat H u (nmsD ps) ∧ s.Pairwise tlt ∧ (∀ x ∈ s, Nm x) ∧ (∀ x ∈ s, x ∈ ps) ∧ s.length ≤ ps.length ∧ ps.length ≤ 1000 ∧ ∀ H', Same H H' → Q (.bl true) H'
def spIsOwn : Sp := fun vs H Q _ => ∃ (v u : V) (o : Own) (ps : List Str), vs = [v, u] ∧ Dat H v (ownD o) ∧ Dat H u (nmsD ps) ∧ Nm o.1 ∧ o.1 ∉ ps ∧ o.2.Pairwise tlt ∧ (∀ x ∈ o.2, Nm x) ∧ (∀ x ∈ o.2, x ∈ ps) ∧ o.2.length ≤ ps.length ∧ ps.length ≤ 1000 ∧ ∀ H', Same H H' → Q (.bl true) H'
section
variable {P : Program} {w : World} {K : PySem.W.Frag} {mg : Str → Option Value} {base : Heap}
theorem g_isTruth (e : Env1 K mg) : Good P w K mg base 1 "is_truth" sIsTruth ["value"] spIsTruth := by
  obtain ⟨f, fd, h⟩ := e.Y.isTruth
  exact ⟨f, fd, h, ok_isTruth h.F⟩
theorem g_isTuple (e : Env1 K mg) : Good P w K mg base 1 "is_tuple" sIsTuple ["value", "most"] spIsTuple := by
  obtain ⟨f, fd, h⟩ := e.Y.isTuple
  exact ⟨f, fd, h, ok_isTuple h.F e.B⟩
theorem g_isPair (e : Env1 K mg) : Good P w K mg base 1 "is_pair" sIsPair ["value"] spIsPair := by
  obtain ⟨f, fd, h⟩ := e.Y.isPair
  exact ⟨f, fd, h, ok_isPair h.F e.B⟩
theorem g_isRising (e : Env1 K mg) : Good P w K mg base 1 "is_rising" sIsRising ["parts"] (spIsRising K) := by
  obtain ⟨f, fd, h⟩ := e.Y.isRising
  exact ⟨f, fd, h, ok_isRising h.F e.B⟩
theorem g_isName (e : Env1 K mg) : Good P w K mg base 1 "is_name" sIsName ["value"] spIsName := by
  obtain ⟨f, fd, h⟩ := e.Y.isName
  exact ⟨f, fd, h, ok_isName h.F e.B e.C⟩
theorem g_isLetter (e : Env1 K mg) : Good P w K mg base 2 "is_letter" sIsLetter ["value"] spIsLetter := by
  obtain ⟨f, fd, h⟩ := e.Y.isLetter
  obtain ⟨_, _, h1⟩ := e.Y.isPair
  obtain ⟨_, _, h2⟩ := e.Y.isName
  obtain ⟨_, _, h3⟩ := e.Y.isTruth
  exact ⟨f, fd, h, ok_isLetter h.F h1 h2 h3 e.B e.C⟩
theorem g_isAnyClause (e : Env1 K mg) : Good P w K mg base 3 "is_any_clause" sIsAnyClause ["value"] spIsAnyClause := by
  obtain ⟨f, fd, h⟩ := e.Y.isAnyClause
  obtain ⟨_, _, h1, g1⟩ := g_isLetter (P := P) (w := w) (base := base) e
  obtain ⟨_, _, h2⟩ := e.Y.isRising
  exact ⟨f, fd, h, ok_isAnyClause h.F h1 g1 h2 e.B⟩
theorem g_areNames (e : Env1 K mg) : Good P w K mg base 2 "are_names" sAreNames ["value", "most"] spAreNames := by
  obtain ⟨f, fd, h⟩ := e.Y.areNames
  obtain ⟨_, _, h1⟩ := e.Y.isTuple
  obtain ⟨_, _, h2⟩ := e.Y.isName
  obtain ⟨_, _, h3⟩ := e.Y.isRising
  exact ⟨f, fd, h, ok_areNames h.F h1 h2 h3 e.B e.C⟩
theorem scIsSight : FnScope ["value", "picks", "name"] ["value", "picks"] (defScope sIsSight) := ⟨rfl, rfl, rfl, by decide +kernel, rfl, by decide +kernel, by decide +kernel⟩
theorem scIsOwn : FnScope ["value", "picks"] ["value", "picks"] (defScope sIsOwn) := ⟨rfl, rfl, rfl, by decide +kernel, rfl, by decide +kernel, by decide +kernel⟩
theorem g_isSight (e : Env1 K mg) : Good P w K mg base 3 "is_sight" sIsSight ["value", "picks"] spIsSight := by
  obtain ⟨f, fd, h⟩ := e.Y.isSight
  obtain ⟨fA, fdA, An, GA⟩ := g_areNames (P := P) (w := w) (base := base) e
  refine ⟨f, fd, h, ?_⟩
  refine h.F.ok scIsSight (fun vs H Q E h => ?_) (fun cdv A outer s H vs Q E hr h => ?_)
  · obtain ⟨v, u, s, ps, rfl, _⟩ := h
    rfl
  · obtain ⟨v, u, s, ps, rfl, D, Dp, up, nm, sub, le, len, q⟩ := h
    refine ⟨_, pss_one (ps_ret (pe_and (pe_call GA hr rfl An.g An.F.kp An.b .nil pass0 (pa_cons (pv 0) (pa_cons (pe_callB call_len_seq (by rfl) e.B.len (by decide +kernel) (pa_cons (pv 1) pa_nil)) pa_nil)))
      (pe_one (pe_callB (cr_all rfl) (by rfl) e.B.all (by decide +kernel) (pa_cons (pe_lc (own := [("name", 2)]) (g := gName 2) (tt := tYes) (te := tOp (rIn K false) (tVar 2) (tVar 1)) rfl scIsSight.nd (pi_tup (pv 0))
        (blkOk_by (N := ["value", "picks", "name"]) (sc := defScope sIsSight) (by decide +kernel)) (fun _ _ _ _ _ => pg_name (i := 2) scIsSight.nd rfl (Or.inl rfl)) (fun _ _ _ _ _ => pts_nil)
        (fun _ _ _ _ _ => by exact pe_cmpR op_in_seq (pv 2) (pv 1) (by with_unfolding_all rfl))) pa_nil))))), ?_⟩
    obtain ⟨a, us, rfl, ea, Da⟩ := dat_tup (ds := s.map PyData.str) D
    cases dats_strs_eq Da
    obtain ⟨b, ups, rfl, eb, Db⟩ := dat_tup (ds := ps.map PyData.str) Dp
    cases dats_strs_eq Db
    refine ⟨_, rfl, _, rfl, _, _, rfl, .inr (SqT.of eb), .ref a, s, _, rfl, D, up, nm, by rw [List.length_map]; omega, by omega, fun H' S => ⟨true, rfl, ?_⟩⟩
    show if true = true then _ else _
    rw [if_pos rfl]
    refine ⟨_, rfl, a, rfl, ⟨_, SqT.of (S _ _ ea)⟩, fun D0 hD0 => lc_allT (K := K) (SqT.of (S _ _ ea)) hD0 (by rw [List.length_map]; omega) (fun i x H4 Qe hx S4 k => ?_) gName_mono (fun H5 e5 S5 => ?_)⟩
    · rw [List.getElem?_map] at hx
      obtain ⟨y, hy, rfl⟩ := Option.map_eq_some_iff.mp hx
      refine ⟨rfl, _, rfl, _, rfl, b, _, rfl, .inr (SqT.of (S4 _ _ (S _ _ eb))), rfl, flat_strs ps, ?_⟩
      show Qe (.bl (inV (V.str y) (ps.map V.str))) H4
      rw [inV_str, decide_eq_true (sub y (List.mem_of_getElem? hy))]
      exact k H4 (Same.refl _)
    · refine ⟨D0, _, rfl, SqL.of e5, ?_⟩
      show Q (.bl _) H5
      rw [trues_all]
      exact q H5 (S.trans S5)
theorem g_isOwn (e : Env1 K mg) : Good P w K mg base 4 "is_own" sIsOwn ["value", "picks"] spIsOwn := by
  obtain ⟨f, fd, h⟩ := e.Y.isOwn
  obtain ⟨fP, fdP, Pr, GP⟩ := g_isPair (P := P) (w := w) (base := base) e
  obtain ⟨fN, fdN, Nn, GN⟩ := g_isName (P := P) (w := w) (base := base) e
  obtain ⟨fS, fdS, Si, GS⟩ := g_isSight (P := P) (w := w) (base := base) e
  refine ⟨f, fd, h, ?_⟩
  refine h.F.ok scIsOwn (fun vs H Q E h => ?_) (fun cdv A outer s H vs Q E hr h => ?_)
  · obtain ⟨v, u, o, ps, rfl, _⟩ := h
    rfl
  · obtain ⟨v, u, o, ps, rfl, D, Dp, no, out, up, nm, sub, le, len, q⟩ := h
    have hr1 := hr.mono (show 1 ≤ 3 by decide)
    refine ⟨_, pss_cons (ps_if (PW.pt (pw_or (pt_not (pt_val (pe_call GP hr1 rfl Pr.g Pr.F.kp Pr.b .nil pass0 (pa_cons (pv 0) pa_nil)))) (pw_or (pt_not (pt_val (pe_call GN hr1 rfl Nn.g Nn.F.kp Nn.b .nil pass0 (pa_cons (pe_ix ix_tup (pv 0) pe_int (fun _ _ => rfl)) pa_nil))))
        (pw_or1 (pt_cmpR op_in_seq (pe_ix ix_tup (pv 0) pe_int (fun _ _ => rfl)) (pv 1) (by with_unfolding_all rfl)))))) (pss_one (ps_ret pe_bl)) pss_nil)
      (pss_one (ps_ret (pe_call GS hr rfl Si.g Si.F.kp Si.b .nil pass0 (pa_cons (pe_ix ix_tup (pv 0) pe_int (fun _ _ => rfl)) (pa_cons (pv 1) pa_nil))))), ?_⟩
    obtain ⟨a, us, rfl, ea, Da⟩ := dat_tup (ds := [.str o.1, nmsD o.2]) D
    cases Da with
    | @cons v1 d1 _ _ h1 Da =>
      cases h1
      cases Da with
      | @cons v2 d2 _ _ h2 Da =>
        cases Da
        obtain ⟨b, ups, rfl, eb, Db⟩ := dat_tup (ds := ps.map PyData.str) Dp
        cases dats_strs_eq Db
        refine ⟨_, rfl, a, _, _, rfl, ea, true, rfl, ?_⟩
        show if (!true) = true then _ else _
        rw [if_neg (by decide)]
        refine ⟨_, rfl, a, _, 0, _, rfl, rfl, SqT.of ea, rfl, o.1, rfl, no, fun H' S => ⟨true, rfl, ?_⟩⟩
        show if (!true) = true then _ else _
        rw [if_neg (by decide)]
        refine ⟨_, rfl, a, _, 0, _, rfl, rfl, SqT.of (S _ _ ea), rfl, _, rfl, b, _, rfl, .inr (SqT.of (S _ _ eb)), rfl, flat_strs ps, _, rfl, ?_⟩
        show if inV (V.str o.1) (ps.map V.str) = true then _ else _
        rw [inV_str, decide_eq_false out, if_neg (by decide)]
        exact ⟨_, rfl, a, _, 1, _, rfl, rfl, SqT.of (S _ _ ea), rfl, _, rfl, v2, .ref b, o.2, ps, rfl, h2.same S, Dp.same S, up, nm, sub, le, len, fun H2 S2 => q H2 (S.trans S2)⟩
end
end S1

set_option Elab.async false
set_option linter.all false
set_option maxRecDepth 100000
set_option maxHeartbeats 4000000
/-! sayings told to be such -/
namespace S1
open PySem PySem.W PySem.Spec PyProof.Rows L2
theorem tlt_irrefl (x : Str) : ¬ tlt x x := fun h => by
  have z := dataLt_irrefl (.str x)
  rw [dataLt_str, decide_eq_false_iff_not] at z
  exact z h
theorem nodup_tlt {xs : List Str} (h : xs.Pairwise tlt) : xs.Nodup := List.Pairwise.imp (fun {a b} z => fun e : a = b => tlt_irrefl b (by rw [e] at z; exact z)) h
abbrev sizeI (o : Own) : Int := 1 * 2 ^ ((o.2.map V.str).length : Int).toNat
theorem sizes_sum (os : List Own) : (os.map sizeI).sum = (copies os : Int) := by
  induction os with
  | nil => rfl
  | cons o os ih =>
    rw [List.map_cons, List.sum_cons, ih]
    show (1 : Int) * 2 ^ ((o.2.map V.str).length : Int).toNat + (copies os : Int) = ((2 ^ o.2.length + copies os : Nat) : Int)
    rw [List.length_map, Int.toNat_natCast, Int.one_mul]
    push_cast
    rfl
theorem cl_len {ns : List Str} {cl : List Ltr} (h : ClOk ns cl) : cl.length ≤ ns.length := by
  have nd : (cl.map Prod.fst).Nodup := nodup_tlt (List.pairwise_map.mpr h.up)
  have z := nodup_le nd fun x hx => by
    obtain ⟨l, hl, rfl⟩ := List.mem_map.mp hx
    exact h.mem l hl
  rwa [List.length_map] at z
/-- an own of a saying with these picks -/
structure OwnOk (ps : List Str) (o : Own) : Prop where
  n : Nm o.1
  out : o.1 ∉ ps
  up : o.2.Pairwise tlt
  nm : ∀ x ∈ o.2, Nm x
  sub : ∀ x ∈ o.2, x ∈ ps
  le : o.2.length ≤ ps.length
theorem SayOk.own {a b c d : Nat} {s : Say} (h : SayOk a b c d s) {o : Own} (ho : o ∈ s.owns) : OwnOk s.picks o := by
  obtain ⟨h1, h2, h3, h4⟩ := h.on o ho
  exact ⟨h1, h2, h3, fun x hx => h.pn x (h4 x hx), h4, nodup_le (nodup_tlt h3) h4⟩
def spAreOwns : Sp := fun vs H Q _ => ∃ (v u : V) (os : List Own) (ps : List Str), vs = [v, u] ∧ DatO H v os ∧ Dat H u (nmsD ps) ∧ (∀ o ∈ os, OwnOk ps o) ∧ (os.Pairwise fun x y => tlt x.1 y.1) ∧ os.length ≤ 8 ∧ copies os ≤ 120 ∧ ps.length ≤ 1000 ∧ ∀ H', Same H H' → Q (.bl true) H'
def spIsClauseOver : Sp := fun vs H Q _ => ∃ (v : V) (b : Addr) (cl : List Ltr) (ns : List Str), vs = [v, .ref b] ∧ Dat H v (clD cl) ∧ H b = some (.lst (ns.map V.str)) ∧ ClOk ns cl ∧ (∀ x ∈ ns, Nm x) ∧ ns.length ≤ 1000 ∧ ∀ H', Same H H' → Q (.bl true) H'
def spAreClauses : Sp := fun vs H Q _ => ∃ (v : V) (b : Addr) (cls : List (List Ltr)) (ns : List Str), vs = [v, .ref b] ∧ Dat H v (.tuple (cls.map clD)) ∧ H b = some (.lst (ns.map V.str)) ∧ (∀ cl ∈ cls, ClOk ns cl) ∧ (∀ x ∈ ns, Nm x) ∧ ns.length ≤ 1000 ∧
  cls.length ≤ 40 ∧ (cls.Pairwise fun x y => dataLt (clD x) (clD y) = true) ∧ ∀ H', Same H H' → Q (.bl true) H'
def spNamesOf : Sp := fun vs H Q _ => ∃ (u v : V) (ps : List Str) (os : List Own), vs = [u, v] ∧ Dat H u (nmsD ps) ∧ DatO H v os ∧ ps.length ≤ 500 ∧ os.length ≤ 500 ∧ ∀ (l : Addr) (H' : Hp), Same H H' → H l = none → H' l = some (.lst ((ps ++ os.map Prod.fst).map V.str)) → Q (.ref l) H'
section
variable {P : Program} {w : World} {K : PySem.W.Frag} {mg : Str → Option Value} {base : Heap}
theorem scAreOwns : FnScope ["value", "picks", "part", "own"] ["value", "picks"] (defScope sAreOwns) := ⟨rfl, rfl, rfl, by decide +kernel, rfl, by decide +kernel, by decide +kernel⟩
theorem scIsClauseOver : FnScope ["value", "names", "letter"] ["value", "names"] (defScope sIsClauseOver) := ⟨rfl, rfl, rfl, by decide +kernel, rfl, by decide +kernel, by decide +kernel⟩
theorem scAreClauses : FnScope ["value", "names", "part"] ["value", "names"] (defScope sAreClauses) := ⟨rfl, rfl, rfl, by decide +kernel, rfl, by decide +kernel, by decide +kernel⟩
theorem scNamesOf : FnScope ["picks", "owns", "own"] ["picks", "owns"] (defScope sNamesOf) := ⟨rfl, rfl, rfl, by decide +kernel, rfl, by decide +kernel, by decide +kernel⟩
theorem g_areOwns (e : Env1 K mg) : Good P w K mg base 5 "are_owns" sAreOwns ["value", "picks"] spAreOwns := by
  obtain ⟨f, fd, h⟩ := e.Y.areOwns
  obtain ⟨fU, fdU, Tu, GU⟩ := g_isTuple (P := P) (w := w) (base := base) e
  obtain ⟨fO, fdO, Ow, GO⟩ := g_isOwn (P := P) (w := w) (base := base) e
  obtain ⟨fR, fdR, Ri, GR⟩ := g_isRising (P := P) (w := w) (base := base) e
  obtain ⟨t1, c1⟩ := e.C.owns
  obtain ⟨t2, c2⟩ := e.C.copies
  refine ⟨f, fd, h, ?_⟩
  refine h.F.ok scAreOwns (fun vs H Q E h => ?_) (fun cdv A outer s H vs Q E hr h => ?_)
  · obtain ⟨v, u, os, ps, rfl, _⟩ := h
    rfl
  · obtain ⟨v, u, os, ps, rfl, D, Dp, good, up, len, cop, lp, q⟩ := h
    have hr1 := hr.mono (show 1 ≤ 4 by decide)
    refine ⟨_, pss_cons (ps_if (PW.pt (pw_or (pt_not (pt_val (pe_call GU hr1 rfl Tu.g Tu.F.kp Tu.b .nil pass0 (pa_cons (pv 0) (pa_cons (pe_glob (v := V.int 8) rfl c1 ⟨_, rfl⟩) pa_nil)))))
        (pw_or1 (pt_not (pt_val (pe_callB (cr_all rfl) (by rfl) e.B.all (by decide +kernel) (pa_cons (pe_lc (own := [("part", 2)]) (g := gName 2) (tt := tYes) rfl scAreOwns.nd (pi_tup (pv 0))
          (blkOk_by (N := ["value", "picks", "part", "own"]) (sc := defScope sAreOwns) (by decide +kernel)) (fun _ _ _ _ _ => pg_name (i := 2) scAreOwns.nd rfl (Or.inl rfl)) (fun _ _ _ _ _ => pts_nil)
          (fun _ _ _ _ _ => pe_call GO (by exact hr) (by rfl) Ow.g Ow.F.kp Ow.b .nil pass0 (pa_cons (pv 2) (pa_cons (pv 1) pa_nil)))) pa_nil))))))) (pss_one (ps_ret pe_bl)) pss_nil)
      (pss_cons (ps_if (pt_not (pt_val (pe_call GR hr1 rfl Ri.g Ri.F.kp Ri.b .nil pass0 (pa_cons (pe_lc (own := [("own", 3)]) (g := gName 3) (tt := tYes) (te := tOp (rIxT K) (tVar 3) (tC (V.int 0))) rfl scAreOwns.nd (pi_tup (pv 0))
          (blkOk_by (N := ["value", "picks", "part", "own"]) (sc := defScope sAreOwns) (by decide +kernel)) (fun _ _ _ _ _ => pg_name (i := 3) scAreOwns.nd rfl (Or.inl rfl)) (fun _ _ _ _ _ => pts_nil)
          (fun _ _ _ _ _ => by exact pe_ix ix_tup (pv 3) pe_int (fun _ _ => rfl))) pa_nil)))) (pss_one (ps_ret pe_bl)) pss_nil)
      (pss_one (ps_ret (pe_cmpR op_le (pe_callB (cr_sum rfl) (by rfl) e.B.sum (by decide +kernel) (pa_cons (pe_lc (own := [("own", 3)]) (g := gName 3) (tt := tYes)
            (te := tOp (rI CPow fun i j => V.int (i * 2 ^ j.toNat)) (tC (V.int 1)) (tCB (fun xs H Q => ∃ p ys, xs = [V.ref p] ∧ (SqL K H p ys ∨ SqT K H p ys) ∧ Q (V.int ys.length) H) (tCons (tOp (rIxT K) (tVar 3) (tC (V.int 1))) tNil))) rfl scAreOwns.nd (pi_tup (pv 0))
          (blkOk_by (N := ["value", "picks", "part", "own"]) (sc := defScope sAreOwns) (by decide +kernel)) (fun _ _ _ _ _ => pg_name (i := 3) scAreOwns.nd rfl (Or.inl rfl)) (fun _ _ _ _ _ => pts_nil)
          (fun _ _ _ _ _ => by exact pe_op op_shl pe_int (pe_callB call_len_seq (by rfl) e.B.len (by decide +kernel) (pa_cons (pe_ix ix_tup (pv 3) pe_int (fun _ _ => rfl)) pa_nil)))) pa_nil)) (pe_glob (v := V.int 120) rfl c2 ⟨_, rfl⟩) (nomark _))))), ?_⟩
    obtain ⟨a, us, rfl, ea, Da⟩ := D
    have lu : us.length = os.length := by rw [Da.len, List.length_map]
    refine ⟨_, rfl, a, us, 8, rfl, ea.rd, by omega, true, rfl, ?_⟩
    show if (!true) = true then _ else _
    rw [if_neg (by decide)]
    refine ⟨_, rfl, a, rfl, ⟨_, FT.sq ea⟩, fun D0 hD0 => lc_allT (K := K) (FT.sq ea) hD0 (by omega) (fun i x H4 Qe hx S4 k => ?_) gName_mono (fun H5 e5 S5 => ?_)⟩
    · obtain ⟨d, hd, Dx⟩ := dats_get' Da i x hx
      obtain ⟨o, ho, rfl⟩ := get_map hd
      have g := good o (List.mem_of_getElem? ho)
      exact ⟨rfl, _, rfl, _, rfl, x, u, o, ps, rfl, Dx.same S4, Dp.same S4, g.n, g.out, g.up, g.nm, g.sub, g.le, lp, k⟩
    · refine ⟨D0, _, rfl, SqL.of e5, _, rfl, ?_⟩
      rw [trues_all]
      show if (!true) = true then _ else _
      rw [if_neg (by decide)]
      have names : ∀ {H4 : Hp} {x : V} {i : Nat}, Same H H4 → us[i]? = some x → ∃ (o : Own) (t t' : Addr), os[i]? = some o ∧ x = .ref t ∧ H4 t = some (.tup [.str o.1, .ref t']) ∧ H4 t' = some (.tup (o.2.map V.str)) := fun {H4 x i} S hx => by
        obtain ⟨d, hd, Dx⟩ := dats_get' Da i x hx
        obtain ⟨o, ho, rfl⟩ := get_map hd
        obtain ⟨t, rfl⟩ := tuple_ref (ds := [.str o.1, nmsD o.2]) Dx
        obtain ⟨t', g1, g2⟩ := own_row (q := (t, ownD o)) rfl Dx
        exact ⟨o, t, t', ho, rfl, S _ _ g1, S _ _ g2⟩
      refine ⟨_, rfl, a, rfl, ⟨_, FT.sq (FT.same ea S5)⟩, fun D1 hD1 => lc_mapT (K := K) (ys := (os.map Prod.fst).map V.str) (FT.sq (FT.same ea S5)) hD1 (by rw [List.length_map, List.length_map, lu]) (by omega) (fun i x y H4 Qe hx hy S4 k => ?_) gName_mono (fun H6 e6 S6 => ?_)⟩
      · obtain ⟨o, t, t', ho, rfl, g1, _⟩ := names (S5.trans S4) hx
        have ey : y = V.str o.1 := by
          rw [List.getElem?_map, List.getElem?_map, ho] at hy
          exact (Option.some.inj hy).symm
        rw [ey] at k
        exact ⟨rfl, _, rfl, t, _, 0, _, rfl, rfl, SqT.of g1, rfl, k H4 (Same.refl _)⟩
      · refine ⟨D1, _, _, rfl, .inl (SqL.of e6), dats_strs (os.map Prod.fst), rise_strs (List.pairwise_map.mpr up), by rw [List.length_map, List.length_map]; omega, fun H7 S7 => ⟨true, rfl, ?_⟩⟩
        show if (!true) = true then _ else _
        rw [if_neg (by decide)]
        have S8 := (S5.trans S6).trans S7
        refine ⟨_, rfl, a, rfl, ⟨_, FT.sq (FT.same ea S8)⟩, fun D2 hD2 => lc_mapT (K := K) (ys := (os.map sizeI).map V.int) (FT.sq (FT.same ea S8)) hD2 (by rw [List.length_map, List.length_map, lu]) (by omega) (fun i x y H4 Qe hx hy S4 k => ?_) gName_mono (fun H9 e9 S9 => ?_)⟩
        · obtain ⟨o, t, t', ho, rfl, g1, g2⟩ := names (S8.trans S4) hx
          have ey : y = V.int (sizeI o) := by
            rw [List.getElem?_map, List.getElem?_map, ho] at hy
            exact (Option.some.inj hy).symm
          rw [ey] at k
          have g := good o (List.mem_of_getElem? ho)
          have := g.le
          exact ⟨rfl, _, rfl, t, _, 1, _, rfl, rfl, SqT.of g1, rfl, t', _, rfl, .inr (SqT.of g2), _, _, rfl, rfl, ⟨by omega, by rw [List.length_map]; omega, by decide⟩, k H4 (Same.refl _)⟩
        · refine ⟨D2, _, rfl, SqL.of e9, _, _, rfl, rfl, ?_⟩
          rw [sizes_sum]
          show Q (.bl (decide ((copies os : Int) ≤ 120))) H9
          rw [decide_eq_true (by omega)]
          exact q H9 (S8.trans S9)
theorem g_isClauseOver (e : Env1 K mg) : Good P w K mg base 4 "is_clause_over" sIsClauseOver ["value", "names"] spIsClauseOver := by
  obtain ⟨f, fd, h⟩ := e.Y.isClauseOver
  obtain ⟨fA, fdA, An, GA⟩ := g_isAnyClause (P := P) (w := w) (base := base) e
  refine ⟨f, fd, h, ?_⟩
  refine h.F.ok scIsClauseOver (fun vs H Q E h => ?_) (fun cdv A outer s H vs Q E hr h => ?_)
  · obtain ⟨v, b, cl, ns, rfl, _⟩ := h
    rfl
  · obtain ⟨v, b, cl, ns, rfl, D, eb, ck, nm, len, q⟩ := h
    refine ⟨_, pss_one (ps_ret (pe_and (pe_call GA hr rfl An.g An.F.kp An.b .nil pass0 (pa_cons (pv 0) pa_nil))
      (pe_one (pe_callB (cr_all rfl) (by rfl) e.B.all (by decide +kernel) (pa_cons (pe_lc (own := [("letter", 2)]) (g := gName 2) (tt := tYes) (te := tOp (rIn K false) (tOp (rIxT K) (tVar 2) (tC (V.int 0))) (tVar 1)) rfl scIsClauseOver.nd (pi_tup (pv 0))
        (blkOk_by (N := ["value", "names", "letter"]) (sc := defScope sIsClauseOver) (by decide +kernel)) (fun _ _ _ _ _ => pg_name (i := 2) scIsClauseOver.nd rfl (Or.inl rfl)) (fun _ _ _ _ _ => pts_nil)
        (fun _ _ _ _ _ => by exact pe_cmpR op_in_seq (pe_ix ix_tup (pv 2) pe_int (fun _ _ => rfl)) (pv 1) (by with_unfolding_all rfl))) pa_nil))))), ?_⟩
    obtain ⟨a, us, rfl, ea, Da⟩ := dat_tup (ds := cl.map ltD) D
    have lu : us.length = cl.length := by rw [Da.len, List.length_map]
    have lc := cl_len ck
    refine ⟨_, rfl, .ref a, cl, rfl, D, ck.up, fun l hl => nm _ (ck.mem l hl), by omega, fun H' S => ⟨true, rfl, ?_⟩⟩
    show if true = true then _ else _
    rw [if_pos rfl]
    refine ⟨_, rfl, a, rfl, ⟨_, SqT.of (S _ _ ea)⟩, fun D0 hD0 => lc_allT (K := K) (SqT.of (S _ _ ea)) hD0 (by omega) (fun i x H4 Qe hx S4 k => ?_) gName_mono (fun H5 e5 S5 => ?_)⟩
    · obtain ⟨d, hd, Dx⟩ := dats_get' Da i x hx
      obtain ⟨l, hl, rfl⟩ := get_map hd
      obtain ⟨t, rfl, et⟩ := ltr_row Dx
      refine ⟨rfl, _, rfl, t, _, 0, _, rfl, rfl, SqT.of (S4 _ _ (S _ _ et)), rfl, _, rfl, b, _, rfl, .inl (SqL.of (S4 _ _ (S _ _ eb))), rfl, flat_strs ns, ?_⟩
      show Qe (.bl (inV (V.str l.1) (ns.map V.str))) H4
      rw [inV_str, decide_eq_true (ck.mem l (List.mem_of_getElem? hl))]
      exact k H4 (Same.refl _)
    · refine ⟨D0, _, rfl, SqL.of e5, ?_⟩
      show Q (.bl _) H5
      rw [trues_all]
      exact q H5 (S.trans S5)
theorem g_areClauses (e : Env1 K mg) : Good P w K mg base 5 "are_clauses" sAreClauses ["value", "names"] spAreClauses := by
  obtain ⟨f, fd, h⟩ := e.Y.areClauses
  obtain ⟨fU, fdU, Tu, GU⟩ := g_isTuple (P := P) (w := w) (base := base) e
  obtain ⟨fO, fdO, Ov, GO⟩ := g_isClauseOver (P := P) (w := w) (base := base) e
  obtain ⟨fR, fdR, Ri, GR⟩ := g_isRising (P := P) (w := w) (base := base) e
  obtain ⟨t1, c1⟩ := e.C.clauses
  refine ⟨f, fd, h, ?_⟩
  refine h.F.ok scAreClauses (fun vs H Q E h => ?_) (fun cdv A outer s H vs Q E hr h => ?_)
  · obtain ⟨v, b, cls, ns, rfl, _⟩ := h
    rfl
  · obtain ⟨v, b, cls, ns, rfl, D, eb, ck, nm, len, lcs, up, q⟩ := h
    have hr1 := hr.mono (show 1 ≤ 4 by decide)
    refine ⟨_, pss_cons (ps_if (pt_not (pt_val (pe_call GU hr1 rfl Tu.g Tu.F.kp Tu.b .nil pass0 (pa_cons (pv 0) (pa_cons (pe_glob (v := V.int 40) rfl c1 ⟨_, rfl⟩) pa_nil))))) (pss_one (ps_ret pe_bl)) pss_nil)
      (pss_one (ps_ret (pe_and (pe_callB (cr_all rfl) (by rfl) e.B.all (by decide +kernel) (pa_cons (pe_lc (own := [("part", 2)]) (g := gName 2) (tt := tYes) rfl scAreClauses.nd (pi_tup (pv 0))
          (blkOk_by (N := ["value", "names", "part"]) (sc := defScope sAreClauses) (by decide +kernel)) (fun _ _ _ _ _ => pg_name (i := 2) scAreClauses.nd rfl (Or.inl rfl)) (fun _ _ _ _ _ => pts_nil)
          (fun _ _ _ _ _ => pe_call GO (by exact hr) (by rfl) Ov.g Ov.F.kp Ov.b .nil pass0 (pa_cons (pv 2) (pa_cons (pv 1) pa_nil)))) pa_nil))
        (pe_one (pe_call GR hr1 rfl Ri.g Ri.F.kp Ri.b .nil pass0 (pa_cons (pv 0) pa_nil)))))), ?_⟩
    obtain ⟨a, us, rfl, ea, Da⟩ := dat_tup D
    have lu : us.length = cls.length := by rw [Da.len, List.length_map]
    refine ⟨_, rfl, a, us, 40, rfl, .inl ea, by omega, true, rfl, ?_⟩
    show if (!true) = true then _ else _
    rw [if_neg (by decide)]
    refine ⟨_, rfl, a, rfl, ⟨_, SqT.of ea⟩, fun D0 hD0 => lc_allT (K := K) (SqT.of ea) hD0 (by omega) (fun i x H4 Qe hx S4 k => ?_) gName_mono (fun H5 e5 S5 => ?_)⟩
    · obtain ⟨d, hd, Dx⟩ := dats_get' Da i x hx
      obtain ⟨cl, hcl, rfl⟩ := get_map hd
      exact ⟨rfl, _, rfl, _, rfl, x, b, cl, ns, rfl, Dx.same S4, S4 _ _ eb, ck cl (List.mem_of_getElem? hcl), nm, len, k⟩
    · refine ⟨D0, _, rfl, SqL.of e5, ?_⟩
      rw [trues_all]
      refine ⟨true, rfl, ?_⟩
      show if true = true then _ else _
      rw [if_pos rfl]
      exact ⟨_, rfl, a, us, _, rfl, .inr (SqT.of (S5 _ _ ea)), DatAll.same S5 Da, rise_of alike_cl (fun _ z => nomatch z) (fun x => by have := depth_cl x; omega) up, by rw [List.length_map]; omega, fun H' S => q H' (S5.trans S)⟩
theorem g_namesOf (e : Env1 K mg) : Good P w K mg base 1 "names_of" sNamesOf ["picks", "owns"] spNamesOf := by
  obtain ⟨f, fd, h⟩ := e.Y.namesOf
  refine ⟨f, fd, h, ?_⟩
  refine h.F.ok scNamesOf (fun vs H Q E h => ?_) (fun cdv A outer s H vs Q E hr h => ?_)
  · obtain ⟨u, v, ps, os, rfl, _⟩ := h
    rfl
  · obtain ⟨u, v, ps, os, rfl, Dp, D, lp, lo, q⟩ := h
    refine ⟨_, pss_one (ps_ret (pe_op op_cat (pe_callTy call_list_of (by rfl) e.B.list (by decide +kernel) (pa_cons (pv 0) pa_nil)) (pe_lc (own := [("own", 2)]) (g := gName 2) (tt := tYes) (te := tOp (rIxT K) (tVar 2) (tC (V.int 0))) rfl scNamesOf.nd (pi_tup (pv 1))
          (blkOk_by (N := ["picks", "owns", "own"]) (sc := defScope sNamesOf) (by decide +kernel)) (fun _ _ _ _ _ => pg_name (i := 2) scNamesOf.nd rfl (Or.inl rfl)) (fun _ _ _ _ _ => pts_nil)
          (fun _ _ _ _ _ => by exact pe_ix ix_tup (pv 2) pe_int (fun _ _ => rfl))))), ?_⟩
    obtain ⟨b, ups, rfl, eb, Db⟩ := dat_tup (ds := ps.map PyData.str) Dp
    cases dats_strs_eq Db
    obtain ⟨a, us, rfl, ea, Da⟩ := D
    have lu : us.length = os.length := by rw [Da.len, List.length_map]
    refine ⟨_, rfl, b, _, rfl, .inr (SqT.of eb), fun l1 hl1 => ?_⟩
    have S1 : Same H (upd H l1 (.lst (ps.map V.str))) := same_new hl1
    have e1 : upd H l1 (.lst (ps.map V.str)) l1 = some (.lst (ps.map V.str)) := upd_same
    generalize upd H l1 (.lst (ps.map V.str)) = H1 at S1 e1 ⊢
    refine ⟨_, rfl, a, rfl, ⟨_, FT.sq (FT.same ea S1)⟩, fun D1 hD1 => lc_mapT (K := K) (ys := (os.map Prod.fst).map V.str) (FT.sq (FT.same ea S1)) hD1 (by rw [List.length_map, List.length_map, lu]) (by omega) (fun i x y H4 Qe hx hy S4 k => ?_) gName_mono (fun H6 e6 S6 => ?_)⟩
    · obtain ⟨d, hd, Dx⟩ := dats_get' Da i x hx
      obtain ⟨o, ho, rfl⟩ := get_map hd
      obtain ⟨t, rfl⟩ := tuple_ref (ds := [.str o.1, nmsD o.2]) Dx
      obtain ⟨t', g1, _⟩ := own_row (q := (t, ownD o)) rfl Dx
      have ey : y = V.str o.1 := by
        rw [List.getElem?_map, List.getElem?_map, ho] at hy
        exact (Option.some.inj hy).symm
      rw [ey] at k
      exact ⟨rfl, _, rfl, t, _, 0, _, rfl, rfl, SqT.of (S4 _ _ (S1 _ _ g1)), rfl, k H4 (Same.refl _)⟩
    · refine ⟨_, _, _, _, rfl, rfl, S6 _ _ e1, e6, ?_, fun l hl => ?_⟩
      · rw [List.length_map, List.length_map, List.length_map]
        exact Nat.le_of_lt (small1000 (by omega))
      · exact q l _ ((S1.trans S6).trans (same_new hl)) ((S1.trans S6).free hl) (by rw [upd_same, List.map_append])
end
end S1

set_option Elab.async false
set_option linter.all false
set_option maxRecDepth 100000
set_option maxHeartbeats 4000000
/-! good arguments are let by -/
namespace S1
open PySem PySem.W PySem.Spec PyProof.Rows L2
section
variable {X : Cx}
/-- if c: ..., where c is known to be False -/
def tIfNo (tc : TT) (u : TS) : TS := fun D σ H => tc σ H fun b H1 => b = false ∧ u D σ H1
theorem ps_ifNo {c : Expr} {p q : List Stmt} {tc : TT} {u : TS} {pos : Pos} (hc : PT X c tc) (hb : PSs X q u) : PS X (.If c p q pos) (tIfNo tc u) := by
  refine ⟨fun pins s σ H D I h => ?_⟩
  refine wpAny_If (thn (hc.run pins s σ H _ I h) fun k s1 ⟨H1, I1, e, q1⟩ => ?_)
  subst e
  exact hb.run pins s1 σ H1 D I1 q1
end
def spFitsSaying : Sp := fun vs H Q _ => ∃ (v : V) (s : Say), vs = [v] ∧ DatS H v s ∧ SayOk 6 8 120 40 s ∧ ∀ H', Same H H' → Q (.bl true) H'
def spFitsClause : Sp := fun vs H Q _ => ∃ (v u : V) (s : Say) (cl : List Ltr), vs = [v, u] ∧ DatS H v s ∧ Dat H u (clD cl) ∧ SayOk 6 8 120 40 s ∧ ClOk s.names cl ∧ ∀ H', Same H H' → Q (.bl true) H'
def spFitsPlay : Sp := fun vs H Q _ => ∃ (v u : V) (s : Say) (bs : List Bool), vs = [v, u] ∧ DatS H v s ∧ Dat H u (blsD bs) ∧ SayOk 6 8 120 40 s ∧ bs.length = s.picks.length ∧ ∀ H', Same H H' → Q (.bl true) H'
theorem say_row {H : Hp} {v : V} {s : Say} (D : DatS H v s) : ∃ a p o c, v = .ref a ∧ H a = some (.tup [p, o, c]) ∧ Dat H p (nmsD s.picks) ∧ DatO H o s.owns ∧ Dat H c (.tuple (s.cls.map clD)) := D
theorem SayOk.nm {a b c d : Nat} {s : Say} (h : SayOk a b c d s) : ∀ x ∈ s.names, Nm x := fun x hx => by
  rcases List.mem_append.mp hx with y | y
  · exact h.pn x y
  · obtain ⟨o, ho, rfl⟩ := List.mem_map.mp y
    exact (h.on o ho).1
theorem SayOk.nlen {s : Say} (h : SayOk 6 8 120 40 s) : s.names.length ≤ 14 := by
  have h1 := h.pl
  have h2 := h.ol
  show (s.picks ++ s.owns.map Prod.fst).length ≤ 14
  rw [List.length_append, List.length_map]
  omega
section
variable {P : Program} {w : World} {K : PySem.W.Frag} {mg : Str → Option Value} {base : Heap}
theorem scFitsSaying : FnScope ["value", "picks", "owns", "clauses"] ["value"] (defScope sFitsSaying) := ⟨rfl, rfl, rfl, by decide +kernel, rfl, by decide +kernel, by decide +kernel⟩
theorem g_fitsSaying (e : Env1 K mg) : Good P w K mg base 6 "fits_saying" sFitsSaying ["value"] spFitsSaying := by
  obtain ⟨f, fd, h⟩ := e.Y.fitsSaying
  obtain ⟨fA, fdA, An, GA⟩ := g_areNames (P := P) (w := w) (base := base) e
  obtain ⟨fO, fdO, Ow, GO⟩ := g_areOwns (P := P) (w := w) (base := base) e
  obtain ⟨fC, fdC, Cl, GC⟩ := g_areClauses (P := P) (w := w) (base := base) e
  obtain ⟨fN, fdN, No, GN⟩ := g_namesOf (P := P) (w := w) (base := base) e
  obtain ⟨t1, c1⟩ := e.C.picks
  refine ⟨f, fd, h, ?_⟩
  refine h.F.ok scFitsSaying (fun vs H Q E h => ?_) (fun cdv A outer s H vs Q E hr h => ?_)
  · obtain ⟨v, sy, rfl, _⟩ := h
    rfl
  · obtain ⟨v, sy, rfl, D, ok, q⟩ := h
    have hr1 := hr.mono (show 1 ≤ 5 by decide)
    have hr2 := hr.mono (show 2 ≤ 5 by decide)
    refine ⟨_, pss_cons (ps_if (PW.pt (pw_or (pt_not (pt_val (pe_callB call_isi (by rfl) e.B.isi (by decide +kernel) (pa_cons (pv 0) (pa_cons (pe_bltn (v := V.ty "tuple") (by rfl) e.B.tuple (by decide +kernel) rfl) pa_nil)))))
        (pw_or1 (pt_cmpR op_ne (pe_callB call_len_seq (by rfl) e.B.len (by decide +kernel) (pa_cons (pv 0) pa_nil)) pe_int (nomark _))))) (pss_one (ps_ret pe_bl)) pss_nil)
      (pss_cons (ps_asg (pv 0) (pg_tup rfl (pgs_cons (pg_name (i := 1) scFitsSaying.nd rfl (.inl rfl)) (pgs_cons (pg_name (i := 2) scFitsSaying.nd rfl (.inl rfl)) (pgs_cons (pg_name (i := 3) scFitsSaying.nd rfl (.inl rfl)) pgs_nil)))))
      (pss_cons (ps_if (PW.pt (pw_or (pt_not (pt_val (pe_call GA hr2 rfl An.g An.F.kp An.b .nil pass0 (pa_cons (pv 1) (pa_cons (pe_glob (v := V.int 6) rfl c1 ⟨_, rfl⟩) pa_nil)))))
        (pw_or1 (pt_not (pt_val (pe_call GO hr rfl Ow.g Ow.F.kp Ow.b .nil pass0 (pa_cons (pv 2) (pa_cons (pv 1) pa_nil)))))))) (pss_one (ps_ret pe_bl)) pss_nil)
      (pss_one (ps_ret (pe_call GC hr rfl Cl.g Cl.F.kp Cl.b .nil pass0 (pa_cons (pv 3) (pa_cons (pe_call GN hr1 rfl No.g No.F.kp No.b .nil pass0 (pa_cons (pv 1) (pa_cons (pv 2) pa_nil))) pa_nil))))))), ?_⟩
    obtain ⟨a, p, o, c, rfl, ea, Dp, Do, Dc⟩ := say_row D
    refine ⟨_, rfl, _, _, _, _, true, rfl, .ty _, .base (.tup ea), kit_ty (by decide +kernel), true, rfl, ?_⟩
    show if (!true) = true then _ else _
    rw [if_neg (by decide)]
    refine ⟨_, rfl, _, _, rfl, .inr (SqT.of ea), rfl, _, rfl, iteNS rfl ?_⟩
    refine ⟨_, rfl, a, _, rfl, SqT.of ea, rfl, _, _, rfl, _, _, rfl, _, _, rfl, rfl, ?_⟩
    have lp := ok.pl
    have lo := ok.ol
    refine ⟨_, rfl, p, sy.picks, 6, rfl, Dp, ok.pu, ok.pn, by omega, by omega, fun H1 S1 => ⟨true, rfl, ?_⟩⟩
    show if (!true) = true then _ else _
    rw [if_neg (by decide)]
    refine ⟨_, rfl, _, rfl, o, p, sy.owns, sy.picks, rfl, Do.same S1, Dp.same S1, fun x hx => ok.own hx, ok.ou, lo, ok.oc, by omega, fun H2 S2 => ⟨true, rfl, ?_⟩⟩
    show if (!true) = true then _ else _
    rw [if_neg (by decide)]
    have S12 := S1.trans S2
    refine ⟨_, rfl, _, rfl, _, rfl, p, o, sy.picks, sy.owns, rfl, Dp.same S12, Do.same S12, by omega, by omega, fun l H3 S3 _ el => ?_⟩
    have S13 := S12.trans S3
    have nl := ok.nlen
    exact ⟨c, l, sy.cls, sy.names, rfl, Dc.same S13, el, ok.ck, ok.nm, by omega, ok.cl, ok.cu, fun H4 S4 => q H4 (S13.trans S4)⟩
end
end S1

set_option Elab.async false
set_option linter.all false
set_option maxRecDepth 100000
set_option maxHeartbeats 4000000
/-! the checks ahead of each function let good arguments by -/
namespace S1
open PySem PySem.W PySem.Spec PyProof.Rows L2
structure Wnt (K : PySem.W.Frag) (mg : Str → Option Value) : Prop where
  saying : There K mg "want_saying" sWantSaying ["saying"]
def spWantSaying : Sp := fun vs H Q _ => ∃ (v : V) (s : Say), vs = [v] ∧ DatS H v s ∧ SayOk 6 8 120 40 s ∧ ∀ H', Same H H' → Q .non H'
def spWantClause : Sp := fun vs H Q _ => ∃ (v u : V) (s : Say) (cl : List Ltr), vs = [v, u] ∧ DatS H v s ∧ Dat H u (clD cl) ∧ SayOk 6 8 120 40 s ∧ ClOk s.names cl ∧ ∀ H', Same H H' → Q .non H'
def spWantPlay : Sp := fun vs H Q _ => ∃ (v u : V) (s : Say) (bs : List Bool), vs = [v, u] ∧ DatS H v s ∧ Dat H u (blsD bs) ∧ SayOk 6 8 120 40 s ∧ bs.length = s.picks.length ∧ ∀ H', Same H H' → Q .non H'
def spWantOwn : Sp := fun vs H Q _ => ∃ (v : V) (s : Say) (o : Own), vs = [v, .str o.1] ∧ DatS H v s ∧ SayOk 6 8 120 40 s ∧ o ∈ s.owns ∧ ∀ H', Same H H' → Q .non H'
section
variable {P : Program} {w : World} {K : PySem.W.Frag} {mg : Str → Option Value} {base : Heap}
theorem scWantSaying : FnScope ["saying"] ["saying"] (defScope sWantSaying) := ⟨rfl, rfl, rfl, by decide +kernel, rfl, by decide +kernel, by decide +kernel⟩
theorem g_wantSaying (e : Env1 K mg) (Wn : Wnt K mg) : Good P w K mg base 7 "want_saying" sWantSaying ["saying"] spWantSaying := by
  obtain ⟨f, fd, h⟩ := Wn.saying
  obtain ⟨fA, fdA, An, GA⟩ := g_fitsSaying (P := P) (w := w) (base := base) e
  refine ⟨f, fd, h, ?_⟩
  refine h.F.ok scWantSaying (fun vs H Q E h => ?_) (fun cdv A outer s H vs Q E hr h => ?_)
  · obtain ⟨v, sy, rfl, _⟩ := h
    rfl
  · obtain ⟨v, sy, rfl, D, ok, q⟩ := h
    refine ⟨_, pss_one (ps_if (pt_not (pt_val (pe_call GA hr rfl An.g An.F.kp An.b .nil pass0 (pa_cons (pv 0) pa_nil)))) pss_never pss_nil), ?_⟩
    refine ⟨_, rfl, v, sy, rfl, D, ok, fun H' S => ⟨true, rfl, ?_⟩⟩
    show if (!true) = true then _ else _
    rw [if_neg (by decide)]
    exact q H' S
end
end S1

set_option Elab.async false
set_option linter.all false
set_option maxRecDepth 100000
set_option maxHeartbeats 4000000
/-! the letters of owns; plain ones and twos, as the program tells them -/
namespace S1
open PySem PySem.W PySem.Spec PyProof.Rows L2
def loc (sy : Say) (cl : List Ltr) : List Ltr := cl.filter fun l => decide (l.1 ∈ sy.owns.map Prod.fst)
def plainC (sy : Say) (cl : List Ltr) : Bool := decide (((((loc sy cl).filter fun l => l.2).length : Nat) : Int) ≤ 1)
def twosC (sy : Say) (cl : List Ltr) : Bool := if decide ((1 : Int) ≤ ((loc sy cl).length : Nat)) = true then decide ((((loc sy cl).length : Nat) : Int) ≤ 2) else false
theorem loc_len (sy : Say) (cl : List Ltr) : (loc sy cl).length ≤ cl.length := List.length_filter_le _ _
theorem loc_snoc (sy : Say) (cl : List Ltr) (l : Ltr) : loc sy (cl ++ [l]) = loc sy cl ++ (if l.1 ∈ sy.owns.map Prod.fst then [l] else []) := by
  unfold loc
  rw [List.filter_append]
  congr 1
  by_cases h : l.1 ∈ sy.owns.map Prod.fst
  · rw [if_pos h]
    simp [h]
  · rw [if_neg h]
    simp [h]
def spLettersOf : Sp := fun vs H Q _ => ∃ (v u : V) (sy : Say) (cl : List Ltr), vs = [v, u] ∧ DatS H v sy ∧ sy.owns.length ≤ 8 ∧ Dat H u (clD cl) ∧ cl.length ≤ 14 ∧
  ∀ (l : Addr) (H' : Hp), Same H H' → H l = none → Lt l (loc sy cl) H' → Q (.ref l) H'
def spFits (f : Say → List Ltr → Bool) : Sp := fun vs H Q _ => ∃ (v : V) (sy : Say), vs = [v] ∧ DatS H v sy ∧ SayOk 6 8 120 40 sy ∧ ∀ H', Same H H' → Q (.bl ((sy.cls.map (f sy)).all id)) H'
/-- the scope of the comprehension that a def returns within all(..) -/
def lcScope : Expr → Scope
  | .ListComp _ _ sc _ => sc
  | _ => defScope sFitsPlain
def retArg : List Stmt → Expr
  | [.Return (some (.Call _ [e] _ _)) _] => e
  | _ => .Constant .none 0 ⟨0, 0, 0, 0⟩
def envD (st : Stmt) : Env := { scope := defScope st, locals := 0, globals := 0, cells := [], qual := "", func := none, code := .none, frame := .none, builtins := 0 }
abbrev scInR : Scope := relabel (lcScope (retArg (defBody sFitsPlain))) (envD sFitsPlain)
abbrev tLenE (K : PySem.W.Frag) (te : TE) : TE := tCB (fun xs H Q => ∃ p ys, xs = [V.ref p] ∧ (SqL K H p ys ∨ SqT K H p ys) ∧ Q (V.int ys.length) H) (tCons te tNil)
abbrev tLo : TE := tCall spLettersOf [] E0 (tCons (tVar 0) (tCons (tVar 1) tNil))
section
variable {P : Program} {w : World} {K : PySem.W.Frag} {mg : Str → Option Value} {base : Heap}
theorem scLettersOf : FnScope ["saying", "clause", "owns", "own", "letter"] ["saying", "clause"] (defScope sLettersOf) := ⟨rfl, rfl, rfl, by decide +kernel, rfl, by decide +kernel, by decide +kernel⟩
theorem scFitsPlain : FnScope ["saying", "clause", "_", "truth"] ["saying"] (defScope sFitsPlain) := ⟨rfl, rfl, rfl, by decide +kernel, rfl, by decide +kernel, by decide +kernel⟩
theorem scFitsTwos : FnScope ["saying", "clause"] ["saying"] (defScope sFitsTwos) := ⟨rfl, rfl, rfl, by decide +kernel, rfl, by decide +kernel, by decide +kernel⟩
theorem scPlain : FnScope ["saying"] ["saying"] (defScope sPlain) := ⟨rfl, rfl, rfl, by decide +kernel, rfl, by decide +kernel, by decide +kernel⟩
theorem scTwos : FnScope ["saying"] ["saying"] (defScope sTwos) := ⟨rfl, rfl, rfl, by decide +kernel, rfl, by decide +kernel, by decide +kernel⟩
theorem ok_lettersOf {f : Addr} {fd : FuncData} (F : Fun K "letters_of_owns" "letters_of_owns" sLettersOf f fd) : FnOk P w K mg base CX0 1 f fd ["saying", "clause"] spLettersOf := by
  refine F.ok scLettersOf (fun vs H Q E h => ?_) (fun cdv A outer s H vs Q E hr h => ?_)
  · obtain ⟨v, u, sy, cl, rfl, _⟩ := h
    rfl
  · obtain ⟨v, u, sy, cl, rfl, D, lo, Du, lc, q⟩ := h
    refine ⟨_, pss_cons (ps_set (i := 2) scLettersOf.nd rfl (.inr rfl) (pe_lc (own := [("own", 3)]) (g := gName 3) (tt := tYes) (te := tOp (rIxT K) (tVar 3) (tC (V.int 0))) rfl scLettersOf.nd (pi_tup (pe_ix ix_tup (pv 0) pe_int (fun _ _ => rfl)))
          (blkOk_by (N := ["saying", "clause", "owns", "own", "letter"]) (sc := defScope sLettersOf) (by decide +kernel)) (fun _ _ _ _ _ => pg_name (i := 3) scLettersOf.nd rfl (Or.inl rfl)) (fun _ _ _ _ _ => pts_nil)
          (fun _ _ _ _ _ => by exact pe_ix ix_tup (pv 3) pe_int (fun _ _ => rfl))))
      (pss_one (ps_ret (pe_lc (own := [("letter", 4)]) (g := gName 4) (tt := tTest (tOp (rIn K false) (tOp (rIxT K) (tVar 4) (tC (V.int 0))) (tVar 2))) rfl scLettersOf.nd (pi_tup (pv 1))
          (blkOk_by (N := ["saying", "clause", "owns", "own", "letter"]) (sc := defScope sLettersOf) (by decide +kernel)) (fun _ _ _ _ _ => pg_name (i := 4) scLettersOf.nd rfl (Or.inl rfl))
          (fun _ _ _ _ _ => by exact pts_one (pt_cmpR op_in_seq (pe_ix ix_tup (pv 4) pe_int (fun _ _ => rfl)) (pv 2) (by with_unfolding_all rfl))) (fun _ _ _ _ _ => pv 4)))), ?_⟩
    obtain ⟨a, p, ov, c, rfl, ea, Dp, ⟨b, us, rfl, eb, Db⟩, Dc⟩ := say_row D
    obtain ⟨k, xs, rfl, ek, Dk⟩ := dat_tup (ds := cl.map ltD) Du
    have lu : us.length = sy.owns.length := by rw [Db.len, List.length_map]
    have lx : xs.length = cl.length := by rw [Dk.len, List.length_map]
    refine ⟨_, rfl, a, _, 1, _, rfl, rfl, SqT.of ea, rfl, b, rfl, ⟨_, FT.sq eb⟩, fun D1 hD1 => lc_mapT (K := K) (ys := (sy.owns.map Prod.fst).map V.str) (FT.sq eb) hD1 (by rw [List.length_map, List.length_map, lu]) (by omega) (fun i x y H4 Qe hx hy S4 k' => ?_) gName_mono (fun H5 e5 S5 => ?_)⟩
    · obtain ⟨o, t, t', ho, rfl, g1⟩ := own_names Db hx
      have ey : y = V.str o.1 := by
        rw [List.getElem?_map, List.getElem?_map, ho] at hy
        exact (Option.some.inj hy).symm
      rw [ey] at k'
      exact ⟨rfl, _, rfl, t, _, 0, _, rfl, rfl, SqT.of (S4 _ _ g1), rfl, k' H4 (Same.refl _)⟩
    · refine ⟨_, rfl, k, rfl, ⟨_, SqT.of (S5 _ _ ek)⟩, fun D2 hD2 => ?_⟩
      have hD20 := S5.free hD2
      have n12 : D1 ≠ D2 := ne_of_none e5 hD2
      refine lc_tup (K := K) (a := k) (xs := xs) (fun j H6 => Lt D2 (loc sy (cl.take j)) H6 ∧ Same H5 H6) ⟨⟨[], upd_same, rfl, fun q hq => absurd hq (by simp)⟩, same_new hD2⟩ (fun j H6 _ h => SqT.of (h.2 _ _ (S5 _ _ ek))) ?_ ?_
      · rintro j x H6 hx ⟨L6, S6⟩
        obtain ⟨d, hd, Dx⟩ := dats_get' Dk j x hx
        obtain ⟨l, hl, rfl⟩ := get_map hd
        obtain ⟨t, rfl, et⟩ := ltr_row Dx
        have et6 := S6 _ _ (S5 _ _ et)
        have jl : j < cl.length := (List.getElem?_eq_some_iff.mp hl).1
        refine ⟨rfl, _, rfl, t, _, 0, _, rfl, rfl, SqT.of et6, rfl, _, rfl, D1, _, rfl, .inl (SqL.of (S6 _ _ e5)), rfl, flat_strs _, _, rfl, ?_⟩
        show if inV (V.str l.1) ((sy.owns.map Prod.fst).map V.str) = true then _ else _
        rw [inV_str]
        have tk : loc sy (cl.take (j + 1)) = loc sy (cl.take j) ++ (if l.1 ∈ sy.owns.map Prod.fst then [l] else []) := by rw [take_next hl, loc_snoc]
        by_cases hin : l.1 ∈ sy.owns.map Prod.fst
        · rw [if_pos (decide_eq_true hin)]
          rw [if_pos hin] at tk
          obtain ⟨ys, ey, ly⟩ := L6.len
          have := loc_len sy (cl.take j)
          rw [List.length_take] at this
          refine ⟨_, rfl, _, ey, by rw [ly]; exact small1000 (by omega), ?_, same_upd S6 hD2⟩
          rw [tk]
          exact L6.push ey et6
        · rw [if_neg (by simpa using hin)]
          rw [if_neg hin, List.append_nil] at tk
          rw [tk]
          exact ⟨L6, S6⟩
      · rintro H6 ⟨L6, S6⟩
        rw [lx, List.take_length] at L6
        exact q D2 H6 (S5.trans S6) hD20 L6
theorem ok_fitsPlain {f fL : Addr} {fd fdL : FuncData} (F : Fun K "fits_plain" "fits_plain" sFitsPlain f fd) (Lo : Has K mg "letters_of_owns" sLettersOf ["saying", "clause"] fL fdL) (B : Blt mg) : FnOk P w K mg base CX0 2 f fd ["saying"] (spFits plainC) := by
  have GL : FnOk P w K mg base CX0 1 fL fdL ["saying", "clause"] spLettersOf := ok_lettersOf Lo.F
  refine F.ok scFitsPlain (fun vs H Q E h => ?_) (fun cdv A outer s H vs Q E hr h => ?_)
  · obtain ⟨v, sy, rfl, _⟩ := h
    rfl
  · obtain ⟨v, sy, rfl, D, ok, q⟩ := h
    refine ⟨_, pss_one (ps_ret (pe_callB (cr_all rfl) (by rfl) B.all (by decide +kernel) (pa_cons (pe_lc (own := [("clause", 1)]) (g := gName 1) (tt := tYes)
        (te := tOp (rI0 fun i j => V.bl (decide (i ≤ j))) (tLenE K (tLc (iList K tLo) (gTup K 2 (gCons (gName 2) (gCons (gName 3) gNil))) (tB (tVar 3)) (tVar 3) [2, 3])) (tC (V.int 1))) rfl scFitsPlain.nd (pi_tup (pe_ix ix_tup (pv 0) pe_int (fun _ _ => rfl)))
        (blkOk_by (N := ["saying", "clause", "_", "truth"]) (sc := defScope sFitsPlain) (by decide +kernel)) (fun _ _ _ _ _ => pg_name (i := 1) scFitsPlain.nd rfl (Or.inl rfl)) (fun _ _ _ _ _ => pts_nil)
        (fun _ _ _ _ _ => by exact pe_cmpR op_le (pe_callB call_len_seq (by rfl) B.len (by decide +kernel) (pa_cons (pe_lc (own := [("_", 2), ("truth", 3)]) rfl scFitsPlain.nd
            (pi_list (pe_call GL (by exact hr) (by rfl) Lo.g Lo.F.kp Lo.b .nil pass0 (pa_cons (pv 0) (pa_cons (pv 1) pa_nil)))) (by show BlkOk ["saying", "clause", "_", "truth"] scInR _ _; exact blkOk_by (by decide +kernel))
            (fun _ _ _ _ _ => by exact pg_tup rfl (pgs_cons (pg_name (i := 2) scFitsPlain.nd rfl (.inl rfl)) (pgs_cons (pg_name (i := 3) scFitsPlain.nd rfl (.inl rfl)) pgs_nil))) (fun _ _ _ _ _ => by exact pts_one (pt_val (pv 3))) (fun _ _ _ _ _ => pv 3)) pa_nil)) pe_int (nomark _))) pa_nil))), ?_⟩
    obtain ⟨a, p, ov, c, rfl, ea, Dp, Do, Dc⟩ := say_row D
    obtain ⟨k, cs, rfl, ek, Dk⟩ := dat_tup (ds := sy.cls.map clD) Dc
    have lk : cs.length = sy.cls.length := by rw [Dk.len, List.length_map]
    have lcl := ok.cl
    refine ⟨_, rfl, a, _, 2, _, rfl, rfl, SqT.of ea, rfl, k, rfl, ⟨_, SqT.of ek⟩, fun D1 hD1 => lc_mapT (K := K) (ys := (sy.cls.map (plainC sy)).map V.bl) (SqT.of ek) hD1 (by rw [List.length_map, List.length_map, lk]) (by omega) (fun i x y H4 Qe hx hy S4 k' => ?_) gName_mono (fun H5 e5 S5 => ?_)⟩
    · obtain ⟨d, hd, Dx⟩ := dats_get' Dk i x hx
      obtain ⟨cl, hcl, rfl⟩ := get_map hd
      have ck := ok.ck cl (List.mem_of_getElem? hcl)
      have lc := Nat.le_trans (cl_len ck) ok.nlen
      have ey : y = V.bl (plainC sy cl) := by
        rw [List.getElem?_map, List.getElem?_map, hcl] at hy
        exact (Option.some.inj hy).symm
      rw [ey] at k'
      refine ⟨rfl, _, rfl, _, rfl, .ref a, x, sy, cl, rfl, D.same S4, ok.ol, Dx.same S4, lc, fun l H6 S6 hl L6 => ?_⟩
      obtain ⟨T, e6, eT, hT⟩ := L6.ex
      refine ⟨l, rfl, ⟨_, SqL.of e6⟩, fun D2 hD2 => ?_⟩
      refine lc_list (K := K) (a := l) (xs := T.map TRow.v) (fun j H7 => H7 D2 = some (.lst (((((loc sy cl).take j).filter fun l => l.2).map Prod.snd).map V.bl)) ∧ Same H6 H7) ⟨upd_same, same_new hD2⟩ (fun j H7 _ h => SqL.of (h.2 _ _ e6)) ?_ ?_
      · rintro j x7 H7 hx7 ⟨e7, S7⟩
        rw [List.getElem?_map] at hx7
        obtain ⟨y7, hy7, rfl⟩ := Option.map_eq_some_iff.mp hx7
        have e2 : ((loc sy cl).map ltD)[j]? = some y7.2 := by rw [← eT, List.getElem?_map, hy7]; rfl
        obtain ⟨l7, hl7, e3⟩ := get_map e2
        have D7 := hT y7 (List.mem_of_getElem? hy7)
        rw [e3] at D7
        obtain ⟨t, et, g1⟩ := ltr_row D7
        have jl : j < (loc sy cl).length := (List.getElem?_eq_some_iff.mp hl7).1
        have := loc_len sy cl
        refine ⟨t, _, et, SqT.of (S7 _ _ g1), rfl, _, _, rfl, _, _, rfl, rfl, rfl, _, rfl, l7.2, rfl, ?_⟩
        have tk : ((loc sy cl).take (j + 1)).filter (fun l => l.2) = ((loc sy cl).take j).filter (fun l => l.2) ++ (if l7.2 = true then [l7] else []) := by
          rw [take_next hl7, List.filter_append]
          congr 1
          by_cases h : l7.2 = true
          · rw [if_pos h, List.filter_cons_of_pos h, List.filter_nil]
          · rw [if_neg h, List.filter_cons_of_neg h, List.filter_nil]
        show if l7.2 = true then _ else _
        by_cases h : l7.2 = true
        · rw [if_pos h] at tk ⊢
          refine ⟨_, rfl, _, e7, ?_, ?_, same_upd S7 hD2⟩
          · rw [List.length_map, List.length_map]
            have h1 := List.length_filter_le (fun l : Ltr => l.2) ((loc sy cl).take j)
            rw [List.length_take] at h1
            exact small1000 (by omega)
          · rw [upd_same, tk, List.map_append, List.map_append]
            rfl
        · rw [if_neg h] at tk ⊢
          rw [tk, List.append_nil]
          exact ⟨e7, S7⟩
      · rintro H7 ⟨e7, S7⟩
        have lT : (T.map TRow.v).length = (loc sy cl).length := by rw [List.length_map, ← List.length_map (f := Prod.snd), eT, List.length_map]
        rw [lT, List.take_length] at e7
        refine ⟨D2, _, rfl, .inl (SqL.of e7), _, _, rfl, rfl, ?_⟩
        rw [List.length_map, List.length_map]
        exact k' H7 (S6.trans S7)
    · exact ⟨D1, _, rfl, SqL.of e5, q H5 S5⟩
theorem ok_fitsTwos {f fL : Addr} {fd fdL : FuncData} (F : Fun K "fits_twos" "fits_twos" sFitsTwos f fd) (Lo : Has K mg "letters_of_owns" sLettersOf ["saying", "clause"] fL fdL) (B : Blt mg) : FnOk P w K mg base CX0 2 f fd ["saying"] (spFits twosC) := by
  have GL : FnOk P w K mg base CX0 1 fL fdL ["saying", "clause"] spLettersOf := ok_lettersOf Lo.F
  refine F.ok scFitsTwos (fun vs H Q E h => ?_) (fun cdv A outer s H vs Q E hr h => ?_)
  · obtain ⟨v, sy, rfl, _⟩ := h
    rfl
  · obtain ⟨v, sy, rfl, D, ok, q⟩ := h
    refine ⟨_, pss_one (ps_ret (pe_callB (cr_all rfl) (by rfl) B.all (by decide +kernel) (pa_cons (pe_lc (own := [("clause", 1)]) (g := gName 1) (tt := tYes)
        (te := tChain (rI0 fun i j => V.bl (decide (i ≤ j))) (rI0 fun i j => V.bl (decide (i ≤ j))) (tC (V.int 1)) (tLenE K tLo) (tC (V.int 2))) rfl scFitsTwos.nd (pi_tup (pe_ix ix_tup (pv 0) pe_int (fun _ _ => rfl)))
        (blkOk_by (N := ["saying", "clause"]) (sc := defScope sFitsTwos) (by decide +kernel)) (fun _ _ _ _ _ => pg_name (i := 1) scFitsTwos.nd rfl (Or.inl rfl)) (fun _ _ _ _ _ => pts_nil)
        (fun _ _ _ _ _ => by exact pe_chain op_le op_le pe_int (pe_callB call_len_seq (by rfl) B.len (by decide +kernel) (pa_cons (pe_call GL (by exact hr) (by rfl) Lo.g Lo.F.kp Lo.b .nil pass0 (pa_cons (pv 0) (pa_cons (pv 1) pa_nil))) pa_nil)) pe_int)) pa_nil))), ?_⟩
    obtain ⟨a, p, ov, c, rfl, ea, Dp, Do, Dc⟩ := say_row D
    obtain ⟨k, cs, rfl, ek, Dk⟩ := dat_tup (ds := sy.cls.map clD) Dc
    have lk : cs.length = sy.cls.length := by rw [Dk.len, List.length_map]
    have lcl := ok.cl
    refine ⟨_, rfl, a, _, 2, _, rfl, rfl, SqT.of ea, rfl, k, rfl, ⟨_, SqT.of ek⟩, fun D1 hD1 => lc_mapT (K := K) (ys := (sy.cls.map (twosC sy)).map V.bl) (SqT.of ek) hD1 (by rw [List.length_map, List.length_map, lk]) (by omega) (fun i x y H4 Qe hx hy S4 k' => ?_) gName_mono (fun H5 e5 S5 => ?_)⟩
    · obtain ⟨d, hd, Dx⟩ := dats_get' Dk i x hx
      obtain ⟨cl, hcl, rfl⟩ := get_map hd
      have ck := ok.ck cl (List.mem_of_getElem? hcl)
      have lc := Nat.le_trans (cl_len ck) ok.nlen
      have ey : y = V.bl (twosC sy cl) := by
        rw [List.getElem?_map, List.getElem?_map, hcl] at hy
        exact (Option.some.inj hy).symm
      rw [ey] at k'
      refine ⟨rfl, _, rfl, _, rfl, .ref a, x, sy, cl, rfl, D.same S4, ok.ol, Dx.same S4, lc, fun l H6 S6 hl L6 => ?_⟩
      obtain ⟨ys, e6, ly⟩ := L6.len
      refine ⟨l, _, rfl, .inl (SqL.of e6), _, _, rfl, rfl, _, rfl, ?_⟩
      rw [ly]
      have fin := k' H6 S6
      unfold twosC at fin
      by_cases h : decide ((1 : Int) ≤ ((loc sy cl).length : Nat)) = true
      · rw [if_pos h] at fin ⊢
        exact ⟨_, _, rfl, rfl, fin⟩
      · rw [if_neg h] at fin ⊢
        exact fin
    · exact ⟨D1, _, rfl, SqL.of e5, q H5 S5⟩
theorem ok_isPlain {f fT : Addr} {fd fdT : FuncData} (F : Fun K "is_plain" "is_plain" sPlain f fd) (e : Env1 K mg) (Wn : Wnt K mg) (Ft : Has K mg "fits_plain" sFitsPlain ["saying"] fT fdT) (GF : FnOk P w K mg base CX0 2 fT fdT ["saying"] (spFits plainC)) : FnOk P w K mg base CX0 8 f fd ["saying"] (spFits plainC) := by
  obtain ⟨fW, fdW, Wa, GW⟩ := g_wantSaying (P := P) (w := w) (base := base) e Wn
  refine F.ok scPlain (fun vs H Q E h => ?_) (fun cdv A outer s H vs Q E hr h => ?_)
  · obtain ⟨v, sy, rfl, _⟩ := h
    rfl
  · obtain ⟨v, sy, rfl, D, ok, q⟩ := h
    refine ⟨_, pss_cons (ps_expr (pe_call GW hr rfl Wa.g Wa.F.kp Wa.b .nil pass0 (pa_cons (pv 0) pa_nil))) (pss_one (ps_ret (pe_call GF (hr.mono (by decide)) rfl Ft.g Ft.F.kp Ft.b .nil pass0 (pa_cons (pv 0) pa_nil)))), ?_⟩
    exact ⟨_, rfl, v, sy, rfl, D, ok, fun H1 S1 => ⟨_, rfl, v, sy, rfl, D.same S1, ok, fun H2 S2 => q H2 (S1.trans S2)⟩⟩
theorem ok_isTwos {f fT : Addr} {fd fdT : FuncData} (F : Fun K "is_twos" "is_twos" sTwos f fd) (e : Env1 K mg) (Wn : Wnt K mg) (Ft : Has K mg "fits_twos" sFitsTwos ["saying"] fT fdT) (GF : FnOk P w K mg base CX0 2 fT fdT ["saying"] (spFits twosC)) : FnOk P w K mg base CX0 8 f fd ["saying"] (spFits twosC) := by
  obtain ⟨fW, fdW, Wa, GW⟩ := g_wantSaying (P := P) (w := w) (base := base) e Wn
  refine F.ok scTwos (fun vs H Q E h => ?_) (fun cdv A outer s H vs Q E hr h => ?_)
  · obtain ⟨v, sy, rfl, _⟩ := h
    rfl
  · obtain ⟨v, sy, rfl, D, ok, q⟩ := h
    refine ⟨_, pss_cons (ps_expr (pe_call GW hr rfl Wa.g Wa.F.kp Wa.b .nil pass0 (pa_cons (pv 0) pa_nil))) (pss_one (ps_ret (pe_call GF (hr.mono (by decide)) rfl Ft.g Ft.F.kp Ft.b .nil pass0 (pa_cons (pv 0) pa_nil)))), ?_⟩
    exact ⟨_, rfl, v, sy, rfl, D, ok, fun H1 S1 => ⟨_, rfl, v, sy, rfl, D.same S1, ok, fun H2 S2 => q H2 (S1.trans S2)⟩⟩
end
end S1

set_option Elab.async false
set_option linter.all false
set_option maxRecDepth 100000
set_option maxHeartbeats 4000000
/-! the letters of owns, counted by the law -/
namespace S1
open PySem PySem.W PySem.Spec PyProof.Rows L2
theorem paired_of {α β : Type} {F : α → β → Prop} : ∀ (ps : List α) (ks : List β), ps.length = ks.length → (∀ (i : Nat) (p : α) (k : β), ps[i]? = some p → ks[i]? = some k → F p k) → Paired F ps ks
  | [], [], _, _ => .nil
  | [], _ :: _, h, _ => by simp at h
  | _ :: _, [], h, _ => by simp at h
  | p :: ps, k :: ks, h, f => .cons (f 0 p k rfl rfl) (paired_of ps ks (by simpa using h) fun i p' k' h1 h2 => f (i + 1) p' k' (by simpa using h1) (by simpa using h2))
abbrev kvT (xs : List Str) : List (Key × V) := xs.map fun n => (.inr n, .bl true)
theorem val_merge (x : Str) : ∀ (xs : List Str) (kvs : List (Key × V)), (valV (mergeK kvs (kvT xs)) (.inr x)).isSome = ((valV kvs (.inr x)).isSome || decide (x ∈ xs))
  | [], kvs => by
    show (valV kvs (.inr x)).isSome = _
    simp
  | n :: xs, kvs => by
    show (valV (mergeK (putK kvs (.inr n) (.bl true)) (kvT xs)) (.inr x)).isSome = _
    rw [val_merge x xs, valV_put]
    by_cases e : x = n
    · subst e
      simp
    · have e2 : ¬ ((Sum.inr x : Key) = .inr n) := fun z => e (Sum.inr.inj z)
      rw [if_neg e2]
      simp [e]
def cntN (sy : Say) (cl : List Ltr) : Nat := (loc sy cl).length
def cntT (sy : Say) (cl : List Ltr) : Nat := ((loc sy cl).map Prod.snd).count true
/-- the rows that the law counts -/
structure Ct (sy : Say) (l : Addr) (n : Nat) (G : Hp) : Prop where
  ex : ∃ ps : List Addr, G l = some (.lst (ps.map V.ref)) ∧ ps.length = n ∧ ∀ (i : Nat) (p : Addr) (cl : List Ltr), ps[i]? = some p → sy.cls[i]? = some cl → G p = some (.tup [.int (cntN sy cl : Nat), .int (cntT sy cl : Nat)])
theorem Ct.same {sy : Say} {l : Addr} {n : Nat} {G G2 : Hp} (h : Ct sy l n G) (S : Same G G2) : Ct sy l n G2 := by
  obtain ⟨ps, e, len, f⟩ := h.ex
  exact ⟨ps, S _ _ e, len, fun i p cl h1 h2 => S _ _ (f i p cl h1 h2)⟩
def spCounted : Sp := fun vs H Q _ => ∃ (v : V) (sy : Say), vs = [v] ∧ DatS H v sy ∧ SayOk 6 8 120 40 sy ∧ ∀ (l : Addr) (H' : Hp), Same H H' → H l = none → Ct sy l sy.cls.length H' → Q (.ref l) H'
abbrev nCt : List Str := ["saying", "own", "found", "clause", "truths", "name", "sight", "truth"]
section
variable {P : Program} {w : World} {K : PySem.W.Frag} {mg : Str → Option Value} {base : Heap}
theorem scCounted : FnScope nCt ["saying"] (defScope sCounted) := ⟨rfl, rfl, rfl, by decide +kernel, rfl, by decide +kernel, by decide +kernel⟩
theorem ok_counted {f : Addr} {fd : FuncData} (F : Fun K "_law_counted" "_law_counted" sCounted f fd) (B : Blt mg) : FnOk P w K mg base CX0 1 f fd ["saying"] spCounted := by
  refine F.ok scCounted (fun vs H Q E h => ?_) (fun cdv A outer s H vs Q E hr h => ?_)
  · obtain ⟨v, sy, rfl, _⟩ := h
    rfl
  · obtain ⟨v, sy, rfl, D, ok, q⟩ := h
    have hu : (A.deeper (envOfC "_law_counted" (defScope sCounted) s.heap.objs.size f cdv)).units + 64 < cLine := hr.units
    have hu1 : (A.deeper (envOfC "_law_counted" (defScope sCounted) s.heap.objs.size f cdv)).units + 1 < cLine := by omega
    refine ⟨_, pss_cons (ps_set (i := 1) scCounted.nd rfl (.inr rfl) (pe_callTy (call_dictP rfl) (by rfl) B.dict (by decide +kernel) (pa_cons
        (pe_lc (own := [("name", 5), ("sight", 6)]) (g := gTup K 2 (gCons (gName 5) (gCons (gName 6) gNil))) (tt := tYes) (te := tTup (tCons (tVar 5) (tCons (tC (V.bl true)) tNil))) rfl scCounted.nd (pi_tup (pe_ix ix_tup (pv 0) pe_int (fun _ _ => rfl))) (blkOk_by (N := nCt) (sc := defScope sCounted) (by decide +kernel))
          (fun _ _ _ _ _ => by exact pg_tup rfl (pgs_cons (pg_name (i := 5) scCounted.nd rfl (.inl rfl)) (pgs_cons (pg_name (i := 6) scCounted.nd rfl (.inl rfl)) pgs_nil))) (fun _ _ _ _ _ => pts_nil) (fun _ _ _ _ _ => by exact pe_tup (pa_cons (pv 5) (pa_cons pe_bl pa_nil)))) pa_nil)))
      (pss_cons (ps_set (i := 2) scCounted.nd rfl (.inl rfl) (pe_lst pa_nil))
      (pss_cons (ps_for PassesOwn.never rfl (pi_tup (pe_ix ix_tup (pv 0) pe_int (fun _ _ => rfl))) (pg_name (i := 3) scCounted.nd rfl (.inl rfl))
        (pss_cons (ps_setLc (i := 4) (own := [("name", 5), ("truth", 7)]) (g := gTup K 2 (gCons (gName 5) (gCons (gName 7) gNil))) (tt := tB (tDIn (tVar 5) (tVar 1))) (te := tVar 7) rfl scCounted.nd rfl rfl (sw_true rfl rfl rfl (by decide +kernel)) (pi_tup (pv 3)) (blkOk_by (N := nCt) (sc := defScope sCounted) (by decide +kernel))
          (fun _ _ _ _ _ => by exact pg_tup rfl (pgs_cons (pg_name (i := 5) scCounted.nd rfl (.inl rfl)) (pgs_cons (pg_name (i := 7) scCounted.nd rfl (.inl rfl)) pgs_nil))) (fun _ _ _ _ _ => by exact pts_one (pt_cmp (pc_din (by exact hu1) (pv 5) (pv 1)))) (fun _ _ _ _ _ => pv 7))
        (pss_one (ps_expr (pe_bm PySem.F.plainAttrs_list PySem.F.slot_list_append PySem.F.type_list_append mt_append (pv 2) (pa_cons (pe_tup (pa_cons (pe_callB call_len_seq (by rfl) B.len (by decide +kernel) (pa_cons (pv 4) pa_nil))
          (pa_cons (pe_bm PySem.F.plainAttrs_list PySem.F.slot_list_count PySem.F.type_list_count mt_lcountB (pv 4) (pa_cons pe_bl pa_nil)) pa_nil))) pa_nil))))))
      (pss_one (ps_ret (pv 2))))), ?_⟩
    obtain ⟨a, p, ov, c, rfl, ea, Dp, ⟨b, us, rfl, eb, Db⟩, Dc⟩ := say_row D
    obtain ⟨k, cs, rfl, ek, Dk⟩ := dat_tup (ds := sy.cls.map clD) Dc
    have lu : us.length = sy.owns.length := by rw [Db.len, List.length_map]
    have lk : cs.length = sy.cls.length := by rw [Dk.len, List.length_map]
    have lo := ok.ol
    have lcl := ok.cl
    refine ⟨_, rfl, a, _, 1, _, rfl, rfl, SqT.of ea, rfl, b, rfl, ⟨_, FT.sq eb⟩, fun D1 hD1 => ?_⟩
    refine lc_tup (K := K) (a := b) (xs := us) (fun j H4 => ∃ ps : List Addr, H4 D1 = some (.lst (ps.map V.ref)) ∧ ps.length = j ∧ (∀ (i : Nat) (q : Addr) (o : Own), ps[i]? = some q → sy.owns[i]? = some o → H4 q = some (.tup [.str o.1, .bl true])) ∧ Same H H4)
      ⟨[], upd_same, rfl, fun i q o h => by simp at h, same_new hD1⟩ (fun j H4 _ ⟨_, _, _, _, S⟩ => FT.sq (FT.same eb S)) ?_ ?_
    · rintro j x H4 hx ⟨ps, e4, lp, hps, S4⟩
      obtain ⟨o, t, t', ho, rfl, g1⟩ := own_names Db hx
      have jl : j < sy.owns.length := (List.getElem?_eq_some_iff.mp ho).1
      refine ⟨t, _, rfl, SqT.of (S4 _ _ g1), rfl, _, _, rfl, _, _, rfl, rfl, rfl, yes_of ⟨_, rfl, (by show 2 ≤ sizeLine; decide), fun q hq => ?_⟩⟩
      have nDq : D1 ≠ q := ne_of_none e4 hq
      have Sq := same_new (o := .tup [.str o.1, .bl true]) hq
      refine ⟨_, Sq _ _ e4, by rw [List.length_map, lp]; exact small1000 (by omega), ps ++ [q], by rw [upd_same, List.map_append]; rfl, by rw [List.length_append, lp]; rfl, fun i q' o' h1 h2 => ?_, same_upd (S4.trans Sq) hD1⟩
      by_cases hi : i < ps.length
      · rw [List.getElem?_append_left hi] at h1
        have z := hps i q' o' h1 h2
        have z2 := Sq _ _ z
        rw [upd_ne (fun y => by rw [y, e4] at z; cases z)]
        exact z2
      · have hi2 : i = ps.length := by
          have := (List.getElem?_eq_some_iff.mp h1).1
          rw [List.length_append] at this
          simp at this
          omega
        rw [hi2, List.getElem?_append_right (Nat.le_refl _), Nat.sub_self] at h1
        cases (show some q = some q' from h1)
        rw [hi2, lp, ho] at h2
        cases h2
        rw [upd_ne nDq.symm, upd_same]
    · rintro H4 ⟨ps, e4, lp, hps, S4⟩
      refine ⟨D1, ps, kvT (sy.owns.map Prod.fst), rfl, SqL.of e4, paired_of _ _ (by rw [lp, lu, List.length_map, List.length_map]) (fun i q kv h1 h2 => ?_), fun dA hA => ?_⟩
      · rw [List.getElem?_map, List.getElem?_map] at h2
        cases ho : sy.owns[i]? with
        | none => rw [ho] at h2; cases h2
        | some o =>
          rw [ho] at h2
          cases h2
          exact SqT.of (hps i q o h1 ho)
      · have S5 := S4.trans (same_new (o := .dK (mergeK [] (kvT (sy.owns.map Prod.fst)))) hA)
        have eA : upd H4 dA (.dK (mergeK [] (kvT (sy.owns.map Prod.fst)))) dA = some (.dK (mergeK [] (kvT (sy.owns.map Prod.fst)))) := upd_same
        generalize upd H4 dA (.dK (mergeK [] (kvT (sy.owns.map Prod.fst)))) = H5 at S5 eA ⊢
        refine ⟨(by show 0 ≤ sizeLine; decide), fun lF hF => ?_⟩
        have hF0 := S5.free hF
        have S6 := S5.trans (same_new (o := .lst []) hF)
        have nAF : dA ≠ lF := ne_of_none eA hF
        have eA6 : upd H5 lF (.lst []) dA = some (.dK (mergeK [] (kvT (sy.owns.map Prod.fst)))) := by rw [upd_ne nAF]; exact eA
        have C6 : Ct sy lF 0 (upd H5 lF (.lst [])) := ⟨[], upd_same, rfl, fun i p cl h => by simp at h⟩
        generalize upd H5 lF (.lst []) = H6 at S6 eA6 C6 ⊢
        refine ⟨_, rfl, a, _, 2, _, rfl, rfl, SqT.of (S6 _ _ ea), rfl, k, rfl, ⟨_, SqT.of (S6 _ _ ek)⟩, ?_⟩
        refine for_tup (K := K) (a := k) (xs := cs) (fun i σ G => ∃ o3 o4 o5 o6 o7 : Option V, σ = [some (.ref a), some (.ref dA), some (.ref lF), o3, o4, o5, o6, o7] ∧ Ct sy lF i G ∧ G dA = some (.dK (mergeK [] (kvT (sy.owns.map Prod.fst)))) ∧ Same H G)
          ⟨_, _, _, _, _, rfl, C6, eA6, S6⟩ (fun i σ G _ ⟨_, _, _, _, _, _, _, _, S⟩ => SqT.of (S _ _ ek)) ?_ ?_
        · rintro i x σ G hx ⟨o3, o4, o5, o6, o7, rfl, CG, eG, SG⟩
          obtain ⟨d, hd, Dx⟩ := dats_get' Dk i x hx
          obtain ⟨cl, hcl, rfl⟩ := get_map hd
          obtain ⟨kc, xs, rfl, ekc, Dkc⟩ := dat_tup (ds := cl.map ltD) Dx
          have ck := ok.ck cl (List.mem_of_getElem? hcl)
          have lc := Nat.le_trans (cl_len ck) ok.nlen
          have lx : xs.length = cl.length := by rw [Dkc.len, List.length_map]
          refine ⟨_, rfl, kc, rfl, ⟨_, SqT.of (SG _ _ ekc)⟩, fun D2 hD2 => ?_⟩
          have hD20 := SG.free hD2
          refine lc_tup (K := K) (a := kc) (xs := xs) (fun j H7 => H7 D2 = some (.lst (((loc sy (cl.take j)).map Prod.snd).map V.bl)) ∧ Same G H7) ⟨upd_same, same_new hD2⟩ (fun j H7 _ h => SqT.of (h.2 _ _ (SG _ _ ekc))) ?_ ?_
          · rintro j y H7 hy ⟨e7, S7⟩
            obtain ⟨d2, hd2, Dy⟩ := dats_get' Dkc j y hy
            obtain ⟨l, hl, rfl⟩ := get_map hd2
            obtain ⟨t, rfl, et⟩ := ltr_row Dy
            have jl : j < cl.length := (List.getElem?_eq_some_iff.mp hl).1
            refine ⟨t, _, rfl, SqT.of (S7 _ _ (SG _ _ et)), rfl, _, _, rfl, _, _, rfl, rfl, rfl, _, rfl, _, rfl, dA, _, rfl, DGet.k (k := .inr l.1) (S7 _ _ eG), _, rfl, ?_⟩
            show if (valV (mergeK [] (kvT (sy.owns.map Prod.fst))) (.inr l.1)).isSome = true then _ else _
            rw [val_merge]
            show if (false || decide (l.1 ∈ sy.owns.map Prod.fst)) = true then _ else _
            rw [Bool.false_or]
            have tk : loc sy (cl.take (j + 1)) = loc sy (cl.take j) ++ (if l.1 ∈ sy.owns.map Prod.fst then [l] else []) := by rw [take_next hl, loc_snoc]
            by_cases hin : l.1 ∈ sy.owns.map Prod.fst
            · rw [if_pos (decide_eq_true hin)]
              rw [if_pos hin] at tk
              have := loc_len sy (cl.take j)
              rw [List.length_take] at this
              refine ⟨_, rfl, _, e7, by rw [List.length_map, List.length_map]; exact small1000 (by omega), ?_, same_upd S7 hD2⟩
              rw [upd_same, tk, List.map_append, List.map_append]
              rfl
            · rw [if_neg (by simpa using hin)]
              rw [if_neg hin, List.append_nil] at tk
              rw [tk]
              exact ⟨e7, S7⟩
          · rintro H7 ⟨e7, S7⟩
            rw [lx, List.take_length] at e7
            have C7 := CG.same S7
            obtain ⟨ps2, ep2, lp2, hp2⟩ := C7.ex
            refine ⟨_, rfl, .inl ⟨rfl, _, SqL.of ep2⟩, _, rfl, _, _, rfl, .inl (SqL.of e7), _, rfl, .inl ⟨rfl, _, SqL.of e7⟩, D2, _, true, rfl, rfl, SqL.of e7, (by show 2 ≤ sizeLine; decide), fun tq hq => ?_⟩
            rw [List.length_map, List.length_map] at *
            have Sq := same_new (o := .tup [.int ((loc sy cl).length : Nat), .int (((loc sy cl).map Prod.snd).count true : Nat)]) hq
            have nFq : lF ≠ tq := ne_of_none ep2 hq
            have SGq := (SG.trans S7).trans Sq
            refine ⟨lF, _, _, rfl, rfl, Sq _ _ ep2, by rw [List.length_map, lp2]; exact small1000 (by have := (List.getElem?_eq_some_iff.mp hcl).1; omega), _, _, _, _, _, rfl, ⟨ps2 ++ [tq], by rw [upd_same, List.map_append]; rfl, by rw [List.length_append, lp2]; rfl, fun i' p' cl' h1 h2 => ?_⟩, ?_, ?_⟩
            · by_cases hi : i' < ps2.length
              · rw [List.getElem?_append_left hi] at h1
                have z := hp2 i' p' cl' h1 h2
                rw [upd_ne (fun y => by rw [y, ep2] at z; cases z)]
                exact Sq _ _ z
              · have hi2 : i' = ps2.length := by
                  have := (List.getElem?_eq_some_iff.mp h1).1
                  rw [List.length_append] at this
                  simp at this
                  omega
                rw [hi2, List.getElem?_append_right (Nat.le_refl _), Nat.sub_self] at h1
                cases (show some tq = some p' from h1)
                rw [hi2, lp2, hcl] at h2
                cases h2
                rw [upd_ne nFq.symm, upd_same]
                rfl
            · rw [upd_ne nAF]
              exact Sq _ _ (S7 _ _ eG)
            · exact same_upd SGq hF0
        · rintro σ G ⟨o3, o4, o5, o6, o7, rfl, CG, eG, SG⟩
          rw [lk] at CG
          exact ⟨_, rfl, q lF G SG hF0 CG⟩
end
end S1

set_option Elab.async false
set_option linter.all false
set_option maxRecDepth 100000
set_option maxHeartbeats 1000000
/-! how long a shown saying is -/
namespace S1
open PySem PySem.W PySem.Spec PyProof.Rows L2
theorem listText_le : ∀ ts : List Str, (listText ts).length ≤ piled ts + 2
  | [] => by decide
  | t :: r => by
    have h := textFrom_length_pos r 1 (("[" : Str) ++ (if (0 : Nat) > 0 then ", " else "" : String) ++ t) (Nat.succ_pos 0)
    have e1 : (("[" : Str) ++ (if (0 : Nat) > 0 then ", " else "" : String) ++ t).length = 1 + t.length := by
      rw [strLen_append, strLen_append]
      rfl
    have e2 : (listText (t :: r)).length = (textFrom 1 (("[" : Str) ++ (if (0 : Nat) > 0 then ", " else "" : String) ++ t) r).length + 1 := by
      show (textFrom 1 _ r ++ "]").length = _
      rw [strLen_append]
      rfl
    rw [piled_cons]
    omega
theorem join_le (ts : List Str) : (Str.join ", " ts).length ≤ piled ts := by
  by_cases h : ts = []
  · subst h
    decide
  · have := join_length_add ts h
    omega
theorem tupleText_le (ts : List Str) : (tupleText ts).length ≤ piled ts + 3 := by
  have h := join_le ts
  unfold tupleText
  rw [strLen_append, strLen_append]
  have e1 : ((("(" : String) : Str)).length = 1 := rfl
  have e3 : (((if ts.length == 1 then ",)" else ")" : String) : Str)).length ≤ 2 := by split <;> decide
  omega
theorem piled_le {b : Nat} : ∀ ts : List Str, (∀ t ∈ ts, t.length ≤ b) → piled ts ≤ ts.length * (b + 2)
  | [], _ => Nat.zero_le _
  | t :: r, h => by
    have h1 := h t (List.mem_cons_self ..)
    have h2 := piled_le r fun u hu => h u (List.mem_cons_of_mem _ hu)
    rw [piled_cons, List.length_cons, Nat.succ_mul]
    omega
/-- it can be shown, in a text of at most b signs, k deep -/
structure Shw (b k : Nat) (d : PyData) : Prop where
  s : d.showable = true
  z : d.shown.length ≤ b
  d : d.depth ≤ k
theorem Shw.up {b b' k k' : Nat} {d : PyData} (h : Shw b k d) (hb : b ≤ b') (hk : k ≤ k') : Shw b' k' d := ⟨h.s, Nat.le_trans h.z hb, Nat.le_trans h.d hk⟩
theorem shw_all {b k : Nat} : ∀ ds : List PyData, (∀ d ∈ ds, Shw b k d) → PyData.showableAll ds = true ∧ PyData.depthAll ds ≤ k ∧ (∀ t ∈ PyData.shownAll ds, t.length ≤ b) ∧ (PyData.shownAll ds).length = ds.length
  | [], _ => ⟨by simp only [PyData.showableAll], by simp only [PyData.depthAll]; omega, (fun t h => by simp only [PyData.shownAll] at h; exact nomatch h), by simp only [PyData.shownAll]; rfl⟩
  | d :: ds, h => by
    have h1 := h d (List.mem_cons_self ..)
    obtain ⟨a, b, c, e⟩ := shw_all ds fun x hx => h x (List.mem_cons_of_mem _ hx)
    refine ⟨by simp only [PyData.showableAll, h1.s, a, Bool.and_self], ?_, fun t ht => ?_, ?_⟩
    · simp only [PyData.depthAll]
      exact Nat.max_le.mpr ⟨h1.d, b⟩
    · simp only [PyData.shownAll, List.mem_cons] at ht
      rcases ht with rfl | ht
      · exact h1.z
      · exact c t ht
    · simp only [PyData.shownAll, List.length_cons, e]
theorem shw_tup {b k n : Nat} {ds : List PyData} (h : ∀ d ∈ ds, Shw b k d) (hl : ds.length ≤ n) : Shw (n * (b + 2) + 3) (k + 1) (.tuple ds) := by
  obtain ⟨a, dd, c, e⟩ := shw_all ds h
  refine ⟨by simp only [PyData.showable, a], ?_, by simp only [PyData.depth]; omega⟩
  simp only [PyData.shown]
  have h1 := tupleText_le (PyData.shownAll ds)
  have h2 := piled_le _ c
  have h3 : (PyData.shownAll ds).length * (b + 2) ≤ n * (b + 2) := Nat.mul_le_mul_right _ (by omega)
  omega
theorem shw_lst {b k n : Nat} {ds : List PyData} (h : ∀ d ∈ ds, Shw b k d) (hl : ds.length ≤ n) : Shw (n * (b + 2) + 3) (k + 1) (.list ds) := by
  obtain ⟨a, dd, c, e⟩ := shw_all ds h
  refine ⟨by simp only [PyData.showable, a], ?_, by simp only [PyData.depth]; omega⟩
  simp only [PyData.shown]
  have h1 := listText_le (PyData.shownAll ds)
  have h2 := piled_le _ c
  have h3 : (PyData.shownAll ds).length * (b + 2) ≤ n * (b + 2) := Nat.mul_le_mul_right _ (by omega)
  omega
theorem shw_map {α : Type} {b k n : Nat} {f : α → PyData} {l : List α} (h : ∀ x ∈ l, Shw b k (f x)) (hl : l.length ≤ n) : Shw (n * (b + 2) + 3) (k + 1) (.tuple (l.map f)) := shw_tup (fun d hd => by
  obtain ⟨x, hx, rfl⟩ := List.mem_map.mp hd
  exact h x hx) (by rw [List.length_map]; exact hl)
theorem shw_bl (b : Bool) : Shw 5 0 (.bool b) := by cases b <;> exact ⟨rfl, by decide, Nat.le_refl _⟩
theorem shw_nm {x : Str} (h : Nm x) : Shw 82 0 (.str x) := by
  refine ⟨rfl, ?_, Nat.le_refl _⟩
  simp only [PyData.shown]
  have := StrLaws.reprText_len x fun c hc => Nat.lt_of_le_of_lt (h.az c hc).2 (by decide)
  have := h.hi
  omega
theorem shw_nms {xs : List Str} (h : ∀ x ∈ xs, Nm x) (hl : xs.length ≤ 6) : Shw 507 1 (nmsD xs) := shw_map (n := 6) (fun x hx => shw_nm (h x hx)) hl
theorem shw_say {s : Say} (ok : SayOk 6 8 120 40 s) : Shw 300000 5 s.d := by
  have hp : Shw 507 1 (nmsD s.picks) := shw_nms ok.pn ok.pl
  have ho : Shw 8187 3 (.tuple (s.owns.map ownD)) := shw_map (b := 1021) (k := 2) (n := 8) (fun o m => by
    have og := ok.own m
    refine shw_tup (b := 507) (k := 1) (n := 2) (ds := [.str o.1, nmsD o.2]) (fun d hd => ?_) (Nat.le_refl _)
    rcases List.mem_cons.mp hd with rfl | hd
    · exact (shw_nm (ok.on o m).1).up (by decide) (by decide)
    · cases List.mem_singleton.mp hd
      exact shw_nms (fun x hx => ok.pn x ((ok.on o m).2.2.2 x hx)) (Nat.le_trans og.le ok.pl)) ok.ol
  have hn : ∀ x ∈ s.names, Nm x := fun x hx => by
    rcases List.mem_append.mp hx with m | m
    · exact ok.pn x m
    · obtain ⟨o, mo, rfl⟩ := List.mem_map.mp m
      exact (ok.on o mo).1
  have hc : Shw 97083 3 (.tuple (s.cls.map clD)) := shw_map (b := 2425) (k := 2) (n := 40) (fun cl m => by
    have ck := ok.ck cl m
    have lc : cl.length ≤ 14 := Nat.le_trans (cl_len ck) ok.nlen
    refine shw_map (b := 171) (k := 1) (n := 14) (fun l ml => ?_) lc
    refine shw_tup (b := 82) (k := 0) (n := 2) (ds := [.str l.1, .bool l.2]) (fun d hd => ?_) (Nat.le_refl _)
    rcases List.mem_cons.mp hd with rfl | hd
    · exact shw_nm (hn _ (ck.mem l ml))
    · cases List.mem_singleton.mp hd
      exact (shw_bl _).up (by decide) (by decide)) ok.cl
  exact (shw_tup (b := 97083) (k := 3) (n := 3) (ds := [nmsD s.picks, .tuple (s.owns.map ownD), .tuple (s.cls.map clD)]) (fun d hd => by
    rcases List.mem_cons.mp hd with rfl | hd
    · exact hp.up (by decide) (by decide)
    rcases List.mem_cons.mp hd with rfl | hd
    · exact ho.up (by decide) (by decide)
    · cases List.mem_singleton.mp hd
      exact hc) (Nat.le_refl _)).up (by decide) (by decide)
end S1

set_option Elab.async false
set_option linter.all false
set_option maxRecDepth 100000
set_option maxHeartbeats 4000000
/-! a call of a def by keywords alone -/
namespace S1
open PySem PySem.W PySem.Spec PyProof.Rows L2
/-- how a call by keywords alone binds: g puts their values in the parameters' order -/
structure KB0 (K : PySem.W.Frag) (fd : FuncData) (ps ks : List Str) (g : List Value → List Value) (gV : List V → List V) : Prop where
  to : ∀ (s : Shared) (ws : List Value), K.In s.heap → ws.length = ks.length → BindsTo s fd ⟨[], ks.zip ws⟩ (ps.zip (g ws))
  rel : ∀ {zs : List V} {ws : List Value}, Vals zs ws → Vals (gV zs) (g ws)
def tCallK0 (sp : Sp) (gV : List V → List V) (n : Nat) (E : XK) (tk : TA) : TE := fun σ H Q => tk σ H fun zs H2 => zs.length = n ∧ sp (gV zs) H2 Q E
section
variable {X : Cx} {CX : CXT} {k : Nat} {f : Addr} {fd : FuncData} {ps ks : List Str} {sp : Sp} {E : XK} {x : Str} {p pos : Pos} {kws : List Keyword} {tk : TA} {g : List Value → List Value} {gV : List V → List V}
theorem run_fnk0 {pins : List (Addr × Obj)} {σ : L2.St} {H : Hp} {s : Shared} {Q : VK} {ws : List Value} {zs : List V} (F : FnOk X.prog X.w X.K X.mg X.base CX k f fd ps sp) (hr : Room k X.A) (hb : KB0 X.K fd ps ks g gV) (hx : Passes CX X E)
    (I : Inv X pins σ H s) (rz : Vals zs ws) (hn : zs.length = ks.length) (h : sp (gV zs) H Q E) : wpAny (model X.prog X.w) X.A (call (.ref f) [] (ks.zip ws)) (EP X pins σ Q) X.xe s := by
  have r2 := hb.rel rz
  have hl : ws.length = ks.length := by rw [← rz.length]; exact hn
  refine wpAny_call (codeAny_mono (F.run X.A X.stack s H ⟨[], ks.zip ws⟩ (g ws) (gV zs) Q E hr I.env0 (hb.to s ws I.kIn hl) r2 h) fun r s' hq => ?_)
  cases r with
  | error e => exact hx pins σ H s e s' I hq
  | ok fl =>
    cases fl with
    | ret u => exact I.after hq
    | next => exact False.elim hq
    | brk => exact False.elim hq
    | cont => exact False.elim hq
/-- f(k = v, ..) -/
theorem pe_callK0 (F : FnOk X.prog X.w X.K X.mg X.base CX k f fd ps sp) (hr : Room k X.A) (hg : Gl X x) (hm : X.mg x = some (.ref f)) (hk : PySem.W.keepIn X.K (.ref f) = true) (hb : KB0 X.K fd ps ks g gV) (hx : Passes CX X E)
    (hkw : PK X kws tk) (hall : (backToKw pos (keywordEach kws X.env)).all (·.1.isSome) = true := by rfl) (hks : (backToKw pos (keywordEach kws X.env)).filterMap (·.1) = ks := by rfl)
    (hdb : (x == ("__debug__" : Str)) = false := by decide)
    (hpl : ((backTo pos (starEach [] X.env)).any (·.1) || (backToKw pos (keywordEach kws X.env)).any (·.1.isNone)) = false := by rfl) :
    PE X (.Call (.Name x p) [] kws pos) (tCallK0 sp gV ks.length E tk) := by
  refine ⟨fun pins s σ H Q I h => ?_⟩
  refine wpAny_Call_Name_kw (ld_glob I hg hm ?_ hdb)
  refine PySem.W.callWith_KW0 (h₀ := X.base) I.ok.mod.kin hk hall (thn (hkw.run pos pins s σ H _ I h) fun ws s2 ⟨zs, H2, I2, rz, hn, q2⟩ => ⟨I2.kIn, ?_⟩) hpl
  rw [hks]
  exact run_fnk0 F hr hb hx I2 rz hn q2
end
section
variable {K : PySem.W.Frag}
theorem vals_rev {zs : List V} {ws : List Value} (h : Vals zs ws) : Vals zs.reverse ws.reverse := by
  induction h with
  | nil => exact .nil
  | cons a b ih =>
    rw [List.reverse_cons, List.reverse_cons]
    exact Vals.append ih (.cons a .nil)
/-- the keywords in the parameters' order -/
theorem Fun.kb1 {x qual a : Str} {st : Stmt} {f : Addr} {fd : FuncData} (F : Fun K x qual st f fd)
    (h : ∀ (kV doc pm : Value) (an : Option Addr) (cdv ct u : Value), bindArgs (PySem.W.fnOf x qual (defArgs st) (defBody st) (defScope st) .none kV doc pm an cdv ct) ⟨[], [(a, u)]⟩ = pure [(a, u)]) : KB0 K fd [a] [a] id id := by
  obtain ⟨oc, od, kV, doc, pm, an, cdv, ct, osl, rfl, lk, hcd⟩ := F.ex
  refine ⟨fun s ws X l => ?_, fun r => r⟩
  match ws, l with
  | [u], _ => exact .of_eq (h kV doc pm an cdv ct u)
/-- three keywords, the last first -/
theorem Fun.kb3 {x qual a b c : Str} {st : Stmt} {f : Addr} {fd : FuncData} (F : Fun K x qual st f fd)
    (h : ∀ (kV doc pm : Value) (an : Option Addr) (cdv ct u v z : Value), bindArgs (PySem.W.fnOf x qual (defArgs st) (defBody st) (defScope st) .none kV doc pm an cdv ct) ⟨[], [(c, u), (b, v), (a, z)]⟩ = pure [(a, z), (b, v), (c, u)]) : KB0 K fd [a, b, c] [c, b, a] List.reverse List.reverse := by
  obtain ⟨oc, od, kV, doc, pm, an, cdv, ct, osl, rfl, lk, hcd⟩ := F.ex
  refine ⟨fun s ws X l => ?_, fun r => ?_⟩
  · match ws, l with
    | [u, v, z], _ => exact .of_eq (h kV doc pm an cdv ct u v z)
  · exact vals_rev r
end
end S1

set_option Elab.async false
set_option linter.all false
set_option maxRecDepth 100000
set_option maxHeartbeats 4000000
/-! whether one saying is told right; the law -/
namespace S1
open PySem PySem.W PySem.Spec PyProof.Rows L2
theorem cnt_plain (sy : Say) (cl : List Ltr) : decide (((cntT sy cl : Nat) : Int) < 2) = plainC sy cl := by
  unfold cntT plainC
  rw [List.count, List.countP_map, List.countP_eq_length_filter]
  have e : ((loc sy cl).filter ((fun x => x == true) ∘ Prod.snd)) = (loc sy cl).filter fun l => l.2 := by
    congr 1
    funext l
    simp
  rw [e]
  by_cases h : (((loc sy cl).filter fun l => l.2).length : Int) < 2
  · rw [decide_eq_true h, decide_eq_true (by omega)]
  · rw [decide_eq_false h, decide_eq_false (by omega)]
theorem cnt_twos (sy : Say) (cl : List Ltr) : inV (.int (cntN sy cl : Nat)) [.int 1, .int 2] = twosC sy cl := by
  unfold cntN twosC
  generalize (loc sy cl).length = n
  have e : inV (.int (n : Nat)) [.int 1, .int 2] = (decide (n = 1) || decide (n = 2)) := by
    unfold inV
    rw [List.any_cons, List.any_cons, List.any_nil, Bool.or_false]
    simp only [eqV]
    rcases Nat.lt_trichotomy n 1 with h | h | h
    · have : n = 0 := by omega
      subst this
      rfl
    · subst h
      rfl
    · by_cases h2 : n = 2
      · subst h2
        rfl
      · have e1 : ((1 : Int) == (n : Int)) = false := by simp; omega
        have e2 : ((2 : Int) == (n : Int)) = false := by simp; omega
        rw [decide_eq_false (by omega), decide_eq_false h2]
        simp_all
  rw [e]
  by_cases h1 : n = 1
  · subst h1
    rfl
  · by_cases h2 : n = 2
    · subst h2
      rfl
    · rw [decide_eq_false h1, decide_eq_false h2]
      by_cases h3 : (1 : Int) ≤ (n : Nat)
      · rw [if_pos (decide_eq_true h3), decide_eq_false (by omega)]
        rfl
      · rw [if_neg (by simpa using h3)]
        rfl
theorem keyable_say (s : Say) : keyable s.d = true := by
  show (keyable (nmsD s.picks) && (keyable (.tuple (s.owns.map ownD)) && (keyable (.tuple (s.cls.map clD)) && true))) = true
  rw [keyable_nms]
  have h1 : keyable (.tuple (s.owns.map ownD)) = true := by
    show keyables (s.owns.map ownD) = true
    exact keyables_map ownD keyable_own s.owns
  have h2 : keyable (.tuple (s.cls.map clD)) = true := by
    show keyables (s.cls.map clD) = true
    exact keyables_map clD keyable_cl s.cls
  rw [h1, h2]
  rfl
theorem dat_say {H : Hp} {v : V} {s : Say} (D : DatS H v s) : Dat H v s.d := by
  obtain ⟨a, p, o, c, rfl, ea, Dp, ⟨b, us, rfl, eb, Db⟩, Dc⟩ := D
  exact .tup ea (.cons Dp (.cons (.tup eb Db) (.cons Dc .nil)))
theorem say_dat {H : Hp} {v : V} {s : Say} (D : Dat H v s.d) : DatS H v s := by
  have D2 : Dat H v (.tuple [nmsD s.picks, .tuple (s.owns.map ownD), .tuple (s.cls.map clD)]) := D
  cases D2 with
  | tup g h =>
    cases h with
    | cons h1 h =>
      cases h with
      | cons h2 h =>
        cases h with
        | cons h3 h =>
          cases h
          obtain ⟨b, us, rfl, eb, Db⟩ := dat_tup h2
          exact ⟨_, _, _, _, rfl, g, h1, ⟨b, us, rfl, eb, Db⟩, h3⟩
theorem Dr.say {H G : Hp} {p : Addr} {c c0 : Nat} (d : Dr H p c G) (hs : Src H p c0) {v : V} {s : Say} (D : DatS H v s) : DatS G v s := say_dat (d.dat hs (keyable_say s) (dat_say D))
abbrev nRt : List Str := ["saying", "named", "counted", "before", "dues", "turn", "told", "many", "more"]
def spRight : Sp := fun vs H Q _ => ∃ (v : V) (nb : Bool) (sy : Say), vs = [v, .bl nb] ∧ DatS H v sy ∧ SayOk 6 8 120 40 sy ∧ ∀ H', Same H H' → Q (.bl true) H'
abbrev pB (sy : Say) : Bool := (sy.cls.map (plainC sy)).all id
abbrev tB2 (sy : Say) : Bool := (sy.cls.map (twosC sy)).all id
abbrev twoD (sy : Say) : PyData := .list [.bool (pB sy), .bool (tB2 sy)]
theorem shw_two (sy : Say) : Shw 100 2 (twoD sy) := (shw_lst (b := 5) (k := 0) (n := 2) (fun d hd => by
  rcases List.mem_cons.mp hd with rfl | hd
  · exact shw_bl _
  · cases List.mem_singleton.mp hd
    exact shw_bl _) (Nat.le_refl _)).up (by decide) (by decide)
section
variable {P : Program} {w : World} {K : PySem.W.Frag} {mg : Str → Option Value} {base : Heap}
theorem kb_plain {f : Addr} {fd : FuncData} (F : Fun K "is_plain" "is_plain" sPlain f fd) : KB0 K fd ["saying"] ["saying"] id id := Fun.kb1 F fun _ _ _ _ _ _ _ => rfl
theorem kb_twos {f : Addr} {fd : FuncData} (F : Fun K "is_twos" "is_twos" sTwos f fd) : KB0 K fd ["saying"] ["saying"] id id := Fun.kb1 F fun _ _ _ _ _ _ _ => rfl
theorem scRight : FnScope nRt ["saying", "named"] (defScope sRight) := ⟨rfl, rfl, rfl, by decide +kernel, rfl, by decide +kernel, by decide +kernel⟩
/-- [f(row) for many, more in counted] -/
theorem lc_rows {sy : Say} {σ : L2.St} {H : Hp} {D l : Addr} {Qd : Hp → Prop} {te : TE} {ws : List Nat} {f : List Ltr → Bool} (C : Ct sy l sy.cls.length H) (hD : H D = none) (len : sy.cls.length ≤ 40)
    (hw : ∀ (x y : V), wipe (((wipe σ ws).set 7 (some x)).set 8 (some y)) ws = wipe σ ws)
    (step : ∀ (cl : List Ltr) (H4 : Hp) (Qe : VK), (∀ H5, Same H4 H5 → Qe (.bl (f cl)) H5) → te (((wipe σ ws).set 7 (some (.int (cntN sy cl : Nat)))).set 8 (some (.int (cntT sy cl : Nat)))) H4 Qe)
    (hd : ∀ H5, H5 D = some (.lst ((sy.cls.map f).map V.bl)) → Same H H5 → Qd H5) :
    ∃ W : Nat → Nat → Hp → Prop, (∃ m, W 0 m (upd H D (.lst []))) ∧ ∀ i m H, W i m H →
      ((Itl K l).stop i H ∧ Qd H) ∨ ((Itl K l).go i H ∧ ∃ Nx : Hp → Prop, (∀ H', Nx H' → ∃ m', m' < m ∧ W (i + 1) m' H') ∧ ∀ x H', (Itl K l).yld i H x H' → gTup K 2 (gCons (gName 7) (gCons (gName 8) gNil)) x (wipe σ ws) H' fun σ2 H2 => wipe σ2 ws = wipe σ ws ∧ tYes σ2 H2 fun b H3 =>
        if b = true then te σ2 H3 fun y H4 => ∃ acc, H4 D = some (.lst acc) ∧ acc.length < sizeLine ∧ Nx (upd H4 D (.lst (acc ++ [y]))) else Nx H3) := by
  obtain ⟨ps, ep, lp, hp⟩ := C.ex
  refine lc_list (K := K) (a := l) (xs := ps.map V.ref) (fun j H4 => H4 D = some (.lst (((sy.cls.take j).map f).map V.bl)) ∧ Same H H4) ⟨upd_same, same_new hD⟩ (fun j H4 _ h => SqL.of (h.2 _ _ ep)) ?_ ?_
  · rintro j x H4 hx ⟨e4, S4⟩
    rw [List.getElem?_map] at hx
    obtain ⟨q, hq, rfl⟩ := Option.map_eq_some_iff.mp hx
    have jl : j < sy.cls.length := by rw [← lp]; exact (List.getElem?_eq_some_iff.mp hq).1
    have hcl : sy.cls[j]? = some sy.cls[j] := List.getElem?_eq_getElem jl
    have g := S4 _ _ (hp j q _ hq hcl)
    refine ⟨q, _, rfl, SqT.of g, rfl, _, _, rfl, _, _, rfl, rfl, hw _ _, yes_of (step _ H4 _ fun H5 S5 => ?_)⟩
    refine ⟨_, S5 _ _ e4, by rw [List.length_map, List.length_map, List.length_take]; exact small1000 (by omega), ?_, same_upd (S4.trans S5) hD⟩
    rw [upd_same, take_next hcl, List.map_append, List.map_append]
    rfl
  · rintro H4 ⟨e4, S4⟩
    rw [List.length_map, lp, List.take_length] at e4
    exact hd H4 e4 S4
theorem ok_right {f fC fP fT : Addr} {fd fdC fdP fdT : FuncData} (F : Fun K "_law_right" "_law_right" sRight f fd) (B : Blt mg) (zr : mg "repr" = none) (Co : Has K mg "_law_counted" sCounted ["saying"] fC fdC) (Pl : Has K mg "is_plain" sPlain ["saying"] fP fdP) (Tw : Has K mg "is_twos" sTwos ["saying"] fT fdT)
    (GP : FnOk P w K mg base CX0 8 fP fdP ["saying"] (spFits plainC)) (GT : FnOk P w K mg base CX0 8 fT fdT ["saying"] (spFits twosC)) : FnOkG P w K mg base 9 f fd ["saying", "named"] spRight := by
  have GC : FnOk P w K mg base CX0 1 fC fdC ["saying"] spCounted := ok_counted Co.F B
  refine F.okG scRight (fun vs H Q E h => ?_) (fun cdv A outer s H vs Q E hG0 hr h => ?_)
  · obtain ⟨v, nb, sy, rfl, _⟩ := h
    rfl
  · obtain ⟨v, nb, sy, rfl, D, ok, q⟩ := h
    have hr1 := hr.mono (show 1 ≤ 8 by decide)
    have hG : (A.deeper (envOfC "_law_right" (defScope sRight) s.heap.objs.size f cdv)).guards = some [] := hG0
    have hu : (A.deeper (envOfC "_law_right" (defScope sRight) s.heap.objs.size f cdv)).units + 64 < cLine := hr1.units
    refine ⟨_, pss_cons (ps_par (i := 2) (j := 3) rfl scRight.nd rfl rfl (by decide) rfl rfl (pa_cons (pe_call GC hr1 rfl Co.g Co.F.kp Co.b .nil pass0 (pa_cons (pv 0) pa_nil)) (pa_cons (pe_callB (call_reprD hG (by exact hu)) (by rfl) zr (by decide +kernel) (pa_cons (pv 0) pa_nil)) pa_nil)) (by with_unfolding_all rfl))
      (pss_cons (ps_set (i := 4) scRight.nd rfl (.inl rfl) (pe_lst (pa_cons (pe_callB (cr_all rfl) (by rfl) B.all (by decide +kernel) (pa_cons (pe_lc (own := [("many", 7), ("more", 8)]) (g := gTup K 2 (gCons (gName 7) (gCons (gName 8) gNil))) (tt := tYes) (te := tOp (rI0 fun i j => V.bl (decide (i < j))) (tVar 8) (tC (V.int 2))) rfl scRight.nd (pi_list (pv 2)) (blkOk_by (N := nRt) (sc := defScope sRight) (by decide +kernel))
            (fun _ _ _ _ _ => by exact pg_tup rfl (pgs_cons (pg_name (i := 7) scRight.nd rfl (.inl rfl)) (pgs_cons (pg_name (i := 8) scRight.nd rfl (.inl rfl)) pgs_nil))) (fun _ _ _ _ _ => pts_nil) (fun _ _ _ _ _ => by exact pe_cmpR op_lt (pv 8) pe_int (nomark _))) pa_nil))
          (pa_cons (pe_callB (cr_all rfl) (by rfl) B.all (by decide +kernel) (pa_cons (pe_lc (own := [("many", 7), ("more", 8)]) (g := gTup K 2 (gCons (gName 7) (gCons (gName 8) gNil))) (tt := tYes) (te := tOp (rIn K false) (tVar 7) (tTup (tCons (tC (V.int 1)) (tCons (tC (V.int 2)) tNil)))) rfl scRight.nd (pi_list (pv 2)) (blkOk_by (N := nRt) (sc := defScope sRight) (by decide +kernel))
            (fun _ _ _ _ _ => by exact pg_tup rfl (pgs_cons (pg_name (i := 7) scRight.nd rfl (.inl rfl)) (pgs_cons (pg_name (i := 8) scRight.nd rfl (.inl rfl)) pgs_nil))) (fun _ _ _ _ _ => pts_nil) (fun _ _ _ _ _ => by exact pe_cmpR op_in_seq (pv 7) (pe_tup (pa_cons pe_int (pa_cons pe_int pa_nil))) (by with_unfolding_all rfl))) pa_nil)) pa_nil))))
      (pss_cons (ps_for PassesOwn.never rfl (pi_range1 rfl B.range (pa_cons pe_int pa_nil)) (pg_name (i := 5) scRight.nd rfl (Or.inl rfl))
        (pss_cons (ps_set (i := 6) scRight.nd rfl (.inl rfl) (pe_lst (pa_cons (pe_call GP hr rfl Pl.g Pl.F.kp Pl.b .nil pass0 (pa_cons (pv 0) pa_nil)) (pa_cons (pe_call GT hr rfl Tw.g Tw.F.kp Tw.b .nil pass0 (pa_cons (pv 0) pa_nil)) pa_nil))))
        (pss_cons (ps_if (pt_val (pv 1)) (pss_one (ps_set (i := 6) scRight.nd rfl (.inl rfl) (pe_lst (pa_cons (pe_callK0 GP hr rfl Pl.g Pl.F.kp (kb_plain Pl.F) pass0 (pk_cons (pv 0) pk_nil)) (pa_cons (pe_callK0 GT hr rfl Tw.g Tw.F.kp (kb_twos Tw.F) pass0 (pk_cons (pv 0) pk_nil)) pa_nil))))) pss_nil)
        (pss_one (ps_if (pt_cmpR op_ne (pe_callB (call_reprD hG (by exact hu)) (by rfl) zr (by decide +kernel) (pa_cons (pv 6) pa_nil)) (pe_callB (call_reprD hG (by exact hu)) (by rfl) zr (by decide +kernel) (pa_cons (pv 4) pa_nil)) (nomark _)) (pss_one (ps_ret pe_bl)) pss_nil)))))
      (pss_one (ps_ret (pe_cmpR op_eq (pe_callB (call_reprD hG (by exact hu)) (by rfl) zr (by decide +kernel) (pa_cons (pv 0) pa_nil)) (pv 3) (nomark _)))))), ?_⟩
    have ss := shw_say ok
    have lcl := ok.cl
    refine ⟨_, rfl, v, sy, rfl, D, ok, fun l H1 S1 hl C1 => ?_⟩
    refine ⟨_, rfl, v, sy.d, rfl, dat_say (D.same S1), ss.s, Nat.le_trans ss.d (by decide), Nat.le_trans ss.z (by decide), _, _, rfl, ?_⟩
    refine ⟨_, rfl, l, rfl, by obtain ⟨ps, ep, _⟩ := C1.ex; exact ⟨_, SqL.of ep⟩, fun D1 hD1 => lc_rows (f := fun cl => decide (((cntT sy cl : Nat) : Int) < 2)) C1 hD1 lcl (fun _ _ => rfl) (fun cl H4 Qe k => ⟨_, rfl, _, _, rfl, rfl, k H4 (Same.refl _)⟩) (fun H2 e2 S2 => ?_)⟩
    refine ⟨D1, _, rfl, SqL.of e2, ?_⟩
    have C2 := C1.same S2
    refine ⟨_, rfl, l, rfl, by obtain ⟨ps, ep, _⟩ := C2.ex; exact ⟨_, SqL.of ep⟩, fun D2 hD2 => lc_rows (f := fun cl => inV (.int (cntN sy cl : Nat)) [.int 1, .int 2]) C2 hD2 lcl (fun _ _ => rfl) (fun cl H4 Qe k => ⟨_, rfl, (by show 2 ≤ sizeLine; decide), fun t ht => ⟨t, _, rfl, .inr (SqT.of upd_same), rfl, rfl, k _ (same_new ht)⟩⟩) (fun H3 e3 S3 => ?_)⟩
    refine ⟨D2, _, rfl, SqL.of e3, (by show 2 ≤ sizeLine; decide), fun ld hld => ?_⟩
    have f1 : (sy.cls.map fun cl => decide (((cntT sy cl : Nat) : Int) < 2)) = sy.cls.map (plainC sy) := List.map_congr_left fun cl _ => cnt_plain sy cl
    have f2 : (sy.cls.map fun cl => inV (.int (cntN sy cl : Nat)) [.int 1, .int 2]) = sy.cls.map (twosC sy) := List.map_congr_left fun cl _ => cnt_twos sy cl
    rw [f1, f2]
    have S4 := ((S1.trans S2).trans S3).trans (same_new (o := .lst [V.bl (pB sy), .bl (tB2 sy)]) hld)
    have ed : Dat (upd H3 ld (.lst [V.bl (pB sy), .bl (tB2 sy)])) (.ref ld) (twoD sy) := .lst upd_same (.cons (.bl _) (.cons (.bl _) .nil))
    generalize upd H3 ld (.lst [V.bl (pB sy), .bl (tB2 sy)]) = H4 at S4 ed ⊢
    have st := shw_two sy
    refine ⟨2, rfl, by decide, by decide, ?_⟩
    refine for_range (lo := 0) (n := 2) (fun i σ G => ∃ o5 o6 o7 o8 : Option V, σ = [some v, some (.bl nb), some (.ref l), some (.str sy.d.shown), some (.ref ld), o5, o6, o7, o8] ∧ Same H4 G) ⟨_, _, _, _, rfl, Same.refl _⟩ ?_ ?_
    · rintro i σ G hi ⟨o5, o6, o7, o8, rfl, SG⟩
      have DG := D.same (S4.trans SG)
      refine ⟨_, rfl, v, sy, rfl, DG, ok, fun G1 T1 => ⟨_, rfl, v, sy, rfl, DG.same T1, ok, fun G2 T2 => ⟨(by show 2 ≤ sizeLine; decide), fun lt hlt => ?_⟩⟩⟩
      have S5 := ((SG.trans T1).trans T2).trans (same_new (o := .lst [V.bl (pB sy), .bl (tB2 sy)]) hlt)
      have et : Dat (upd G2 lt (.lst [V.bl (pB sy), .bl (tB2 sy)])) (.ref lt) (twoD sy) := .lst upd_same (.cons (.bl _) (.cons (.bl _) .nil))
      refine ⟨_, rfl, nb, rfl, ?_⟩
      refine branchH (fun G3 => Same H4 G3 ∧ Dat G3 (.ref lt) (twoD sy)) ⟨S5, et⟩ (fun σ' G3 => ∃ (lt : Addr) (o5 o7 o8 : Option V), σ' = [some v, some (.bl nb), some (.ref l), some (.str sy.d.shown), some (.ref ld), o5, some (.ref lt), o7, o8] ∧ Same H4 G3 ∧ Dat G3 (.ref lt) (twoD sy)) ?_ (fun _ G3 ⟨S6, e6⟩ R => ?_) (fun _ G3 ⟨S6, e6⟩ R => R _ _ ⟨lt, _, _, _, rfl, S6, e6⟩)
      · rintro σ' G3 ⟨lt, o5, o7, o8, rfl, S6, e6⟩
        refine ⟨_, rfl, _, _, rfl, e6, st.s, Nat.le_trans st.d (by decide), Nat.le_trans st.z (by decide), _, rfl, _, _, rfl, ed.same S6, st.s, Nat.le_trans st.d (by decide), Nat.le_trans st.z (by decide), rfl, _, rfl, iteNS rfl ?_⟩
        exact ⟨_, _, _, _, rfl, S6⟩
      · have DG3 := D.same (S4.trans S6)
        refine ⟨_, rfl, rfl, v, sy, rfl, DG3, ok, fun G4 T4 => ⟨_, rfl, rfl, v, sy, rfl, DG3.same T4, ok, fun G5 T5 => ⟨(by show 2 ≤ sizeLine; decide), fun lt2 hlt2 => ?_⟩⟩⟩
        exact R _ _ ⟨lt2, _, _, _, rfl, ((S6.trans T4).trans T5).trans (same_new hlt2), .lst upd_same (.cons (.bl _) (.cons (.bl _) .nil))⟩
    · rintro σ G ⟨o5, o6, o7, o8, rfl, SG⟩
      have S9 := S4.trans SG
      refine ⟨_, rfl, v, sy.d, rfl, dat_say (D.same S9), ss.s, Nat.le_trans ss.d (by decide), Nat.le_trans ss.z (by decide), _, rfl, rfl, ?_⟩
      have eT : decide ((V.str sy.d.shown) = V.str sy.d.shown) = true := decide_eq_true rfl
      rw [eT]
      exact q G S9
end
end S1

set_option Elab.async false
set_option linter.all false
set_option maxRecDepth 100000
set_option maxHeartbeats 2000000
/-! the law -/
namespace S1
open PySem PySem.W PySem.Spec PyProof.Rows L2
def spLaw (K : PySem.W.Frag) : Sp := fun vs H Q _ => ∃ (a : Addr) (ns : List Int), vs = [.ref a] ∧ SqL K H a (ns.map V.int) ∧ ns.length ≤ 63 ∧ ∀ H', Q (.bl true) H'
theorem same_of_del {H G G' : Hp} {p : Addr} (hn : H p = none) (S : Same H G) (S2 : Same (del G p) (del G' p)) : Same H G' := fun b u e => by
  have bp : b ≠ p := ne_of_none e hn
  have z := S2 b u (by rw [del_ne bp]; exact S _ _ e)
  rwa [del_ne bp] at z
section
variable {P : Program} {w : World} {K : PySem.W.Frag} {mg : Str → Option Value} {base : Heap}
theorem scLaw : FnScope ["script", "k", "tank", "turn", "picks", "owns", "saying"] ["script"] (defScope sLaw) := ⟨rfl, rfl, rfl, by decide +kernel, rfl, by decide +kernel, by decide +kernel⟩
theorem ok_law {f fS fP fF fC fR : Addr} {fd fdS fdP fdF fdC fdR : FuncData} (F : Fun K "law" "law" sLaw f fd) (B : Blt mg) (So : Has K mg "_law_tank" sTank ["script", "k"] fS fdS) (Pk : Has K mg "_law_drop" sDrop ["tank", "many"] fP fdP)
    (Fr : Has K mg "_law_frame" sFrame ["tank", "most_picks", "most_owns", "most_copies"] fF fdF) (Cl : Has K mg "_law_clauses" sClauses ["tank", "picks", "owns"] fC fdC) (Ri : Has K mg "_law_right" sRight ["saying", "named"] fR fdR)
    (GF : FnOk P w K mg base CX0 3 fF fdF ["tank", "most_picks", "most_owns", "most_copies"] spFrame) (GC : FnOk P w K mg base CX0 4 fC fdC ["tank", "picks", "owns"] spClauses)
    (GR : FnOkG P w K mg base 9 fR fdR ["saying", "named"] spRight) : FnOkG P w K mg base 10 f fd ["script"] (spLaw K) := by
  have GS : FnOk P w K mg base CX0 1 fS fdS ["script", "k"] (spTank K) := ok_tank So.F B
  have GP : FnOk P w K mg base CX0 1 fP fdP ["tank", "many"] spPick := ok_pick Pk.F B
  refine F.okG scLaw (fun vs H Q E h => ?_) (fun cdv A outer s H vs Q E hG0 hr h => ?_)
  · obtain ⟨a, ns, rfl, _⟩ := h
    rfl
  · obtain ⟨a, ns, rfl, hS, hlen, q⟩ := h
    have hr1 := hr.mono (show 1 ≤ 9 by decide)
    have hr3 := hr.mono (show 3 ≤ 9 by decide)
    have hr4 := hr.mono (show 4 ≤ 9 by decide)
    have hG : (A.deeper (envOfC "law" (defScope sLaw) s.heap.objs.size f cdv)).guards = some [] := hG0
    refine ⟨_, pss_cons (ps_for PassesOwn.never rfl (pi_range1 rfl B.range (pa_cons (pe_callB (call_max2 rfl) (by rfl) B.max (by decide +kernel) (pa_cons pe_int (pa_cons (pe_callB (call_min2 rfl) (by rfl) B.min (by decide +kernel) (pa_cons pe_int (pa_cons (pe_callB call_len_seq (by rfl) B.len (by decide +kernel) (pa_cons (pv 0) pa_nil)) pa_nil))) pa_nil))) pa_nil)) (pg_name (i := 1) scLaw.nd rfl (Or.inl rfl))
        (pss_cons (ps_set (i := 2) scLaw.nd rfl (.inl rfl) (pe_call GS hr1 rfl So.g So.F.kp So.b .nil pass0 (pa_cons (pv 0) (pa_cons (pv 1) pa_nil))))
        (pss_one (ps_for PassesOwn.never rfl (pi_range1 rfl B.range (pa_cons pe_int pa_nil)) (pg_name (i := 3) scLaw.nd rfl (Or.inl rfl))
          (pss_cons (ps_asg (pe_call GF hr3 rfl Fr.g Fr.F.kp Fr.b .nil pass0 (pa_cons (pv 2) (pa_cons pe_int (pa_cons pe_int (pa_cons pe_int pa_nil))))) (pg_tup rfl (pgs_cons (pg_name (i := 4) scLaw.nd rfl (.inl rfl)) (pgs_cons (pg_name (i := 5) scLaw.nd rfl (.inl rfl)) pgs_nil))))
          (pss_cons (ps_set (i := 6) scLaw.nd rfl (.inl rfl) (pe_tup (pa_cons (pv 4) (pa_cons (pv 5) (pa_cons (pe_call GC hr4 rfl Cl.g Cl.F.kp Cl.b .nil pass0 (pa_cons (pv 2) (pa_cons (pv 4) (pa_cons (pv 5) pa_nil)))) pa_nil)))))
          (pss_one (ps_if (pt_not (pt_val (pe_callG hG GR hr rfl Ri.g Ri.F.kp Ri.b (pa_cons (pv 6) (pa_cons (pe_cmpR op_eq (pe_call GP hr1 rfl Pk.g Pk.F.kp Pk.b .nil pass0 (pa_cons (pv 2) (pa_cons pe_int pa_nil))) pe_int (nomark _)) pa_nil))))) (pss_one (ps_ret pe_bl)) pss_nil))))))))
      (pss_one (ps_ret pe_bl)), ?_⟩
    refine ⟨_, rfl, a, _, rfl, .inl hS, _, _, rfl, _, _, rfl, _, rfl, ?_, ?_, ?_⟩
    · repeat' split <;> omega
    · repeat' split <;> omega
    refine for_range (lo := 0) (fun i σ H' => ∃ v1 v2 v3 v4 v5 v6 : Option V, σ = [some (.ref a), v1, v2, v3, v4, v5, v6] ∧ Same H H') ⟨_, _, _, _, _, _, rfl, Same.refl _⟩ ?_ ?_
    · rintro i σ H1 hi ⟨v1, v2, v3, v4, v5, v6, rfl, s1⟩
      have hi2 : (i : Int) < 1000 := by
        have : (i : Nat) < 1000 := Nat.lt_of_lt_of_le hi (by repeat' split <;> omega)
        omega
      refine ⟨_, rfl, _, rfl, a, ns, _, rfl, s1.seq hS, hlen, by omega, by omega, fun p H2 hp s2 P2 => ?_⟩
      have S02 := s1.trans s2
      have hp0 : H p = none := s1.free hp
      refine ⟨4, rfl, by decide, by decide, ?_⟩
      refine for_range (lo := 0) (n := 4) (fun j σ G => ∃ v3 v4 v5 v6 : Option V, σ = [some (.ref a), some (.int (0 + (i : Int))), some (.ref p), v3, v4, v5, v6] ∧ Dr H2 p (j * 7000) G) ⟨_, _, _, _, rfl, Dr.start P2⟩ ?_ ?_
      · rintro j σ G hj ⟨v3, v4, v5, v6, rfl, dG⟩
        have j4 : j < 4 := hj
        refine ⟨_, rfl, p, _, 6, 8, 120, rfl, dG.s, by omega, by decide, by decide, by decide, fun t v1' v2' picks owns G1 ht et Dp Do ok d1 => ?_⟩
        refine ⟨t, _, rfl, SqT.of et, rfl, _, _, rfl, _, _, rfl, rfl, ?_⟩
        refine ⟨_, rfl, _, rfl, _, rfl, _, rfl, _, rfl, p, _, 6, 8, 120, v1', v2', picks, owns, rfl, d1.s, by omega, Dp, Do, ok, by decide, fun v cls G2 Dv okc upc lenc d2 => ⟨(by show 3 ≤ sizeLine; decide), fun ts hts => ?_⟩⟩
        have k1 : keyable (nmsD picks) = true := keyable_nms picks
        have k2 : keyable (.tuple (owns.map ownD)) = true := by
          show keyables (owns.map ownD) = true
          exact keyables_map ownD keyable_own owns
        have Dp2 := d2.dat d1.s k1 Dp
        have Do2 := d2.dat d1.s k2 Do
        have d3 := ((dG.trans d1).trans d2).new (o := .tup [v1', v2', v]) hts
        have S3 := same_new (o := .tup [v1', v2', v]) hts
        have DS : DatS (upd G2 ts (.tup [v1', v2', v])) (.ref ts) ⟨picks, owns, cls⟩ := by
          obtain ⟨b, us, rfl, eb, Db⟩ := dat_tup Do2
          exact ⟨ts, _, _, _, rfl, upd_same, Dp2.same S3, ⟨b, us, rfl, S3 _ _ eb, DatAll.same S3 Db⟩, Dv.same S3⟩
        have sok : SayOk 6 8 120 40 ⟨picks, owns, cls⟩ := ⟨ok.pu, ok.pn, ok.pl, ok.ou, ok.on, ok.ol, ok.oc, upc, okc, lenc⟩
        generalize upd G2 ts (.tup [v1', v2', v]) = G3 at d3 DS ⊢
        refine ⟨_, rfl, _, rfl, p, _, 2, rfl, d3.s, by omega, by decide, by decide, fun r o _ _ hp4 => ⟨rfl, ?_⟩⟩
        have d4 := d3.src hp4
        have DS4 : DatS (upd G3 p o) (.ref ts) ⟨picks, owns, cls⟩ := ((Dr.start d3.s).src hp4).say d3.s DS
        refine ⟨.ref ts, _, ⟨picks, owns, cls⟩, rfl, DS4, sok, fun G5 S5 => ⟨true, rfl, ?_⟩⟩
        show if (!true) = true then _ else _
        rw [if_neg (by decide)]
        exact ⟨_, _, _, _, rfl, (d4.same S5).up (by omega)⟩
      · rintro σ G ⟨v3, v4, v5, v6, rfl, dG⟩
        exact ⟨_, _, _, _, _, _, rfl, same_of_del hp0 S02 dG.m⟩
    · rintro σ H1 ⟨v1, v2, v3, v4, v5, v6, rfl, s1⟩
      exact q H1
end
end S1

set_option Elab.async false
set_option linter.all false
set_option maxRecDepth 100000
set_option maxHeartbeats 4000000
/-! all that the text has written -/
namespace S1
open PySem PySem.Spec PyProof.Rows L2
/-- a def of the text stands under its name at f -/
def HasE (K : PySem.W.Frag) (x : Str) (st : Stmt) (f : Addr) : Prop :=
  PySem.W.nsIn K mainGlobals x = some (some (.ref f)) ∧ (∃ (oc : Value) (od : Option Addr) (kV doc pm : Value) (an : Option Addr) (cdv ct : Value) (osl : Array (Option Value)), K.lookup f = some ⟨oc, od, .func (PySem.W.fnOf x x (defArgs st) (defBody st) (defScope st) .none kV doc pm an cdv ct), osl⟩ ∧ PySem.W.codeIn K cdv x = true) ∧ PySem.W.keepIn K (.ref f) = true
theorem has_of {K : PySem.W.Frag} {h : Heap} {mg : Str → Option Value} {x : Str} {st : Stmt} {f : Addr} {ps : List Str} (X : K.In h) (G : h.Ns mainGlobals mg) (e : HasE K x st f)
    (hb : ∀ (kV doc pm : Value) (an : Option Addr) (cdv ct : Value) (us : List Value), us.length = ps.length → bindArgs (PySem.W.fnOf x x (defArgs st) (defBody st) (defScope st) .none kV doc pm an cdv ct) ⟨us, []⟩ = pure (ps.zip us)) : ∃ fd, Has K mg x st ps f fd := by
  obtain ⟨e1, ⟨oc, od, kV, doc, pm, an, cdv, ct, osl, e2, e3⟩, e4⟩ := e
  have F := fun_mk (st := st) e2 e3 e4
  exact ⟨_, F, PySem.W.mg_of X G e1, F.binds hb⟩
theorem all_mk {l : PySem.W.OpenLaw} {w : World} {K : PySem.W.Frag} {h : Heap} {mg : Str → Option Value} {fa fL f_y_isTruth f_y_isTuple f_y_isPair f_y_isRising f_y_isName f_y_isLetter f_y_isAnyClause f_y_areNames f_y_isSight f_y_isOwn f_y_areOwns f_y_isClauseOver f_y_areClauses f_y_namesOf f_y_fitsSaying f_w_saying f_o_Lo f_o_Fp f_o_Ft f_o_Ip f_o_It f_o_Ta f_o_Dp f_o_Pi f_o_Lt f_o_Nm f_o_Fr f_o_Le f_o_So f_o_Pc f_o_Tc f_o_Ac f_o_Cl f_o_Co f_o_Ri : Addr} {t0 t1 t2 t3 t4 t5 : Tok} (X : K.In h) (G : h.Ns mainGlobals mg) (hfa : mg "law" = some (.ref fa))
    (h_y_isTruth : HasE K "is_truth" sIsTruth f_y_isTruth)
    (h_y_isTuple : HasE K "is_tuple" sIsTuple f_y_isTuple)
    (h_y_isPair : HasE K "is_pair" sIsPair f_y_isPair)
    (h_y_isRising : HasE K "is_rising" sIsRising f_y_isRising)
    (h_y_isName : HasE K "is_name" sIsName f_y_isName)
    (h_y_isLetter : HasE K "is_letter" sIsLetter f_y_isLetter)
    (h_y_isAnyClause : HasE K "is_any_clause" sIsAnyClause f_y_isAnyClause)
    (h_y_areNames : HasE K "are_names" sAreNames f_y_areNames)
    (h_y_isSight : HasE K "is_sight" sIsSight f_y_isSight)
    (h_y_isOwn : HasE K "is_own" sIsOwn f_y_isOwn)
    (h_y_areOwns : HasE K "are_owns" sAreOwns f_y_areOwns)
    (h_y_isClauseOver : HasE K "is_clause_over" sIsClauseOver f_y_isClauseOver)
    (h_y_areClauses : HasE K "are_clauses" sAreClauses f_y_areClauses)
    (h_y_namesOf : HasE K "names_of" sNamesOf f_y_namesOf)
    (h_y_fitsSaying : HasE K "fits_saying" sFitsSaying f_y_fitsSaying)
    (h_w_saying : HasE K "want_saying" sWantSaying f_w_saying)
    (h_o_Lo : HasE K "letters_of_owns" sLettersOf f_o_Lo)
    (h_o_Fp : HasE K "fits_plain" sFitsPlain f_o_Fp)
    (h_o_Ft : HasE K "fits_twos" sFitsTwos f_o_Ft)
    (h_o_Ip : HasE K "is_plain" sPlain f_o_Ip)
    (h_o_It : HasE K "is_twos" sTwos f_o_It)
    (h_o_Ta : HasE K "_law_tank" sTank f_o_Ta)
    (h_o_Dp : HasE K "_law_drop" sDrop f_o_Dp)
    (h_o_Pi : HasE K "_law_pick" sLPick f_o_Pi)
    (h_o_Lt : HasE K "_law_lot" sLot f_o_Lt)
    (h_o_Nm : HasE K "_law_names" sNames f_o_Nm)
    (h_o_Fr : HasE K "_law_frame" sFrame f_o_Fr)
    (h_o_Le : HasE K "_law_letters" sLetters f_o_Le)
    (h_o_So : HasE K "_law_some" sLSome f_o_So)
    (h_o_Pc : HasE K "_law_plain_clause" sPlainCl f_o_Pc)
    (h_o_Tc : HasE K "_law_twos_clause" sTwosCl f_o_Tc)
    (h_o_Ac : HasE K "_law_any_clause" sAnyCl f_o_Ac)
    (h_o_Cl : HasE K "_law_clauses" sClauses f_o_Cl)
    (h_o_Co : HasE K "_law_counted" sCounted f_o_Co)
    (h_o_Ri : HasE K "_law_right" sRight f_o_Ri)
    (hL : HasE K "law" sLaw fL)
    (c0 : PySem.W.nsIn K mainGlobals "SMALL" = some (some (.str "abcdefghijklmnopqrstuvwxyz" t0)))
    (c1 : PySem.W.nsIn K mainGlobals "MOST_SIGNS" = some (some (.int 8 t1)))
    (c2 : PySem.W.nsIn K mainGlobals "MOST_PICKS" = some (some (.int 6 t2)))
    (c3 : PySem.W.nsIn K mainGlobals "MOST_OWNS" = some (some (.int 8 t3)))
    (c4 : PySem.W.nsIn K mainGlobals "MOST_CLAUSES" = some (some (.int 40 t4)))
    (c5 : PySem.W.nsIn K mainGlobals "MOST_COPIES" = some (some (.int 120 t5)))
    (zlen : PySem.W.nsIn K mainGlobals "len" = some none)
    (zsum : PySem.W.nsIn K mainGlobals "sum" = some none)
    (zint : PySem.W.nsIn K mainGlobals "int" = some none)
    (zmax : PySem.W.nsIn K mainGlobals "max" = some none)
    (zmin : PySem.W.nsIn K mainGlobals "min" = some none)
    (zabs : PySem.W.nsIn K mainGlobals "abs" = some none)
    (zstr : PySem.W.nsIn K mainGlobals "str" = some none)
    (zbool : PySem.W.nsIn K mainGlobals "bool" = some none)
    (zdict : PySem.W.nsIn K mainGlobals "dict" = some none)
    (zlist : PySem.W.nsIn K mainGlobals "list" = some none)
    (zset : PySem.W.nsIn K mainGlobals "set" = some none)
    (ztuple : PySem.W.nsIn K mainGlobals "tuple" = some none)
    (zsorted : PySem.W.nsIn K mainGlobals "sorted" = some none)
    (zzip : PySem.W.nsIn K mainGlobals "zip" = some none)
    (zall : PySem.W.nsIn K mainGlobals "all" = some none)
    (zrange : PySem.W.nsIn K mainGlobals "range" = some none)
    (zisinstance : PySem.W.nsIn K mainGlobals "isinstance" = some none)
    (zenumerate : PySem.W.nsIn K mainGlobals "enumerate" = some none)
    (zrepr : PySem.W.nsIn K mainGlobals "repr" = some none)
    : ∃ fd : FuncData, (∀ (s : Shared) (u : Value), BindsTo s fd ⟨[u], []⟩ [("script", u)]) ∧ ∀ base : Heap, K.In base → base.Ns mainGlobals mg → FnOkG l.prog w K mg base 10 fa fd ["script"] (spLaw K) := by
  obtain ⟨e1, ⟨oc, od, kV, doc, pm, an, cdv, ct, osl, e2, e3⟩, e4⟩ := hL
  have e := hfa.symm.trans (PySem.W.mg_of X G e1)
  cases e
  have FL := fun_mk (st := sLaw) e2 e3 e4
  obtain ⟨fd_y_isTruth, y_isTruth⟩ := has_of (ps := ["value"]) X G h_y_isTruth fun _ _ _ _ _ _ us hl => match us, hl with | [_], _ => rfl
  obtain ⟨fd_y_isTuple, y_isTuple⟩ := has_of (ps := ["value", "most"]) X G h_y_isTuple fun _ _ _ _ _ _ us hl => match us, hl with | [_, _], _ => rfl
  obtain ⟨fd_y_isPair, y_isPair⟩ := has_of (ps := ["value"]) X G h_y_isPair fun _ _ _ _ _ _ us hl => match us, hl with | [_], _ => rfl
  obtain ⟨fd_y_isRising, y_isRising⟩ := has_of (ps := ["parts"]) X G h_y_isRising fun _ _ _ _ _ _ us hl => match us, hl with | [_], _ => rfl
  obtain ⟨fd_y_isName, y_isName⟩ := has_of (ps := ["value"]) X G h_y_isName fun _ _ _ _ _ _ us hl => match us, hl with | [_], _ => rfl
  obtain ⟨fd_y_isLetter, y_isLetter⟩ := has_of (ps := ["value"]) X G h_y_isLetter fun _ _ _ _ _ _ us hl => match us, hl with | [_], _ => rfl
  obtain ⟨fd_y_isAnyClause, y_isAnyClause⟩ := has_of (ps := ["value"]) X G h_y_isAnyClause fun _ _ _ _ _ _ us hl => match us, hl with | [_], _ => rfl
  obtain ⟨fd_y_areNames, y_areNames⟩ := has_of (ps := ["value", "most"]) X G h_y_areNames fun _ _ _ _ _ _ us hl => match us, hl with | [_, _], _ => rfl
  obtain ⟨fd_y_isSight, y_isSight⟩ := has_of (ps := ["value", "picks"]) X G h_y_isSight fun _ _ _ _ _ _ us hl => match us, hl with | [_, _], _ => rfl
  obtain ⟨fd_y_isOwn, y_isOwn⟩ := has_of (ps := ["value", "picks"]) X G h_y_isOwn fun _ _ _ _ _ _ us hl => match us, hl with | [_, _], _ => rfl
  obtain ⟨fd_y_areOwns, y_areOwns⟩ := has_of (ps := ["value", "picks"]) X G h_y_areOwns fun _ _ _ _ _ _ us hl => match us, hl with | [_, _], _ => rfl
  obtain ⟨fd_y_isClauseOver, y_isClauseOver⟩ := has_of (ps := ["value", "names"]) X G h_y_isClauseOver fun _ _ _ _ _ _ us hl => match us, hl with | [_, _], _ => rfl
  obtain ⟨fd_y_areClauses, y_areClauses⟩ := has_of (ps := ["value", "names"]) X G h_y_areClauses fun _ _ _ _ _ _ us hl => match us, hl with | [_, _], _ => rfl
  obtain ⟨fd_y_namesOf, y_namesOf⟩ := has_of (ps := ["picks", "owns"]) X G h_y_namesOf fun _ _ _ _ _ _ us hl => match us, hl with | [_, _], _ => rfl
  obtain ⟨fd_y_fitsSaying, y_fitsSaying⟩ := has_of (ps := ["value"]) X G h_y_fitsSaying fun _ _ _ _ _ _ us hl => match us, hl with | [_], _ => rfl
  obtain ⟨fd_w_saying, w_saying⟩ := has_of (ps := ["saying"]) X G h_w_saying fun _ _ _ _ _ _ us hl => match us, hl with | [_], _ => rfl
  obtain ⟨fd_o_Lo, o_Lo⟩ := has_of (ps := ["saying", "clause"]) X G h_o_Lo fun _ _ _ _ _ _ us hl => match us, hl with | [_, _], _ => rfl
  obtain ⟨fd_o_Fp, o_Fp⟩ := has_of (ps := ["saying"]) X G h_o_Fp fun _ _ _ _ _ _ us hl => match us, hl with | [_], _ => rfl
  obtain ⟨fd_o_Ft, o_Ft⟩ := has_of (ps := ["saying"]) X G h_o_Ft fun _ _ _ _ _ _ us hl => match us, hl with | [_], _ => rfl
  obtain ⟨fd_o_Ip, o_Ip⟩ := has_of (ps := ["saying"]) X G h_o_Ip fun _ _ _ _ _ _ us hl => match us, hl with | [_], _ => rfl
  obtain ⟨fd_o_It, o_It⟩ := has_of (ps := ["saying"]) X G h_o_It fun _ _ _ _ _ _ us hl => match us, hl with | [_], _ => rfl
  obtain ⟨fd_o_Ta, o_Ta⟩ := has_of (ps := ["script", "k"]) X G h_o_Ta fun _ _ _ _ _ _ us hl => match us, hl with | [_, _], _ => rfl
  obtain ⟨fd_o_Dp, o_Dp⟩ := has_of (ps := ["tank", "many"]) X G h_o_Dp fun _ _ _ _ _ _ us hl => match us, hl with | [_, _], _ => rfl
  obtain ⟨fd_o_Pi, o_Pi⟩ := has_of (ps := ["tank", "things"]) X G h_o_Pi fun _ _ _ _ _ _ us hl => match us, hl with | [_, _], _ => rfl
  obtain ⟨fd_o_Lt, o_Lt⟩ := has_of (ps := ["tank", "things"]) X G h_o_Lt fun _ _ _ _ _ _ us hl => match us, hl with | [_, _], _ => rfl
  obtain ⟨fd_o_Nm, o_Nm⟩ := has_of (ps := ["tank", "many"]) X G h_o_Nm fun _ _ _ _ _ _ us hl => match us, hl with | [_, _], _ => rfl
  obtain ⟨fd_o_Fr, o_Fr⟩ := has_of (ps := ["tank", "most_picks", "most_owns", "most_copies"]) X G h_o_Fr fun _ _ _ _ _ _ us hl => match us, hl with | [_, _, _, _], _ => rfl
  obtain ⟨fd_o_Le, o_Le⟩ := has_of (ps := ["tank", "names"]) X G h_o_Le fun _ _ _ _ _ _ us hl => match us, hl with | [_, _], _ => rfl
  obtain ⟨fd_o_So, o_So⟩ := has_of (ps := ["tank", "names", "most"]) X G h_o_So fun _ _ _ _ _ _ us hl => match us, hl with | [_, _, _], _ => rfl
  obtain ⟨fd_o_Pc, o_Pc⟩ := has_of (ps := ["tank", "picks", "owns"]) X G h_o_Pc fun _ _ _ _ _ _ us hl => match us, hl with | [_, _, _], _ => rfl
  obtain ⟨fd_o_Tc, o_Tc⟩ := has_of (ps := ["tank", "picks", "owns"]) X G h_o_Tc fun _ _ _ _ _ _ us hl => match us, hl with | [_, _, _], _ => rfl
  obtain ⟨fd_o_Ac, o_Ac⟩ := has_of (ps := ["tank", "picks", "owns"]) X G h_o_Ac fun _ _ _ _ _ _ us hl => match us, hl with | [_, _, _], _ => rfl
  obtain ⟨fd_o_Cl, o_Cl⟩ := has_of (ps := ["tank", "picks", "owns"]) X G h_o_Cl fun _ _ _ _ _ _ us hl => match us, hl with | [_, _, _], _ => rfl
  obtain ⟨fd_o_Co, o_Co⟩ := has_of (ps := ["saying"]) X G h_o_Co fun _ _ _ _ _ _ us hl => match us, hl with | [_], _ => rfl
  obtain ⟨fd_o_Ri, o_Ri⟩ := has_of (ps := ["saying", "named"]) X G h_o_Ri fun _ _ _ _ _ _ us hl => match us, hl with | [_, _], _ => rfl
  have B : Blt mg := {len := PySem.W.mg_none_of X G zlen, sum := PySem.W.mg_none_of X G zsum, int := PySem.W.mg_none_of X G zint, max := PySem.W.mg_none_of X G zmax, min := PySem.W.mg_none_of X G zmin, abs := PySem.W.mg_none_of X G zabs, str := PySem.W.mg_none_of X G zstr, bool := PySem.W.mg_none_of X G zbool, dict := PySem.W.mg_none_of X G zdict, list := PySem.W.mg_none_of X G zlist, set := PySem.W.mg_none_of X G zset, tuple := PySem.W.mg_none_of X G ztuple, sorted := PySem.W.mg_none_of X G zsorted, zip := PySem.W.mg_none_of X G zzip, all := PySem.W.mg_none_of X G zall, range := PySem.W.mg_none_of X G zrange, isi := PySem.W.mg_none_of X G zisinstance}
  have nenumerate := PySem.W.mg_none_of X G zenumerate
  have nrepr := PySem.W.mg_none_of X G zrepr
  have C : Cst mg := {small := ⟨_, PySem.W.mg_of X G c0⟩, signs := ⟨_, PySem.W.mg_of X G c1⟩, picks := ⟨_, PySem.W.mg_of X G c2⟩, owns := ⟨_, PySem.W.mg_of X G c3⟩, clauses := ⟨_, PySem.W.mg_of X G c4⟩, copies := ⟨_, PySem.W.mg_of X G c5⟩}
  have Y : Shp K mg := {isTruth := ⟨_, _, y_isTruth⟩, isTuple := ⟨_, _, y_isTuple⟩, isPair := ⟨_, _, y_isPair⟩, isRising := ⟨_, _, y_isRising⟩, isName := ⟨_, _, y_isName⟩, isLetter := ⟨_, _, y_isLetter⟩, isAnyClause := ⟨_, _, y_isAnyClause⟩, areNames := ⟨_, _, y_areNames⟩, isSight := ⟨_, _, y_isSight⟩, isOwn := ⟨_, _, y_isOwn⟩, areOwns := ⟨_, _, y_areOwns⟩, isClauseOver := ⟨_, _, y_isClauseOver⟩, areClauses := ⟨_, _, y_areClauses⟩, namesOf := ⟨_, _, y_namesOf⟩, fitsSaying := ⟨_, _, y_fitsSaying⟩}
  have Wn : Wnt K mg := {saying := ⟨_, _, w_saying⟩}
  have ev : Env1 K mg := ⟨B, C, Y⟩
  refine ⟨PySem.W.fnOf "law" "law" (defArgs sLaw) (defBody sLaw) (defScope sLaw) .none kV doc pm an cdv ct, fun s v => .of_eq rfl, fun base _ _ => ?_⟩
  have GFr : FnOk l.prog w K mg base CX0 3 _ _ ["tank", "most_picks", "most_owns", "most_copies"] spFrame := ok_frame o_Fr.F o_Dp o_Nm o_Lt B nenumerate
  have GA : FnOk l.prog w K mg base CX0 3 _ _ ["tank", "picks", "owns"] spCl := ok_anyCl o_Ac.F o_Dp o_Le o_So B
  have GN : FnOk l.prog w K mg base CX0 3 _ _ ["tank", "picks", "owns"] spCl := ok_plainCl o_Pc.F o_Dp o_Le o_So B
  have GT : FnOk l.prog w K mg base CX0 3 _ _ ["tank", "picks", "owns"] spCl := ok_twosCl o_Tc.F o_Dp o_Le o_So B
  have GC : FnOk l.prog w K mg base CX0 4 _ _ ["tank", "picks", "owns"] spClauses := ok_clauses o_Cl.F o_Dp o_Pi o_Ac o_Pc o_Tc GA GN GT B
  have GFp : FnOk l.prog w K mg base CX0 2 _ _ ["saying"] (spFits plainC) := ok_fitsPlain o_Fp.F o_Lo B
  have GFt : FnOk l.prog w K mg base CX0 2 _ _ ["saying"] (spFits twosC) := ok_fitsTwos o_Ft.F o_Lo B
  have GIp : FnOk l.prog w K mg base CX0 8 _ _ ["saying"] (spFits plainC) := ok_isPlain o_Ip.F ev Wn o_Fp GFp
  have GIt : FnOk l.prog w K mg base CX0 8 _ _ ["saying"] (spFits twosC) := ok_isTwos o_It.F ev Wn o_Ft GFt
  have GR : FnOkG l.prog w K mg base 9 _ _ ["saying", "named"] spRight := ok_right o_Ri.F B nrepr o_Co o_Ip o_It GIp GIt
  exact ok_law FL B o_Ta o_Dp o_Fr o_Cl o_Ri GFr GC GR
theorem walk {l : PySem.W.OpenLaw} {q : Program} {loose : List Str} {XP : (Str → Option Value) → Heap → Prop} {YP : World → Heap → Prop} {d : DefRec} {K : Params → PySem.W.Frag} (hn : l.most = some 63) (hdf : d.params.defaults = []) (hY : ∀ (w : World) (h : Heap), YP w h → (K w.params).In h)
    (F : ∀ (w : World) (mg : Str → Option Value) (fa : Addr) (h : Heap), (K w.params).In h → h.Ns mainGlobals mg → mg d.name = some (.ref fa) →
      ∃ fd : FuncData, (∀ (s : Shared) (u : Value), BindsTo s fd ⟨[u], []⟩ [("script", u)]) ∧ ∀ base : Heap, (K w.params).In base → base.Ns mainGlobals mg → FnOkG l.prog w (K w.params) mg base 10 fa fd ["script"] (spLaw (K w.params))) :
    PySem.W.WalkO q loose XP YP l.row.toRowW d [] (fun f vs => PySem.call f vs) :=
  walk_ofG (n := 63) (k := 10) (sp := spLaw) hn (by decide) hdf ⟨rfl, by decide, by decide⟩ hY F fun _ _ a ns hl _ hS => ⟨a, ns, rfl, hS, hl, fun _ => rfl⟩
end S1

open PySem PySem.W PyProof.Rows
set_option maxRecDepth 100000 in
set_option maxHeartbeats 0 in
theorem PySem.Challenge.cw_onlyseen_k16_plain_ones_and_twos_told_holds : PySem.Challenge.rw_onlyseen_k16_plain_ones_and_twos_told.Holds := by
  w_on; o_law; k_head; (case hw => w_witness2)
  k_fill
  refine S1.walk (l := PySem.Challenge.rw_onlyseen_k16_plain_ones_and_twos_told) rfl rfl (fun w h Y => PySem.W.kIn_of Y) ?F
  case F =>
    intro w mg fa h KX G hmg
    refine' S1.all_mk KX G hmg ?h_y_isTruth ?h_y_isTuple ?h_y_isPair ?h_y_isRising ?h_y_isName ?h_y_isLetter ?h_y_isAnyClause ?h_y_areNames ?h_y_isSight ?h_y_isOwn ?h_y_areOwns ?h_y_isClauseOver ?h_y_areClauses ?h_y_namesOf ?h_y_fitsSaying ?h_w_saying ?h_o_Lo ?h_o_Fp ?h_o_Ft ?h_o_Ip ?h_o_It ?h_o_Ta ?h_o_Dp ?h_o_Pi ?h_o_Lt ?h_o_Nm ?h_o_Fr ?h_o_Le ?h_o_So ?h_o_Pc ?h_o_Tc ?h_o_Ac ?h_o_Cl ?h_o_Co ?h_o_Ri ?hL ?c0 ?c1 ?c2 ?c3 ?c4 ?c5 ?zlen ?zsum ?zint ?zmax ?zmin ?zabs ?zstr ?zbool ?zdict ?zlist ?zset ?ztuple ?zsorted ?zzip ?zall ?zrange ?zisinstance ?zenumerate ?zrepr
    (case h_y_isTruth => exact ⟨by k_is, ⟨_, _, _, _, _, _, _, _, _, by k_is, by k_is⟩, by k_is⟩)
    (case h_y_isTuple => exact ⟨by k_is, ⟨_, _, _, _, _, _, _, _, _, by k_is, by k_is⟩, by k_is⟩)
    (case h_y_isPair => exact ⟨by k_is, ⟨_, _, _, _, _, _, _, _, _, by k_is, by k_is⟩, by k_is⟩)
    (case h_y_isRising => exact ⟨by k_is, ⟨_, _, _, _, _, _, _, _, _, by k_is, by k_is⟩, by k_is⟩)
    (case h_y_isName => exact ⟨by k_is, ⟨_, _, _, _, _, _, _, _, _, by k_is, by k_is⟩, by k_is⟩)
    (case h_y_isLetter => exact ⟨by k_is, ⟨_, _, _, _, _, _, _, _, _, by k_is, by k_is⟩, by k_is⟩)
    (case h_y_isAnyClause => exact ⟨by k_is, ⟨_, _, _, _, _, _, _, _, _, by k_is, by k_is⟩, by k_is⟩)
    (case h_y_areNames => exact ⟨by k_is, ⟨_, _, _, _, _, _, _, _, _, by k_is, by k_is⟩, by k_is⟩)
    (case h_y_isSight => exact ⟨by k_is, ⟨_, _, _, _, _, _, _, _, _, by k_is, by k_is⟩, by k_is⟩)
    (case h_y_isOwn => exact ⟨by k_is, ⟨_, _, _, _, _, _, _, _, _, by k_is, by k_is⟩, by k_is⟩)
    (case h_y_areOwns => exact ⟨by k_is, ⟨_, _, _, _, _, _, _, _, _, by k_is, by k_is⟩, by k_is⟩)
    (case h_y_isClauseOver => exact ⟨by k_is, ⟨_, _, _, _, _, _, _, _, _, by k_is, by k_is⟩, by k_is⟩)
    (case h_y_areClauses => exact ⟨by k_is, ⟨_, _, _, _, _, _, _, _, _, by k_is, by k_is⟩, by k_is⟩)
    (case h_y_namesOf => exact ⟨by k_is, ⟨_, _, _, _, _, _, _, _, _, by k_is, by k_is⟩, by k_is⟩)
    (case h_y_fitsSaying => exact ⟨by k_is, ⟨_, _, _, _, _, _, _, _, _, by k_is, by k_is⟩, by k_is⟩)
    (case h_w_saying => exact ⟨by k_is, ⟨_, _, _, _, _, _, _, _, _, by k_is, by k_is⟩, by k_is⟩)
    (case h_o_Lo => exact ⟨by k_is, ⟨_, _, _, _, _, _, _, _, _, by k_is, by k_is⟩, by k_is⟩)
    (case h_o_Fp => exact ⟨by k_is, ⟨_, _, _, _, _, _, _, _, _, by k_is, by k_is⟩, by k_is⟩)
    (case h_o_Ft => exact ⟨by k_is, ⟨_, _, _, _, _, _, _, _, _, by k_is, by k_is⟩, by k_is⟩)
    (case h_o_Ip => exact ⟨by k_is, ⟨_, _, _, _, _, _, _, _, _, by k_is, by k_is⟩, by k_is⟩)
    (case h_o_It => exact ⟨by k_is, ⟨_, _, _, _, _, _, _, _, _, by k_is, by k_is⟩, by k_is⟩)
    (case h_o_Ta => exact ⟨by k_is, ⟨_, _, _, _, _, _, _, _, _, by k_is, by k_is⟩, by k_is⟩)
    (case h_o_Dp => exact ⟨by k_is, ⟨_, _, _, _, _, _, _, _, _, by k_is, by k_is⟩, by k_is⟩)
    (case h_o_Pi => exact ⟨by k_is, ⟨_, _, _, _, _, _, _, _, _, by k_is, by k_is⟩, by k_is⟩)
    (case h_o_Lt => exact ⟨by k_is, ⟨_, _, _, _, _, _, _, _, _, by k_is, by k_is⟩, by k_is⟩)
    (case h_o_Nm => exact ⟨by k_is, ⟨_, _, _, _, _, _, _, _, _, by k_is, by k_is⟩, by k_is⟩)
    (case h_o_Fr => exact ⟨by k_is, ⟨_, _, _, _, _, _, _, _, _, by k_is, by k_is⟩, by k_is⟩)
    (case h_o_Le => exact ⟨by k_is, ⟨_, _, _, _, _, _, _, _, _, by k_is, by k_is⟩, by k_is⟩)
    (case h_o_So => exact ⟨by k_is, ⟨_, _, _, _, _, _, _, _, _, by k_is, by k_is⟩, by k_is⟩)
    (case h_o_Pc => exact ⟨by k_is, ⟨_, _, _, _, _, _, _, _, _, by k_is, by k_is⟩, by k_is⟩)
    (case h_o_Tc => exact ⟨by k_is, ⟨_, _, _, _, _, _, _, _, _, by k_is, by k_is⟩, by k_is⟩)
    (case h_o_Ac => exact ⟨by k_is, ⟨_, _, _, _, _, _, _, _, _, by k_is, by k_is⟩, by k_is⟩)
    (case h_o_Cl => exact ⟨by k_is, ⟨_, _, _, _, _, _, _, _, _, by k_is, by k_is⟩, by k_is⟩)
    (case h_o_Co => exact ⟨by k_is, ⟨_, _, _, _, _, _, _, _, _, by k_is, by k_is⟩, by k_is⟩)
    (case h_o_Ri => exact ⟨by k_is, ⟨_, _, _, _, _, _, _, _, _, by k_is, by k_is⟩, by k_is⟩)
    (case hL => exact ⟨by k_is, ⟨_, _, _, _, _, _, _, _, _, by k_is, by k_is⟩, by k_is⟩)
    (case c0 => k_is)
    (case c1 => k_is)
    (case c2 => k_is)
    (case c3 => k_is)
    (case c4 => k_is)
    (case c5 => k_is)
    (case zlen => k_is)
    (case zsum => k_is)
    (case zint => k_is)
    (case zmax => k_is)
    (case zmin => k_is)
    (case zabs => k_is)
    (case zstr => k_is)
    (case zbool => k_is)
    (case zdict => k_is)
    (case zlist => k_is)
    (case zset => k_is)
    (case ztuple => k_is)
    (case zsorted => k_is)
    (case zzip => k_is)
    (case zall => k_is)
    (case zrange => k_is)
    (case zisinstance => k_is)
    (case zenumerate => k_is)
    (case zrepr => k_is)
